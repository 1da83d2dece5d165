/-
  Rules that a law lays one behind the other in a policy of its own: what is at hand between the steps. No condition: definitions and plain facts of memory.
-/
import Derived.Test.YtgeapkjegemkeaaDoorGSemEnd
import Derived.Test.YtgeapkjegemkeaaDoorOperAppend
namespace Go.Proofs.YtgeapkjegemkeaaDoor
open Go Go.RowKit
set_option linter.unusedSimpArgs false
set_option linter.unusedVariables false

/-- Calls in a block of F. -/
def CallsF (w : World) (F : Nat → Prop) (l : List (ByteArray × Nat)) (A : Option Addr) : Prop := l.length ≤ maxLen ∧ (l = [] ∨ ∃ tb o, A = some ⟨tb, o, none⟩ ∧ tb < w.heap.size ∧ F tb ∧ ∀ j u, (callsC l)[j]? = some u → w.cell? ⟨tb, o + j, none⟩ = some u)
theorem CallsF.keep {w w' : World} {F G : Nat → Prop} {l : List (ByteArray × Nat)} {A : Option Addr} (h : CallsF w F l A) (hs : w.heap.size ≤ w'.heap.size) (hF : ∀ k, F k → k < w.heap.size → G k) (hk : ∀ k, F k → k < w.heap.size → w'.heap[k]? = w.heap[k]?) : CallsF w' G l A := by
  refine ⟨h.1, ?_⟩
  rcases h.2 with h | ⟨tb, o, hA, ht, hf, hc⟩
  · exact .inl h
  · exact .inr ⟨tb, o, hA, Nat.lt_of_lt_of_le ht hs, hF tb hf ht, fun j u hj => (World.cell?_of_block (a := ⟨tb, o + j, none⟩) (hk tb hf ht)).trans (hc j u hj)⟩
theorem CallsF.calls {w : World} {F : Nat → Prop} {l : List (ByteArray × Nat)} {A : Option Addr} (h : CallsF w F l A) : CallsL w l A := by
  refine ⟨h.1, ?_⟩
  rcases h.2 with h | ⟨tb, o, hA, ht, _, hc⟩
  · exact .inl h
  · exact .inr ⟨tb, o, hA, ht, hc⟩
theorem CallsF.of {w : World} {l : List (ByteArray × Nat)} {A : Option Addr} (h : CallsL w l A) : CallsF w (fun k => k < w.heap.size) l A := by
  refine ⟨h.1, ?_⟩
  rcases h.2 with h | ⟨tb, o, hA, ht, hc⟩
  · exact .inl h
  · exact .inr ⟨tb, o, hA, ht, ht, hc⟩
def ChunksN (W0 w : World) (F : Nat → Prop) : List Ru → List Value → Prop
  | [], xs => xs = []
  | r :: l, xs => ∃ Ac capc A cap ys, CallsF w F r.calls Ac ∧ ExL W0 r.when_ A cap ∧ xs = ruL r Ac capc A cap ++ ys ∧ ChunksN W0 w F l ys
theorem ChunksN.keep {W0 w w' : World} {F G : Nat → Prop} (hs : w.heap.size ≤ w'.heap.size) (hF : ∀ k, F k → k < w.heap.size → G k) (hk : ∀ k, F k → k < w.heap.size → w'.heap[k]? = w.heap[k]?) : ∀ {l : List Ru} {xs : List Value}, ChunksN W0 w F l xs → ChunksN W0 w' G l xs
  | [], _, h => h
  | r :: l, xs, ⟨Ac, c, A, cap, ys, h1, h2, h3, h4⟩ => ⟨Ac, c, A, cap, ys, h1.keep hs hF hk, h2, h3, h4.keep hs hF hk⟩
theorem ChunksN.snoc {W0 w : World} {F : Nat → Prop} {r : Ru} {Ac : Option Addr} {capc : Nat} {A : Option Addr} {cap : Nat} (h1 : CallsF w F r.calls Ac) (h2 : ExL W0 r.when_ A cap) : ∀ {l : List Ru} {xs : List Value}, ChunksN W0 w F l xs → ChunksN W0 w F (l ++ [r]) (xs ++ ruL r Ac capc A cap)
  | [], xs, h => by
    have : xs = [] := h
    subst this
    exact ⟨Ac, capc, A, cap, [], h1, h2, by simp, rfl⟩
  | x :: l, xs, ⟨Ac', c', A', cap', ys, h3, h4, h5, h6⟩ => ⟨Ac', c', A', cap', ys ++ ruL r Ac capc A cap, h3, h4, by rw [h5, List.append_assoc], h6.snoc h1 h2⟩
theorem ChunksN.row {W0 w : World} {F : Nat → Prop} {tb : Nat} (hb : Below W0.heap.size W0 w) : ∀ {l : List Ru} {xs : List Value} {o : Nat}, ChunksN W0 w F l xs → (∀ j u, xs[j]? = some u → w.cell? ⟨tb, o + j, none⟩ = some u) → RuRowL w l tb o
  | [], _, _, _, _ => trivial
  | r :: l, xs, o, ⟨Ac, c, A, cap, ys, h1, h2, h3, h4⟩, hc => by
    subst h3
    refine ⟨⟨Ac, c, A, cap, ⟨h1.calls, h2.below hb⟩, fun j u hj => hc j u ?_⟩, h4.row hb (fun j u hj => ?_)⟩
    · have hlt : j < (ruL r Ac c A cap).length := (List.getElem?_eq_some_iff.1 hj).1
      rw [List.getElem?_append_left hlt]; exact hj
    · have := hc (9 + j) u (by
        rw [List.getElem?_append_right (by simp [ruL])]
        have : 9 + j - (ruL r Ac c A cap).length = j := by simp [ruL]
        rw [this]; exact hj)
      rw [show o + 9 + j = o + (9 + j) by omega]; exact this
theorem ruL_one {r : Ru} {Ac : Option Addr} {capc : Nat} {A : Option Addr} {cap : Nat} : ∀ u ∈ ruL r Ac capc A cap, u.oneCell' = true := by
  intro u hu
  simp only [ruL, List.mem_cons, List.not_mem_nil, or_false] at hu
  rcases hu with rfl | rfl | rfl | rfl | rfl | rfl | rfl | rfl | rfl <;> rfl
theorem ruL_cells (w : World) (B : Nat) (hB : B = w.heap.size) (r : Ru) (Ac : Option Addr) (capc : Nat) (A : Option Addr) (cap : Nat) (j : Nat) (u : Value) (h : (ruL r Ac capc A cap)[j]? = some u) : (w.alloc (ruO7 r Ac capc A cap)).cell? ((⟨B, 0, none⟩ : Addr).add j) = some u := by
  subst hB
  rw [addr_add, Nat.zero_add]
  refine cell6 (World.alloc_heap_new w _) j ?_
  rw [← List.getElem?_toArray] at h
  exact h
theorem info_ru7 : (Tryd.prog.info? 46).map (fun i => (i.zero, i.size, i.bytes)) = some (some (.agg #[.slice none 0 0, .int .i64 0, .slice none 0 0, .int .i64 0, .int .u64 0, .int .i64 0, .int .u64 0, .int .i64 0, .int .u64 0]), 9, 104) := by kernel_rfl
theorem info_call7 : (Tryd.prog.info? 100).map (fun i => (i.zero, i.size, i.bytes)) = some (some (.agg #[.string ⟨#[]⟩, .int .u64 0]), 2, 24) := by kernel_rfl
abbrev poQ (p : Po) (v : Value) : Obj := .cells #[.string p.arch, .int .i64 p.foreign_.1, .int .u64 (p.foreign_.2 : Int), .int .i64 p.default_.1, .int .u64 (p.default_.2 : Int), v] 28
theorem poQ_cells {w : World} {b : Nat} {p : Po} {v : Value} (h : w.heap[b]? = some (poQ p v)) :
    w.cell? ⟨b, 0, none⟩ = some (.string p.arch) ∧ w.cell? ⟨b, 1, none⟩ = some (.int .i64 p.foreign_.1) ∧ w.cell? ⟨b, 2, none⟩ = some (.int .u64 (p.foreign_.2 : Int)) ∧ w.cell? ⟨b, 3, none⟩ = some (.int .i64 p.default_.1) ∧ w.cell? ⟨b, 4, none⟩ = some (.int .u64 (p.default_.2 : Int)) ∧ w.cell? ⟨b, 5, none⟩ = some v :=
  ⟨cell6 h 0 rfl, cell6 h 1 rfl, cell6 h 2 rfl, cell6 h 3 rfl, cell6 h 4 rfl, cell6 h 5 rfl⟩
/-- A policy under way in the block behind W0. -/
structure BuiltAt (W0 W : World) (p : Po) (l : List Ru) (v : Value) (xs : List Value) : Prop where
  below : Below W0.heap.size W0 W
  box : W.heap[W0.heap.size]? = some (poQ p v)
  own : W.ownsRow (W0.heap.size + 1) 46 9 v l.length xs
  chunks : ChunksN W0 W (fun k => k < W0.heap.size ∨ (W0.heap.size + 1 ≤ k ∧ some k ≠ v.ownBlock)) l xs
section
variable {W0 W W' wd : World} {p : Po} {l : List Ru} {v v' : Value} {xs : List Value} {x : Ru} {O : Obj} {Ac : Option Addr} {capc : Nat} {A : Option Addr} {cap : Nat}
theorem BuiltAt.size (h : BuiltAt W0 W p l v xs) : W0.heap.size < W.heap.size := (Array.getElem?_eq_some_iff.1 h.box).1
theorem BuiltAt.up (h : BuiltAt W0 W p l v xs) (hb : Below W.heap.size W W') : BuiltAt W0 W' p l v xs :=
  ⟨on7 h.below hb, keep7 h.box hb, own_below h.own hb, h.chunks.keep hb.size (fun _ hk _ => hk) (fun k _ hl => hb.block k hl)⟩
theorem BuiltAt.first (p : Po) (W0 : World) : BuiltAt W0 (W0.alloc (poQ p (.slice none 0 0))) p [] (.slice none 0 0) [] :=
  ⟨lbox W0 _, World.alloc_heap_new W0 _, World.ownsRow_nil _ _ _ _, rfl⟩
theorem BuiltAt.turn (h : BuiltAt W0 W p l v xs) (hc : CallsF W (fun k => k < W0.heap.size ∨ (W0.heap.size + 1 ≤ k ∧ some k ≠ v.ownBlock)) x.calls Ac) (hx : ExL W0 x.when_ A cap)
    (ho : wd.ownsRow (W0.heap.size + 1) 46 9 v' (l.length + 1) (xs ++ ruL x Ac capc A cap)) (hg : (W.alloc O).grownBy wd v.ownBlock) (hv : v'.ownBlock = v.ownBlock ∨ v'.ownBlock = some (W.alloc O).heap.size) :
    BuiltAt W0 (wd.setCell ⟨W0.heap.size, 5, none⟩ v') p (l ++ [x]) v' (xs ++ ruL x Ac capc A cap) ∧ wd.heap[W0.heap.size]? = some (poQ p v) := by
  have hsz : (W.alloc O).heap.size = W.heap.size + 1 := by simp
  have hvl : ∀ c, v.ownBlock = some c → W0.heap.size + 1 ≤ c ∧ c < W.heap.size := fun c e => h.own.lt c e
  have h3 := h.size
  have size3 := hg.size
  have keep : ∀ c, c < W0.heap.size + 1 → wd.heap[c]? = W.heap[c]? := fun c hc => (hg.block c (by omega) (fun e => by have := hvl c e.symm; omega)).trans (Below.heap_alloc W O c (by omega))
  have keep2 : ∀ c, c < W.heap.size → some c ≠ v.ownBlock → wd.heap[c]? = W.heap[c]? := fun c hc hne => (hg.block c (by omega) hne).trans (Below.heap_alloc W O c hc)
  have hbx : wd.heap[W0.heap.size]? = some (poQ p v) := (keep _ (by omega)).trans h.box
  have hG : ∀ k, (k < W0.heap.size ∨ (W0.heap.size + 1 ≤ k ∧ some k ≠ v.ownBlock)) → k < W.heap.size → (k < W0.heap.size ∨ (W0.heap.size + 1 ≤ k ∧ some k ≠ v'.ownBlock)) := fun k hk hl => by
    rcases hk with hk | ⟨hk, hne⟩
    · exact .inl hk
    · refine .inr ⟨hk, fun e => ?_⟩
      rcases hv with hv | hv
      · exact hne (e.trans hv)
      · rw [hv, hsz] at e; injection e with e; omega
  have hK : ∀ k, (k < W0.heap.size ∨ (W0.heap.size + 1 ≤ k ∧ some k ≠ v.ownBlock)) → k < W.heap.size → (wd.setCell ⟨W0.heap.size, 5, none⟩ v').heap[k]? = W.heap[k]? := fun k hk hl => by
    rcases hk with hk | ⟨hk, hne⟩
    · exact (Below.heap_setCell wd ⟨W0.heap.size, 5, none⟩ v' k (show k ≠ W0.heap.size by omega)).trans (keep k (by omega))
    · exact (Below.heap_setCell wd ⟨W0.heap.size, 5, none⟩ v' k (show k ≠ W0.heap.size by omega)).trans (keep2 k hl hne)
  have hs5 : (wd.setCell ⟨W0.heap.size, 5, none⟩ v').heap.size = wd.heap.size := by simp [World.setCell]
  have hbel : Below W0.heap.size W0 wd := ⟨hg.os.trans h.below.os, hg.tape.trans h.below.tape, hg.output.trans h.below.output, by have := h.below.size; omega, fun c hc => (keep c (by omega)).trans (h.below.block c hc)⟩
  refine ⟨⟨hbel.setCell (p := ⟨W0.heap.size, 5, none⟩) (Nat.le_refl _) _, heap_set1 hbx 5 _, ?_, ?_⟩, hbx⟩
  · rw [List.length_append]
    refine World.ownsRow.kept (row := some W0.heap.size) ho (grown_set (World.grownBy.refl wd _) 5 _) ?_
    rcases hv with hv | hv
    · rw [hv]
      rcases hq : v.ownBlock with _ | c
      · exact .inl rfl
      · exact .inr (fun e => by injection e with e; have := (hvl c hq).1; omega)
    · rw [hv]; exact .inr (fun e => by injection e with e; omega)
  · exact (h.chunks.keep (by omega) hG hK).snoc (hc.keep (by omega) hG hK) hx
/-- Its rules. -/
theorem BuiltAt.rules (h : BuiltAt W0 W p l v xs) : ∃ A cap, v = .slice A l.length cap ∧ RulesL W l A := by
  rcases h.own.2 with ⟨hv, h0⟩ | ⟨tb, cap, cur, hv, hlo, hh, hl, hm, hs, ht⟩
  · exact ⟨none, 0, by rw [hv, h0], by rw [h0]; exact Nat.zero_le _, .inl (List.length_eq_zero_iff.1 h0)⟩
  · refine ⟨_, cap, hv, by omega, .inr ⟨tb, 0, rfl, (Array.getElem?_eq_some_iff.1 hh).1, ?_⟩⟩
    refine h.chunks.row h.below (fun j u hj => ?_)
    subst hv
    rw [Nat.zero_add, World.ownsRow.cellAt h.own j (by rw [← h.own.1]; exact (List.getElem?_eq_some_iff.1 hj).1)]
    exact hj
end
/-- A rule whose calls are laid anew, in the block behind V0. -/
abbrev ruQ (r : Ru) (v : Value) (A : Option Addr) (cap : Nat) : Obj := .cells #[v, .int .i64 r.when_.op, .slice A r.when_.args.length cap, .int .i64 r.when_.field, .int .u64 (r.when_.mask : Int), .int .i64 r.when_.rel, .int .u64 (r.when_.value : Int), .int .i64 r.do_.1, .int .u64 (r.do_.2 : Int)] 46
theorem ruQ_cells {w : World} {b : Nat} {r : Ru} {v : Value} {A : Option Addr} {cap : Nat} (h : w.heap[b]? = some (ruQ r v A cap)) :
    w.cell? ⟨b, 0, none⟩ = some v ∧ w.cell? ⟨b, 1, none⟩ = some (.int .i64 r.when_.op) ∧ w.cell? ⟨b, 2, none⟩ = some (.slice A r.when_.args.length cap) ∧ w.cell? ⟨b, 3, none⟩ = some (.int .i64 r.when_.field) ∧ w.cell? ⟨b, 4, none⟩ = some (.int .u64 (r.when_.mask : Int)) ∧ w.cell? ⟨b, 5, none⟩ = some (.int .i64 r.when_.rel) ∧ w.cell? ⟨b, 6, none⟩ = some (.int .u64 (r.when_.value : Int)) ∧ w.cell? ⟨b, 7, none⟩ = some (.int .i64 r.do_.1) ∧ w.cell? ⟨b, 8, none⟩ = some (.int .u64 (r.do_.2 : Int)) :=
  ⟨cell6 h 0 rfl, cell6 h 1 rfl, cell6 h 2 rfl, cell6 h 3 rfl, cell6 h 4 rfl, cell6 h 5 rfl, cell6 h 6 rfl, cell6 h 7 rfl, cell6 h 8 rfl⟩
structure InAt (V0 W : World) (r : Ru) (A : Option Addr) (cap : Nat) (cs : List (ByteArray × Nat)) (v : Value) : Prop where
  below : Below V0.heap.size V0 W
  box : W.heap[V0.heap.size]? = some (ruQ r v A cap)
  own : W.ownsRow (V0.heap.size + 1) 100 2 v cs.length (callsC cs)
section
variable {V0 W W' wd : World} {r : Ru} {A : Option Addr} {cap : Nat} {cs : List (ByteArray × Nat)} {v v' : Value} {c : ByteArray × Nat} {O : Obj}
theorem InAt.up (h : InAt V0 W r A cap cs v) (hb : Below W.heap.size W W') : InAt V0 W' r A cap cs v := ⟨on7 h.below hb, keep7 h.box hb, own_below h.own hb⟩
theorem InAt.first (V0 : World) (r : Ru) (A : Option Addr) (cap : Nat) : InAt V0 (V0.alloc (ruQ r (.slice none 0 0) A cap)) r A cap [] (.slice none 0 0) := ⟨lbox V0 _, World.alloc_heap_new V0 _, World.ownsRow_nil _ _ _ _⟩
theorem InAt.turn (h : InAt V0 W r A cap cs v) (ho : wd.ownsRow (V0.heap.size + 1) 100 2 v' (cs.length + 1) (callsC cs ++ callC c)) (hg : (W.alloc O).grownBy wd v.ownBlock) (hv : v'.ownBlock = v.ownBlock ∨ v'.ownBlock = some (W.alloc O).heap.size) :
    InAt V0 (wd.setCell ⟨V0.heap.size, 0, none⟩ v') r A cap (cs ++ [c]) v' ∧ wd.heap[V0.heap.size]? = some (ruQ r v A cap) := by
  have hsz : (W.alloc O).heap.size = W.heap.size + 1 := by simp
  have hvl : ∀ k, v.ownBlock = some k → V0.heap.size + 1 ≤ k ∧ k < W.heap.size := fun k e => h.own.lt k e
  have h3 : V0.heap.size < W.heap.size := (Array.getElem?_eq_some_iff.1 h.box).1
  have size3 := hg.size
  have keep : ∀ k, k < V0.heap.size + 1 → wd.heap[k]? = W.heap[k]? := fun k hk => (hg.block k (by omega) (fun e => by have := hvl k e.symm; omega)).trans (Below.heap_alloc W O k (by omega))
  have hbx : wd.heap[V0.heap.size]? = some (ruQ r v A cap) := (keep _ (by omega)).trans h.box
  have hbel : Below V0.heap.size V0 wd := ⟨hg.os.trans h.below.os, hg.tape.trans h.below.tape, hg.output.trans h.below.output, by have := h.below.size; omega, fun k hk => (keep k (by omega)).trans (h.below.block k hk)⟩
  refine ⟨⟨hbel.setCell (p := ⟨V0.heap.size, 0, none⟩) (Nat.le_refl _) _, heap_set1 hbx 0 _, ?_⟩, hbx⟩
  rw [List.length_append, callsC_snoc]
  refine World.ownsRow.kept (row := some V0.heap.size) ho (grown_set (World.grownBy.refl wd _) 0 _) ?_
  rcases hv with hv | hv
  · rw [hv]
    rcases hq : v.ownBlock with _ | k
    · exact .inl rfl
    · exact .inr (fun e => by injection e with e; have := (hvl k hq).1; omega)
  · rw [hv]; exact .inr (fun e => by injection e with e; omega)
theorem InAt.calls (h : InAt V0 W r A cap cs v) (F : Nat → Prop) (hF : ∀ k, V0.heap.size + 1 ≤ k → F k) : ∃ Ac capc, v = .slice Ac cs.length capc ∧ CallsF W F cs Ac := by
  rcases h.own.2 with ⟨hv, h0⟩ | ⟨tb, capc, cur, hv, hlo, hh, hl, hm, hs, ht⟩
  · exact ⟨none, 0, by rw [hv, h0], by rw [h0]; exact Nat.zero_le _, .inl (List.length_eq_zero_iff.1 h0)⟩
  · refine ⟨_, capc, hv, by omega, .inr ⟨tb, 0, rfl, (Array.getElem?_eq_some_iff.1 hh).1, hF tb hlo, fun j u hj => ?_⟩⟩
    subst hv
    rw [Nat.zero_add, World.ownsRow.cellAt h.own j (by rw [← h.own.1]; exact (List.getElem?_eq_some_iff.1 hj).1)]
    exact hj
end
/-- A rule's cells, and where its parts lie, ahead of a step too. -/
theorem rules_both {w wr : World} {l : List Ru} {A : Option Addr} (h : RulesL w l A) (hb : Below w.heap.size w wr) (k : Nat) (hk : k < l.length) :
    ∃ tb o Ac capc Ar capr, A = some ⟨tb, o, none⟩ ∧ RuL w (l.getD k zeroR7) Ac Ar capr ∧ RuHand wr tb (o + k * 9) (l.getD k zeroR7) Ac capc Ar capr := by
  rcases h.2 with h0 | ⟨tb, o, hA, ht, hc⟩
  · rw [h0] at hk; exact absurd hk (by simp)
  · obtain ⟨Ac, capc, Ar, capr, h1, h2⟩ := ruRowL_at k hk hc
    exact ⟨tb, o, Ac, capc, Ar, capr, hA, h1, fun j u hj => (hb.cell (p := ⟨tb, o + k * 9 + j, none⟩) ht).trans (h2 j u hj), Nat.lt_of_lt_of_le ht hb.size, h1.2.below hb⟩
end Go.Proofs.YtgeapkjegemkeaaDoor
