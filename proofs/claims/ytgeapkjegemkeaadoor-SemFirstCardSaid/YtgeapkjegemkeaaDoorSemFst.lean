/-
  An argument that is a policy with a place and two data; rules that a law lays, whose calls came in: definitions and plain facts of memory. No condition.
-/
import Derived.Test.YtgeapkjegemkeaaDoorSemBld
import Derived.Test.YtgeapkjegemkeaaDoorSemAsk
namespace Go.Proofs.YtgeapkjegemkeaaDoor
open Go Go.ChangeShapes Go.WideShapes Go.ChangeAt Go.RowKit Go.Deep Go.Joins
set_option linter.unusedSimpArgs false
set_option linter.unusedVariables false
set_option maxRecDepth 100000

def firC (p : Po) (A : Option Addr) (cap : Nat) (n : Int) (d e : Dat) : List Value := poC p A cap ++ [.int .i64 n] ++ datC d ++ datC e
abbrev firV (p : Po) (A : Option Addr) (cap : Nat) (n : Int) (d e : Dat) : Value := .agg #[.string p.arch, .int .i64 p.foreign_.1, .int .u64 (p.foreign_.2 : Int), .int .i64 p.default_.1, .int .u64 (p.default_.2 : Int), .slice A p.rules.length cap, .int .i64 n,
  .int .u32 (d.nr : Int), .int .u32 (d.arch : Int), .int .u64 (d.ip : Int), .int .u64 (d.args 0 : Int), .int .u64 (d.args 1 : Int), .int .u64 (d.args 2 : Int), .int .u64 (d.args 3 : Int), .int .u64 (d.args 4 : Int), .int .u64 (d.args 5 : Int),
  .int .u32 (e.nr : Int), .int .u32 (e.arch : Int), .int .u64 (e.ip : Int), .int .u64 (e.args 0 : Int), .int .u64 (e.args 1 : Int), .int .u64 (e.args 2 : Int), .int .u64 (e.args 3 : Int), .int .u64 (e.args 4 : Int), .int .u64 (e.args 5 : Int)]
theorem firV_is (p : Po) (A : Option Addr) (cap : Nat) (n : Int) (d e : Dat) : firV p A cap n d e = .agg (firC p A cap n d e).toArray := rfl
section
variable {H : Type} {enc : TypeId × Value → H} {w : World} {base : Nat} {spare : Nat → Bool} {held : Bool} {r : Reach} {b0 : Nat} {v : Value} {dd : DataW H} {pp : List MemPlace}
theorem open_first (hv : Value.okWide Tryd.prog w r b0 34 v) (h : DataW.Trod enc Tryd.prog w base spare held 34 v dd pp) : ∃ (q : Po) (A : Option Addr) (cap : Nat) (n : Int) (d e : Dat), v = firV q A cap n d e ∧ RulesL w q.rules A ∧ PoW q ∧ (Lit.int .i64 n).wf = true ∧ DatW d ∧ DatW e := by
  obtain ⟨⟨l⟩, rfl, hsz⟩ := okWide_struct Tryd.underlying34 hv
  obtain ⟨fuel, hf⟩ := h
  have hl0 : (Value.agg ⟨l⟩).cells.toList = l := by simp [Value.cells]
  rw [hl0] at hf
  have hC : Tryd.prog.cellsOf 34 = 25 := by kernel_rfl
  have hP : Tryd.prog.cellsOf 28 = 6 := by kernel_rfl
  have hI : Tryd.prog.cellsOf 3 = 1 := by kernel_rfl
  have hD : Tryd.prog.cellsOf 32 = 9 := by kernel_rfl
  obtain ⟨n, hn, hlen, hg⟩ := struct_at Tryd.underlying34 hf
  rw [hC] at hlen
  obtain ⟨y0, g0⟩ := hg 0 _ rfl
  obtain ⟨y1, g1⟩ := hg 1 _ rfl
  obtain ⟨y2, g2⟩ := hg 2 _ rfl
  obtain ⟨y3, g3⟩ := hg 3 _ rfl
  simp only [hP, hI, hD, List.getElem_toArray, List.getElem_cons_zero, List.getElem_cons_succ] at g0 g1 g2 g3
  obtain ⟨q, A, cap, e0, hr, hw⟩ := po_open g0
  obtain ⟨z, e1, _, wz⟩ := DataW.trod_int Tryd.underlying3 g1
  obtain ⟨d, e2, hd⟩ := dat_open g2
  obtain ⟨e, e3, he⟩ := dat_open g3
  refine ⟨q, A, cap, z, d, e, ?_, hr, hw, wz, hd, he⟩
  rw [firV_is]
  have : l = firC q A cap z d e := by
    unfold firC
    have k1 : l.take 6 = poC q A cap := by simpa using e0
    have k2 : (l.drop 6).take 1 = [.int .i64 z] := e1
    have k3 : (l.drop 7).take 9 = datC d := e2
    have k4 : (l.drop 16).take 9 = datC e := e3
    have k5 : (l.drop 16).take 9 = l.drop 16 := List.take_of_length_le (by rw [List.length_drop]; omega)
    rw [← k1, ← k2, ← k3, ← k4, k5, List.append_assoc, List.append_assoc]
    have j3 : (l.drop 7).take 9 ++ l.drop 16 = l.drop 7 := by
      have := List.take_append_drop 9 (l.drop 7)
      rwa [List.drop_drop] at this
    have j2 : (l.drop 6).take 1 ++ l.drop 7 = l.drop 6 := by
      have := List.take_append_drop 1 (l.drop 6)
      rwa [List.drop_drop] at this
    rw [j3, j2, List.take_append_drop]
  subst this
  rfl
end
/-- A policy under way in the block behind W0, its calls all below. -/
structure BuiltF (W0 W : World) (p : Po) (l : List Ru) (v : Value) (xs : List Value) : Prop where
  below : Below W0.heap.size W0 W
  box : W.heap[W0.heap.size]? = some (poQ p v)
  own : W.ownsRow (W0.heap.size + 1) 46 9 v l.length xs
  chunks : ChunksN W0 W (fun k => k < W0.heap.size) l xs
section
variable {W0 W W' wd : World} {p : Po} {l : List Ru} {v v' : Value} {xs : List Value} {x : Ru} {O : Obj} {Ac : Option Addr} {capc : Nat} {A : Option Addr} {cap : Nat}
theorem BuiltF.size (h : BuiltF W0 W p l v xs) : W0.heap.size < W.heap.size := (Array.getElem?_eq_some_iff.1 h.box).1
theorem BuiltF.up (h : BuiltF W0 W p l v xs) (hb : Below W.heap.size W W') : BuiltF W0 W' p l v xs :=
  ⟨on7 h.below hb, keep7 h.box hb, own_below h.own hb, h.chunks.keep hb.size (fun _ hk _ => hk) (fun k _ hl => hb.block k hl)⟩
theorem BuiltF.first (p : Po) (W0 : World) : BuiltF W0 (W0.alloc (poQ p (.slice none 0 0))) p [] (.slice none 0 0) [] :=
  ⟨lbox W0 _, World.alloc_heap_new W0 _, World.ownsRow_nil _ _ _ _, rfl⟩
theorem BuiltF.set (h : BuiltF W0 W p l v xs) {b : Nat} (hb : W0.heap.size < b) (hn : some b ≠ v.ownBlock) (i : Nat) (u : Value) : BuiltF W0 (W.setCell ⟨b, i, none⟩ u) p l v xs :=
  ⟨h.below.setCell (p := ⟨b, i, none⟩) (show W0.heap.size ≤ b by omega) u, kept_set h.box (by omega) i u, h.own.kept (row := some b) (grown_set (World.grownBy.refl W _) i u) (.inr (fun e => hn e.symm)),
    h.chunks.keep (by simp [World.setCell]) (fun _ hk _ => hk) (fun k hk _ => Below.heap_setCell W ⟨b, i, none⟩ u k (show k ≠ b by omega))⟩
theorem BuiltF.turn (h : BuiltF W0 W p l v xs) (hc : CallsF W (fun k => k < W0.heap.size) x.calls Ac) (hx : ExL W0 x.when_ A cap)
    (ho : wd.ownsRow (W0.heap.size + 1) 46 9 v' (l.length + 1) (xs ++ ruL x Ac capc A cap)) (hg : (W.alloc O).grownBy wd v.ownBlock) (hv : v'.ownBlock = v.ownBlock ∨ v'.ownBlock = some (W.alloc O).heap.size) :
    BuiltF W0 (wd.setCell ⟨W0.heap.size, 5, none⟩ v') p (l ++ [x]) v' (xs ++ ruL x Ac capc A cap) ∧ wd.heap[W0.heap.size]? = some (poQ p v) ∧ (∀ b o, W0.heap.size < b → W.heap[b]? = some o → some b ≠ v.ownBlock → (wd.setCell ⟨W0.heap.size, 5, none⟩ v').heap[b]? = some o ∧ some b ≠ v'.ownBlock) := by
  have hsz : (W.alloc O).heap.size = W.heap.size + 1 := by simp
  have hvl : ∀ c, v.ownBlock = some c → W0.heap.size + 1 ≤ c ∧ c < W.heap.size := fun c e => h.own.lt c e
  have h3 := h.size
  have size3 := hg.size
  have keep : ∀ c, c < W0.heap.size + 1 → wd.heap[c]? = W.heap[c]? := fun c hc => (hg.block c (by omega) (fun e => by have := hvl c e.symm; omega)).trans (Below.heap_alloc W O c (by omega))
  have hbx : wd.heap[W0.heap.size]? = some (poQ p v) := (keep _ (by omega)).trans h.box
  have hbel : Below W0.heap.size W0 wd := ⟨hg.os.trans h.below.os, hg.tape.trans h.below.tape, hg.output.trans h.below.output, by have := h.below.size; omega, fun c hc => (keep c (by omega)).trans (h.below.block c hc)⟩
  have hK : ∀ k, k < W0.heap.size → k < W.heap.size → (wd.setCell ⟨W0.heap.size, 5, none⟩ v').heap[k]? = W.heap[k]? := fun k hk hl =>
    (Below.heap_setCell wd ⟨W0.heap.size, 5, none⟩ v' k (show k ≠ W0.heap.size by omega)).trans (keep k (by omega))
  have hs5 : (wd.setCell ⟨W0.heap.size, 5, none⟩ v').heap.size = wd.heap.size := by simp [World.setCell]
  refine ⟨⟨hbel.setCell (p := ⟨W0.heap.size, 5, none⟩) (Nat.le_refl _) _, heap_set1 hbx 5 _, ?_, ?_⟩, hbx, fun b o hb ho' hn => ?_⟩
  · rw [List.length_append]
    refine World.ownsRow.kept (row := some W0.heap.size) ho (grown_set (World.grownBy.refl wd _) 5 _) ?_
    rcases hv with hv | hv
    · rw [hv]
      rcases hq : v.ownBlock with _ | c
      · exact .inl rfl
      · exact .inr (fun e => by injection e with e; have := (hvl c hq).1; omega)
    · rw [hv]; exact .inr (fun e => by injection e with e; omega)
  · exact (h.chunks.keep (by omega) (fun _ hk _ => hk) hK).snoc (hc.keep (by omega) (fun _ hk _ => hk) hK) hx
  · have hbl : b < W.heap.size := (Array.getElem?_eq_some_iff.1 ho').1
    refine ⟨kept_set (((hg.block b (by omega) hn).trans (Below.heap_alloc W O b hbl)).trans ho') (by omega) 5 _, fun e => ?_⟩
    rcases hv with hv | hv
    · exact hn (e.trans hv)
    · rw [hv, hsz] at e; injection e with e; omega
theorem BuiltF.rules (h : BuiltF W0 W p l v xs) : ∃ A cap, v = .slice A l.length cap ∧ RulesL W l A := by
  rcases h.own.2 with ⟨hv, h0⟩ | ⟨tb, cap, cur, hv, hlo, hh, hl, hm, hs, ht⟩
  · exact ⟨none, 0, by rw [hv, h0], by rw [h0]; exact Nat.zero_le _, .inl (List.length_eq_zero_iff.1 h0)⟩
  · refine ⟨_, cap, hv, by omega, .inr ⟨tb, 0, rfl, (Array.getElem?_eq_some_iff.1 hh).1, ?_⟩⟩
    refine h.chunks.row h.below (fun j u hj => ?_)
    subst hv
    rw [Nat.zero_add, World.ownsRow.cellAt h.own j (by rw [← h.own.1]; exact (List.getElem?_eq_some_iff.1 hj).1)]
    exact hj
end
/-- The rules laid once the first i have been gone through. -/
def seqR (rs : List Ru) (N i : Nat) : List Ru := if i ≤ N then rs.take i else rs.take N ++ [aheadR (rs.getD N zeroR7), behindR (rs.getD N zeroR7)] ++ (rs.drop (N + 1)).take (i - (N + 1))
theorem seq_zero (rs : List Ru) (N : Nat) : seqR rs N 0 = [] := by unfold seqR; rw [if_pos (by omega), List.take_zero]
theorem take_one (rs : List Ru) (i : Nat) (hi : i < rs.length) : rs.take (i + 1) = rs.take i ++ [rs.getD i zeroR7] := by
  rw [List.take_add_one, List.getElem?_eq_getElem hi, List.getD_eq_getElem?_getD, List.getElem?_eq_getElem hi]; rfl
theorem seq_on (rs : List Ru) (N i : Nat) (hi : i < rs.length) (hn : i ≠ N) : seqR rs N (i + 1) = seqR rs N i ++ [rs.getD i zeroR7] := by
  unfold seqR
  by_cases h : i ≤ N
  · rw [if_pos (by omega), if_pos h, take_one rs i hi]
  · rw [if_neg (by omega), if_neg h, show i + 1 - (N + 1) = (i - (N + 1)) + 1 by omega, take_one _ _ (by rw [List.length_drop]; omega), ← List.append_assoc]
    congr 2
    rw [List.getD_eq_getElem?_getD, List.getD_eq_getElem?_getD, List.getElem?_drop, show N + 1 + (i - (N + 1)) = i by omega]
theorem seq_at (rs : List Ru) (N : Nat) : seqR rs N (N + 1) = (seqR rs N N ++ [aheadR (rs.getD N zeroR7)]) ++ [behindR (rs.getD N zeroR7)] := by
  unfold seqR
  rw [if_neg (by omega), if_pos (Nat.le_refl _), Nat.sub_self, List.take_zero]
  simp
theorem seq_end (rs : List Ru) (N : Nat) (hN : N < rs.length) : seqR rs N rs.length = putR rs N := by
  unfold seqR putR
  rw [if_neg (by omega), show (rs.drop (N + 1)).take (rs.length - (N + 1)) = rs.drop (N + 1) from List.take_of_length_le (by rw [List.length_drop]; omega)]
theorem ruL_nine (r : Ru) (Ac : Option Addr) (capc : Nat) (A : Option Addr) (cap : Nat) : (ruL r Ac capc A cap).length = 9 := rfl
theorem chunksN_take {W0 w : World} {F : Nat → Prop} : ∀ (n : Nat) {l : List Ru} {xs : List Value}, ChunksN W0 w F l xs → ChunksN W0 w F (l.take n) (xs.take (n * 9))
  | 0, l, xs, _ => by rw [List.take_zero, Nat.zero_mul, List.take_zero]; rfl
  | n + 1, [], xs, h => by
    have : xs = [] := h
    subst this
    rw [List.take_nil, List.take_nil]; rfl
  | n + 1, r :: l, xs, ⟨Ac, c, A, cap, ys, h1, h2, h3, h4⟩ => by
    subst h3
    refine ⟨Ac, c, A, cap, ys.take (n * 9), h1, h2, ?_, chunksN_take n h4⟩
    rw [List.take_append, List.take_of_length_le (by rw [ruL_nine]; omega), ruL_nine, show (n + 1) * 9 - 9 = n * 9 by omega]
theorem chunksN_drop {W0 w : World} {F : Nat → Prop} : ∀ (n : Nat) {l : List Ru} {xs : List Value}, ChunksN W0 w F l xs → ChunksN W0 w F (l.drop n) (xs.drop (n * 9))
  | 0, l, xs, h => by rw [List.drop_zero, Nat.zero_mul, List.drop_zero]; exact h
  | n + 1, [], xs, h => by
    have : xs = [] := h
    subst this
    rw [List.drop_nil, List.drop_nil]; rfl
  | n + 1, r :: l, xs, ⟨Ac, c, A, cap, ys, h1, h2, h3, h4⟩ => by
    subst h3
    have e : (ruL r Ac c A cap ++ ys).drop ((n + 1) * 9) = ys.drop (n * 9) := by
      rw [List.drop_append, List.drop_of_length_le (l := ruL r Ac c A cap) (by rw [ruL_nine]; omega), ruL_nine, show (n + 1) * 9 - 9 = n * 9 by omega, List.nil_append]
    rw [e, List.drop_succ_cons]
    exact chunksN_drop n h4
theorem chunksN_append {W0 w : World} {F : Nat → Prop} : ∀ {l m : List Ru} {xs ys : List Value}, ChunksN W0 w F l xs → ChunksN W0 w F m ys → ChunksN W0 w F (l ++ m) (xs ++ ys)
  | [], m, xs, ys, h, hm => by
    have : xs = [] := h
    subst this
    exact hm
  | r :: l, m, xs, ys, ⟨Ac, c, A, cap, zs, h1, h2, h3, h4⟩, hm => ⟨Ac, c, A, cap, zs ++ ys, h1, h2, by rw [h3, List.append_assoc], chunksN_append h4 hm⟩
theorem putS_is (rs : List Ru) (N : Nat) (hN : N < rs.length) : putS rs N = (putR rs N).take (N + 1) ++ (putR rs N).drop (N + 2) := by
  have hl : (rs.take N).length = N := by rw [List.length_take]; omega
  unfold putS putR
  have e : rs.take N ++ [aheadR (rs.getD N zeroR7), behindR (rs.getD N zeroR7)] ++ rs.drop (N + 1) = (rs.take N ++ [aheadR (rs.getD N zeroR7)]) ++ (behindR (rs.getD N zeroR7) :: rs.drop (N + 1)) := by simp
  have l1 : (rs.take N ++ [aheadR (rs.getD N zeroR7)]).length = N + 1 := by rw [List.length_append, hl]; rfl
  rw [e]
  generalize rs.take N ++ [aheadR (rs.getD N zeroR7)] = X at l1 ⊢
  have e1 : (X ++ (behindR (rs.getD N zeroR7) :: rs.drop (N + 1))).take (N + 1) = X := by rw [List.take_append, List.take_of_length_le (l := X) (by omega), l1, Nat.sub_self, List.take_zero, List.append_nil]
  have e2 : (X ++ (behindR (rs.getD N zeroR7) :: rs.drop (N + 1))).drop (N + 2) = rs.drop (N + 1) := by rw [List.drop_append, List.drop_of_length_le (l := X) (by omega), l1, show N + 2 - (N + 1) = 1 by omega]; rfl
  rw [e1, e2]
/-- Rules copied into a row of the call's own. -/
theorem rules_of_own {W0 W : World} {lo : Nat} {F : Nat → Prop} {l : List Ru} {v : Value} {n : Nat} {xs : List Value} (hb : Below W0.heap.size W0 W) (ho : W.ownsRow lo 46 9 v n xs) (hn : n = l.length) (h0 : 0 < l.length) (hc : ChunksN W0 W F l xs) : ∃ tb cap, v = .slice (some ⟨tb, 0, none⟩) n cap ∧ lo ≤ tb ∧ RulesL W l (some ⟨tb, 0, none⟩) := by
  rcases ho.2 with ⟨hv, h1⟩ | ⟨tb, cap, cur, hv, hlo, hh, hl, hm, hs, ht⟩
  · omega
  · refine ⟨tb, cap, hv, hlo, ⟨by omega, .inr ⟨tb, 0, rfl, (Array.getElem?_eq_some_iff.1 hh).1, ?_⟩⟩⟩
    refine hc.row hb (fun j u hj => ?_)
    subst hv
    rw [Nat.zero_add, World.ownsRow.cellAt ho j (by rw [← ho.1]; exact (List.getElem?_eq_some_iff.1 hj).1)]
    exact hj
end Go.Proofs.YtgeapkjegemkeaaDoor
