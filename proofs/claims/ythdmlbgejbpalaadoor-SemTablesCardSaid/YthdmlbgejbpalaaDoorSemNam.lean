/-
  All names of an architecture: contracts on both sides. No condition.
-/
import Derived.Test.YthdmlbgejbpalaaDoorGSemJudge
import Derived.Test.YthdmlbgejbpalaaDoorOperAppend
import Derived.Laws.MakeOwn
namespace Go.Proofs.YthdmlbgejbpalaaDoor
open Go Go.RowKit
set_option linter.unusedSimpArgs false
set_option linter.unusedVariables false

/-- make of a slice of whatever elements: a new row. -/
theorem wpList_make_any {P : Program} (w : World) {ops : Array Oper} {rest : List Oper} {o : Oper} {a : Act} {Q : Exit → Act → World → Prop} (hg : o.guard = none) (l c : Operand) (t : TypeId) (hop : o.op = Op.makeSlice t l c)
    (e : TypeId) (z : Value) (sz bytes : Nat) (ht : P.underlying t = some (.slice e)) (hinfo : (P.info? e).map (fun i => (i.zero, i.size, i.bytes)) = some (some z, sz, bytes))
    (kl kc : IntKind) (n : Nat) (hl : a.eval l = .int kl (n : Int)) (hc : a.eval c = .int kc (n : Int)) (hn : bytes * n ≤ 281474976710656) (h63 : n ≤ 9223372036854775807)
    (h : ∀ (g : Nat) (F : Nat → Value) (w' : World), w'.rowIs g e (n * sz) F → Below w.heap.size w w' → w.heap.size = g → wpList P ops Q rest (a.put o.dst (.slice (some ⟨g, 0, none⟩) n n)) w') : wpList P ops Q (o :: rest) a w := by
  obtain ⟨i, hi, hz, hsize, hby⟩ := info_parts6 hinfo
  refine wpList_plain hg fun K hK' => ?_
  have hb : (i.bytes : Int) * (n : Int) ≤ 281474976710656 := by
    rw [hby]; have : ((bytes * n : Nat) : Int) ≤ 281474976710656 := by omega
    rwa [Int.natCast_mul] at this
  have hrun := run_make (P := P) w t e i z ht hi hz kl kc n n (by omega) (Int.le_refl _) hb (by omega)
  simp only [Int.toNat_natCast] at hrun
  have hs : (madeCells z.cells (n * i.size)).size = n * sz := by rw [size_madeCells, hsize]
  have hr : (w.alloc (.cells (madeCells z.cells (n * i.size)) e)).rowIs w.heap.size e (n * sz) (fun k => (madeCells z.cells (n * i.size)).getD k undef) := by
    have := World.rowIs_alloc w (madeCells z.cells (n * i.size)) e (fun k => (madeCells z.cells (n * i.size)).getD k undef) (fun j hj => by
      rw [Array.getElem?_eq_getElem hj, Array.getD_eq_getD_getElem?, Array.getElem?_eq_getElem hj]; rfl)
    rwa [hs] at this
  unfold Oper.wp
  simp [execOp, hop, hl, hc, hrun, Result.andThen]
  exact hK' _ _ (h _ _ _ hr ((Below.refl _ _).alloc (Nat.le_refl _) _) rfl)
theorem info_str : (Tryd.prog.info? 9).map (fun i => (i.zero, i.size, i.bytes)) = some (some (.string ⟨#[]⟩), 1, 16) := by kernel_rfl
/-- Names in a row. -/
def NamesL (w : World) (l : List (ByteArray × Nat)) (A : Option Addr) : Prop := l.length ≤ 100 ∧ ∀ k, k < l.length → ∃ tb, A = some ⟨tb, 0, none⟩ ∧ tb < w.heap.size ∧ w.cell? ⟨tb, k, none⟩ = some (.string (l.getD k (⟨#[]⟩, 0)).1)
theorem NamesL.below {w w' : World} {l : List (ByteArray × Nat)} {A : Option Addr} (h : NamesL w l A) (hb : Below w.heap.size w w') : NamesL w' l A := ⟨h.1, fun k hk => by
  obtain ⟨tb, hA, ht, hc⟩ := h.2 k hk
  exact ⟨tb, hA, Nat.lt_of_lt_of_le ht hb.size, (World.cell?_of_block (a := ⟨tb, k, none⟩) (hb.block tb ht)).trans hc⟩⟩
def NamesP (w : World) (l : List (ByteArray × Nat)) (e : Ending) (w' : World) : Prop := ∃ A cap, e = .returned (.slice A l.length cap) ∧ NamesL w' l A ∧ Below w.heap.size w w'
def nameVs (l : List (ByteArray × Nat)) : List Value := l.map fun x => .string x.1
theorem nameVs_snoc (l : List (ByteArray × Nat)) (x : ByteArray × Nat) : nameVs (l ++ [x]) = nameVs l ++ [.string x.1] := by simp [nameVs]
theorem names_own {w : World} {lo : Nat} {v : Value} {l : List (ByteArray × Nat)} (hll : l.length ≤ 100) (h : w.ownsRow lo 9 1 v l.length (nameVs l)) : ∃ A cap, v = .slice A l.length cap ∧ NamesL w l A := by
  obtain ⟨_, h⟩ := h
  rcases h with ⟨rfl, h0⟩ | ⟨g, cap, cur, rfl, hlo, hh, hl, hm, hs, ht⟩
  · exact ⟨none, 0, by rw [h0], hll, fun k hk => absurd hk (by omega)⟩
  · refine ⟨_, cap, rfl, hll, fun k hk => ⟨g, rfl, (Array.getElem?_eq_some_iff.1 hh).1, ?_⟩⟩
    have h1 : (nameVs l)[k]? = some (.string (l.getD k (⟨#[]⟩, 0)).1) := by
      rw [nameVs, List.getElem?_map, List.getElem?_eq_getElem hk, List.getD_eq_getElem?_getD, List.getElem?_eq_getElem hk]; rfl
    rw [← ht, List.getElem?_take, if_pos (by omega), Array.getElem?_toList] at h1
    simp [World.cell?, hh, h1]
theorem tabL_grown {W W' : World} {l : List (ByteArray × Nat)} {A : Option Addr} {g n : Nat} (h : TabL W l A) (hs : W.heap.size ≤ n) (hb : Below n W W') : TabL W' l A := h.below (hb.mono hs)
set_option maxRecDepth 100000 in
set_option maxHeartbeats 8000000 in
theorem p_Names7 (s : ByteArray) (w : World) : Calls Tryd.prog 18 #[.string s] w (NamesP w (sysF s).2.1) := by
  have H := Lib.hid (fun W => p_systemOf s W)
  generalize sysF s = g at H ⊢
  obtain ⟨wd, l, b⟩ := g
  simp only
  go_enter Tryd.func18, Tryd.ntmps18
  go_wp2_with (first
    | (go_at_call 39; (with_reducible refine (H.out _).mono ?_); rintro e w1 ⟨A, cap, rfl, ht, hb⟩; have HT := Lib.hid (And.intro (TabL.below ht (lbox w1 (.cells #[.int .u32 (wd : Int), .slice A l.length cap] 88))) (And.intro (below_of _ _ (.cells #[.int .u32 (wd : Int), .slice A l.length cap] 88) hb) (World.alloc_heap_new w1 (.cells #[.int .u32 (wd : Int), .slice A l.length cap] 88)))); have hll : l.length ≤ 100 := ht.1; have c1 := cell6 HT.out.2.2 1 (v := .slice A l.length cap) rfl; clear ht hb)
    | (refine wpList_make_any _ rfl _ _ _ rfl 9 _ 1 16 Tryd.underlying36 info_str .i64 .i64 l.length rfl rfl (Nat.le_trans (Nat.mul_le_mul_left 16 hll) (by decide)) (Nat.le_trans hll (by decide)) ?_; intro g F w2 hr hb hg; have hx := keep7 HT.out.2.2 hb; have c2 := cell6 hx 1 (v := .slice A l.length cap) rfl; have HR := Lib.hid (And.intro hr (And.intro (TabL.below HT.out.1 hb) (And.intro (on7 HT.out.2.1 hb) hg))); clear hr hb hx hg))
  go_loopw [20] (fun v wr => ∃ k : Nat, k ≤ l.length ∧ v = .int .i64 (k : Int) ∧ (∃ G, wr.rowIs g 9 (l.length * 1) G ∧ ∀ j, j < k → G j = .string (l.getD j (⟨#[]⟩, 0)).1) ∧ TabL wr l A ∧ (∀ tb, A = some ⟨tb, 0, none⟩ → l = [] ∨ tb < g) ∧ Below w.heap.size w wr ∧ w.heap.size ≤ g) (fun v _ => l.length - (intOf v).toNat)
  case atStart =>
    have h1 := HT.out.2.1.size
    have h2 := HR.out.2.2.2
    refine ⟨0, Nat.zero_le _, rfl, ⟨F, HR.out.1, fun j hj => absurd hj (by omega)⟩, HR.out.2.1, fun tb e => ?_, HR.out.2.2.1, by omega⟩
    rw [← h2]
    rcases HT.out.1.2 with h0 | ⟨tb', hA, ht, _⟩
    · exact .inl h0
    · rw [hA] at e; injection e with e; injection e with e; exact .inr (by omega)
  case round =>
    obtain ⟨k, hk, rfl, ⟨G, hr, hG⟩, hT, hlo, hB, hge⟩ := hrel
    have hw : IntKind.i64.wrap ((k : Int) + 1) = ((k + 1 : Nat) : Int) := by rw [IntWalk.i64_in _ (by omega)]; omega
    by_cases hlt : k < l.length
    · have hlt' : (k : Int) < (l.length : Int) := by omega
      obtain ⟨tb, rfl, htl, e0, e1⟩ := tab_cells hT k hlt
      have hne : tb < g := (hlo tb rfl).resolve_left (fun e => by rw [e] at hlt; exact absurd hlt (by simp))
      have hrA := hr
      have HF := Lib.hid (And.intro hr (And.intro hG (And.intro hT (And.intro hlo (And.intro hB hge)))))
      have hgs : g < wr.heap.size := World.rowIs.lt hr
      have x0 := fun o => World.rowIs.cell (World.rowIs.alloc hr o) (i := k) (by omega)
      have z0 := fun o => World.rowIs.frozen (World.rowIs.alloc hr o) k
      clear hr hrA hT hB hG hlo HT HR
      obtain ⟨x, hx⟩ : ∃ x, l.getD k (⟨#[]⟩, 0) = x := ⟨_, rfl⟩
      rw [hx] at e0 e1
      have HX := Lib.hid hx
      clear hx
      go_wp2
      refine ⟨⟨k + 1, by omega, by go_num, ⟨_, World.rowIs.alloc (World.rowIs.set HF.out.1 k _) _, fun j hj => ?_⟩, ?_, HF.out.2.2.2.1, below_of _ _ _ (HF.out.2.2.2.2.1.setCell (p := ⟨g, k, none⟩) hge _), hge⟩, by simp [intOf]; omega⟩
      · by_cases e : j = k
        · subst e; rw [if_pos rfl, HX.out]
        · rw [if_neg e]; exact HF.out.2.1 j (by omega)
      · exact TabL.below (TabL.set HF.out.2.2.1 (fun tb' e => by injection e with e; injection e with e; omega) k _) (lbox _ _)
    · have hlt' : ¬ (k : Int) < (l.length : Int) := by omega
      obtain rfl : k = l.length := by omega
      have HF := Lib.hid (And.intro hr (And.intro hG hB))
      clear hr hG hT hlo hB HT HR c1 c2
      go_wp2
      go_ret
      exact ⟨_, _, rfl, ⟨hll, fun j hj => ⟨g, rfl, World.rowIs.lt HF.out.1, by rw [World.rowIs.cell HF.out.1 (i := j) (by omega), HF.out.2.1 j hj]⟩⟩, HF.out.2.2⟩
set_option maxRecDepth 100000 in
set_option maxHeartbeats 8000000 in
theorem ref_Names7 (s : ByteArray) (w : World) : Calls Tryd.prog 19 #[.string s] w (NamesP w (sysF s).2.1) := by
  have H := Lib.hid (fun W => ref_Table s W)
  generalize (sysF s).2.1 = l at H ⊢
  go_enter Tryd.func19, Tryd.ntmps19
  go_wp2_with (go_at_call 43; (with_reducible refine (H.out _).mono ?_); rintro e w1 ⟨A, cap, rfl, ht, hlo, hb⟩; have HT := Lib.hid (And.intro ht hb); have hll : l.length ≤ 100 := ht.1; clear ht hb hlo)
  go_loopw [4, 5] (fun v i wr => ∃ k : Nat, k ≤ l.length ∧ i = .int .i64 (k : Int) ∧ wr.ownsRow w1.heap.size 9 1 v k (nameVs (l.take k)) ∧ Below w1.heap.size w1 wr) (fun _ i _ => l.length - (intOf i).toNat)
  case atStart => exact ⟨0, Nat.zero_le _, rfl, World.ownsRow_nil _ _ _ _, Below.refl _ _⟩
  case round =>
    obtain ⟨k, hk, rfl, hrow, hB⟩ := hrel
    have hw : IntKind.i64.wrap ((k : Int) + 1) = ((k + 1 : Nat) : Int) := by rw [IntWalk.i64_in _ (by omega)]; omega
    by_cases hlt : k < l.length
    · have hlt' : (k : Int) < (l.length : Int) := by omega
      obtain ⟨tb, rfl, htl, e0, e1⟩ := tab_cells (HT.out.1.below hB) k hlt
      have htk : l.take (k + 1) = l.take k ++ [l.getD k (⟨#[]⟩, 0)] := by
        rw [List.take_add_one, List.getElem?_eq_getElem hlt, List.getD_eq_getElem?_getD, List.getElem?_eq_getElem hlt]; rfl
      have HK := Lib.hid htk
      have HR := Lib.hid (And.intro hrow hB)
      clear e1 htk hrow hB
      generalize l.getD k (⟨#[]⟩, 0) = x at e0 HK
      have hco : ∀ j u, ([.string x.1] : List Value)[j]? = some u → (wr.alloc (.cells #[.string x.1] 9)).cell? ((⟨wr.heap.size, 0, none⟩ : Addr).add j) = some u := fun j u hj => by
        rw [addr_add, Nat.zero_add]
        exact cell6 (World.alloc_heap_new wr _) j (by rw [← List.getElem?_toArray] at hj; exact hj)
      have HCO := Lib.hid hco
      clear hco
      go_wp2_with (refine wpList_append_own _ rfl (.tmp 14) (.tmp 20) 36 rfl 9 (.string ⟨#[]⟩) 1 16 Tryd.underlying36 info_str rfl (by decide) w1.heap.size _ k (nameVs (l.take k)) rfl (own_below HR.out.1 (lbox wr _)) ⟨wr.heap.size, 0, none⟩ 1 1 [.string x.1] rfl rfl HCO.out (by simp [Value.oneCell']) (by unfold maxLen; omega) (by omega) (by have := HR.out.2.size; simp; omega) ?_; intro v' w2 ho hg hv; have HZ := Lib.hid (And.intro ho (below_own (HR.out.2.trans ((lbox wr _).mono HR.out.2.size)) (own_below HR.out.1 (lbox wr _)) hg (Nat.le_refl _))); clear ho hg hv)
      exact ⟨⟨k + 1, by omega, by go_num, by rw [HK.out, nameVs_snoc]; exact HZ.out.1, HZ.out.2⟩, by simp [intOf]; omega⟩
    · have hlt' : ¬ (k : Int) < (l.length : Int) := by omega
      obtain rfl : k = l.length := by omega
      rw [List.take_length] at hrow
      have HR := Lib.hid (And.intro hrow hB)
      obtain ⟨N, cn, rfl, hc⟩ := names_own hll hrow
      have HN := Lib.hid hc
      clear hrow hB hc
      go_wp2
      go_ret
      exact ⟨_, _, rfl, HN.out, HT.out.2.trans (HR.out.2.mono HT.out.2.size)⟩
end Go.Proofs.YthdmlbgejbpalaaDoor
