/-
  What the document's Next tells of places of programs of registers: a contract. Conditions: those that it names.
-/
import Derived.Test.YtbjndcbnkmjfdaaMirNext
namespace Go.Proofs.Ytbjndcbnkmjfdaa
open Go Go.RowKit
set_option linter.unusedSimpArgs false
set_option linter.unusedVariables false
set_option maxRecDepth 100000

/-- A frame of this function of which only some slots are told. -/
theorem fr94 (L : List Value) (h : L.length = 94) {a b c d e : Value} (h1 : L[1]? = some a) (h2 : L[2]? = some b) (h4 : L[4]? = some c) (h5 : L[5]? = some d) (h6 : L[6]? = some e) : ∃ f : Nat → Value, L = [f 0, a, b, f 3, c, d, e, f 7, f 8, f 9, f 10, f 11, f 12, f 13, f 14, f 15, f 16, f 17, f 18, f 19, f 20, f 21, f 22, f 23, f 24, f 25, f 26, f 27, f 28, f 29, f 30, f 31, f 32, f 33, f 34, f 35, f 36, f 37, f 38, f 39, f 40, f 41, f 42, f 43, f 44, f 45, f 46, f 47, f 48, f 49, f 50, f 51, f 52, f 53, f 54, f 55, f 56, f 57, f 58, f 59, f 60, f 61, f 62, f 63, f 64, f 65, f 66, f 67, f 68, f 69, f 70, f 71, f 72, f 73, f 74, f 75, f 76, f 77, f 78, f 79, f 80, f 81, f 82, f 83, f 84, f 85, f 86, f 87, f 88, f 89, f 90, f 91, f 92, f 93] := by
  refine ⟨fun i => L.getD i undef, ?_⟩
  have e1 : L.getD 1 undef = a := by rw [List.getD_eq_getElem?_getD, h1]; rfl
  have e2 : L.getD 2 undef = b := by rw [List.getD_eq_getElem?_getD, h2]; rfl
  have e4 : L.getD 4 undef = c := by rw [List.getD_eq_getElem?_getD, h4]; rfl
  have e5 : L.getD 5 undef = d := by rw [List.getD_eq_getElem?_getD, h5]; rfl
  have e6 : L.getD 6 undef = e := by rw [List.getD_eq_getElem?_getD, h6]; rfl
  have hL : L = (List.range 94).map (fun i => L.getD i undef) := List.ext_getElem (by simp [h]) (fun i h1 h2 => by simp [List.getD_eq_getElem?_getD, List.getElem?_eq_getElem h1])
  rw [← e1, ← e2, ← e4, ← e5, ← e6]
  exact hL
/-! ### The document -/
/-- One number more in a list of one's own. -/
def AllP (V wr : World) (A : Option Addr) (c : Nat) (L : List Int) : Prop := wr.ownsRow V.heap.size 3 1 (.slice A L.length c) L.length (izL L) ∧ Below V.heap.size V wr
set_option maxHeartbeats 16000000 in
theorem r_Next (regs : Int) (A : Option Addr) (n cap : Nat) (q : Nat → Irx) (at_ : Int) (w : World) (h : IrAt w A n q) : Calls Try.prog 21 #[mirV regs A n cap, .int .i64 at_] w (NexP (nextM n q at_) w) := by
  have HF := Lib.hid (FM.first (regs := regs) (cap := cap) h)
  clear h
  by_cases h1 : at_ < 0
  · have HN : Hid (nextM n q at_ = []) := Lib.hid (if_pos (.inl h1))
    generalize nextM n q at_ = L at HN ⊢
    go_enter Try.func21, Try.ntmps21
    go_wp2
    go_ret
    unfold NexP
    rw [HN.out]
    exact ⟨none, 0, rfl, fun h => absurd h (by simp), HF.out.2.1⟩
  by_cases h2 : (n : Int) ≤ at_
  · have HN : Hid (nextM n q at_ = []) := Lib.hid (if_pos (.inr h2))
    generalize nextM n q at_ = L at HN ⊢
    go_enter Try.func21, Try.ntmps21
    go_wp2
    go_ret
    unfold NexP
    rw [HN.out]
    exact ⟨none, 0, rfl, fun h => absurd h (by simp), HF.out.2.1⟩
  obtain ⟨m, rfl⟩ : ∃ m : Nat, at_ = (m : Int) := ⟨at_.toNat, by omega⟩
  have hm : m < n := by omega
  have hm' : (m : Int) < (n : Int) := by omega
  have hnm := HF.out.1.1
  have hw1 : IntKind.i64.wrap ((m : Int) + 1) = (m : Int) + 1 := IntWalk.i64_in _ (by unfold maxLen at hnm; omega)
  obtain ⟨qb, qo, rfl, hl, c0, c1, c2, c3, c4, c5, c6⟩ := ir_at HF.out.1 hm
  have HN : Hid (nextM n q (m : Int) = fN n (allN (q m) m) (allN (q m) m).length) := Lib.hid (by unfold nextM; rw [if_neg (by omega), Int.toNat_natCast])
  have hll := all_len (q m) m
  have HAL : Hid (allN (q m) m = if (q m).op < 1 ∨ 19 ≤ (q m).op then [] else if (q m).op = 14 then [(q m).t] else if 15 ≤ (q m).op then (if (q m).t = (q m).f then [(q m).t] else [(q m).t, (q m).f]) else [(m : Int) + 1]) := Lib.hid rfl
  generalize nextM n q (m : Int) = LR at HN ⊢
  generalize allN (q m) m = La at HN HAL hll
  generalize q m = x at HAL c0 c1 c2 c3 c4 c5 c6
  obtain ⟨op, d, a, b, k, t, f⟩ := x
  simp only at HAL
  have HX := Lib.hid (show FM w ((w.alloc (mirO regs (some ⟨qb, qo, none⟩) n cap)).alloc (irO ⟨op, d, a, b, k, t, f⟩)) regs (some ⟨qb, qo, none⟩) n cap q ∧ ((w.alloc (mirO regs (some ⟨qb, qo, none⟩) n cap)).alloc (irO ⟨op, d, a, b, k, t, f⟩)).heap[w.heap.size + 1]? = some (irO ⟨op, d, a, b, k, t, f⟩) from ⟨HF.out.up (lboxM _ _), by simpa using World.alloc_heap_new (w.alloc (mirO regs (some ⟨qb, qo, none⟩) n cap)) (irO ⟨op, d, a, b, k, t, f⟩)⟩)
  go_enter Try.func21, Try.ntmps21
  go_upto_region 6 with fail
  rename_i K8 hK8 K9 hK9
  clear c0 c1 c2 c3 c4 c5 c6 HF
  generalize (w.alloc (.cells #[.int .i64 regs, .slice (some ⟨qb, qo, none⟩) n cap] 24)).alloc (.cells #[.int .i64 op, .int .i64 d, .int .i64 a, .int .i64 b, .int .u32 (k.toNat : Int), .int .i64 t, .int .i64 f] 35) = V at HX ⊢
  have rest : ∀ (A1 : Option Addr) (c1 : Nat) (L : List Value) (w2 : World), L.length = 94 → L[1]? = some (.int .i64 (m : Int)) → L[2]? = some (.pointer (some ⟨w.heap.size, 0, none⟩)) → L[4]? = some (.slice none 0 0) → L[5]? = some (.pointer (some ⟨w.heap.size + 1, 0, none⟩)) → L[6]? = some (.slice A1 La.length c1) → AllP V w2 A1 c1 La → K8 { tmps := L.toArray, defers := [] } w2 := by
    clear HAL
    intro A1 c1 L w2 hl0 hl1 hl2 hl4 hl5 hl6 hA
    obtain ⟨f, rfl⟩ := fr94 L hl0 hl1 hl2 hl4 hl5 hl6
    clear hl0 hl1 hl2 hl4 hl5 hl6
    have H2 := Lib.hid (show IzAt w2 A1 La ∧ Below w.heap.size w w2 ∧ w2.heap[w.heap.size]? = some (mirO regs (some ⟨qb, qo, none⟩) n cap) from ⟨own_iz hA.1, onM HX.out.1.2.1 hA.2, keepM HX.out.1.2.2 hA.2⟩)
    clear hA HX
    refine hK8 _ _ ?_
    clear hK8 hK9 K8 K9
    go_wp2
    go_loopw [7, 8] (fun out v wr => ∃ kk : Nat, kk ≤ La.length ∧ v = .int .i64 (kk : Int) ∧ GrowP w2 wr out (fN n La kk)) (fun _ v _ => La.length - (intOf v).toNat)
    case atStart => exact ⟨0, by omega, rfl, World.ownsRow_nil _ _ _ _, Below.refl _ _⟩
    case round =>
      obtain ⟨kk, hkk, rfl, ho, hb⟩ := hrel
      obtain ⟨Ao, co, rfl⟩ := own_formM ho
      have HO := Lib.hid (And.intro ho hb)
      have hdl := fN_le n La kk
      have p0 := cellM (keepM H2.out.2.2 hb) 0 rfl
      have p1 := cellM (keepM H2.out.2.2 hb) 1 rfl
      by_cases hlt : kk < La.length
      · have hlt' : (kk : Int) < (La.length : Int) := by omega
        obtain ⟨b1, o1, rfl, hl1, hc1⟩ := iz_cell (H2.out.1.below hb) hlt
        have HD : Hid (fN n La (kk + 1) = if 0 ≤ La.getD kk 0 ∧ La.getD kk 0 < n then fN n La kk ++ [La.getD kk 0] else fN n La kk) := Lib.hid rfl
        clear ho hb
        generalize La.getD kk 0 = z at hc1 HD
        generalize fN n La kk = Ld at HO HD hdl
        by_cases g1 : z < 0
        · have HE : Hid (fN n La (kk + 1) = Ld) := Lib.hid (HD.out.trans (if_neg (by omega)))
          have g1' : ¬ 0 ≤ z := by omega
          have g1d : decide (0 ≤ z) = false := decide_eq_false g1'
          clear HD
          go_wp2
          go_quiet (fail)
          go_wp2
          exact ⟨⟨kk + 1, by omega, by go_num, by rw [HE.out]; exact HO.out.1, below_drawn HO.out.2 _⟩, by simp [intOf]; omega⟩
        have g1' : 0 ≤ z := by omega
        by_cases g2 : (n : Int) ≤ z
        · have HE : Hid (fN n La (kk + 1) = Ld) := Lib.hid (HD.out.trans (if_neg (by omega)))
          have g2' : ¬ z < (n : Int) := by omega
          clear HD
          go_wp2
          go_quiet (fail)
          go_wp2
          exact ⟨⟨kk + 1, by omega, by go_num, by rw [HE.out]; exact HO.out.1, below_drawn HO.out.2 _⟩, by simp [intOf]; omega⟩
        have g2' : z < (n : Int) := by omega
        have HE : Hid (fN n La (kk + 1) = Ld ++ [z]) := Lib.hid (HD.out.trans (if_pos ⟨g1', g2'⟩))
        clear HD
        go_wp2
        go_quiet (fail)
        have HA := Lib.hid (show ((wr.drewN nq).alloc (.cells #[.int .i64 z] 3)).ownsRow w2.heap.size 3 1 (.slice Ao Ld.length co) Ld.length (izL Ld) ∧ Below w2.heap.size w2 ((wr.drewN nq).alloc (.cells #[.int .i64 z] 3)) ∧ ∀ j u, ([.int .i64 z] : List Value)[j]? = some u → ((wr.drewN nq).alloc (.cells #[.int .i64 z] 3)).cell? ((⟨(wr.drewN nq).heap.size, 0, none⟩ : Addr).add j) = some u from
          ⟨own_below (b := wr.drewN nq) HO.out.1 (lboxM (wr.drewN nq) _), onM (below_drawn HO.out.2 nq) (lboxM (wr.drewN nq) _), int_newM (wr.drewN nq) (.int .i64 z) 3⟩)
        have hc1' : (wr.drewN nq).cell? ⟨b1, o1 + kk, none⟩ = some (.int .i64 z) := hc1
        have hl1' : b1 < (wr.drewN nq).heap.size := hl1
        clear hc1 hl1 p0 p1
        generalize wr.drewN nq = wd at HA hc1' hl1' ⊢
        go_wp2_with (at_builtin; refine wpList_append_own _ rfl (.tmp 86) (.tmp 91) 41 rfl 3 (.int .i64 0) 1 8 Try.underlying41 info_intM rfl (by decide) w2.heap.size (.slice Ao Ld.length co) Ld.length (izL Ld) rfl HA.out.1 ⟨wd.heap.size, 0, none⟩ 1 1 [.int .i64 z] rfl rfl HA.out.2.2 (int_oneM _ _) (by unfold maxLen; omega) (by omega) HA.out.2.1.size ?_; intro v' w' ho' hg' hv'; have HZ := Lib.hid (And.intro ho' (below_own HA.out.2.1 HA.out.1 hg' (Nat.le_refl _))); clear ho' hg' hv')
        exact ⟨⟨kk + 1, by omega, by go_num, by rw [HE.out, izL_snoc, List.length_append]; exact HZ.out.1, HZ.out.2⟩, by simp [intOf]; omega⟩
      · obtain rfl : kk = La.length := by omega
        clear ho hb
        have HQ := Lib.hid (And.intro (own_iz HO.out.1) (onM H2.out.2.1 HO.out.2))
        go_wp2
        go_ret
        unfold NexP
        rw [HN.out]
        exact ⟨Ao, co, rfl, HQ.out.1, HQ.out.2⟩
  clear HN hK8
  have u0 := cellM HX.out.2 0 rfl
  have u5 := cellM HX.out.2 5 rfl
  have u6 := cellM HX.out.2 6 rfl
  have H0 : Hid (V.ownsRow V.heap.size 3 1 (.slice none 0 0) 0 (izL []) ∧ Below V.heap.size V V) := Lib.hid ⟨World.ownsRow_nil _ _ _ _, Below.refl _ _⟩
  by_cases q1 : op < 1
  · have HAE : Hid (La = []) := Lib.hid (HAL.out.trans (if_pos (.inl q1)))
    clear HAL
    go_wp2
    exact rest none 0 _ _ rfl rfl rfl rfl rfl (by rw [HAE.out]; rfl) (by unfold AllP; rw [HAE.out]; exact ⟨H0.out.1, H0.out.2⟩)
  by_cases q19 : 19 ≤ op
  · have HAE : Hid (La = []) := Lib.hid (HAL.out.trans (if_pos (.inr q19)))
    clear HAL
    go_wp2
    exact rest none 0 _ _ rfl rfl rfl rfl rfl (by rw [HAE.out]; rfl) (by unfold AllP; rw [HAE.out]; exact ⟨H0.out.1, H0.out.2⟩)
  by_cases q14 : op = 14
  · subst q14
    have HAE : Hid (La = [t]) := Lib.hid (HAL.out.trans (by rw [if_neg (by omega), if_pos rfl]))
    clear HAL
    go_wp2_with (at_builtin; refine wpList_append_own _ rfl (.tmp 41) (.tmp 44) 41 rfl 3 (.int .i64 0) 1 8 Try.underlying41 info_intM rfl (by decide) V.heap.size (.slice none 0 0) 0 (izL []) rfl (own_below H0.out.1 (lboxM V (.cells #[.int .i64 t] 3))) ⟨V.heap.size, 0, none⟩ 1 1 [.int .i64 t] rfl rfl (int_newM V (.int .i64 t) 3) (int_oneM _ _) (by unfold maxLen; omega) (by omega) (onM H0.out.2 (lboxM V (.cells #[.int .i64 t] 3))).size ?_; intro v1' W1 ho1 hg1 hv1; obtain ⟨A1, c1, rfl⟩ := own_formM ho1; have hbb := below_own (onM H0.out.2 (lboxM V (.cells #[.int .i64 t] 3))) (own_below H0.out.1 (lboxM V (.cells #[.int .i64 t] 3))) hg1 (Nat.le_refl _); have H1 : Hid (W1.ownsRow V.heap.size 3 1 (.slice A1 1 c1) 1 (izL ([] ++ [t])) ∧ Below V.heap.size V W1) := Lib.hid ⟨by rw [izL_snoc]; exact ho1, hbb⟩; clear ho1 hg1 hv1 hbb; have hx1 := keepM HX.out.2 H1.out.2; have b15 := cellM hx1 5 rfl; have b16 := cellM hx1 6 rfl)
    exact rest A1 c1 _ _ rfl rfl rfl rfl rfl (by rw [HAE.out]; rfl) (by unfold AllP; rw [HAE.out]; exact ⟨H1.out.1, H1.out.2⟩)
  have q14' : (op == 14) = false := beq_false_of_ne q14
  by_cases q15 : 15 ≤ op
  · by_cases e : t = f
    · have e' : (t != f) = false := by rw [e]; simp
      have HAE : Hid (La = [t]) := Lib.hid (HAL.out.trans (by rw [if_neg (by omega), if_neg q14, if_pos q15, if_pos e]))
      clear HAL e
      go_wp2_with (at_builtin; refine wpList_append_own _ rfl (.tmp 50) (.tmp 53) 41 rfl 3 (.int .i64 0) 1 8 Try.underlying41 info_intM rfl (by decide) V.heap.size (.slice none 0 0) 0 (izL []) rfl (own_below H0.out.1 (lboxM V (.cells #[.int .i64 t] 3))) ⟨V.heap.size, 0, none⟩ 1 1 [.int .i64 t] rfl rfl (int_newM V (.int .i64 t) 3) (int_oneM _ _) (by unfold maxLen; omega) (by omega) (onM H0.out.2 (lboxM V (.cells #[.int .i64 t] 3))).size ?_; intro v1' W1 ho1 hg1 hv1; obtain ⟨A1, c1, rfl⟩ := own_formM ho1; have hbb := below_own (onM H0.out.2 (lboxM V (.cells #[.int .i64 t] 3))) (own_below H0.out.1 (lboxM V (.cells #[.int .i64 t] 3))) hg1 (Nat.le_refl _); have H1 : Hid (W1.ownsRow V.heap.size 3 1 (.slice A1 1 c1) 1 (izL ([] ++ [t])) ∧ Below V.heap.size V W1) := Lib.hid ⟨by rw [izL_snoc]; exact ho1, hbb⟩; clear ho1 hg1 hv1 hbb; have hx1 := keepM HX.out.2 H1.out.2; have b15 := cellM hx1 5 rfl; have b16 := cellM hx1 6 rfl)
      exact rest A1 c1 _ _ rfl rfl rfl rfl rfl (by rw [HAE.out]; rfl) (by unfold AllP; rw [HAE.out]; exact ⟨H1.out.1, H1.out.2⟩)
    · have e' : (t != f) = true := bne_iff_ne.2 e
      have HAE : Hid (La = [t, f]) := Lib.hid (HAL.out.trans (by rw [if_neg (by omega), if_neg q14, if_pos q15, if_neg e]))
      clear HAL
      go_wp2_with (first
        | (at_builtin; refine wpList_append_own _ rfl (.tmp 60) (.tmp 63) 41 rfl 3 (.int .i64 0) 1 8 Try.underlying41 info_intM rfl (by decide) V.heap.size (.slice A1 1 c1) 1 (izL ([] ++ [t])) rfl (own_below H1.out.1 (lboxM W1 (.cells #[.int .i64 f] 3))) ⟨W1.heap.size, 0, none⟩ 1 1 [.int .i64 f] rfl rfl (int_newM W1 (.int .i64 f) 3) (int_oneM _ _) (by unfold maxLen; omega) (by omega) (onM H1.out.2 (lboxM W1 (.cells #[.int .i64 f] 3))).size ?_; intro v2' W2 ho2 hg2 hv2; obtain ⟨A2, c2, rfl⟩ := own_formM ho2; have hbb := below_own (onM H1.out.2 (lboxM W1 (.cells #[.int .i64 f] 3))) (own_below H1.out.1 (lboxM W1 (.cells #[.int .i64 f] 3))) hg2 (Nat.le_refl _); have H2 : Hid (W2.ownsRow V.heap.size 3 1 (.slice A2 2 c2) 2 (izL (([] ++ [t]) ++ [f])) ∧ Below V.heap.size V W2) := Lib.hid ⟨by rw [izL_snoc]; exact ho2, hbb⟩; clear ho2 hg2 hv2 hbb; have hx2 := keepM HX.out.2 H2.out.2; have b25 := cellM hx2 5 rfl; have b26 := cellM hx2 6 rfl)
        | (at_builtin; refine wpList_append_own _ rfl (.tmp 50) (.tmp 53) 41 rfl 3 (.int .i64 0) 1 8 Try.underlying41 info_intM rfl (by decide) V.heap.size (.slice none 0 0) 0 (izL []) rfl (own_below H0.out.1 (lboxM V (.cells #[.int .i64 t] 3))) ⟨V.heap.size, 0, none⟩ 1 1 [.int .i64 t] rfl rfl (int_newM V (.int .i64 t) 3) (int_oneM _ _) (by unfold maxLen; omega) (by omega) (onM H0.out.2 (lboxM V (.cells #[.int .i64 t] 3))).size ?_; intro v1' W1 ho1 hg1 hv1; obtain ⟨A1, c1, rfl⟩ := own_formM ho1; have hbb := below_own (onM H0.out.2 (lboxM V (.cells #[.int .i64 t] 3))) (own_below H0.out.1 (lboxM V (.cells #[.int .i64 t] 3))) hg1 (Nat.le_refl _); have H1 : Hid (W1.ownsRow V.heap.size 3 1 (.slice A1 1 c1) 1 (izL ([] ++ [t])) ∧ Below V.heap.size V W1) := Lib.hid ⟨by rw [izL_snoc]; exact ho1, hbb⟩; clear ho1 hg1 hv1 hbb; have hx1 := keepM HX.out.2 H1.out.2; have b15 := cellM hx1 5 rfl; have b16 := cellM hx1 6 rfl))
      exact rest A2 c2 _ _ rfl rfl rfl rfl rfl (by rw [HAE.out]; rfl) (by unfold AllP; rw [HAE.out]; exact ⟨H2.out.1, H2.out.2⟩)
  · have HAE : Hid (La = [(m : Int) + 1]) := Lib.hid (HAL.out.trans (by rw [if_neg (by omega), if_neg q14, if_neg q15]))
    clear HAL
    go_wp2_with (at_builtin; refine wpList_append_own _ rfl (.tmp 23) (.tmp 26) 41 rfl 3 (.int .i64 0) 1 8 Try.underlying41 info_intM rfl (by decide) V.heap.size (.slice none 0 0) 0 (izL []) rfl (own_below H0.out.1 (lboxM V (.cells #[.int .i64 ((m : Int) + 1)] 3))) ⟨V.heap.size, 0, none⟩ 1 1 [.int .i64 ((m : Int) + 1)] rfl rfl (int_newM V (.int .i64 ((m : Int) + 1)) 3) (int_oneM _ _) (by unfold maxLen; omega) (by omega) (onM H0.out.2 (lboxM V (.cells #[.int .i64 ((m : Int) + 1)] 3))).size ?_; intro v1' W1 ho1 hg1 hv1; obtain ⟨A1, c1, rfl⟩ := own_formM ho1; have hbb := below_own (onM H0.out.2 (lboxM V (.cells #[.int .i64 ((m : Int) + 1)] 3))) (own_below H0.out.1 (lboxM V (.cells #[.int .i64 ((m : Int) + 1)] 3))) hg1 (Nat.le_refl _); have H1 : Hid (W1.ownsRow V.heap.size 3 1 (.slice A1 1 c1) 1 (izL ([] ++ [((m : Int) + 1)])) ∧ Below V.heap.size V W1) := Lib.hid ⟨by rw [izL_snoc]; exact ho1, hbb⟩; clear ho1 hg1 hv1 hbb; have hx1 := keepM HX.out.2 H1.out.2; have b15 := cellM hx1 5 rfl; have b16 := cellM hx1 6 rfl)
    exact rest A1 c1 _ _ rfl rfl rfl rfl rfl (by rw [HAE.out]; rfl) (by unfold AllP; rw [HAE.out]; exact ⟨H1.out.1, H1.out.2⟩)
end Go.Proofs.Ytbjndcbnkmjfdaa
