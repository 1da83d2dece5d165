/-
  The document's Check of programs of registers: contracts. Conditions: those that each names.
-/
import Derived.Test.YtoajommeiocfpaaGreatMirOne
import Derived.Test.YtoajommeiocfpaaGreatMirChkP
namespace Go.Proofs.YtoajommeiocfpaaGreat
open Go Go.RowKit
set_option linter.unusedSimpArgs false
set_option linter.unusedVariables false

set_option maxHeartbeats 2000000 in
theorem r_One_j (regs : Int) (A : Option Addr) (n cap : Nat) (op d a b : Int) (k : BitVec 32) (t f : Int) (i bb bo : Nat) (w : World) (hi : i < n) (hn : n ≤ maxLen) (hop : op = 14) (hA : A = some ⟨bb, bo, none⟩) (hl : bb < w.heap.size)
    (c0 : w.cell? ⟨bb, bo + i * 7, none⟩ = some (.int .i64 op)) (c1 : w.cell? ⟨bb, bo + i * 7 + 1, none⟩ = some (.int .i64 d)) (c2 : w.cell? ⟨bb, bo + i * 7 + 2, none⟩ = some (.int .i64 a)) (c3 : w.cell? ⟨bb, bo + i * 7 + 3, none⟩ = some (.int .i64 b)) (c4 : w.cell? ⟨bb, bo + i * 7 + 4, none⟩ = some (.int .u32 (k.toNat : Int))) (c5 : w.cell? ⟨bb, bo + i * 7 + 5, none⟩ = some (.int .i64 t)) (c6 : w.cell? ⟨bb, bo + i * 7 + 6, none⟩ = some (.int .i64 f)) :
    Calls Tryz.prog 41 #[mirV regs A n cap, .int .i64 (i : Int)] w (OneMP regs n ⟨op, d, a, b, k, t, f⟩ i w) := by
  subst hA
  subst hop
  have hi' : (i : Int) < (n : Int) := by omega
  have gd : dM 14 = false := rfl
  have ga : aM 14 = false := rfl
  have gb : bM 14 = false := rfl
  have gt : tM 14 = true := rfl
  have gf : fM 14 = false := rfl
  have HV := Lib.hid (one_is (regs := regs) (n := n) (d := d) (a := a) (b := b) (k := k) (t := t) (f := f) (i := i) (show 1 ≤ (14 : Int) ∧ (14 : Int) ≤ 19 by omega) gd ga gb gt gf)
  have HN := Lib.hid (fun W => r_Names 14 W)
  (try rw [gd] at HN); (try rw [ga] at HN); (try rw [gb] at HN); (try rw [gt] at HN); (try rw [gf] at HN)
  have HB := Lib.hid (show Below w.heap.size w ((w.alloc (mirO regs (some ⟨bb, bo, none⟩) n cap)).alloc (irO ⟨14, d, a, b, k, t, f⟩)) from onM (lboxM w _) (lboxM _ _))
  unfold OneMP
  obtain ⟨V, hV⟩ : ∃ V, oneM regs n ⟨14, d, a, b, k, t, f⟩ i = V := ⟨_, rfl⟩
  rw [hV] at HV ⊢
  clear hV gd ga gb gt gf
  by_cases lt : t ≤ (i : Int)
  · skip
    have HE := Lib.hid (HV.out.trans (show _ = (126 : Int) by rw [if_neg (by simp <;> omega), if_neg (by omega), if_pos (.inl ⟨rfl, .inl lt⟩)]))
    clear HV
    go_enter Tryz.func41, Tryz.ntmps41
    go_wp2_with (go_at_call 42; (with_reducible refine (HN.out _).mono ?_); rintro e w1 ⟨rfl, rfl⟩)
    go_ret
    exact ⟨ret_iM HE.out.symm, HB.out⟩
  by_cases rt : (n : Int) ≤ t
  · skip
    have HE := Lib.hid (HV.out.trans (show _ = (126 : Int) by rw [if_neg (by simp <;> omega), if_neg (by omega), if_pos (.inl ⟨rfl, .inr rt⟩)]))
    clear HV
    go_enter Tryz.func41, Tryz.ntmps41
    go_wp2_with (go_at_call 42; (with_reducible refine (HN.out _).mono ?_); rintro e w1 ⟨rfl, rfl⟩)
    go_ret
    exact ⟨ret_iM HE.out.symm, HB.out⟩
  have HE := Lib.hid (HV.out.trans (show _ = (0 : Int) by rw [if_neg (by simp <;> omega), if_neg (by omega), if_neg (by simp <;> omega)]))
  clear HV
  go_enter Tryz.func41, Tryz.ntmps41
  go_wp2_with (go_at_call 42; (with_reducible refine (HN.out _).mono ?_); rintro e w1 ⟨rfl, rfl⟩)
  go_ret
  exact ⟨ret_iM HE.out.symm, HB.out⟩
set_option maxHeartbeats 2000000 in
theorem r_One_i (regs : Int) (A : Option Addr) (n cap : Nat) (op d a b : Int) (k : BitVec 32) (t f : Int) (i bb bo : Nat) (w : World) (hi : i < n) (hn : n ≤ maxLen) (hop : 15 ≤ op ∧ op ≤ 18) (hA : A = some ⟨bb, bo, none⟩) (hl : bb < w.heap.size)
    (c0 : w.cell? ⟨bb, bo + i * 7, none⟩ = some (.int .i64 op)) (c1 : w.cell? ⟨bb, bo + i * 7 + 1, none⟩ = some (.int .i64 d)) (c2 : w.cell? ⟨bb, bo + i * 7 + 2, none⟩ = some (.int .i64 a)) (c3 : w.cell? ⟨bb, bo + i * 7 + 3, none⟩ = some (.int .i64 b)) (c4 : w.cell? ⟨bb, bo + i * 7 + 4, none⟩ = some (.int .u32 (k.toNat : Int))) (c5 : w.cell? ⟨bb, bo + i * 7 + 5, none⟩ = some (.int .i64 t)) (c6 : w.cell? ⟨bb, bo + i * 7 + 6, none⟩ = some (.int .i64 f)) :
    Calls Tryz.prog 41 #[mirV regs A n cap, .int .i64 (i : Int)] w (OneMP regs n ⟨op, d, a, b, k, t, f⟩ i w) := by
  subst hA
  have hi' : (i : Int) < (n : Int) := by omega
  have gd : dM op = false := by simp [dM]; omega
  have ga : aM op = true := by simp [aM]; omega
  have gb : bM op = true := by simp [bM]; omega
  have gt : tM op = true := by simp [tM]; omega
  have gf : fM op = true := by simp [fM]; omega
  have HV := Lib.hid (one_is (regs := regs) (n := n) (d := d) (a := a) (b := b) (k := k) (t := t) (f := f) (i := i) (show 1 ≤ (op : Int) ∧ (op : Int) ≤ 19 by omega) gd ga gb gt gf)
  have HN := Lib.hid (fun W => r_Names op W)
  (try rw [gd] at HN); (try rw [ga] at HN); (try rw [gb] at HN); (try rw [gt] at HN); (try rw [gf] at HN)
  have q1 : ¬ op < 1 := by omega
  have q2 : ¬ 19 < op := by omega
  have q3 : (op == 3) = false := beq_false_of_ne (by omega)
  have HB := Lib.hid (show Below w.heap.size w ((w.alloc (mirO regs (some ⟨bb, bo, none⟩) n cap)).alloc (irO ⟨op, d, a, b, k, t, f⟩)) from onM (lboxM w _) (lboxM _ _))
  unfold OneMP
  obtain ⟨V, hV⟩ : ∃ V, oneM regs n ⟨op, d, a, b, k, t, f⟩ i = V := ⟨_, rfl⟩
  rw [hV] at HV ⊢
  clear hV gd ga gb gt gf
  by_cases la : a < 0
  · skip
    have HE := Lib.hid (HV.out.trans (show _ = (124 : Int) by rw [if_pos (.inr (.inl ⟨rfl, .inl la⟩))]))
    clear HV
    go_enter Tryz.func41, Tryz.ntmps41
    go_wp2_with (go_at_call 42; (with_reducible refine (HN.out _).mono ?_); rintro e w1 ⟨rfl, rfl⟩)
    go_ret
    exact ⟨ret_iM HE.out.symm, HB.out⟩
  by_cases ra : regs ≤ a
  · skip
    have HE := Lib.hid (HV.out.trans (show _ = (124 : Int) by rw [if_pos (.inr (.inl ⟨rfl, .inr ra⟩))]))
    clear HV
    go_enter Tryz.func41, Tryz.ntmps41
    go_wp2_with (go_at_call 42; (with_reducible refine (HN.out _).mono ?_); rintro e w1 ⟨rfl, rfl⟩)
    go_ret
    exact ⟨ret_iM HE.out.symm, HB.out⟩
  by_cases lb : b < 0
  · skip
    have HE := Lib.hid (HV.out.trans (show _ = (124 : Int) by rw [if_pos (.inr (.inr ⟨rfl, .inl lb⟩))]))
    clear HV
    go_enter Tryz.func41, Tryz.ntmps41
    go_wp2_with (go_at_call 42; (with_reducible refine (HN.out _).mono ?_); rintro e w1 ⟨rfl, rfl⟩)
    go_ret
    exact ⟨ret_iM HE.out.symm, HB.out⟩
  by_cases rb : regs ≤ b
  · skip
    have HE := Lib.hid (HV.out.trans (show _ = (124 : Int) by rw [if_pos (.inr (.inr ⟨rfl, .inr rb⟩))]))
    clear HV
    go_enter Tryz.func41, Tryz.ntmps41
    go_wp2_with (go_at_call 42; (with_reducible refine (HN.out _).mono ?_); rintro e w1 ⟨rfl, rfl⟩)
    go_ret
    exact ⟨ret_iM HE.out.symm, HB.out⟩
  by_cases lt : t ≤ (i : Int)
  · skip
    have HE := Lib.hid (HV.out.trans (show _ = (126 : Int) by rw [if_neg (by simp <;> omega), if_neg (by omega), if_pos (.inl ⟨rfl, .inl lt⟩)]))
    clear HV
    go_enter Tryz.func41, Tryz.ntmps41
    go_wp2_with (go_at_call 42; (with_reducible refine (HN.out _).mono ?_); rintro e w1 ⟨rfl, rfl⟩)
    go_ret
    exact ⟨ret_iM HE.out.symm, HB.out⟩
  by_cases rt : (n : Int) ≤ t
  · skip
    have HE := Lib.hid (HV.out.trans (show _ = (126 : Int) by rw [if_neg (by simp <;> omega), if_neg (by omega), if_pos (.inl ⟨rfl, .inr rt⟩)]))
    clear HV
    go_enter Tryz.func41, Tryz.ntmps41
    go_wp2_with (go_at_call 42; (with_reducible refine (HN.out _).mono ?_); rintro e w1 ⟨rfl, rfl⟩)
    go_ret
    exact ⟨ret_iM HE.out.symm, HB.out⟩
  by_cases lf : f ≤ (i : Int)
  · skip
    have HE := Lib.hid (HV.out.trans (show _ = (126 : Int) by rw [if_neg (by simp <;> omega), if_neg (by omega), if_pos (.inr ⟨rfl, .inl lf⟩)]))
    clear HV
    go_enter Tryz.func41, Tryz.ntmps41
    go_wp2_with (go_at_call 42; (with_reducible refine (HN.out _).mono ?_); rintro e w1 ⟨rfl, rfl⟩)
    go_ret
    exact ⟨ret_iM HE.out.symm, HB.out⟩
  by_cases rf : (n : Int) ≤ f
  · skip
    have HE := Lib.hid (HV.out.trans (show _ = (126 : Int) by rw [if_neg (by simp <;> omega), if_neg (by omega), if_pos (.inr ⟨rfl, .inr rf⟩)]))
    clear HV
    go_enter Tryz.func41, Tryz.ntmps41
    go_wp2_with (go_at_call 42; (with_reducible refine (HN.out _).mono ?_); rintro e w1 ⟨rfl, rfl⟩)
    go_ret
    exact ⟨ret_iM HE.out.symm, HB.out⟩
  have HE := Lib.hid (HV.out.trans (show _ = (0 : Int) by rw [if_neg (by simp <;> omega), if_neg (by omega), if_neg (by simp <;> omega)]))
  clear HV
  go_enter Tryz.func41, Tryz.ntmps41
  go_wp2_with (go_at_call 42; (with_reducible refine (HN.out _).mono ?_); rintro e w1 ⟨rfl, rfl⟩)
  go_ret
  exact ⟨ret_iM HE.out.symm, HB.out⟩
set_option maxHeartbeats 2000000 in
theorem r_One_r (regs : Int) (A : Option Addr) (n cap : Nat) (op d a b : Int) (k : BitVec 32) (t f : Int) (i bb bo : Nat) (w : World) (hi : i < n) (hn : n ≤ maxLen) (hop : op = 19) (hA : A = some ⟨bb, bo, none⟩) (hl : bb < w.heap.size)
    (c0 : w.cell? ⟨bb, bo + i * 7, none⟩ = some (.int .i64 op)) (c1 : w.cell? ⟨bb, bo + i * 7 + 1, none⟩ = some (.int .i64 d)) (c2 : w.cell? ⟨bb, bo + i * 7 + 2, none⟩ = some (.int .i64 a)) (c3 : w.cell? ⟨bb, bo + i * 7 + 3, none⟩ = some (.int .i64 b)) (c4 : w.cell? ⟨bb, bo + i * 7 + 4, none⟩ = some (.int .u32 (k.toNat : Int))) (c5 : w.cell? ⟨bb, bo + i * 7 + 5, none⟩ = some (.int .i64 t)) (c6 : w.cell? ⟨bb, bo + i * 7 + 6, none⟩ = some (.int .i64 f)) :
    Calls Tryz.prog 41 #[mirV regs A n cap, .int .i64 (i : Int)] w (OneMP regs n ⟨op, d, a, b, k, t, f⟩ i w) := by
  subst hA
  subst hop
  have hi' : (i : Int) < (n : Int) := by omega
  have gd : dM 19 = false := rfl
  have ga : aM 19 = true := rfl
  have gb : bM 19 = false := rfl
  have gt : tM 19 = false := rfl
  have gf : fM 19 = false := rfl
  have HV := Lib.hid (one_is (regs := regs) (n := n) (d := d) (a := a) (b := b) (k := k) (t := t) (f := f) (i := i) (show 1 ≤ (19 : Int) ∧ (19 : Int) ≤ 19 by omega) gd ga gb gt gf)
  have HN := Lib.hid (fun W => r_Names 19 W)
  (try rw [gd] at HN); (try rw [ga] at HN); (try rw [gb] at HN); (try rw [gt] at HN); (try rw [gf] at HN)
  have HB := Lib.hid (show Below w.heap.size w ((w.alloc (mirO regs (some ⟨bb, bo, none⟩) n cap)).alloc (irO ⟨19, d, a, b, k, t, f⟩)) from onM (lboxM w _) (lboxM _ _))
  unfold OneMP
  obtain ⟨V, hV⟩ : ∃ V, oneM regs n ⟨19, d, a, b, k, t, f⟩ i = V := ⟨_, rfl⟩
  rw [hV] at HV ⊢
  clear hV gd ga gb gt gf
  by_cases la : a < 0
  · skip
    have HE := Lib.hid (HV.out.trans (show _ = (124 : Int) by rw [if_pos (.inr (.inl ⟨rfl, .inl la⟩))]))
    clear HV
    go_enter Tryz.func41, Tryz.ntmps41
    go_wp2_with (go_at_call 42; (with_reducible refine (HN.out _).mono ?_); rintro e w1 ⟨rfl, rfl⟩)
    go_ret
    exact ⟨ret_iM HE.out.symm, HB.out⟩
  by_cases ra : regs ≤ a
  · skip
    have HE := Lib.hid (HV.out.trans (show _ = (124 : Int) by rw [if_pos (.inr (.inl ⟨rfl, .inr ra⟩))]))
    clear HV
    go_enter Tryz.func41, Tryz.ntmps41
    go_wp2_with (go_at_call 42; (with_reducible refine (HN.out _).mono ?_); rintro e w1 ⟨rfl, rfl⟩)
    go_ret
    exact ⟨ret_iM HE.out.symm, HB.out⟩
  have HE := Lib.hid (HV.out.trans (show _ = (0 : Int) by rw [if_neg (by simp <;> omega), if_neg (by omega), if_neg (by simp <;> omega)]))
  clear HV
  go_enter Tryz.func41, Tryz.ntmps41
  go_wp2_with (go_at_call 42; (with_reducible refine (HN.out _).mono ?_); rintro e w1 ⟨rfl, rfl⟩)
  go_ret
  exact ⟨ret_iM HE.out.symm, HB.out⟩
set_option maxHeartbeats 2000000 in
theorem r_One_no (regs : Int) (A : Option Addr) (n cap : Nat) (op d a b : Int) (k : BitVec 32) (t f : Int) (i bb bo : Nat) (w : World) (hi : i < n) (hn : n ≤ maxLen) (hop : op < 1 ∨ 19 < op) (hA : A = some ⟨bb, bo, none⟩) (hl : bb < w.heap.size)
    (c0 : w.cell? ⟨bb, bo + i * 7, none⟩ = some (.int .i64 op)) (c1 : w.cell? ⟨bb, bo + i * 7 + 1, none⟩ = some (.int .i64 d)) (c2 : w.cell? ⟨bb, bo + i * 7 + 2, none⟩ = some (.int .i64 a)) (c3 : w.cell? ⟨bb, bo + i * 7 + 3, none⟩ = some (.int .i64 b)) (c4 : w.cell? ⟨bb, bo + i * 7 + 4, none⟩ = some (.int .u32 (k.toNat : Int))) (c5 : w.cell? ⟨bb, bo + i * 7 + 5, none⟩ = some (.int .i64 t)) (c6 : w.cell? ⟨bb, bo + i * 7 + 6, none⟩ = some (.int .i64 f)) :
    Calls Tryz.prog 41 #[mirV regs A n cap, .int .i64 (i : Int)] w (OneMP regs n ⟨op, d, a, b, k, t, f⟩ i w) := by
  subst hA
  have hi' : (i : Int) < (n : Int) := by omega
  have HV : Hid (oneM regs n ⟨op, d, a, b, k, t, f⟩ i = 123) := Lib.hid (by unfold oneM; simp only; rw [if_pos hop])
  have HB := Lib.hid (show Below w.heap.size w ((w.alloc (mirO regs (some ⟨bb, bo, none⟩) n cap)).alloc (irO ⟨op, d, a, b, k, t, f⟩)) from onM (lboxM w _) (lboxM _ _))
  unfold OneMP
  by_cases q1 : op < 1
  · go_enter Tryz.func41, Tryz.ntmps41
    go_wp2
    go_ret
    exact ⟨ret_iM HV.out.symm, HB.out⟩
  · have q2 : 19 < op := by omega
    go_enter Tryz.func41, Tryz.ntmps41
    go_wp2
    go_ret
    exact ⟨ret_iM HV.out.symm, HB.out⟩
theorem r_One (regs : Int) (A : Option Addr) (n cap : Nat) (q : Nat → Irx) (i : Nat) (w : World) (hi : i < n) (h : IrAt w A n q) : Calls Tryz.prog 41 #[mirV regs A n cap, .int .i64 (i : Int)] w (OneMP regs n (q i) i w) := by
  obtain ⟨bb, bo, hA, hl, c0, c1, c2, c3, c4, c5, c6⟩ := ir_at h hi
  have hn := h.1
  generalize q i = x at *
  obtain ⟨op, d, a, b, k, t, f⟩ := x
  by_cases ho : op < 1 ∨ 19 < op
  · exact r_One_no regs A n cap op d a b k t f i bb bo w hi hn ho hA hl c0 c1 c2 c3 c4 c5 c6
  rcases op_kinds (op := op) (by omega) with (g | g) | (g | g) | g | g | g | g
  · exact r_One_c regs A n cap op d a b k t f i bb bo w hi hn g hA hl c0 c1 c2 c3 c4 c5 c6
  · exact r_One_l regs A n cap op d a b k t f i bb bo w hi hn g hA hl c0 c1 c2 c3 c4 c5 c6
  · exact r_One_m regs A n cap op d a b k t f i bb bo w hi hn g hA hl c0 c1 c2 c3 c4 c5 c6
  · exact r_One_n regs A n cap op d a b k t f i bb bo w hi hn g hA hl c0 c1 c2 c3 c4 c5 c6
  · exact r_One_w regs A n cap op d a b k t f i bb bo w hi hn g hA hl c0 c1 c2 c3 c4 c5 c6
  · exact r_One_j regs A n cap op d a b k t f i bb bo w hi hn g hA hl c0 c1 c2 c3 c4 c5 c6
  · exact r_One_i regs A n cap op d a b k t f i bb bo w hi hn g hA hl c0 c1 c2 c3 c4 c5 c6
  · exact r_One_r regs A n cap op d a b k t f i bb bo w hi hn g hA hl c0 c1 c2 c3 c4 c5 c6
end Go.Proofs.YtoajommeiocfpaaGreat
namespace Go.Proofs.YtoajommeiocfpaaGreat
open Go Go.RowKit
set_option linter.unusedSimpArgs false
set_option linter.unusedVariables false

section
variable (regs : Int) (A : Option Addr) (n cap : Nat) (q : Nat → Irx) (w : World)
set_option maxHeartbeats 2000000 in
theorem r_ChkM (h : IrAt w A n q) : Calls Tryz.prog 17 #[mirV regs A n cap] w (ChkMP regs q n w) := by
  have HF := Lib.hid (FM.first (regs := regs) (cap := cap) h)
  clear h
  unfold ChkMP
  by_cases h1 : regs < 1
  · have HV := Lib.hid (chk_regs regs n q (.inl h1))
    go_enter Tryz.func17, Tryz.ntmps17
    go_wp2
    go_ret2
    exact ⟨by rw [HV.out.1, HV.out.2]; rfl, HF.out.2.1⟩
  by_cases h2 : 64 < regs
  · have HV := Lib.hid (chk_regs regs n q (.inr h2))
    go_enter Tryz.func17, Tryz.ntmps17
    go_wp2
    go_ret2
    exact ⟨by rw [HV.out.1, HV.out.2]; rfl, HF.out.2.1⟩
  by_cases h3 : n = 0
  · subst h3
    have HV := Lib.hid (chk_len regs 0 q (by omega) (.inl rfl))
    go_enter Tryz.func17, Tryz.ntmps17
    go_wp2
    go_ret2
    exact ⟨by rw [HV.out.1, HV.out.2]; rfl, HF.out.2.1⟩
  have h3' : ((n : Int) == 0) = false := beq_false_of_ne (by omega)
  have h3'' : ¬ (n : Int) = 0 := by omega
  by_cases h4 : 65536 < n
  · have HV := Lib.hid (chk_len regs n q (by omega) (.inr h4))
    have h4' : (65536 : Int) < (n : Int) := by omega
    go_enter Tryz.func17, Tryz.ntmps17
    go_wp2
    go_ret2
    exact ⟨by rw [HV.out.1, HV.out.2]; rfl, HF.out.2.1⟩
  have h4' : ¬ (65536 : Int) < (n : Int) := by omega
  have H1 : Hid (∀ V i, i < n → IrAt V A n q → Calls Tryz.prog 41 #[mirV regs A n cap, .int .i64 (i : Int)] V (OneMP regs n (q i) i V)) := Lib.hid fun V i hi hV => r_One regs A n cap q i V hi hV
  unfold OneMP at H1
  go_enter Tryz.func17, Tryz.ntmps17
  go_wp2
  go_loopw [4] (fun v wr => ∃ k : Nat, k ≤ n ∧ v = .int .i64 (k : Int) ∧ (∀ j, j < k → oneM regs n (q j) j = 0) ∧ FM w wr regs A n cap q) (fun v _ => n - (intOf v).toNat)
  case atStart => exact ⟨0, by omega, rfl, fun j hj => absurd hj (by omega), HF.out⟩
  case round =>
    obtain ⟨k, hk, rfl, hbad, hF⟩ := hrel
    clear HF
    have HF := Lib.hid hF
    have HBad := Lib.hid hbad
    have b0 := cellM hF.2.2 0 rfl
    have b1 := cellM hF.2.2 1 rfl
    clear hF hbad
    by_cases hlt : k < n
    · have hlt' : (k : Int) < (n : Int) := by omega
      have HC := Lib.hid (H1.out wr k hlt HF.out.1)
      by_cases hE : oneM regs n (q k) k = 0
      · rw [hE] at HC
        have HE := Lib.hid hE
        clear hE
        go_wp2_with (go_at_call 41; (with_reducible refine HC.out.mono ?_); rintro e w2 ⟨rfl, hB⟩; have HF2 := Lib.hid (HF.out.up hB); clear hB HF)
        exact ⟨⟨k + 1, by omega, by go_num, fun j hj => by
          rcases Nat.lt_or_ge j k with g | g
          · exact HBad.out j g
          · rw [show j = k by omega]; exact HE.out, HF2.out⟩, by simp [intOf]; omega⟩
      · have HV := Lib.hid (chk_first regs n q (by omega) (by omega) hlt HBad.out hE)
        have hE' : (oneM regs n (q k) k != 0) = true := bne_iff_ne.2 hE
        generalize oneM regs n (q k) k = E at HC HV hE hE'
        go_wp2_with (go_at_call 41; (with_reducible refine HC.out.mono ?_); rintro e w2 ⟨rfl, hB⟩; have HF2 := Lib.hid (HF.out.up hB); clear hB HF)
        go_ret2
        exact ⟨by rw [HV.out.1, HV.out.2]; rfl, HF2.out.2.1⟩
    · obtain rfl : k = n := by omega
      have HV := Lib.hid (chk_last regs k q (by omega) (by omega) HBad.out)
      obtain ⟨qb, qo, rfl, hl, c0, _⟩ := ir_at HF.out.1 (show k - 1 < k by omega)
      have hw : IntKind.i64.wrap ((k : Int) - 1) = ((k - 1 : Nat) : Int) := by rw [IntWalk.i64_in _ (by have := HF.out.1.1; unfold maxLen at this; omega)]; omega
      have hB := Lib.hid HF.out.2.1
      clear HF
      by_cases hr : (q (k - 1)).op = 19
      · rw [hr] at c0
        rw [if_pos hr, if_pos hr] at HV
        clear hr
        go_wp2
        go_ret2
        exact ⟨by rw [HV.out.1, HV.out.2]; rfl, hB.out⟩
      · rw [if_neg hr, if_neg hr] at HV
        have hr' : ((q (k - 1)).op != 19) = true := bne_iff_ne.2 hr
        generalize (q (k - 1)).op = op at c0 hr hr'
        go_wp2
        go_quiet (fail)
        go_wp2
        go_ret2
        exact ⟨by rw [HV.out.1, HV.out.2]; rfl, below_drawn hB.out _⟩
end
end Go.Proofs.YtoajommeiocfpaaGreat
