/-
  What the document's One answers of an instruction of a program of registers: contracts. Conditions: those that each names.
-/
import Derived.Test.YtoajommeiocfpaaDoorMirOne
namespace Go.Proofs.YtoajommeiocfpaaDoor
open Go Go.RowKit
set_option linter.unusedSimpArgs false
set_option linter.unusedVariables false

set_option maxHeartbeats 2000000 in
theorem r_One_j (regs : Int) (A : Option Addr) (n cap : Nat) (op d a b : Int) (k : BitVec 32) (t f : Int) (i bb bo : Nat) (w : World) (hi : i < n) (hn : n ≤ maxLen) (hop : op = 14) (hA : A = some ⟨bb, bo, none⟩) (hl : bb < w.heap.size)
    (c0 : w.cell? ⟨bb, bo + i * 7, none⟩ = some (.int .i64 op)) (c1 : w.cell? ⟨bb, bo + i * 7 + 1, none⟩ = some (.int .i64 d)) (c2 : w.cell? ⟨bb, bo + i * 7 + 2, none⟩ = some (.int .i64 a)) (c3 : w.cell? ⟨bb, bo + i * 7 + 3, none⟩ = some (.int .i64 b)) (c4 : w.cell? ⟨bb, bo + i * 7 + 4, none⟩ = some (.int .u32 (k.toNat : Int))) (c5 : w.cell? ⟨bb, bo + i * 7 + 5, none⟩ = some (.int .i64 t)) (c6 : w.cell? ⟨bb, bo + i * 7 + 6, none⟩ = some (.int .i64 f)) :
    Calls Tryd.prog 45 #[mirV regs A n cap, .int .i64 (i : Int)] w (OneMP regs n ⟨op, d, a, b, k, t, f⟩ i w) := by
  subst hA
  subst hop
  have hi' : (i : Int) < (n : Int) := by omega
  have gd : dM 14 = false := rfl
  have ga : aM 14 = false := rfl
  have gb : bM 14 = false := rfl
  have gt : tM 14 = true := rfl
  have gf : fM 14 = false := rfl
  have HV := Lib.hid (one_is (regs := regs) (n := n) (d := d) (a := a) (b := b) (k := k) (t := t) (f := f) (i := i) (show 1 ≤ (14 : Int) ∧ (14 : Int) ≤ 19 by omega) gd ga gb gt gf)
  have HN := Lib.hid (fun W => r_Names 14 W)
  (try rw [gd] at HN); (try rw [ga] at HN); (try rw [gb] at HN); (try rw [gt] at HN); (try rw [gf] at HN)
  have HB := Lib.hid (show Below w.heap.size w ((w.alloc (mirO regs (some ⟨bb, bo, none⟩) n cap)).alloc (irO ⟨14, d, a, b, k, t, f⟩)) from onM (lboxM w _) (lboxM _ _))
  unfold OneMP
  obtain ⟨V, hV⟩ : ∃ V, oneM regs n ⟨14, d, a, b, k, t, f⟩ i = V := ⟨_, rfl⟩
  rw [hV] at HV ⊢
  clear hV gd ga gb gt gf
  by_cases lt : t ≤ (i : Int)
  · skip
    have HE := Lib.hid (HV.out.trans (show _ = (126 : Int) by rw [if_neg (by simp <;> omega), if_neg (by omega), if_pos (.inl ⟨rfl, .inl lt⟩)]))
    clear HV
    go_enter Tryd.func45, Tryd.ntmps45
    go_wp2_with (go_at_call 30; (with_reducible refine (HN.out _).mono ?_); rintro e w1 ⟨rfl, rfl⟩)
    go_ret
    exact ⟨ret_iM HE.out.symm, HB.out⟩
  by_cases rt : (n : Int) ≤ t
  · skip
    have HE := Lib.hid (HV.out.trans (show _ = (126 : Int) by rw [if_neg (by simp <;> omega), if_neg (by omega), if_pos (.inl ⟨rfl, .inr rt⟩)]))
    clear HV
    go_enter Tryd.func45, Tryd.ntmps45
    go_wp2_with (go_at_call 30; (with_reducible refine (HN.out _).mono ?_); rintro e w1 ⟨rfl, rfl⟩)
    go_ret
    exact ⟨ret_iM HE.out.symm, HB.out⟩
  have HE := Lib.hid (HV.out.trans (show _ = (0 : Int) by rw [if_neg (by simp <;> omega), if_neg (by omega), if_neg (by simp <;> omega)]))
  clear HV
  go_enter Tryd.func45, Tryd.ntmps45
  go_wp2_with (go_at_call 30; (with_reducible refine (HN.out _).mono ?_); rintro e w1 ⟨rfl, rfl⟩)
  go_ret
  exact ⟨ret_iM HE.out.symm, HB.out⟩
set_option maxHeartbeats 2000000 in
theorem r_One_i (regs : Int) (A : Option Addr) (n cap : Nat) (op d a b : Int) (k : BitVec 32) (t f : Int) (i bb bo : Nat) (w : World) (hi : i < n) (hn : n ≤ maxLen) (hop : 15 ≤ op ∧ op ≤ 18) (hA : A = some ⟨bb, bo, none⟩) (hl : bb < w.heap.size)
    (c0 : w.cell? ⟨bb, bo + i * 7, none⟩ = some (.int .i64 op)) (c1 : w.cell? ⟨bb, bo + i * 7 + 1, none⟩ = some (.int .i64 d)) (c2 : w.cell? ⟨bb, bo + i * 7 + 2, none⟩ = some (.int .i64 a)) (c3 : w.cell? ⟨bb, bo + i * 7 + 3, none⟩ = some (.int .i64 b)) (c4 : w.cell? ⟨bb, bo + i * 7 + 4, none⟩ = some (.int .u32 (k.toNat : Int))) (c5 : w.cell? ⟨bb, bo + i * 7 + 5, none⟩ = some (.int .i64 t)) (c6 : w.cell? ⟨bb, bo + i * 7 + 6, none⟩ = some (.int .i64 f)) :
    Calls Tryd.prog 45 #[mirV regs A n cap, .int .i64 (i : Int)] w (OneMP regs n ⟨op, d, a, b, k, t, f⟩ i w) := by
  subst hA
  have hi' : (i : Int) < (n : Int) := by omega
  have gd : dM op = false := by simp [dM]; omega
  have ga : aM op = true := by simp [aM]; omega
  have gb : bM op = true := by simp [bM]; omega
  have gt : tM op = true := by simp [tM]; omega
  have gf : fM op = true := by simp [fM]; omega
  have HV := Lib.hid (one_is (regs := regs) (n := n) (d := d) (a := a) (b := b) (k := k) (t := t) (f := f) (i := i) (show 1 ≤ (op : Int) ∧ (op : Int) ≤ 19 by omega) gd ga gb gt gf)
  have HN := Lib.hid (fun W => r_Names op W)
  (try rw [gd] at HN); (try rw [ga] at HN); (try rw [gb] at HN); (try rw [gt] at HN); (try rw [gf] at HN)
  have q1 : ¬ op < 1 := by omega
  have q2 : ¬ 19 < op := by omega
  have q3 : (op == 3) = false := beq_false_of_ne (by omega)
  have HB := Lib.hid (show Below w.heap.size w ((w.alloc (mirO regs (some ⟨bb, bo, none⟩) n cap)).alloc (irO ⟨op, d, a, b, k, t, f⟩)) from onM (lboxM w _) (lboxM _ _))
  unfold OneMP
  obtain ⟨V, hV⟩ : ∃ V, oneM regs n ⟨op, d, a, b, k, t, f⟩ i = V := ⟨_, rfl⟩
  rw [hV] at HV ⊢
  clear hV gd ga gb gt gf
  by_cases la : a < 0
  · skip
    have HE := Lib.hid (HV.out.trans (show _ = (124 : Int) by rw [if_pos (.inr (.inl ⟨rfl, .inl la⟩))]))
    clear HV
    go_enter Tryd.func45, Tryd.ntmps45
    go_wp2_with (go_at_call 30; (with_reducible refine (HN.out _).mono ?_); rintro e w1 ⟨rfl, rfl⟩)
    go_ret
    exact ⟨ret_iM HE.out.symm, HB.out⟩
  by_cases ra : regs ≤ a
  · skip
    have HE := Lib.hid (HV.out.trans (show _ = (124 : Int) by rw [if_pos (.inr (.inl ⟨rfl, .inr ra⟩))]))
    clear HV
    go_enter Tryd.func45, Tryd.ntmps45
    go_wp2_with (go_at_call 30; (with_reducible refine (HN.out _).mono ?_); rintro e w1 ⟨rfl, rfl⟩)
    go_ret
    exact ⟨ret_iM HE.out.symm, HB.out⟩
  by_cases lb : b < 0
  · skip
    have HE := Lib.hid (HV.out.trans (show _ = (124 : Int) by rw [if_pos (.inr (.inr ⟨rfl, .inl lb⟩))]))
    clear HV
    go_enter Tryd.func45, Tryd.ntmps45
    go_wp2_with (go_at_call 30; (with_reducible refine (HN.out _).mono ?_); rintro e w1 ⟨rfl, rfl⟩)
    go_ret
    exact ⟨ret_iM HE.out.symm, HB.out⟩
  by_cases rb : regs ≤ b
  · skip
    have HE := Lib.hid (HV.out.trans (show _ = (124 : Int) by rw [if_pos (.inr (.inr ⟨rfl, .inr rb⟩))]))
    clear HV
    go_enter Tryd.func45, Tryd.ntmps45
    go_wp2_with (go_at_call 30; (with_reducible refine (HN.out _).mono ?_); rintro e w1 ⟨rfl, rfl⟩)
    go_ret
    exact ⟨ret_iM HE.out.symm, HB.out⟩
  by_cases lt : t ≤ (i : Int)
  · skip
    have HE := Lib.hid (HV.out.trans (show _ = (126 : Int) by rw [if_neg (by simp <;> omega), if_neg (by omega), if_pos (.inl ⟨rfl, .inl lt⟩)]))
    clear HV
    go_enter Tryd.func45, Tryd.ntmps45
    go_wp2_with (go_at_call 30; (with_reducible refine (HN.out _).mono ?_); rintro e w1 ⟨rfl, rfl⟩)
    go_ret
    exact ⟨ret_iM HE.out.symm, HB.out⟩
  by_cases rt : (n : Int) ≤ t
  · skip
    have HE := Lib.hid (HV.out.trans (show _ = (126 : Int) by rw [if_neg (by simp <;> omega), if_neg (by omega), if_pos (.inl ⟨rfl, .inr rt⟩)]))
    clear HV
    go_enter Tryd.func45, Tryd.ntmps45
    go_wp2_with (go_at_call 30; (with_reducible refine (HN.out _).mono ?_); rintro e w1 ⟨rfl, rfl⟩)
    go_ret
    exact ⟨ret_iM HE.out.symm, HB.out⟩
  by_cases lf : f ≤ (i : Int)
  · skip
    have HE := Lib.hid (HV.out.trans (show _ = (126 : Int) by rw [if_neg (by simp <;> omega), if_neg (by omega), if_pos (.inr ⟨rfl, .inl lf⟩)]))
    clear HV
    go_enter Tryd.func45, Tryd.ntmps45
    go_wp2_with (go_at_call 30; (with_reducible refine (HN.out _).mono ?_); rintro e w1 ⟨rfl, rfl⟩)
    go_ret
    exact ⟨ret_iM HE.out.symm, HB.out⟩
  by_cases rf : (n : Int) ≤ f
  · skip
    have HE := Lib.hid (HV.out.trans (show _ = (126 : Int) by rw [if_neg (by simp <;> omega), if_neg (by omega), if_pos (.inr ⟨rfl, .inr rf⟩)]))
    clear HV
    go_enter Tryd.func45, Tryd.ntmps45
    go_wp2_with (go_at_call 30; (with_reducible refine (HN.out _).mono ?_); rintro e w1 ⟨rfl, rfl⟩)
    go_ret
    exact ⟨ret_iM HE.out.symm, HB.out⟩
  have HE := Lib.hid (HV.out.trans (show _ = (0 : Int) by rw [if_neg (by simp <;> omega), if_neg (by omega), if_neg (by simp <;> omega)]))
  clear HV
  go_enter Tryd.func45, Tryd.ntmps45
  go_wp2_with (go_at_call 30; (with_reducible refine (HN.out _).mono ?_); rintro e w1 ⟨rfl, rfl⟩)
  go_ret
  exact ⟨ret_iM HE.out.symm, HB.out⟩
set_option maxHeartbeats 2000000 in
theorem r_One_r (regs : Int) (A : Option Addr) (n cap : Nat) (op d a b : Int) (k : BitVec 32) (t f : Int) (i bb bo : Nat) (w : World) (hi : i < n) (hn : n ≤ maxLen) (hop : op = 19) (hA : A = some ⟨bb, bo, none⟩) (hl : bb < w.heap.size)
    (c0 : w.cell? ⟨bb, bo + i * 7, none⟩ = some (.int .i64 op)) (c1 : w.cell? ⟨bb, bo + i * 7 + 1, none⟩ = some (.int .i64 d)) (c2 : w.cell? ⟨bb, bo + i * 7 + 2, none⟩ = some (.int .i64 a)) (c3 : w.cell? ⟨bb, bo + i * 7 + 3, none⟩ = some (.int .i64 b)) (c4 : w.cell? ⟨bb, bo + i * 7 + 4, none⟩ = some (.int .u32 (k.toNat : Int))) (c5 : w.cell? ⟨bb, bo + i * 7 + 5, none⟩ = some (.int .i64 t)) (c6 : w.cell? ⟨bb, bo + i * 7 + 6, none⟩ = some (.int .i64 f)) :
    Calls Tryd.prog 45 #[mirV regs A n cap, .int .i64 (i : Int)] w (OneMP regs n ⟨op, d, a, b, k, t, f⟩ i w) := by
  subst hA
  subst hop
  have hi' : (i : Int) < (n : Int) := by omega
  have gd : dM 19 = false := rfl
  have ga : aM 19 = true := rfl
  have gb : bM 19 = false := rfl
  have gt : tM 19 = false := rfl
  have gf : fM 19 = false := rfl
  have HV := Lib.hid (one_is (regs := regs) (n := n) (d := d) (a := a) (b := b) (k := k) (t := t) (f := f) (i := i) (show 1 ≤ (19 : Int) ∧ (19 : Int) ≤ 19 by omega) gd ga gb gt gf)
  have HN := Lib.hid (fun W => r_Names 19 W)
  (try rw [gd] at HN); (try rw [ga] at HN); (try rw [gb] at HN); (try rw [gt] at HN); (try rw [gf] at HN)
  have HB := Lib.hid (show Below w.heap.size w ((w.alloc (mirO regs (some ⟨bb, bo, none⟩) n cap)).alloc (irO ⟨19, d, a, b, k, t, f⟩)) from onM (lboxM w _) (lboxM _ _))
  unfold OneMP
  obtain ⟨V, hV⟩ : ∃ V, oneM regs n ⟨19, d, a, b, k, t, f⟩ i = V := ⟨_, rfl⟩
  rw [hV] at HV ⊢
  clear hV gd ga gb gt gf
  by_cases la : a < 0
  · skip
    have HE := Lib.hid (HV.out.trans (show _ = (124 : Int) by rw [if_pos (.inr (.inl ⟨rfl, .inl la⟩))]))
    clear HV
    go_enter Tryd.func45, Tryd.ntmps45
    go_wp2_with (go_at_call 30; (with_reducible refine (HN.out _).mono ?_); rintro e w1 ⟨rfl, rfl⟩)
    go_ret
    exact ⟨ret_iM HE.out.symm, HB.out⟩
  by_cases ra : regs ≤ a
  · skip
    have HE := Lib.hid (HV.out.trans (show _ = (124 : Int) by rw [if_pos (.inr (.inl ⟨rfl, .inr ra⟩))]))
    clear HV
    go_enter Tryd.func45, Tryd.ntmps45
    go_wp2_with (go_at_call 30; (with_reducible refine (HN.out _).mono ?_); rintro e w1 ⟨rfl, rfl⟩)
    go_ret
    exact ⟨ret_iM HE.out.symm, HB.out⟩
  have HE := Lib.hid (HV.out.trans (show _ = (0 : Int) by rw [if_neg (by simp <;> omega), if_neg (by omega), if_neg (by simp <;> omega)]))
  clear HV
  go_enter Tryd.func45, Tryd.ntmps45
  go_wp2_with (go_at_call 30; (with_reducible refine (HN.out _).mono ?_); rintro e w1 ⟨rfl, rfl⟩)
  go_ret
  exact ⟨ret_iM HE.out.symm, HB.out⟩
set_option maxHeartbeats 2000000 in
theorem r_One_no (regs : Int) (A : Option Addr) (n cap : Nat) (op d a b : Int) (k : BitVec 32) (t f : Int) (i bb bo : Nat) (w : World) (hi : i < n) (hn : n ≤ maxLen) (hop : op < 1 ∨ 19 < op) (hA : A = some ⟨bb, bo, none⟩) (hl : bb < w.heap.size)
    (c0 : w.cell? ⟨bb, bo + i * 7, none⟩ = some (.int .i64 op)) (c1 : w.cell? ⟨bb, bo + i * 7 + 1, none⟩ = some (.int .i64 d)) (c2 : w.cell? ⟨bb, bo + i * 7 + 2, none⟩ = some (.int .i64 a)) (c3 : w.cell? ⟨bb, bo + i * 7 + 3, none⟩ = some (.int .i64 b)) (c4 : w.cell? ⟨bb, bo + i * 7 + 4, none⟩ = some (.int .u32 (k.toNat : Int))) (c5 : w.cell? ⟨bb, bo + i * 7 + 5, none⟩ = some (.int .i64 t)) (c6 : w.cell? ⟨bb, bo + i * 7 + 6, none⟩ = some (.int .i64 f)) :
    Calls Tryd.prog 45 #[mirV regs A n cap, .int .i64 (i : Int)] w (OneMP regs n ⟨op, d, a, b, k, t, f⟩ i w) := by
  subst hA
  have hi' : (i : Int) < (n : Int) := by omega
  have HV : Hid (oneM regs n ⟨op, d, a, b, k, t, f⟩ i = 123) := Lib.hid (by unfold oneM; simp only; rw [if_pos hop])
  have HB := Lib.hid (show Below w.heap.size w ((w.alloc (mirO regs (some ⟨bb, bo, none⟩) n cap)).alloc (irO ⟨op, d, a, b, k, t, f⟩)) from onM (lboxM w _) (lboxM _ _))
  unfold OneMP
  by_cases q1 : op < 1
  · go_enter Tryd.func45, Tryd.ntmps45
    go_wp2
    go_ret
    exact ⟨ret_iM HV.out.symm, HB.out⟩
  · have q2 : 19 < op := by omega
    go_enter Tryd.func45, Tryd.ntmps45
    go_wp2
    go_ret
    exact ⟨ret_iM HV.out.symm, HB.out⟩
theorem r_One (regs : Int) (A : Option Addr) (n cap : Nat) (q : Nat → Irx) (i : Nat) (w : World) (hi : i < n) (h : IrAt w A n q) : Calls Tryd.prog 45 #[mirV regs A n cap, .int .i64 (i : Int)] w (OneMP regs n (q i) i w) := by
  obtain ⟨bb, bo, hA, hl, c0, c1, c2, c3, c4, c5, c6⟩ := ir_at h hi
  have hn := h.1
  generalize q i = x at *
  obtain ⟨op, d, a, b, k, t, f⟩ := x
  by_cases ho : op < 1 ∨ 19 < op
  · exact r_One_no regs A n cap op d a b k t f i bb bo w hi hn ho hA hl c0 c1 c2 c3 c4 c5 c6
  rcases op_kinds (op := op) (by omega) with (g | g) | (g | g) | g | g | g | g
  · exact r_One_c regs A n cap op d a b k t f i bb bo w hi hn g hA hl c0 c1 c2 c3 c4 c5 c6
  · exact r_One_l regs A n cap op d a b k t f i bb bo w hi hn g hA hl c0 c1 c2 c3 c4 c5 c6
  · exact r_One_m regs A n cap op d a b k t f i bb bo w hi hn g hA hl c0 c1 c2 c3 c4 c5 c6
  · exact r_One_n regs A n cap op d a b k t f i bb bo w hi hn g hA hl c0 c1 c2 c3 c4 c5 c6
  · exact r_One_w regs A n cap op d a b k t f i bb bo w hi hn g hA hl c0 c1 c2 c3 c4 c5 c6
  · exact r_One_j regs A n cap op d a b k t f i bb bo w hi hn g hA hl c0 c1 c2 c3 c4 c5 c6
  · exact r_One_i regs A n cap op d a b k t f i bb bo w hi hn g hA hl c0 c1 c2 c3 c4 c5 c6
  · exact r_One_r regs A n cap op d a b k t f i bb bo w hi hn g hA hl c0 c1 c2 c3 c4 c5 c6
end Go.Proofs.YtoajommeiocfpaaDoor
