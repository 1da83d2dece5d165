/-
  What the document's One answers of an instruction of a program of registers: contracts. Conditions: those that each names.
-/
import Derived.Test.YtoajommeiocfpaaDoorMirMem
namespace Go.Proofs.YtoajommeiocfpaaDoor
open Go Go.RowKit
set_option linter.unusedSimpArgs false
set_option linter.unusedVariables false

/-- What a look at one instruction leaves. -/
def OneMP (regs : Int) (n : Nat) (x : Irx) (i : Nat) (w : World) (e : Ending) (w' : World) : Prop := e = .returned (.int .i64 (oneM regs n x i)) ∧ Below w.heap.size w w'
theorem one_is {regs : Int} {n : Nat} {op d a b : Int} {k : BitVec 32} {t f : Int} {i : Nat} {bd ba bb bt bf : Bool} (h1 : 1 ≤ op ∧ op ≤ 19) (hd : dM op = bd) (ha : aM op = ba) (hb : bM op = bb) (ht : tM op = bt) (hf : fM op = bf) :
    oneM regs n ⟨op, d, a, b, k, t, f⟩ i = if (bd = true ∧ (d < 0 ∨ regs ≤ d)) ∨ (ba = true ∧ (a < 0 ∨ regs ≤ a)) ∨ (bb = true ∧ (b < 0 ∨ regs ≤ b)) then 124
      else if op = 3 ∧ (60 < k.toNat ∨ k.toNat % 4 ≠ 0) then 125
      else if (bt = true ∧ (t ≤ (i : Int) ∨ (n : Int) ≤ t)) ∨ (bf = true ∧ (f ≤ (i : Int) ∨ (n : Int) ≤ f)) then 126 else 0 := by
  subst hd ha hb ht hf
  unfold oneM
  simp only
  rw [if_neg (by omega)]
set_option maxHeartbeats 2000000 in
theorem r_One_c (regs : Int) (A : Option Addr) (n cap : Nat) (op d a b : Int) (k : BitVec 32) (t f : Int) (i bb bo : Nat) (w : World) (hi : i < n) (hn : n ≤ maxLen) (hop : op = 1) (hA : A = some ⟨bb, bo, none⟩) (hl : bb < w.heap.size)
    (c0 : w.cell? ⟨bb, bo + i * 7, none⟩ = some (.int .i64 op)) (c1 : w.cell? ⟨bb, bo + i * 7 + 1, none⟩ = some (.int .i64 d)) (c2 : w.cell? ⟨bb, bo + i * 7 + 2, none⟩ = some (.int .i64 a)) (c3 : w.cell? ⟨bb, bo + i * 7 + 3, none⟩ = some (.int .i64 b)) (c4 : w.cell? ⟨bb, bo + i * 7 + 4, none⟩ = some (.int .u32 (k.toNat : Int))) (c5 : w.cell? ⟨bb, bo + i * 7 + 5, none⟩ = some (.int .i64 t)) (c6 : w.cell? ⟨bb, bo + i * 7 + 6, none⟩ = some (.int .i64 f)) :
    Calls Tryd.prog 45 #[mirV regs A n cap, .int .i64 (i : Int)] w (OneMP regs n ⟨op, d, a, b, k, t, f⟩ i w) := by
  subst hA
  subst hop
  have hi' : (i : Int) < (n : Int) := by omega
  have gd : dM 1 = true := rfl
  have ga : aM 1 = false := rfl
  have gb : bM 1 = false := rfl
  have gt : tM 1 = false := rfl
  have gf : fM 1 = false := rfl
  have HV := Lib.hid (one_is (regs := regs) (n := n) (d := d) (a := a) (b := b) (k := k) (t := t) (f := f) (i := i) (show 1 ≤ (1 : Int) ∧ (1 : Int) ≤ 19 by omega) gd ga gb gt gf)
  have HN := Lib.hid (fun W => r_Names 1 W)
  (try rw [gd] at HN); (try rw [ga] at HN); (try rw [gb] at HN); (try rw [gt] at HN); (try rw [gf] at HN)
  have HB := Lib.hid (show Below w.heap.size w ((w.alloc (mirO regs (some ⟨bb, bo, none⟩) n cap)).alloc (irO ⟨1, d, a, b, k, t, f⟩)) from onM (lboxM w _) (lboxM _ _))
  unfold OneMP
  obtain ⟨V, hV⟩ : ∃ V, oneM regs n ⟨1, d, a, b, k, t, f⟩ i = V := ⟨_, rfl⟩
  rw [hV] at HV ⊢
  clear hV gd ga gb gt gf
  by_cases ld : d < 0
  · skip
    have HE := Lib.hid (HV.out.trans (show _ = (124 : Int) by rw [if_pos (.inl ⟨rfl, .inl ld⟩)]))
    clear HV
    go_enter Tryd.func45, Tryd.ntmps45
    go_wp2_with (go_at_call 30; (with_reducible refine (HN.out _).mono ?_); rintro e w1 ⟨rfl, rfl⟩)
    go_ret
    exact ⟨ret_iM HE.out.symm, HB.out⟩
  by_cases rd : regs ≤ d
  · skip
    have HE := Lib.hid (HV.out.trans (show _ = (124 : Int) by rw [if_pos (.inl ⟨rfl, .inr rd⟩)]))
    clear HV
    go_enter Tryd.func45, Tryd.ntmps45
    go_wp2_with (go_at_call 30; (with_reducible refine (HN.out _).mono ?_); rintro e w1 ⟨rfl, rfl⟩)
    go_ret
    exact ⟨ret_iM HE.out.symm, HB.out⟩
  have HE := Lib.hid (HV.out.trans (show _ = (0 : Int) by rw [if_neg (by simp <;> omega), if_neg (by omega), if_neg (by simp <;> omega)]))
  clear HV
  go_enter Tryd.func45, Tryd.ntmps45
  go_wp2_with (go_at_call 30; (with_reducible refine (HN.out _).mono ?_); rintro e w1 ⟨rfl, rfl⟩)
  go_ret
  exact ⟨ret_iM HE.out.symm, HB.out⟩
set_option maxHeartbeats 2000000 in
theorem r_One_l (regs : Int) (A : Option Addr) (n cap : Nat) (op d a b : Int) (k : BitVec 32) (t f : Int) (i bb bo : Nat) (w : World) (hi : i < n) (hn : n ≤ maxLen) (hop : op = 3) (hA : A = some ⟨bb, bo, none⟩) (hl : bb < w.heap.size)
    (c0 : w.cell? ⟨bb, bo + i * 7, none⟩ = some (.int .i64 op)) (c1 : w.cell? ⟨bb, bo + i * 7 + 1, none⟩ = some (.int .i64 d)) (c2 : w.cell? ⟨bb, bo + i * 7 + 2, none⟩ = some (.int .i64 a)) (c3 : w.cell? ⟨bb, bo + i * 7 + 3, none⟩ = some (.int .i64 b)) (c4 : w.cell? ⟨bb, bo + i * 7 + 4, none⟩ = some (.int .u32 (k.toNat : Int))) (c5 : w.cell? ⟨bb, bo + i * 7 + 5, none⟩ = some (.int .i64 t)) (c6 : w.cell? ⟨bb, bo + i * 7 + 6, none⟩ = some (.int .i64 f)) :
    Calls Tryd.prog 45 #[mirV regs A n cap, .int .i64 (i : Int)] w (OneMP regs n ⟨op, d, a, b, k, t, f⟩ i w) := by
  subst hA
  subst hop
  have hi' : (i : Int) < (n : Int) := by omega
  have gd : dM 3 = true := rfl
  have ga : aM 3 = false := rfl
  have gb : bM 3 = false := rfl
  have gt : tM 3 = false := rfl
  have gf : fM 3 = false := rfl
  have HV := Lib.hid (one_is (regs := regs) (n := n) (d := d) (a := a) (b := b) (k := k) (t := t) (f := f) (i := i) (show 1 ≤ (3 : Int) ∧ (3 : Int) ≤ 19 by omega) gd ga gb gt gf)
  have HN := Lib.hid (fun W => r_Names 3 W)
  (try rw [gd] at HN); (try rw [ga] at HN); (try rw [gb] at HN); (try rw [gt] at HN); (try rw [gf] at HN)
  have HB := Lib.hid (show Below w.heap.size w ((w.alloc (mirO regs (some ⟨bb, bo, none⟩) n cap)).alloc (irO ⟨3, d, a, b, k, t, f⟩)) from onM (lboxM w _) (lboxM _ _))
  unfold OneMP
  obtain ⟨V, hV⟩ : ∃ V, oneM regs n ⟨3, d, a, b, k, t, f⟩ i = V := ⟨_, rfl⟩
  rw [hV] at HV ⊢
  clear hV gd ga gb gt gf
  by_cases ld : d < 0
  · skip
    have HE := Lib.hid (HV.out.trans (show _ = (124 : Int) by rw [if_pos (.inl ⟨rfl, .inl ld⟩)]))
    clear HV
    go_enter Tryd.func45, Tryd.ntmps45
    go_wp2_with (go_at_call 30; (with_reducible refine (HN.out _).mono ?_); rintro e w1 ⟨rfl, rfl⟩)
    go_ret
    exact ⟨ret_iM HE.out.symm, HB.out⟩
  by_cases rd : regs ≤ d
  · skip
    have HE := Lib.hid (HV.out.trans (show _ = (124 : Int) by rw [if_pos (.inl ⟨rfl, .inr rd⟩)]))
    clear HV
    go_enter Tryd.func45, Tryd.ntmps45
    go_wp2_with (go_at_call 30; (with_reducible refine (HN.out _).mono ?_); rintro e w1 ⟨rfl, rfl⟩)
    go_ret
    exact ⟨ret_iM HE.out.symm, HB.out⟩
  by_cases k1 : 60 < k.toNat
  · have k1' : (60 : Int) < (k.toNat : Int) := by omega
    have HE := Lib.hid (HV.out.trans (show _ = (125 : Int) by rw [if_neg (by simp <;> omega), if_pos ⟨rfl, .inl k1⟩]))
    clear HV
    go_enter Tryd.func45, Tryd.ntmps45
    go_wp2_with (go_at_call 30; (with_reducible refine (HN.out _).mono ?_); rintro e w1 ⟨rfl, rfl⟩)
    go_ret
    exact ⟨ret_iM HE.out.symm, HB.out⟩
  have k1' : ¬ (60 : Int) < (k.toNat : Int) := by omega
  have km : (k.toNat : Int).tmod 4 = ((k.toNat % 4 : Nat) : Int) := by rw [Int.tmod_eq_emod_of_nonneg (by omega)]; omega
  by_cases k2 : k.toNat % 4 = 0
  · rw [k2] at km
    have HE := Lib.hid (HV.out.trans (show _ = (0 : Int) by rw [if_neg (by simp <;> omega), if_neg (by omega), if_neg (by simp)]))
    clear HV
    go_enter Tryd.func45, Tryd.ntmps45
    go_wp2_with (go_at_call 30; (with_reducible refine (HN.out _).mono ?_); rintro e w1 ⟨rfl, rfl⟩)
    go_ret
    exact ⟨ret_iM HE.out.symm, HB.out⟩
  · have km2 : (((k.toNat % 4 : Nat) : Int) != 0) = true := bne_iff_ne.2 (by omega)
    have km3 : ¬ ((k.toNat % 4 : Nat) : Int) = 0 := by omega
    generalize ((k.toNat % 4 : Nat) : Int) = m4 at km km2 km3
    have HE := Lib.hid (HV.out.trans (show _ = (125 : Int) by rw [if_neg (by simp <;> omega), if_pos ⟨rfl, .inr k2⟩]))
    clear HV
    go_enter Tryd.func45, Tryd.ntmps45
    go_wp2_with (go_at_call 30; (with_reducible refine (HN.out _).mono ?_); rintro e w1 ⟨rfl, rfl⟩)
    go_ret
    exact ⟨ret_iM HE.out.symm, HB.out⟩
set_option maxHeartbeats 2000000 in
theorem r_One_m (regs : Int) (A : Option Addr) (n cap : Nat) (op d a b : Int) (k : BitVec 32) (t f : Int) (i bb bo : Nat) (w : World) (hi : i < n) (hn : n ≤ maxLen) (hop : op = 2) (hA : A = some ⟨bb, bo, none⟩) (hl : bb < w.heap.size)
    (c0 : w.cell? ⟨bb, bo + i * 7, none⟩ = some (.int .i64 op)) (c1 : w.cell? ⟨bb, bo + i * 7 + 1, none⟩ = some (.int .i64 d)) (c2 : w.cell? ⟨bb, bo + i * 7 + 2, none⟩ = some (.int .i64 a)) (c3 : w.cell? ⟨bb, bo + i * 7 + 3, none⟩ = some (.int .i64 b)) (c4 : w.cell? ⟨bb, bo + i * 7 + 4, none⟩ = some (.int .u32 (k.toNat : Int))) (c5 : w.cell? ⟨bb, bo + i * 7 + 5, none⟩ = some (.int .i64 t)) (c6 : w.cell? ⟨bb, bo + i * 7 + 6, none⟩ = some (.int .i64 f)) :
    Calls Tryd.prog 45 #[mirV regs A n cap, .int .i64 (i : Int)] w (OneMP regs n ⟨op, d, a, b, k, t, f⟩ i w) := by
  subst hA
  subst hop
  have hi' : (i : Int) < (n : Int) := by omega
  have gd : dM 2 = true := rfl
  have ga : aM 2 = true := rfl
  have gb : bM 2 = false := rfl
  have gt : tM 2 = false := rfl
  have gf : fM 2 = false := rfl
  have HV := Lib.hid (one_is (regs := regs) (n := n) (d := d) (a := a) (b := b) (k := k) (t := t) (f := f) (i := i) (show 1 ≤ (2 : Int) ∧ (2 : Int) ≤ 19 by omega) gd ga gb gt gf)
  have HN := Lib.hid (fun W => r_Names 2 W)
  (try rw [gd] at HN); (try rw [ga] at HN); (try rw [gb] at HN); (try rw [gt] at HN); (try rw [gf] at HN)
  have HB := Lib.hid (show Below w.heap.size w ((w.alloc (mirO regs (some ⟨bb, bo, none⟩) n cap)).alloc (irO ⟨2, d, a, b, k, t, f⟩)) from onM (lboxM w _) (lboxM _ _))
  unfold OneMP
  obtain ⟨V, hV⟩ : ∃ V, oneM regs n ⟨2, d, a, b, k, t, f⟩ i = V := ⟨_, rfl⟩
  rw [hV] at HV ⊢
  clear hV gd ga gb gt gf
  by_cases ld : d < 0
  · skip
    have HE := Lib.hid (HV.out.trans (show _ = (124 : Int) by rw [if_pos (.inl ⟨rfl, .inl ld⟩)]))
    clear HV
    go_enter Tryd.func45, Tryd.ntmps45
    go_wp2_with (go_at_call 30; (with_reducible refine (HN.out _).mono ?_); rintro e w1 ⟨rfl, rfl⟩)
    go_ret
    exact ⟨ret_iM HE.out.symm, HB.out⟩
  by_cases rd : regs ≤ d
  · skip
    have HE := Lib.hid (HV.out.trans (show _ = (124 : Int) by rw [if_pos (.inl ⟨rfl, .inr rd⟩)]))
    clear HV
    go_enter Tryd.func45, Tryd.ntmps45
    go_wp2_with (go_at_call 30; (with_reducible refine (HN.out _).mono ?_); rintro e w1 ⟨rfl, rfl⟩)
    go_ret
    exact ⟨ret_iM HE.out.symm, HB.out⟩
  by_cases la : a < 0
  · skip
    have HE := Lib.hid (HV.out.trans (show _ = (124 : Int) by rw [if_pos (.inr (.inl ⟨rfl, .inl la⟩))]))
    clear HV
    go_enter Tryd.func45, Tryd.ntmps45
    go_wp2_with (go_at_call 30; (with_reducible refine (HN.out _).mono ?_); rintro e w1 ⟨rfl, rfl⟩)
    go_ret
    exact ⟨ret_iM HE.out.symm, HB.out⟩
  by_cases ra : regs ≤ a
  · skip
    have HE := Lib.hid (HV.out.trans (show _ = (124 : Int) by rw [if_pos (.inr (.inl ⟨rfl, .inr ra⟩))]))
    clear HV
    go_enter Tryd.func45, Tryd.ntmps45
    go_wp2_with (go_at_call 30; (with_reducible refine (HN.out _).mono ?_); rintro e w1 ⟨rfl, rfl⟩)
    go_ret
    exact ⟨ret_iM HE.out.symm, HB.out⟩
  have HE := Lib.hid (HV.out.trans (show _ = (0 : Int) by rw [if_neg (by simp <;> omega), if_neg (by omega), if_neg (by simp <;> omega)]))
  clear HV
  go_enter Tryd.func45, Tryd.ntmps45
  go_wp2_with (go_at_call 30; (with_reducible refine (HN.out _).mono ?_); rintro e w1 ⟨rfl, rfl⟩)
  go_ret
  exact ⟨ret_iM HE.out.symm, HB.out⟩
set_option maxHeartbeats 2000000 in
theorem r_One_n (regs : Int) (A : Option Addr) (n cap : Nat) (op d a b : Int) (k : BitVec 32) (t f : Int) (i bb bo : Nat) (w : World) (hi : i < n) (hn : n ≤ maxLen) (hop : op = 13) (hA : A = some ⟨bb, bo, none⟩) (hl : bb < w.heap.size)
    (c0 : w.cell? ⟨bb, bo + i * 7, none⟩ = some (.int .i64 op)) (c1 : w.cell? ⟨bb, bo + i * 7 + 1, none⟩ = some (.int .i64 d)) (c2 : w.cell? ⟨bb, bo + i * 7 + 2, none⟩ = some (.int .i64 a)) (c3 : w.cell? ⟨bb, bo + i * 7 + 3, none⟩ = some (.int .i64 b)) (c4 : w.cell? ⟨bb, bo + i * 7 + 4, none⟩ = some (.int .u32 (k.toNat : Int))) (c5 : w.cell? ⟨bb, bo + i * 7 + 5, none⟩ = some (.int .i64 t)) (c6 : w.cell? ⟨bb, bo + i * 7 + 6, none⟩ = some (.int .i64 f)) :
    Calls Tryd.prog 45 #[mirV regs A n cap, .int .i64 (i : Int)] w (OneMP regs n ⟨op, d, a, b, k, t, f⟩ i w) := by
  subst hA
  subst hop
  have hi' : (i : Int) < (n : Int) := by omega
  have gd : dM 13 = true := rfl
  have ga : aM 13 = true := rfl
  have gb : bM 13 = false := rfl
  have gt : tM 13 = false := rfl
  have gf : fM 13 = false := rfl
  have HV := Lib.hid (one_is (regs := regs) (n := n) (d := d) (a := a) (b := b) (k := k) (t := t) (f := f) (i := i) (show 1 ≤ (13 : Int) ∧ (13 : Int) ≤ 19 by omega) gd ga gb gt gf)
  have HN := Lib.hid (fun W => r_Names 13 W)
  (try rw [gd] at HN); (try rw [ga] at HN); (try rw [gb] at HN); (try rw [gt] at HN); (try rw [gf] at HN)
  have HB := Lib.hid (show Below w.heap.size w ((w.alloc (mirO regs (some ⟨bb, bo, none⟩) n cap)).alloc (irO ⟨13, d, a, b, k, t, f⟩)) from onM (lboxM w _) (lboxM _ _))
  unfold OneMP
  obtain ⟨V, hV⟩ : ∃ V, oneM regs n ⟨13, d, a, b, k, t, f⟩ i = V := ⟨_, rfl⟩
  rw [hV] at HV ⊢
  clear hV gd ga gb gt gf
  by_cases ld : d < 0
  · skip
    have HE := Lib.hid (HV.out.trans (show _ = (124 : Int) by rw [if_pos (.inl ⟨rfl, .inl ld⟩)]))
    clear HV
    go_enter Tryd.func45, Tryd.ntmps45
    go_wp2_with (go_at_call 30; (with_reducible refine (HN.out _).mono ?_); rintro e w1 ⟨rfl, rfl⟩)
    go_ret
    exact ⟨ret_iM HE.out.symm, HB.out⟩
  by_cases rd : regs ≤ d
  · skip
    have HE := Lib.hid (HV.out.trans (show _ = (124 : Int) by rw [if_pos (.inl ⟨rfl, .inr rd⟩)]))
    clear HV
    go_enter Tryd.func45, Tryd.ntmps45
    go_wp2_with (go_at_call 30; (with_reducible refine (HN.out _).mono ?_); rintro e w1 ⟨rfl, rfl⟩)
    go_ret
    exact ⟨ret_iM HE.out.symm, HB.out⟩
  by_cases la : a < 0
  · skip
    have HE := Lib.hid (HV.out.trans (show _ = (124 : Int) by rw [if_pos (.inr (.inl ⟨rfl, .inl la⟩))]))
    clear HV
    go_enter Tryd.func45, Tryd.ntmps45
    go_wp2_with (go_at_call 30; (with_reducible refine (HN.out _).mono ?_); rintro e w1 ⟨rfl, rfl⟩)
    go_ret
    exact ⟨ret_iM HE.out.symm, HB.out⟩
  by_cases ra : regs ≤ a
  · skip
    have HE := Lib.hid (HV.out.trans (show _ = (124 : Int) by rw [if_pos (.inr (.inl ⟨rfl, .inr ra⟩))]))
    clear HV
    go_enter Tryd.func45, Tryd.ntmps45
    go_wp2_with (go_at_call 30; (with_reducible refine (HN.out _).mono ?_); rintro e w1 ⟨rfl, rfl⟩)
    go_ret
    exact ⟨ret_iM HE.out.symm, HB.out⟩
  have HE := Lib.hid (HV.out.trans (show _ = (0 : Int) by rw [if_neg (by simp <;> omega), if_neg (by omega), if_neg (by simp <;> omega)]))
  clear HV
  go_enter Tryd.func45, Tryd.ntmps45
  go_wp2_with (go_at_call 30; (with_reducible refine (HN.out _).mono ?_); rintro e w1 ⟨rfl, rfl⟩)
  go_ret
  exact ⟨ret_iM HE.out.symm, HB.out⟩
set_option maxHeartbeats 2000000 in
theorem r_One_w (regs : Int) (A : Option Addr) (n cap : Nat) (op d a b : Int) (k : BitVec 32) (t f : Int) (i bb bo : Nat) (w : World) (hi : i < n) (hn : n ≤ maxLen) (hop : 4 ≤ op ∧ op ≤ 12) (hA : A = some ⟨bb, bo, none⟩) (hl : bb < w.heap.size)
    (c0 : w.cell? ⟨bb, bo + i * 7, none⟩ = some (.int .i64 op)) (c1 : w.cell? ⟨bb, bo + i * 7 + 1, none⟩ = some (.int .i64 d)) (c2 : w.cell? ⟨bb, bo + i * 7 + 2, none⟩ = some (.int .i64 a)) (c3 : w.cell? ⟨bb, bo + i * 7 + 3, none⟩ = some (.int .i64 b)) (c4 : w.cell? ⟨bb, bo + i * 7 + 4, none⟩ = some (.int .u32 (k.toNat : Int))) (c5 : w.cell? ⟨bb, bo + i * 7 + 5, none⟩ = some (.int .i64 t)) (c6 : w.cell? ⟨bb, bo + i * 7 + 6, none⟩ = some (.int .i64 f)) :
    Calls Tryd.prog 45 #[mirV regs A n cap, .int .i64 (i : Int)] w (OneMP regs n ⟨op, d, a, b, k, t, f⟩ i w) := by
  subst hA
  have hi' : (i : Int) < (n : Int) := by omega
  have gd : dM op = true := by simp [dM]; omega
  have ga : aM op = true := by simp [aM]; omega
  have gb : bM op = true := by simp [bM]; omega
  have gt : tM op = false := by simp [tM]; omega
  have gf : fM op = false := by simp [fM]; omega
  have HV := Lib.hid (one_is (regs := regs) (n := n) (d := d) (a := a) (b := b) (k := k) (t := t) (f := f) (i := i) (show 1 ≤ (op : Int) ∧ (op : Int) ≤ 19 by omega) gd ga gb gt gf)
  have HN := Lib.hid (fun W => r_Names op W)
  (try rw [gd] at HN); (try rw [ga] at HN); (try rw [gb] at HN); (try rw [gt] at HN); (try rw [gf] at HN)
  have q1 : ¬ op < 1 := by omega
  have q2 : ¬ 19 < op := by omega
  have q3 : (op == 3) = false := beq_false_of_ne (by omega)
  have HB := Lib.hid (show Below w.heap.size w ((w.alloc (mirO regs (some ⟨bb, bo, none⟩) n cap)).alloc (irO ⟨op, d, a, b, k, t, f⟩)) from onM (lboxM w _) (lboxM _ _))
  unfold OneMP
  obtain ⟨V, hV⟩ : ∃ V, oneM regs n ⟨op, d, a, b, k, t, f⟩ i = V := ⟨_, rfl⟩
  rw [hV] at HV ⊢
  clear hV gd ga gb gt gf
  by_cases ld : d < 0
  · skip
    have HE := Lib.hid (HV.out.trans (show _ = (124 : Int) by rw [if_pos (.inl ⟨rfl, .inl ld⟩)]))
    clear HV
    go_enter Tryd.func45, Tryd.ntmps45
    go_wp2_with (go_at_call 30; (with_reducible refine (HN.out _).mono ?_); rintro e w1 ⟨rfl, rfl⟩)
    go_ret
    exact ⟨ret_iM HE.out.symm, HB.out⟩
  by_cases rd : regs ≤ d
  · skip
    have HE := Lib.hid (HV.out.trans (show _ = (124 : Int) by rw [if_pos (.inl ⟨rfl, .inr rd⟩)]))
    clear HV
    go_enter Tryd.func45, Tryd.ntmps45
    go_wp2_with (go_at_call 30; (with_reducible refine (HN.out _).mono ?_); rintro e w1 ⟨rfl, rfl⟩)
    go_ret
    exact ⟨ret_iM HE.out.symm, HB.out⟩
  by_cases la : a < 0
  · skip
    have HE := Lib.hid (HV.out.trans (show _ = (124 : Int) by rw [if_pos (.inr (.inl ⟨rfl, .inl la⟩))]))
    clear HV
    go_enter Tryd.func45, Tryd.ntmps45
    go_wp2_with (go_at_call 30; (with_reducible refine (HN.out _).mono ?_); rintro e w1 ⟨rfl, rfl⟩)
    go_ret
    exact ⟨ret_iM HE.out.symm, HB.out⟩
  by_cases ra : regs ≤ a
  · skip
    have HE := Lib.hid (HV.out.trans (show _ = (124 : Int) by rw [if_pos (.inr (.inl ⟨rfl, .inr ra⟩))]))
    clear HV
    go_enter Tryd.func45, Tryd.ntmps45
    go_wp2_with (go_at_call 30; (with_reducible refine (HN.out _).mono ?_); rintro e w1 ⟨rfl, rfl⟩)
    go_ret
    exact ⟨ret_iM HE.out.symm, HB.out⟩
  by_cases lb : b < 0
  · skip
    have HE := Lib.hid (HV.out.trans (show _ = (124 : Int) by rw [if_pos (.inr (.inr ⟨rfl, .inl lb⟩))]))
    clear HV
    go_enter Tryd.func45, Tryd.ntmps45
    go_wp2_with (go_at_call 30; (with_reducible refine (HN.out _).mono ?_); rintro e w1 ⟨rfl, rfl⟩)
    go_ret
    exact ⟨ret_iM HE.out.symm, HB.out⟩
  by_cases rb : regs ≤ b
  · skip
    have HE := Lib.hid (HV.out.trans (show _ = (124 : Int) by rw [if_pos (.inr (.inr ⟨rfl, .inr rb⟩))]))
    clear HV
    go_enter Tryd.func45, Tryd.ntmps45
    go_wp2_with (go_at_call 30; (with_reducible refine (HN.out _).mono ?_); rintro e w1 ⟨rfl, rfl⟩)
    go_ret
    exact ⟨ret_iM HE.out.symm, HB.out⟩
  have HE := Lib.hid (HV.out.trans (show _ = (0 : Int) by rw [if_neg (by simp <;> omega), if_neg (by omega), if_neg (by simp <;> omega)]))
  clear HV
  go_enter Tryd.func45, Tryd.ntmps45
  go_wp2_with (go_at_call 30; (with_reducible refine (HN.out _).mono ?_); rintro e w1 ⟨rfl, rfl⟩)
  go_ret
  exact ⟨ret_iM HE.out.symm, HB.out⟩
end Go.Proofs.YtoajommeiocfpaaDoor
