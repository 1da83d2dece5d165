/-
  Which instruction of classic BPF may be, and which program: what the document's One and Check answer: contracts. Conditions: those that each names.
-/
import Derived.Test.YtoajommeiocfpaaGreatCheckSpec
import Derived.Test.YtoajommeiocfpaaGreatCbpfFns
import Derived.Test.YtoajommeiocfpaaGreatPMach
namespace Go.Proofs.YtoajommeiocfpaaGreat
open Go Go.RowKit
set_option linter.unusedSimpArgs false
set_option linter.unusedVariables false

/-- What a look at a program leaves: memory as it was, but for new blocks. -/
def LookP (w : World) (E : Int) (e : Ending) (w' : World) : Prop := e = .returned (.int .i64 E) ∧ Below w.heap.size w w'
section
variable (w : World) (A : Option Addr) (n cap : Nat)
end
section
variable (w : World) (b o n cap i l : Nat) (c : Int) (jt jf : Nat) (k : BitVec 32)
set_option maxHeartbeats 4000000 in
theorem ref_One_code (hc : InsCells w b (o + i * 4) ⟨c, jt, jf, k⟩) (hb : b < w.heap.size) (hi : i < n) (hn : n ≤ 140737488351232) (hl : n = i + l + 1) (hjt : jt < 256) (hjf : jf < 256) (hs : sealsC c = false) :
    Calls Tryz.prog 25 #[.slice (some ⟨b, o, none⟩) n cap, .int .i64 (i : Int)] w (LookP w 42) := by
  obtain ⟨c0, c1, c2, c3⟩ := hc
  have h1 : ¬ (i : Int) < 0 := by omega
  have h2 : ¬ (n : Int) ≤ (i : Int) := by omega
  have h3 : (i : Int) < (n : Int) := by omega
  have hw1 : IntKind.i64.wrap ((n : Int) - (i : Int)) = (l : Int) + 1 := by rw [IntWalk.i64_in _ (by omega)]; omega
  have hw2 : IntKind.i64.wrap (l : Int) = (l : Int) := IntWalk.i64_in _ (by omega)
  have hw3 : IntKind.u64.wrap (l : Int) = (l : Int) := by rw [IntKind.wrap_u64]; omega
  have hk1 := k.isLt
  have hw4 : IntKind.u64.wrap (k.toNat : Int) = (k.toNat : Int) := by rw [IntKind.wrap_u64]; omega
  have hw5 : IntKind.i64.wrap (jt : Int) = (jt : Int) := IntWalk.i64_in _ (by omega)
  have hw6 : IntKind.i64.wrap (jf : Int) = (jf : Int) := IntWalk.i64_in _ (by omega)
  have HSE := Lib.hid (fun w => ref_Seals_is hs w)
  have HJU := Lib.hid (fun w => ref_Jump c w)
  clear hl
  go_enter Tryz.func25, Tryz.ntmps25
  go_wp2_with (first
    | (go_at_call 54; (with_reducible refine (HSE.out _).mono ?_); rintro e w' ⟨rfl, rfl⟩)
    | (go_at_call 36; (with_reducible refine (HJU.out _).mono ?_); rintro e w' ⟨rfl, rfl⟩))
  go_ret
  exact ⟨rfl, box_below w _⟩
theorem ref_One_ja_no (hc : InsCells w b (o + i * 4) ⟨5, jt, jf, k⟩) (hb : b < w.heap.size) (hi : i < n) (hn : n ≤ 140737488351232) (hl : n = i + l + 1) (hjt : jt < 256) (hjf : jf < 256) (hk : l ≤ k.toNat) :
    Calls Tryz.prog 25 #[.slice (some ⟨b, o, none⟩) n cap, .int .i64 (i : Int)] w (LookP w 43) := by
  obtain ⟨c0, c1, c2, c3⟩ := hc
  have h1 : ¬ (i : Int) < 0 := by omega
  have h2 : ¬ (n : Int) ≤ (i : Int) := by omega
  have h3 : (i : Int) < (n : Int) := by omega
  have hw1 : IntKind.i64.wrap ((n : Int) - (i : Int)) = (l : Int) + 1 := by rw [IntWalk.i64_in _ (by omega)]; omega
  have hw2 : IntKind.i64.wrap (l : Int) = (l : Int) := IntWalk.i64_in _ (by omega)
  have hw3 : IntKind.u64.wrap (l : Int) = (l : Int) := by rw [IntKind.wrap_u64]; omega
  have hk1 := k.isLt
  have hw4 : IntKind.u64.wrap (k.toNat : Int) = (k.toNat : Int) := by rw [IntKind.wrap_u64]; omega
  have hw5 : IntKind.i64.wrap (jt : Int) = (jt : Int) := IntWalk.i64_in _ (by omega)
  have hw6 : IntKind.i64.wrap (jf : Int) = (jf : Int) := IntWalk.i64_in _ (by omega)
  have HSE := Lib.hid (fun w => ref_Seals_is (c := 5) (b := true) rfl w)
  have HJU := Lib.hid (fun w => ref_Jump_is (c := 5) (b := false) rfl w)
  have g1 : (l : Int) ≤ (k.toNat : Int) := by omega
  clear hl
  go_enter Tryz.func25, Tryz.ntmps25
  go_wp2_with (first
    | (go_at_call 54; (with_reducible refine (HSE.out _).mono ?_); rintro e w' ⟨rfl, rfl⟩)
    | (go_at_call 36; (with_reducible refine (HJU.out _).mono ?_); rintro e w' ⟨rfl, rfl⟩))
  go_ret
  exact ⟨rfl, box_below w _⟩
theorem ref_One_ja (hc : InsCells w b (o + i * 4) ⟨5, jt, jf, k⟩) (hb : b < w.heap.size) (hi : i < n) (hn : n ≤ 140737488351232) (hl : n = i + l + 1) (hjt : jt < 256) (hjf : jf < 256) (hk : ¬ l ≤ k.toNat) :
    Calls Tryz.prog 25 #[.slice (some ⟨b, o, none⟩) n cap, .int .i64 (i : Int)] w (LookP w 0) := by
  obtain ⟨c0, c1, c2, c3⟩ := hc
  have h1 : ¬ (i : Int) < 0 := by omega
  have h2 : ¬ (n : Int) ≤ (i : Int) := by omega
  have h3 : (i : Int) < (n : Int) := by omega
  have hw1 : IntKind.i64.wrap ((n : Int) - (i : Int)) = (l : Int) + 1 := by rw [IntWalk.i64_in _ (by omega)]; omega
  have hw2 : IntKind.i64.wrap (l : Int) = (l : Int) := IntWalk.i64_in _ (by omega)
  have hw3 : IntKind.u64.wrap (l : Int) = (l : Int) := by rw [IntKind.wrap_u64]; omega
  have hk1 := k.isLt
  have hw4 : IntKind.u64.wrap (k.toNat : Int) = (k.toNat : Int) := by rw [IntKind.wrap_u64]; omega
  have hw5 : IntKind.i64.wrap (jt : Int) = (jt : Int) := IntWalk.i64_in _ (by omega)
  have hw6 : IntKind.i64.wrap (jf : Int) = (jf : Int) := IntWalk.i64_in _ (by omega)
  have HSE := Lib.hid (fun w => ref_Seals_is (c := 5) (b := true) rfl w)
  have HJU := Lib.hid (fun w => ref_Jump_is (c := 5) (b := false) rfl w)
  have g1 : ¬ (l : Int) ≤ (k.toNat : Int) := by omega
  have g2 : decide (l ≤ k.toNat) = false := decide_eq_false hk
  clear hl
  go_enter Tryz.func25, Tryz.ntmps25
  go_wp2_with (first
    | (go_at_call 54; (with_reducible refine (HSE.out _).mono ?_); rintro e w' ⟨rfl, rfl⟩)
    | (go_at_call 36; (with_reducible refine (HJU.out _).mono ?_); rintro e w' ⟨rfl, rfl⟩))
  go_ret
  exact ⟨rfl, box_below w _⟩
theorem ref_One_load_far (hc : InsCells w b (o + i * 4) ⟨32, jt, jf, k⟩) (hb : b < w.heap.size) (hi : i < n) (hn : n ≤ 140737488351232) (hl : n = i + l + 1) (hjt : jt < 256) (hjf : jf < 256) (hk : 60 < k.toNat) :
    Calls Tryz.prog 25 #[.slice (some ⟨b, o, none⟩) n cap, .int .i64 (i : Int)] w (LookP w 44) := by
  obtain ⟨c0, c1, c2, c3⟩ := hc
  have h1 : ¬ (i : Int) < 0 := by omega
  have h2 : ¬ (n : Int) ≤ (i : Int) := by omega
  have h3 : (i : Int) < (n : Int) := by omega
  have hw1 : IntKind.i64.wrap ((n : Int) - (i : Int)) = (l : Int) + 1 := by rw [IntWalk.i64_in _ (by omega)]; omega
  have hw2 : IntKind.i64.wrap (l : Int) = (l : Int) := IntWalk.i64_in _ (by omega)
  have hw3 : IntKind.u64.wrap (l : Int) = (l : Int) := by rw [IntKind.wrap_u64]; omega
  have hk1 := k.isLt
  have hw4 : IntKind.u64.wrap (k.toNat : Int) = (k.toNat : Int) := by rw [IntKind.wrap_u64]; omega
  have hw5 : IntKind.i64.wrap (jt : Int) = (jt : Int) := IntWalk.i64_in _ (by omega)
  have hw6 : IntKind.i64.wrap (jf : Int) = (jf : Int) := IntWalk.i64_in _ (by omega)
  have HSE := Lib.hid (fun w => ref_Seals_is (c := 32) (b := true) rfl w)
  have HJU := Lib.hid (fun w => ref_Jump_is (c := 32) (b := false) rfl w)
  have g1 : (60 : Int) < (k.toNat : Int) := by omega
  clear hl
  go_enter Tryz.func25, Tryz.ntmps25
  go_wp2_with (first
    | (go_at_call 54; (with_reducible refine (HSE.out _).mono ?_); rintro e w' ⟨rfl, rfl⟩)
    | (go_at_call 36; (with_reducible refine (HJU.out _).mono ?_); rintro e w' ⟨rfl, rfl⟩))
  go_ret
  exact ⟨rfl, box_below w _⟩
theorem ref_One_load_odd (hc : InsCells w b (o + i * 4) ⟨32, jt, jf, k⟩) (hb : b < w.heap.size) (hi : i < n) (hn : n ≤ 140737488351232) (hl : n = i + l + 1) (hjt : jt < 256) (hjf : jf < 256) (hk0 : ¬ 60 < k.toNat) (hk : ¬ k.toNat % 4 = 0) :
    Calls Tryz.prog 25 #[.slice (some ⟨b, o, none⟩) n cap, .int .i64 (i : Int)] w (LookP w 44) := by
  obtain ⟨c0, c1, c2, c3⟩ := hc
  have h1 : ¬ (i : Int) < 0 := by omega
  have h2 : ¬ (n : Int) ≤ (i : Int) := by omega
  have h3 : (i : Int) < (n : Int) := by omega
  have hw1 : IntKind.i64.wrap ((n : Int) - (i : Int)) = (l : Int) + 1 := by rw [IntWalk.i64_in _ (by omega)]; omega
  have hw2 : IntKind.i64.wrap (l : Int) = (l : Int) := IntWalk.i64_in _ (by omega)
  have hw3 : IntKind.u64.wrap (l : Int) = (l : Int) := by rw [IntKind.wrap_u64]; omega
  have hk1 := k.isLt
  have hw4 : IntKind.u64.wrap (k.toNat : Int) = (k.toNat : Int) := by rw [IntKind.wrap_u64]; omega
  have hw5 : IntKind.i64.wrap (jt : Int) = (jt : Int) := IntWalk.i64_in _ (by omega)
  have hw6 : IntKind.i64.wrap (jf : Int) = (jf : Int) := IntWalk.i64_in _ (by omega)
  have HSE := Lib.hid (fun w => ref_Seals_is (c := 32) (b := true) rfl w)
  have HJU := Lib.hid (fun w => ref_Jump_is (c := 32) (b := false) rfl w)
  have g0 : ¬ (60 : Int) < (k.toNat : Int) := by omega
  have g00 : decide (60 < k.toNat) = false := decide_eq_false hk0
  have g1 : (k.toNat : Int).tmod 4 = ((k.toNat % 4 : Nat) : Int) := by rw [Int.tmod_eq_emod_of_nonneg (by omega)]; omega
  have g2 : ((k.toNat : Int) % 4 != 0) = true := bne_iff_ne.2 (by omega)
  clear hl
  go_enter Tryz.func25, Tryz.ntmps25
  go_wp2_with (first
    | (go_at_call 54; (with_reducible refine (HSE.out _).mono ?_); rintro e w' ⟨rfl, rfl⟩)
    | (go_at_call 36; (with_reducible refine (HJU.out _).mono ?_); rintro e w' ⟨rfl, rfl⟩))
  go_ret
  exact ⟨rfl, box_below w _⟩
theorem ref_One_load (hc : InsCells w b (o + i * 4) ⟨32, jt, jf, k⟩) (hb : b < w.heap.size) (hi : i < n) (hn : n ≤ 140737488351232) (hl : n = i + l + 1) (hjt : jt < 256) (hjf : jf < 256) (hk0 : ¬ 60 < k.toNat) (hk : k.toNat % 4 = 0) :
    Calls Tryz.prog 25 #[.slice (some ⟨b, o, none⟩) n cap, .int .i64 (i : Int)] w (LookP w 0) := by
  obtain ⟨c0, c1, c2, c3⟩ := hc
  have h1 : ¬ (i : Int) < 0 := by omega
  have h2 : ¬ (n : Int) ≤ (i : Int) := by omega
  have h3 : (i : Int) < (n : Int) := by omega
  have hw1 : IntKind.i64.wrap ((n : Int) - (i : Int)) = (l : Int) + 1 := by rw [IntWalk.i64_in _ (by omega)]; omega
  have hw2 : IntKind.i64.wrap (l : Int) = (l : Int) := IntWalk.i64_in _ (by omega)
  have hw3 : IntKind.u64.wrap (l : Int) = (l : Int) := by rw [IntKind.wrap_u64]; omega
  have hk1 := k.isLt
  have hw4 : IntKind.u64.wrap (k.toNat : Int) = (k.toNat : Int) := by rw [IntKind.wrap_u64]; omega
  have hw5 : IntKind.i64.wrap (jt : Int) = (jt : Int) := IntWalk.i64_in _ (by omega)
  have hw6 : IntKind.i64.wrap (jf : Int) = (jf : Int) := IntWalk.i64_in _ (by omega)
  have HSE := Lib.hid (fun w => ref_Seals_is (c := 32) (b := true) rfl w)
  have HJU := Lib.hid (fun w => ref_Jump_is (c := 32) (b := false) rfl w)
  have g0 : ¬ (60 : Int) < (k.toNat : Int) := by omega
  have g00 : decide (60 < k.toNat) = false := decide_eq_false hk0
  have g1 : (k.toNat : Int).tmod 4 = 0 := by rw [Int.tmod_eq_emod_of_nonneg (by omega)]; omega
  clear hl
  go_enter Tryz.func25, Tryz.ntmps25
  go_wp2_with (first
    | (go_at_call 54; (with_reducible refine (HSE.out _).mono ?_); rintro e w' ⟨rfl, rfl⟩)
    | (go_at_call 36; (with_reducible refine (HJU.out _).mono ?_); rintro e w' ⟨rfl, rfl⟩))
  go_ret
  exact ⟨rfl, box_below w _⟩
theorem ref_One_div_no (hc : InsCells w b (o + i * 4) ⟨52, jt, jf, k⟩) (hb : b < w.heap.size) (hi : i < n) (hn : n ≤ 140737488351232) (hl : n = i + l + 1) (hjt : jt < 256) (hjf : jf < 256) (hk : k = 0#32) :
    Calls Tryz.prog 25 #[.slice (some ⟨b, o, none⟩) n cap, .int .i64 (i : Int)] w (LookP w 45) := by
  obtain ⟨c0, c1, c2, c3⟩ := hc
  have h1 : ¬ (i : Int) < 0 := by omega
  have h2 : ¬ (n : Int) ≤ (i : Int) := by omega
  have h3 : (i : Int) < (n : Int) := by omega
  have hw1 : IntKind.i64.wrap ((n : Int) - (i : Int)) = (l : Int) + 1 := by rw [IntWalk.i64_in _ (by omega)]; omega
  have hw2 : IntKind.i64.wrap (l : Int) = (l : Int) := IntWalk.i64_in _ (by omega)
  have hw3 : IntKind.u64.wrap (l : Int) = (l : Int) := by rw [IntKind.wrap_u64]; omega
  have hk1 := k.isLt
  have hw4 : IntKind.u64.wrap (k.toNat : Int) = (k.toNat : Int) := by rw [IntKind.wrap_u64]; omega
  have hw5 : IntKind.i64.wrap (jt : Int) = (jt : Int) := IntWalk.i64_in _ (by omega)
  have hw6 : IntKind.i64.wrap (jf : Int) = (jf : Int) := IntWalk.i64_in _ (by omega)
  have HSE := Lib.hid (fun w => ref_Seals_is (c := 52) (b := true) rfl w)
  have HJU := Lib.hid (fun w => ref_Jump_is (c := 52) (b := false) rfl w)
  have g1 : (k.toNat : Int) = 0 := by rw [hk]; rfl
  clear hk
  clear hl
  go_enter Tryz.func25, Tryz.ntmps25
  go_wp2_with (first
    | (go_at_call 54; (with_reducible refine (HSE.out _).mono ?_); rintro e w' ⟨rfl, rfl⟩)
    | (go_at_call 36; (with_reducible refine (HJU.out _).mono ?_); rintro e w' ⟨rfl, rfl⟩))
  go_ret
  exact ⟨rfl, box_below w _⟩
theorem ref_One_div (hc : InsCells w b (o + i * 4) ⟨52, jt, jf, k⟩) (hb : b < w.heap.size) (hi : i < n) (hn : n ≤ 140737488351232) (hl : n = i + l + 1) (hjt : jt < 256) (hjf : jf < 256) (hk : ¬ k = 0#32) :
    Calls Tryz.prog 25 #[.slice (some ⟨b, o, none⟩) n cap, .int .i64 (i : Int)] w (LookP w 0) := by
  obtain ⟨c0, c1, c2, c3⟩ := hc
  have h1 : ¬ (i : Int) < 0 := by omega
  have h2 : ¬ (n : Int) ≤ (i : Int) := by omega
  have h3 : (i : Int) < (n : Int) := by omega
  have hw1 : IntKind.i64.wrap ((n : Int) - (i : Int)) = (l : Int) + 1 := by rw [IntWalk.i64_in _ (by omega)]; omega
  have hw2 : IntKind.i64.wrap (l : Int) = (l : Int) := IntWalk.i64_in _ (by omega)
  have hw3 : IntKind.u64.wrap (l : Int) = (l : Int) := by rw [IntKind.wrap_u64]; omega
  have hk1 := k.isLt
  have hw4 : IntKind.u64.wrap (k.toNat : Int) = (k.toNat : Int) := by rw [IntKind.wrap_u64]; omega
  have hw5 : IntKind.i64.wrap (jt : Int) = (jt : Int) := IntWalk.i64_in _ (by omega)
  have hw6 : IntKind.i64.wrap (jf : Int) = (jf : Int) := IntWalk.i64_in _ (by omega)
  have HSE := Lib.hid (fun w => ref_Seals_is (c := 52) (b := true) rfl w)
  have HJU := Lib.hid (fun w => ref_Jump_is (c := 52) (b := false) rfl w)
  have g1 : ¬ (k.toNat : Int) = 0 := fun g => hk (BitVec.eq_of_toNat_eq (by simpa using g))
  have g2 : ((k.toNat : Int) == 0) = false := beq_false_of_ne g1
  clear hk
  clear hl
  go_enter Tryz.func25, Tryz.ntmps25
  go_wp2_with (first
    | (go_at_call 54; (with_reducible refine (HSE.out _).mono ?_); rintro e w' ⟨rfl, rfl⟩)
    | (go_at_call 36; (with_reducible refine (HJU.out _).mono ?_); rintro e w' ⟨rfl, rfl⟩))
  go_ret
  exact ⟨rfl, box_below w _⟩
theorem ref_One_shift_no_100 (hc : InsCells w b (o + i * 4) ⟨100, jt, jf, k⟩) (hb : b < w.heap.size) (hi : i < n) (hn : n ≤ 140737488351232) (hl : n = i + l + 1) (hjt : jt < 256) (hjf : jf < 256) (hk : 32 ≤ k.toNat) :
    Calls Tryz.prog 25 #[.slice (some ⟨b, o, none⟩) n cap, .int .i64 (i : Int)] w (LookP w 46) := by
  obtain ⟨c0, c1, c2, c3⟩ := hc
  have h1 : ¬ (i : Int) < 0 := by omega
  have h2 : ¬ (n : Int) ≤ (i : Int) := by omega
  have h3 : (i : Int) < (n : Int) := by omega
  have hw1 : IntKind.i64.wrap ((n : Int) - (i : Int)) = (l : Int) + 1 := by rw [IntWalk.i64_in _ (by omega)]; omega
  have hw2 : IntKind.i64.wrap (l : Int) = (l : Int) := IntWalk.i64_in _ (by omega)
  have hw3 : IntKind.u64.wrap (l : Int) = (l : Int) := by rw [IntKind.wrap_u64]; omega
  have hk1 := k.isLt
  have hw4 : IntKind.u64.wrap (k.toNat : Int) = (k.toNat : Int) := by rw [IntKind.wrap_u64]; omega
  have hw5 : IntKind.i64.wrap (jt : Int) = (jt : Int) := IntWalk.i64_in _ (by omega)
  have hw6 : IntKind.i64.wrap (jf : Int) = (jf : Int) := IntWalk.i64_in _ (by omega)
  have HSE := Lib.hid (fun w => ref_Seals_is (c := 100) (b := true) rfl w)
  have HJU := Lib.hid (fun w => ref_Jump_is (c := 100) (b := false) rfl w)
  have g1 : (32 : Int) ≤ (k.toNat : Int) := by omega
  clear hl
  go_enter Tryz.func25, Tryz.ntmps25
  go_wp2_with (first
    | (go_at_call 54; (with_reducible refine (HSE.out _).mono ?_); rintro e w' ⟨rfl, rfl⟩)
    | (go_at_call 36; (with_reducible refine (HJU.out _).mono ?_); rintro e w' ⟨rfl, rfl⟩))
  go_ret
  exact ⟨rfl, box_below w _⟩
theorem ref_One_shift_100 (hc : InsCells w b (o + i * 4) ⟨100, jt, jf, k⟩) (hb : b < w.heap.size) (hi : i < n) (hn : n ≤ 140737488351232) (hl : n = i + l + 1) (hjt : jt < 256) (hjf : jf < 256) (hk : ¬ 32 ≤ k.toNat) :
    Calls Tryz.prog 25 #[.slice (some ⟨b, o, none⟩) n cap, .int .i64 (i : Int)] w (LookP w 0) := by
  obtain ⟨c0, c1, c2, c3⟩ := hc
  have h1 : ¬ (i : Int) < 0 := by omega
  have h2 : ¬ (n : Int) ≤ (i : Int) := by omega
  have h3 : (i : Int) < (n : Int) := by omega
  have hw1 : IntKind.i64.wrap ((n : Int) - (i : Int)) = (l : Int) + 1 := by rw [IntWalk.i64_in _ (by omega)]; omega
  have hw2 : IntKind.i64.wrap (l : Int) = (l : Int) := IntWalk.i64_in _ (by omega)
  have hw3 : IntKind.u64.wrap (l : Int) = (l : Int) := by rw [IntKind.wrap_u64]; omega
  have hk1 := k.isLt
  have hw4 : IntKind.u64.wrap (k.toNat : Int) = (k.toNat : Int) := by rw [IntKind.wrap_u64]; omega
  have hw5 : IntKind.i64.wrap (jt : Int) = (jt : Int) := IntWalk.i64_in _ (by omega)
  have hw6 : IntKind.i64.wrap (jf : Int) = (jf : Int) := IntWalk.i64_in _ (by omega)
  have HSE := Lib.hid (fun w => ref_Seals_is (c := 100) (b := true) rfl w)
  have HJU := Lib.hid (fun w => ref_Jump_is (c := 100) (b := false) rfl w)
  have g1 : ¬ (32 : Int) ≤ (k.toNat : Int) := by omega
  have g2 : decide (32 ≤ k.toNat) = false := decide_eq_false hk
  clear hl
  go_enter Tryz.func25, Tryz.ntmps25
  go_wp2_with (first
    | (go_at_call 54; (with_reducible refine (HSE.out _).mono ?_); rintro e w' ⟨rfl, rfl⟩)
    | (go_at_call 36; (with_reducible refine (HJU.out _).mono ?_); rintro e w' ⟨rfl, rfl⟩))
  go_ret
  exact ⟨rfl, box_below w _⟩
theorem ref_One_shift_no_116 (hc : InsCells w b (o + i * 4) ⟨116, jt, jf, k⟩) (hb : b < w.heap.size) (hi : i < n) (hn : n ≤ 140737488351232) (hl : n = i + l + 1) (hjt : jt < 256) (hjf : jf < 256) (hk : 32 ≤ k.toNat) :
    Calls Tryz.prog 25 #[.slice (some ⟨b, o, none⟩) n cap, .int .i64 (i : Int)] w (LookP w 46) := by
  obtain ⟨c0, c1, c2, c3⟩ := hc
  have h1 : ¬ (i : Int) < 0 := by omega
  have h2 : ¬ (n : Int) ≤ (i : Int) := by omega
  have h3 : (i : Int) < (n : Int) := by omega
  have hw1 : IntKind.i64.wrap ((n : Int) - (i : Int)) = (l : Int) + 1 := by rw [IntWalk.i64_in _ (by omega)]; omega
  have hw2 : IntKind.i64.wrap (l : Int) = (l : Int) := IntWalk.i64_in _ (by omega)
  have hw3 : IntKind.u64.wrap (l : Int) = (l : Int) := by rw [IntKind.wrap_u64]; omega
  have hk1 := k.isLt
  have hw4 : IntKind.u64.wrap (k.toNat : Int) = (k.toNat : Int) := by rw [IntKind.wrap_u64]; omega
  have hw5 : IntKind.i64.wrap (jt : Int) = (jt : Int) := IntWalk.i64_in _ (by omega)
  have hw6 : IntKind.i64.wrap (jf : Int) = (jf : Int) := IntWalk.i64_in _ (by omega)
  have HSE := Lib.hid (fun w => ref_Seals_is (c := 116) (b := true) rfl w)
  have HJU := Lib.hid (fun w => ref_Jump_is (c := 116) (b := false) rfl w)
  have g1 : (32 : Int) ≤ (k.toNat : Int) := by omega
  clear hl
  go_enter Tryz.func25, Tryz.ntmps25
  go_wp2_with (first
    | (go_at_call 54; (with_reducible refine (HSE.out _).mono ?_); rintro e w' ⟨rfl, rfl⟩)
    | (go_at_call 36; (with_reducible refine (HJU.out _).mono ?_); rintro e w' ⟨rfl, rfl⟩))
  go_ret
  exact ⟨rfl, box_below w _⟩
theorem ref_One_shift_116 (hc : InsCells w b (o + i * 4) ⟨116, jt, jf, k⟩) (hb : b < w.heap.size) (hi : i < n) (hn : n ≤ 140737488351232) (hl : n = i + l + 1) (hjt : jt < 256) (hjf : jf < 256) (hk : ¬ 32 ≤ k.toNat) :
    Calls Tryz.prog 25 #[.slice (some ⟨b, o, none⟩) n cap, .int .i64 (i : Int)] w (LookP w 0) := by
  obtain ⟨c0, c1, c2, c3⟩ := hc
  have h1 : ¬ (i : Int) < 0 := by omega
  have h2 : ¬ (n : Int) ≤ (i : Int) := by omega
  have h3 : (i : Int) < (n : Int) := by omega
  have hw1 : IntKind.i64.wrap ((n : Int) - (i : Int)) = (l : Int) + 1 := by rw [IntWalk.i64_in _ (by omega)]; omega
  have hw2 : IntKind.i64.wrap (l : Int) = (l : Int) := IntWalk.i64_in _ (by omega)
  have hw3 : IntKind.u64.wrap (l : Int) = (l : Int) := by rw [IntKind.wrap_u64]; omega
  have hk1 := k.isLt
  have hw4 : IntKind.u64.wrap (k.toNat : Int) = (k.toNat : Int) := by rw [IntKind.wrap_u64]; omega
  have hw5 : IntKind.i64.wrap (jt : Int) = (jt : Int) := IntWalk.i64_in _ (by omega)
  have hw6 : IntKind.i64.wrap (jf : Int) = (jf : Int) := IntWalk.i64_in _ (by omega)
  have HSE := Lib.hid (fun w => ref_Seals_is (c := 116) (b := true) rfl w)
  have HJU := Lib.hid (fun w => ref_Jump_is (c := 116) (b := false) rfl w)
  have g1 : ¬ (32 : Int) ≤ (k.toNat : Int) := by omega
  have g2 : decide (32 ≤ k.toNat) = false := decide_eq_false hk
  clear hl
  go_enter Tryz.func25, Tryz.ntmps25
  go_wp2_with (first
    | (go_at_call 54; (with_reducible refine (HSE.out _).mono ?_); rintro e w' ⟨rfl, rfl⟩)
    | (go_at_call 36; (with_reducible refine (HJU.out _).mono ?_); rintro e w' ⟨rfl, rfl⟩))
  go_ret
  exact ⟨rfl, box_below w _⟩
theorem ref_One_mem_no_96 (hc : InsCells w b (o + i * 4) ⟨96, jt, jf, k⟩) (hb : b < w.heap.size) (hi : i < n) (hn : n ≤ 140737488351232) (hl : n = i + l + 1) (hjt : jt < 256) (hjf : jf < 256) (hk : 16 ≤ k.toNat) :
    Calls Tryz.prog 25 #[.slice (some ⟨b, o, none⟩) n cap, .int .i64 (i : Int)] w (LookP w 47) := by
  obtain ⟨c0, c1, c2, c3⟩ := hc
  have h1 : ¬ (i : Int) < 0 := by omega
  have h2 : ¬ (n : Int) ≤ (i : Int) := by omega
  have h3 : (i : Int) < (n : Int) := by omega
  have hw1 : IntKind.i64.wrap ((n : Int) - (i : Int)) = (l : Int) + 1 := by rw [IntWalk.i64_in _ (by omega)]; omega
  have hw2 : IntKind.i64.wrap (l : Int) = (l : Int) := IntWalk.i64_in _ (by omega)
  have hw3 : IntKind.u64.wrap (l : Int) = (l : Int) := by rw [IntKind.wrap_u64]; omega
  have hk1 := k.isLt
  have hw4 : IntKind.u64.wrap (k.toNat : Int) = (k.toNat : Int) := by rw [IntKind.wrap_u64]; omega
  have hw5 : IntKind.i64.wrap (jt : Int) = (jt : Int) := IntWalk.i64_in _ (by omega)
  have hw6 : IntKind.i64.wrap (jf : Int) = (jf : Int) := IntWalk.i64_in _ (by omega)
  have HSE := Lib.hid (fun w => ref_Seals_is (c := 96) (b := true) rfl w)
  have HJU := Lib.hid (fun w => ref_Jump_is (c := 96) (b := false) rfl w)
  have g1 : (16 : Int) ≤ (k.toNat : Int) := by omega
  clear hl
  go_enter Tryz.func25, Tryz.ntmps25
  go_wp2_with (first
    | (go_at_call 54; (with_reducible refine (HSE.out _).mono ?_); rintro e w' ⟨rfl, rfl⟩)
    | (go_at_call 36; (with_reducible refine (HJU.out _).mono ?_); rintro e w' ⟨rfl, rfl⟩))
  go_ret
  exact ⟨rfl, box_below w _⟩
theorem ref_One_mem_96 (hc : InsCells w b (o + i * 4) ⟨96, jt, jf, k⟩) (hb : b < w.heap.size) (hi : i < n) (hn : n ≤ 140737488351232) (hl : n = i + l + 1) (hjt : jt < 256) (hjf : jf < 256) (hk : ¬ 16 ≤ k.toNat) :
    Calls Tryz.prog 25 #[.slice (some ⟨b, o, none⟩) n cap, .int .i64 (i : Int)] w (LookP w 0) := by
  obtain ⟨c0, c1, c2, c3⟩ := hc
  have h1 : ¬ (i : Int) < 0 := by omega
  have h2 : ¬ (n : Int) ≤ (i : Int) := by omega
  have h3 : (i : Int) < (n : Int) := by omega
  have hw1 : IntKind.i64.wrap ((n : Int) - (i : Int)) = (l : Int) + 1 := by rw [IntWalk.i64_in _ (by omega)]; omega
  have hw2 : IntKind.i64.wrap (l : Int) = (l : Int) := IntWalk.i64_in _ (by omega)
  have hw3 : IntKind.u64.wrap (l : Int) = (l : Int) := by rw [IntKind.wrap_u64]; omega
  have hk1 := k.isLt
  have hw4 : IntKind.u64.wrap (k.toNat : Int) = (k.toNat : Int) := by rw [IntKind.wrap_u64]; omega
  have hw5 : IntKind.i64.wrap (jt : Int) = (jt : Int) := IntWalk.i64_in _ (by omega)
  have hw6 : IntKind.i64.wrap (jf : Int) = (jf : Int) := IntWalk.i64_in _ (by omega)
  have HSE := Lib.hid (fun w => ref_Seals_is (c := 96) (b := true) rfl w)
  have HJU := Lib.hid (fun w => ref_Jump_is (c := 96) (b := false) rfl w)
  have g1 : ¬ (16 : Int) ≤ (k.toNat : Int) := by omega
  have g2 : decide (16 ≤ k.toNat) = false := decide_eq_false hk
  clear hl
  go_enter Tryz.func25, Tryz.ntmps25
  go_wp2_with (first
    | (go_at_call 54; (with_reducible refine (HSE.out _).mono ?_); rintro e w' ⟨rfl, rfl⟩)
    | (go_at_call 36; (with_reducible refine (HJU.out _).mono ?_); rintro e w' ⟨rfl, rfl⟩))
  go_ret
  exact ⟨rfl, box_below w _⟩
theorem ref_One_mem_no_97 (hc : InsCells w b (o + i * 4) ⟨97, jt, jf, k⟩) (hb : b < w.heap.size) (hi : i < n) (hn : n ≤ 140737488351232) (hl : n = i + l + 1) (hjt : jt < 256) (hjf : jf < 256) (hk : 16 ≤ k.toNat) :
    Calls Tryz.prog 25 #[.slice (some ⟨b, o, none⟩) n cap, .int .i64 (i : Int)] w (LookP w 47) := by
  obtain ⟨c0, c1, c2, c3⟩ := hc
  have h1 : ¬ (i : Int) < 0 := by omega
  have h2 : ¬ (n : Int) ≤ (i : Int) := by omega
  have h3 : (i : Int) < (n : Int) := by omega
  have hw1 : IntKind.i64.wrap ((n : Int) - (i : Int)) = (l : Int) + 1 := by rw [IntWalk.i64_in _ (by omega)]; omega
  have hw2 : IntKind.i64.wrap (l : Int) = (l : Int) := IntWalk.i64_in _ (by omega)
  have hw3 : IntKind.u64.wrap (l : Int) = (l : Int) := by rw [IntKind.wrap_u64]; omega
  have hk1 := k.isLt
  have hw4 : IntKind.u64.wrap (k.toNat : Int) = (k.toNat : Int) := by rw [IntKind.wrap_u64]; omega
  have hw5 : IntKind.i64.wrap (jt : Int) = (jt : Int) := IntWalk.i64_in _ (by omega)
  have hw6 : IntKind.i64.wrap (jf : Int) = (jf : Int) := IntWalk.i64_in _ (by omega)
  have HSE := Lib.hid (fun w => ref_Seals_is (c := 97) (b := true) rfl w)
  have HJU := Lib.hid (fun w => ref_Jump_is (c := 97) (b := false) rfl w)
  have g1 : (16 : Int) ≤ (k.toNat : Int) := by omega
  clear hl
  go_enter Tryz.func25, Tryz.ntmps25
  go_wp2_with (first
    | (go_at_call 54; (with_reducible refine (HSE.out _).mono ?_); rintro e w' ⟨rfl, rfl⟩)
    | (go_at_call 36; (with_reducible refine (HJU.out _).mono ?_); rintro e w' ⟨rfl, rfl⟩))
  go_ret
  exact ⟨rfl, box_below w _⟩
theorem ref_One_mem_97 (hc : InsCells w b (o + i * 4) ⟨97, jt, jf, k⟩) (hb : b < w.heap.size) (hi : i < n) (hn : n ≤ 140737488351232) (hl : n = i + l + 1) (hjt : jt < 256) (hjf : jf < 256) (hk : ¬ 16 ≤ k.toNat) :
    Calls Tryz.prog 25 #[.slice (some ⟨b, o, none⟩) n cap, .int .i64 (i : Int)] w (LookP w 0) := by
  obtain ⟨c0, c1, c2, c3⟩ := hc
  have h1 : ¬ (i : Int) < 0 := by omega
  have h2 : ¬ (n : Int) ≤ (i : Int) := by omega
  have h3 : (i : Int) < (n : Int) := by omega
  have hw1 : IntKind.i64.wrap ((n : Int) - (i : Int)) = (l : Int) + 1 := by rw [IntWalk.i64_in _ (by omega)]; omega
  have hw2 : IntKind.i64.wrap (l : Int) = (l : Int) := IntWalk.i64_in _ (by omega)
  have hw3 : IntKind.u64.wrap (l : Int) = (l : Int) := by rw [IntKind.wrap_u64]; omega
  have hk1 := k.isLt
  have hw4 : IntKind.u64.wrap (k.toNat : Int) = (k.toNat : Int) := by rw [IntKind.wrap_u64]; omega
  have hw5 : IntKind.i64.wrap (jt : Int) = (jt : Int) := IntWalk.i64_in _ (by omega)
  have hw6 : IntKind.i64.wrap (jf : Int) = (jf : Int) := IntWalk.i64_in _ (by omega)
  have HSE := Lib.hid (fun w => ref_Seals_is (c := 97) (b := true) rfl w)
  have HJU := Lib.hid (fun w => ref_Jump_is (c := 97) (b := false) rfl w)
  have g1 : ¬ (16 : Int) ≤ (k.toNat : Int) := by omega
  have g2 : decide (16 ≤ k.toNat) = false := decide_eq_false hk
  clear hl
  go_enter Tryz.func25, Tryz.ntmps25
  go_wp2_with (first
    | (go_at_call 54; (with_reducible refine (HSE.out _).mono ?_); rintro e w' ⟨rfl, rfl⟩)
    | (go_at_call 36; (with_reducible refine (HJU.out _).mono ?_); rintro e w' ⟨rfl, rfl⟩))
  go_ret
  exact ⟨rfl, box_below w _⟩
theorem ref_One_mem_no_2 (hc : InsCells w b (o + i * 4) ⟨2, jt, jf, k⟩) (hb : b < w.heap.size) (hi : i < n) (hn : n ≤ 140737488351232) (hl : n = i + l + 1) (hjt : jt < 256) (hjf : jf < 256) (hk : 16 ≤ k.toNat) :
    Calls Tryz.prog 25 #[.slice (some ⟨b, o, none⟩) n cap, .int .i64 (i : Int)] w (LookP w 47) := by
  obtain ⟨c0, c1, c2, c3⟩ := hc
  have h1 : ¬ (i : Int) < 0 := by omega
  have h2 : ¬ (n : Int) ≤ (i : Int) := by omega
  have h3 : (i : Int) < (n : Int) := by omega
  have hw1 : IntKind.i64.wrap ((n : Int) - (i : Int)) = (l : Int) + 1 := by rw [IntWalk.i64_in _ (by omega)]; omega
  have hw2 : IntKind.i64.wrap (l : Int) = (l : Int) := IntWalk.i64_in _ (by omega)
  have hw3 : IntKind.u64.wrap (l : Int) = (l : Int) := by rw [IntKind.wrap_u64]; omega
  have hk1 := k.isLt
  have hw4 : IntKind.u64.wrap (k.toNat : Int) = (k.toNat : Int) := by rw [IntKind.wrap_u64]; omega
  have hw5 : IntKind.i64.wrap (jt : Int) = (jt : Int) := IntWalk.i64_in _ (by omega)
  have hw6 : IntKind.i64.wrap (jf : Int) = (jf : Int) := IntWalk.i64_in _ (by omega)
  have HSE := Lib.hid (fun w => ref_Seals_is (c := 2) (b := true) rfl w)
  have HJU := Lib.hid (fun w => ref_Jump_is (c := 2) (b := false) rfl w)
  have g1 : (16 : Int) ≤ (k.toNat : Int) := by omega
  clear hl
  go_enter Tryz.func25, Tryz.ntmps25
  go_wp2_with (first
    | (go_at_call 54; (with_reducible refine (HSE.out _).mono ?_); rintro e w' ⟨rfl, rfl⟩)
    | (go_at_call 36; (with_reducible refine (HJU.out _).mono ?_); rintro e w' ⟨rfl, rfl⟩))
  go_ret
  exact ⟨rfl, box_below w _⟩
theorem ref_One_mem_2 (hc : InsCells w b (o + i * 4) ⟨2, jt, jf, k⟩) (hb : b < w.heap.size) (hi : i < n) (hn : n ≤ 140737488351232) (hl : n = i + l + 1) (hjt : jt < 256) (hjf : jf < 256) (hk : ¬ 16 ≤ k.toNat) :
    Calls Tryz.prog 25 #[.slice (some ⟨b, o, none⟩) n cap, .int .i64 (i : Int)] w (LookP w 0) := by
  obtain ⟨c0, c1, c2, c3⟩ := hc
  have h1 : ¬ (i : Int) < 0 := by omega
  have h2 : ¬ (n : Int) ≤ (i : Int) := by omega
  have h3 : (i : Int) < (n : Int) := by omega
  have hw1 : IntKind.i64.wrap ((n : Int) - (i : Int)) = (l : Int) + 1 := by rw [IntWalk.i64_in _ (by omega)]; omega
  have hw2 : IntKind.i64.wrap (l : Int) = (l : Int) := IntWalk.i64_in _ (by omega)
  have hw3 : IntKind.u64.wrap (l : Int) = (l : Int) := by rw [IntKind.wrap_u64]; omega
  have hk1 := k.isLt
  have hw4 : IntKind.u64.wrap (k.toNat : Int) = (k.toNat : Int) := by rw [IntKind.wrap_u64]; omega
  have hw5 : IntKind.i64.wrap (jt : Int) = (jt : Int) := IntWalk.i64_in _ (by omega)
  have hw6 : IntKind.i64.wrap (jf : Int) = (jf : Int) := IntWalk.i64_in _ (by omega)
  have HSE := Lib.hid (fun w => ref_Seals_is (c := 2) (b := true) rfl w)
  have HJU := Lib.hid (fun w => ref_Jump_is (c := 2) (b := false) rfl w)
  have g1 : ¬ (16 : Int) ≤ (k.toNat : Int) := by omega
  have g2 : decide (16 ≤ k.toNat) = false := decide_eq_false hk
  clear hl
  go_enter Tryz.func25, Tryz.ntmps25
  go_wp2_with (first
    | (go_at_call 54; (with_reducible refine (HSE.out _).mono ?_); rintro e w' ⟨rfl, rfl⟩)
    | (go_at_call 36; (with_reducible refine (HJU.out _).mono ?_); rintro e w' ⟨rfl, rfl⟩))
  go_ret
  exact ⟨rfl, box_below w _⟩
theorem ref_One_mem_no_3 (hc : InsCells w b (o + i * 4) ⟨3, jt, jf, k⟩) (hb : b < w.heap.size) (hi : i < n) (hn : n ≤ 140737488351232) (hl : n = i + l + 1) (hjt : jt < 256) (hjf : jf < 256) (hk : 16 ≤ k.toNat) :
    Calls Tryz.prog 25 #[.slice (some ⟨b, o, none⟩) n cap, .int .i64 (i : Int)] w (LookP w 47) := by
  obtain ⟨c0, c1, c2, c3⟩ := hc
  have h1 : ¬ (i : Int) < 0 := by omega
  have h2 : ¬ (n : Int) ≤ (i : Int) := by omega
  have h3 : (i : Int) < (n : Int) := by omega
  have hw1 : IntKind.i64.wrap ((n : Int) - (i : Int)) = (l : Int) + 1 := by rw [IntWalk.i64_in _ (by omega)]; omega
  have hw2 : IntKind.i64.wrap (l : Int) = (l : Int) := IntWalk.i64_in _ (by omega)
  have hw3 : IntKind.u64.wrap (l : Int) = (l : Int) := by rw [IntKind.wrap_u64]; omega
  have hk1 := k.isLt
  have hw4 : IntKind.u64.wrap (k.toNat : Int) = (k.toNat : Int) := by rw [IntKind.wrap_u64]; omega
  have hw5 : IntKind.i64.wrap (jt : Int) = (jt : Int) := IntWalk.i64_in _ (by omega)
  have hw6 : IntKind.i64.wrap (jf : Int) = (jf : Int) := IntWalk.i64_in _ (by omega)
  have HSE := Lib.hid (fun w => ref_Seals_is (c := 3) (b := true) rfl w)
  have HJU := Lib.hid (fun w => ref_Jump_is (c := 3) (b := false) rfl w)
  have g1 : (16 : Int) ≤ (k.toNat : Int) := by omega
  clear hl
  go_enter Tryz.func25, Tryz.ntmps25
  go_wp2_with (first
    | (go_at_call 54; (with_reducible refine (HSE.out _).mono ?_); rintro e w' ⟨rfl, rfl⟩)
    | (go_at_call 36; (with_reducible refine (HJU.out _).mono ?_); rintro e w' ⟨rfl, rfl⟩))
  go_ret
  exact ⟨rfl, box_below w _⟩
theorem ref_One_mem_3 (hc : InsCells w b (o + i * 4) ⟨3, jt, jf, k⟩) (hb : b < w.heap.size) (hi : i < n) (hn : n ≤ 140737488351232) (hl : n = i + l + 1) (hjt : jt < 256) (hjf : jf < 256) (hk : ¬ 16 ≤ k.toNat) :
    Calls Tryz.prog 25 #[.slice (some ⟨b, o, none⟩) n cap, .int .i64 (i : Int)] w (LookP w 0) := by
  obtain ⟨c0, c1, c2, c3⟩ := hc
  have h1 : ¬ (i : Int) < 0 := by omega
  have h2 : ¬ (n : Int) ≤ (i : Int) := by omega
  have h3 : (i : Int) < (n : Int) := by omega
  have hw1 : IntKind.i64.wrap ((n : Int) - (i : Int)) = (l : Int) + 1 := by rw [IntWalk.i64_in _ (by omega)]; omega
  have hw2 : IntKind.i64.wrap (l : Int) = (l : Int) := IntWalk.i64_in _ (by omega)
  have hw3 : IntKind.u64.wrap (l : Int) = (l : Int) := by rw [IntKind.wrap_u64]; omega
  have hk1 := k.isLt
  have hw4 : IntKind.u64.wrap (k.toNat : Int) = (k.toNat : Int) := by rw [IntKind.wrap_u64]; omega
  have hw5 : IntKind.i64.wrap (jt : Int) = (jt : Int) := IntWalk.i64_in _ (by omega)
  have hw6 : IntKind.i64.wrap (jf : Int) = (jf : Int) := IntWalk.i64_in _ (by omega)
  have HSE := Lib.hid (fun w => ref_Seals_is (c := 3) (b := true) rfl w)
  have HJU := Lib.hid (fun w => ref_Jump_is (c := 3) (b := false) rfl w)
  have g1 : ¬ (16 : Int) ≤ (k.toNat : Int) := by omega
  have g2 : decide (16 ≤ k.toNat) = false := decide_eq_false hk
  clear hl
  go_enter Tryz.func25, Tryz.ntmps25
  go_wp2_with (first
    | (go_at_call 54; (with_reducible refine (HSE.out _).mono ?_); rintro e w' ⟨rfl, rfl⟩)
    | (go_at_call 36; (with_reducible refine (HJU.out _).mono ?_); rintro e w' ⟨rfl, rfl⟩))
  go_ret
  exact ⟨rfl, box_below w _⟩
theorem ref_One_jump_t_21 (hc : InsCells w b (o + i * 4) ⟨21, jt, jf, k⟩) (hb : b < w.heap.size) (hi : i < n) (hn : n ≤ 140737488351232) (hl : n = i + l + 1) (hjt : jt < 256) (hjf : jf < 256) (hk : l ≤ jt) :
    Calls Tryz.prog 25 #[.slice (some ⟨b, o, none⟩) n cap, .int .i64 (i : Int)] w (LookP w 43) := by
  obtain ⟨c0, c1, c2, c3⟩ := hc
  have h1 : ¬ (i : Int) < 0 := by omega
  have h2 : ¬ (n : Int) ≤ (i : Int) := by omega
  have h3 : (i : Int) < (n : Int) := by omega
  have hw1 : IntKind.i64.wrap ((n : Int) - (i : Int)) = (l : Int) + 1 := by rw [IntWalk.i64_in _ (by omega)]; omega
  have hw2 : IntKind.i64.wrap (l : Int) = (l : Int) := IntWalk.i64_in _ (by omega)
  have hw3 : IntKind.u64.wrap (l : Int) = (l : Int) := by rw [IntKind.wrap_u64]; omega
  have hk1 := k.isLt
  have hw4 : IntKind.u64.wrap (k.toNat : Int) = (k.toNat : Int) := by rw [IntKind.wrap_u64]; omega
  have hw5 : IntKind.i64.wrap (jt : Int) = (jt : Int) := IntWalk.i64_in _ (by omega)
  have hw6 : IntKind.i64.wrap (jf : Int) = (jf : Int) := IntWalk.i64_in _ (by omega)
  have HSE := Lib.hid (fun w => ref_Seals_is (c := 21) (b := true) rfl w)
  have HJU := Lib.hid (fun w => ref_Jump_is (c := 21) (b := true) rfl w)
  have g1 : (l : Int) ≤ (jt : Int) := by omega
  clear hl
  go_enter Tryz.func25, Tryz.ntmps25
  go_wp2_with (first
    | (go_at_call 54; (with_reducible refine (HSE.out _).mono ?_); rintro e w' ⟨rfl, rfl⟩)
    | (go_at_call 36; (with_reducible refine (HJU.out _).mono ?_); rintro e w' ⟨rfl, rfl⟩))
  go_ret
  exact ⟨rfl, box_below w _⟩
theorem ref_One_jump_f_21 (hc : InsCells w b (o + i * 4) ⟨21, jt, jf, k⟩) (hb : b < w.heap.size) (hi : i < n) (hn : n ≤ 140737488351232) (hl : n = i + l + 1) (hjt : jt < 256) (hjf : jf < 256) (hk0 : ¬ l ≤ jt) (hk : l ≤ jf) :
    Calls Tryz.prog 25 #[.slice (some ⟨b, o, none⟩) n cap, .int .i64 (i : Int)] w (LookP w 43) := by
  obtain ⟨c0, c1, c2, c3⟩ := hc
  have h1 : ¬ (i : Int) < 0 := by omega
  have h2 : ¬ (n : Int) ≤ (i : Int) := by omega
  have h3 : (i : Int) < (n : Int) := by omega
  have hw1 : IntKind.i64.wrap ((n : Int) - (i : Int)) = (l : Int) + 1 := by rw [IntWalk.i64_in _ (by omega)]; omega
  have hw2 : IntKind.i64.wrap (l : Int) = (l : Int) := IntWalk.i64_in _ (by omega)
  have hw3 : IntKind.u64.wrap (l : Int) = (l : Int) := by rw [IntKind.wrap_u64]; omega
  have hk1 := k.isLt
  have hw4 : IntKind.u64.wrap (k.toNat : Int) = (k.toNat : Int) := by rw [IntKind.wrap_u64]; omega
  have hw5 : IntKind.i64.wrap (jt : Int) = (jt : Int) := IntWalk.i64_in _ (by omega)
  have hw6 : IntKind.i64.wrap (jf : Int) = (jf : Int) := IntWalk.i64_in _ (by omega)
  have HSE := Lib.hid (fun w => ref_Seals_is (c := 21) (b := true) rfl w)
  have HJU := Lib.hid (fun w => ref_Jump_is (c := 21) (b := true) rfl w)
  have g0 : ¬ (l : Int) ≤ (jt : Int) := by omega
  have g00 : decide (l ≤ jt) = false := decide_eq_false hk0
  have g1 : (l : Int) ≤ (jf : Int) := by omega
  clear hl
  go_enter Tryz.func25, Tryz.ntmps25
  go_wp2_with (first
    | (go_at_call 54; (with_reducible refine (HSE.out _).mono ?_); rintro e w' ⟨rfl, rfl⟩)
    | (go_at_call 36; (with_reducible refine (HJU.out _).mono ?_); rintro e w' ⟨rfl, rfl⟩))
  go_ret
  exact ⟨rfl, box_below w _⟩
theorem ref_One_jump_21 (hc : InsCells w b (o + i * 4) ⟨21, jt, jf, k⟩) (hb : b < w.heap.size) (hi : i < n) (hn : n ≤ 140737488351232) (hl : n = i + l + 1) (hjt : jt < 256) (hjf : jf < 256) (hk0 : ¬ l ≤ jt) (hk : ¬ l ≤ jf) :
    Calls Tryz.prog 25 #[.slice (some ⟨b, o, none⟩) n cap, .int .i64 (i : Int)] w (LookP w 0) := by
  obtain ⟨c0, c1, c2, c3⟩ := hc
  have h1 : ¬ (i : Int) < 0 := by omega
  have h2 : ¬ (n : Int) ≤ (i : Int) := by omega
  have h3 : (i : Int) < (n : Int) := by omega
  have hw1 : IntKind.i64.wrap ((n : Int) - (i : Int)) = (l : Int) + 1 := by rw [IntWalk.i64_in _ (by omega)]; omega
  have hw2 : IntKind.i64.wrap (l : Int) = (l : Int) := IntWalk.i64_in _ (by omega)
  have hw3 : IntKind.u64.wrap (l : Int) = (l : Int) := by rw [IntKind.wrap_u64]; omega
  have hk1 := k.isLt
  have hw4 : IntKind.u64.wrap (k.toNat : Int) = (k.toNat : Int) := by rw [IntKind.wrap_u64]; omega
  have hw5 : IntKind.i64.wrap (jt : Int) = (jt : Int) := IntWalk.i64_in _ (by omega)
  have hw6 : IntKind.i64.wrap (jf : Int) = (jf : Int) := IntWalk.i64_in _ (by omega)
  have HSE := Lib.hid (fun w => ref_Seals_is (c := 21) (b := true) rfl w)
  have HJU := Lib.hid (fun w => ref_Jump_is (c := 21) (b := true) rfl w)
  have g0 : ¬ (l : Int) ≤ (jt : Int) := by omega
  have g00 : decide (l ≤ jt) = false := decide_eq_false hk0
  have g1 : ¬ (l : Int) ≤ (jf : Int) := by omega
  have g11 : decide (l ≤ jf) = false := decide_eq_false hk
  clear hl
  go_enter Tryz.func25, Tryz.ntmps25
  go_wp2_with (first
    | (go_at_call 54; (with_reducible refine (HSE.out _).mono ?_); rintro e w' ⟨rfl, rfl⟩)
    | (go_at_call 36; (with_reducible refine (HJU.out _).mono ?_); rintro e w' ⟨rfl, rfl⟩))
  go_ret
  exact ⟨rfl, box_below w _⟩
theorem ref_One_jump_t_37 (hc : InsCells w b (o + i * 4) ⟨37, jt, jf, k⟩) (hb : b < w.heap.size) (hi : i < n) (hn : n ≤ 140737488351232) (hl : n = i + l + 1) (hjt : jt < 256) (hjf : jf < 256) (hk : l ≤ jt) :
    Calls Tryz.prog 25 #[.slice (some ⟨b, o, none⟩) n cap, .int .i64 (i : Int)] w (LookP w 43) := by
  obtain ⟨c0, c1, c2, c3⟩ := hc
  have h1 : ¬ (i : Int) < 0 := by omega
  have h2 : ¬ (n : Int) ≤ (i : Int) := by omega
  have h3 : (i : Int) < (n : Int) := by omega
  have hw1 : IntKind.i64.wrap ((n : Int) - (i : Int)) = (l : Int) + 1 := by rw [IntWalk.i64_in _ (by omega)]; omega
  have hw2 : IntKind.i64.wrap (l : Int) = (l : Int) := IntWalk.i64_in _ (by omega)
  have hw3 : IntKind.u64.wrap (l : Int) = (l : Int) := by rw [IntKind.wrap_u64]; omega
  have hk1 := k.isLt
  have hw4 : IntKind.u64.wrap (k.toNat : Int) = (k.toNat : Int) := by rw [IntKind.wrap_u64]; omega
  have hw5 : IntKind.i64.wrap (jt : Int) = (jt : Int) := IntWalk.i64_in _ (by omega)
  have hw6 : IntKind.i64.wrap (jf : Int) = (jf : Int) := IntWalk.i64_in _ (by omega)
  have HSE := Lib.hid (fun w => ref_Seals_is (c := 37) (b := true) rfl w)
  have HJU := Lib.hid (fun w => ref_Jump_is (c := 37) (b := true) rfl w)
  have g1 : (l : Int) ≤ (jt : Int) := by omega
  clear hl
  go_enter Tryz.func25, Tryz.ntmps25
  go_wp2_with (first
    | (go_at_call 54; (with_reducible refine (HSE.out _).mono ?_); rintro e w' ⟨rfl, rfl⟩)
    | (go_at_call 36; (with_reducible refine (HJU.out _).mono ?_); rintro e w' ⟨rfl, rfl⟩))
  go_ret
  exact ⟨rfl, box_below w _⟩
theorem ref_One_jump_f_37 (hc : InsCells w b (o + i * 4) ⟨37, jt, jf, k⟩) (hb : b < w.heap.size) (hi : i < n) (hn : n ≤ 140737488351232) (hl : n = i + l + 1) (hjt : jt < 256) (hjf : jf < 256) (hk0 : ¬ l ≤ jt) (hk : l ≤ jf) :
    Calls Tryz.prog 25 #[.slice (some ⟨b, o, none⟩) n cap, .int .i64 (i : Int)] w (LookP w 43) := by
  obtain ⟨c0, c1, c2, c3⟩ := hc
  have h1 : ¬ (i : Int) < 0 := by omega
  have h2 : ¬ (n : Int) ≤ (i : Int) := by omega
  have h3 : (i : Int) < (n : Int) := by omega
  have hw1 : IntKind.i64.wrap ((n : Int) - (i : Int)) = (l : Int) + 1 := by rw [IntWalk.i64_in _ (by omega)]; omega
  have hw2 : IntKind.i64.wrap (l : Int) = (l : Int) := IntWalk.i64_in _ (by omega)
  have hw3 : IntKind.u64.wrap (l : Int) = (l : Int) := by rw [IntKind.wrap_u64]; omega
  have hk1 := k.isLt
  have hw4 : IntKind.u64.wrap (k.toNat : Int) = (k.toNat : Int) := by rw [IntKind.wrap_u64]; omega
  have hw5 : IntKind.i64.wrap (jt : Int) = (jt : Int) := IntWalk.i64_in _ (by omega)
  have hw6 : IntKind.i64.wrap (jf : Int) = (jf : Int) := IntWalk.i64_in _ (by omega)
  have HSE := Lib.hid (fun w => ref_Seals_is (c := 37) (b := true) rfl w)
  have HJU := Lib.hid (fun w => ref_Jump_is (c := 37) (b := true) rfl w)
  have g0 : ¬ (l : Int) ≤ (jt : Int) := by omega
  have g00 : decide (l ≤ jt) = false := decide_eq_false hk0
  have g1 : (l : Int) ≤ (jf : Int) := by omega
  clear hl
  go_enter Tryz.func25, Tryz.ntmps25
  go_wp2_with (first
    | (go_at_call 54; (with_reducible refine (HSE.out _).mono ?_); rintro e w' ⟨rfl, rfl⟩)
    | (go_at_call 36; (with_reducible refine (HJU.out _).mono ?_); rintro e w' ⟨rfl, rfl⟩))
  go_ret
  exact ⟨rfl, box_below w _⟩
theorem ref_One_jump_37 (hc : InsCells w b (o + i * 4) ⟨37, jt, jf, k⟩) (hb : b < w.heap.size) (hi : i < n) (hn : n ≤ 140737488351232) (hl : n = i + l + 1) (hjt : jt < 256) (hjf : jf < 256) (hk0 : ¬ l ≤ jt) (hk : ¬ l ≤ jf) :
    Calls Tryz.prog 25 #[.slice (some ⟨b, o, none⟩) n cap, .int .i64 (i : Int)] w (LookP w 0) := by
  obtain ⟨c0, c1, c2, c3⟩ := hc
  have h1 : ¬ (i : Int) < 0 := by omega
  have h2 : ¬ (n : Int) ≤ (i : Int) := by omega
  have h3 : (i : Int) < (n : Int) := by omega
  have hw1 : IntKind.i64.wrap ((n : Int) - (i : Int)) = (l : Int) + 1 := by rw [IntWalk.i64_in _ (by omega)]; omega
  have hw2 : IntKind.i64.wrap (l : Int) = (l : Int) := IntWalk.i64_in _ (by omega)
  have hw3 : IntKind.u64.wrap (l : Int) = (l : Int) := by rw [IntKind.wrap_u64]; omega
  have hk1 := k.isLt
  have hw4 : IntKind.u64.wrap (k.toNat : Int) = (k.toNat : Int) := by rw [IntKind.wrap_u64]; omega
  have hw5 : IntKind.i64.wrap (jt : Int) = (jt : Int) := IntWalk.i64_in _ (by omega)
  have hw6 : IntKind.i64.wrap (jf : Int) = (jf : Int) := IntWalk.i64_in _ (by omega)
  have HSE := Lib.hid (fun w => ref_Seals_is (c := 37) (b := true) rfl w)
  have HJU := Lib.hid (fun w => ref_Jump_is (c := 37) (b := true) rfl w)
  have g0 : ¬ (l : Int) ≤ (jt : Int) := by omega
  have g00 : decide (l ≤ jt) = false := decide_eq_false hk0
  have g1 : ¬ (l : Int) ≤ (jf : Int) := by omega
  have g11 : decide (l ≤ jf) = false := decide_eq_false hk
  clear hl
  go_enter Tryz.func25, Tryz.ntmps25
  go_wp2_with (first
    | (go_at_call 54; (with_reducible refine (HSE.out _).mono ?_); rintro e w' ⟨rfl, rfl⟩)
    | (go_at_call 36; (with_reducible refine (HJU.out _).mono ?_); rintro e w' ⟨rfl, rfl⟩))
  go_ret
  exact ⟨rfl, box_below w _⟩
theorem ref_One_jump_t_53 (hc : InsCells w b (o + i * 4) ⟨53, jt, jf, k⟩) (hb : b < w.heap.size) (hi : i < n) (hn : n ≤ 140737488351232) (hl : n = i + l + 1) (hjt : jt < 256) (hjf : jf < 256) (hk : l ≤ jt) :
    Calls Tryz.prog 25 #[.slice (some ⟨b, o, none⟩) n cap, .int .i64 (i : Int)] w (LookP w 43) := by
  obtain ⟨c0, c1, c2, c3⟩ := hc
  have h1 : ¬ (i : Int) < 0 := by omega
  have h2 : ¬ (n : Int) ≤ (i : Int) := by omega
  have h3 : (i : Int) < (n : Int) := by omega
  have hw1 : IntKind.i64.wrap ((n : Int) - (i : Int)) = (l : Int) + 1 := by rw [IntWalk.i64_in _ (by omega)]; omega
  have hw2 : IntKind.i64.wrap (l : Int) = (l : Int) := IntWalk.i64_in _ (by omega)
  have hw3 : IntKind.u64.wrap (l : Int) = (l : Int) := by rw [IntKind.wrap_u64]; omega
  have hk1 := k.isLt
  have hw4 : IntKind.u64.wrap (k.toNat : Int) = (k.toNat : Int) := by rw [IntKind.wrap_u64]; omega
  have hw5 : IntKind.i64.wrap (jt : Int) = (jt : Int) := IntWalk.i64_in _ (by omega)
  have hw6 : IntKind.i64.wrap (jf : Int) = (jf : Int) := IntWalk.i64_in _ (by omega)
  have HSE := Lib.hid (fun w => ref_Seals_is (c := 53) (b := true) rfl w)
  have HJU := Lib.hid (fun w => ref_Jump_is (c := 53) (b := true) rfl w)
  have g1 : (l : Int) ≤ (jt : Int) := by omega
  clear hl
  go_enter Tryz.func25, Tryz.ntmps25
  go_wp2_with (first
    | (go_at_call 54; (with_reducible refine (HSE.out _).mono ?_); rintro e w' ⟨rfl, rfl⟩)
    | (go_at_call 36; (with_reducible refine (HJU.out _).mono ?_); rintro e w' ⟨rfl, rfl⟩))
  go_ret
  exact ⟨rfl, box_below w _⟩
theorem ref_One_jump_f_53 (hc : InsCells w b (o + i * 4) ⟨53, jt, jf, k⟩) (hb : b < w.heap.size) (hi : i < n) (hn : n ≤ 140737488351232) (hl : n = i + l + 1) (hjt : jt < 256) (hjf : jf < 256) (hk0 : ¬ l ≤ jt) (hk : l ≤ jf) :
    Calls Tryz.prog 25 #[.slice (some ⟨b, o, none⟩) n cap, .int .i64 (i : Int)] w (LookP w 43) := by
  obtain ⟨c0, c1, c2, c3⟩ := hc
  have h1 : ¬ (i : Int) < 0 := by omega
  have h2 : ¬ (n : Int) ≤ (i : Int) := by omega
  have h3 : (i : Int) < (n : Int) := by omega
  have hw1 : IntKind.i64.wrap ((n : Int) - (i : Int)) = (l : Int) + 1 := by rw [IntWalk.i64_in _ (by omega)]; omega
  have hw2 : IntKind.i64.wrap (l : Int) = (l : Int) := IntWalk.i64_in _ (by omega)
  have hw3 : IntKind.u64.wrap (l : Int) = (l : Int) := by rw [IntKind.wrap_u64]; omega
  have hk1 := k.isLt
  have hw4 : IntKind.u64.wrap (k.toNat : Int) = (k.toNat : Int) := by rw [IntKind.wrap_u64]; omega
  have hw5 : IntKind.i64.wrap (jt : Int) = (jt : Int) := IntWalk.i64_in _ (by omega)
  have hw6 : IntKind.i64.wrap (jf : Int) = (jf : Int) := IntWalk.i64_in _ (by omega)
  have HSE := Lib.hid (fun w => ref_Seals_is (c := 53) (b := true) rfl w)
  have HJU := Lib.hid (fun w => ref_Jump_is (c := 53) (b := true) rfl w)
  have g0 : ¬ (l : Int) ≤ (jt : Int) := by omega
  have g00 : decide (l ≤ jt) = false := decide_eq_false hk0
  have g1 : (l : Int) ≤ (jf : Int) := by omega
  clear hl
  go_enter Tryz.func25, Tryz.ntmps25
  go_wp2_with (first
    | (go_at_call 54; (with_reducible refine (HSE.out _).mono ?_); rintro e w' ⟨rfl, rfl⟩)
    | (go_at_call 36; (with_reducible refine (HJU.out _).mono ?_); rintro e w' ⟨rfl, rfl⟩))
  go_ret
  exact ⟨rfl, box_below w _⟩
theorem ref_One_jump_53 (hc : InsCells w b (o + i * 4) ⟨53, jt, jf, k⟩) (hb : b < w.heap.size) (hi : i < n) (hn : n ≤ 140737488351232) (hl : n = i + l + 1) (hjt : jt < 256) (hjf : jf < 256) (hk0 : ¬ l ≤ jt) (hk : ¬ l ≤ jf) :
    Calls Tryz.prog 25 #[.slice (some ⟨b, o, none⟩) n cap, .int .i64 (i : Int)] w (LookP w 0) := by
  obtain ⟨c0, c1, c2, c3⟩ := hc
  have h1 : ¬ (i : Int) < 0 := by omega
  have h2 : ¬ (n : Int) ≤ (i : Int) := by omega
  have h3 : (i : Int) < (n : Int) := by omega
  have hw1 : IntKind.i64.wrap ((n : Int) - (i : Int)) = (l : Int) + 1 := by rw [IntWalk.i64_in _ (by omega)]; omega
  have hw2 : IntKind.i64.wrap (l : Int) = (l : Int) := IntWalk.i64_in _ (by omega)
  have hw3 : IntKind.u64.wrap (l : Int) = (l : Int) := by rw [IntKind.wrap_u64]; omega
  have hk1 := k.isLt
  have hw4 : IntKind.u64.wrap (k.toNat : Int) = (k.toNat : Int) := by rw [IntKind.wrap_u64]; omega
  have hw5 : IntKind.i64.wrap (jt : Int) = (jt : Int) := IntWalk.i64_in _ (by omega)
  have hw6 : IntKind.i64.wrap (jf : Int) = (jf : Int) := IntWalk.i64_in _ (by omega)
  have HSE := Lib.hid (fun w => ref_Seals_is (c := 53) (b := true) rfl w)
  have HJU := Lib.hid (fun w => ref_Jump_is (c := 53) (b := true) rfl w)
  have g0 : ¬ (l : Int) ≤ (jt : Int) := by omega
  have g00 : decide (l ≤ jt) = false := decide_eq_false hk0
  have g1 : ¬ (l : Int) ≤ (jf : Int) := by omega
  have g11 : decide (l ≤ jf) = false := decide_eq_false hk
  clear hl
  go_enter Tryz.func25, Tryz.ntmps25
  go_wp2_with (first
    | (go_at_call 54; (with_reducible refine (HSE.out _).mono ?_); rintro e w' ⟨rfl, rfl⟩)
    | (go_at_call 36; (with_reducible refine (HJU.out _).mono ?_); rintro e w' ⟨rfl, rfl⟩))
  go_ret
  exact ⟨rfl, box_below w _⟩
theorem ref_One_jump_t_69 (hc : InsCells w b (o + i * 4) ⟨69, jt, jf, k⟩) (hb : b < w.heap.size) (hi : i < n) (hn : n ≤ 140737488351232) (hl : n = i + l + 1) (hjt : jt < 256) (hjf : jf < 256) (hk : l ≤ jt) :
    Calls Tryz.prog 25 #[.slice (some ⟨b, o, none⟩) n cap, .int .i64 (i : Int)] w (LookP w 43) := by
  obtain ⟨c0, c1, c2, c3⟩ := hc
  have h1 : ¬ (i : Int) < 0 := by omega
  have h2 : ¬ (n : Int) ≤ (i : Int) := by omega
  have h3 : (i : Int) < (n : Int) := by omega
  have hw1 : IntKind.i64.wrap ((n : Int) - (i : Int)) = (l : Int) + 1 := by rw [IntWalk.i64_in _ (by omega)]; omega
  have hw2 : IntKind.i64.wrap (l : Int) = (l : Int) := IntWalk.i64_in _ (by omega)
  have hw3 : IntKind.u64.wrap (l : Int) = (l : Int) := by rw [IntKind.wrap_u64]; omega
  have hk1 := k.isLt
  have hw4 : IntKind.u64.wrap (k.toNat : Int) = (k.toNat : Int) := by rw [IntKind.wrap_u64]; omega
  have hw5 : IntKind.i64.wrap (jt : Int) = (jt : Int) := IntWalk.i64_in _ (by omega)
  have hw6 : IntKind.i64.wrap (jf : Int) = (jf : Int) := IntWalk.i64_in _ (by omega)
  have HSE := Lib.hid (fun w => ref_Seals_is (c := 69) (b := true) rfl w)
  have HJU := Lib.hid (fun w => ref_Jump_is (c := 69) (b := true) rfl w)
  have g1 : (l : Int) ≤ (jt : Int) := by omega
  clear hl
  go_enter Tryz.func25, Tryz.ntmps25
  go_wp2_with (first
    | (go_at_call 54; (with_reducible refine (HSE.out _).mono ?_); rintro e w' ⟨rfl, rfl⟩)
    | (go_at_call 36; (with_reducible refine (HJU.out _).mono ?_); rintro e w' ⟨rfl, rfl⟩))
  go_ret
  exact ⟨rfl, box_below w _⟩
theorem ref_One_jump_f_69 (hc : InsCells w b (o + i * 4) ⟨69, jt, jf, k⟩) (hb : b < w.heap.size) (hi : i < n) (hn : n ≤ 140737488351232) (hl : n = i + l + 1) (hjt : jt < 256) (hjf : jf < 256) (hk0 : ¬ l ≤ jt) (hk : l ≤ jf) :
    Calls Tryz.prog 25 #[.slice (some ⟨b, o, none⟩) n cap, .int .i64 (i : Int)] w (LookP w 43) := by
  obtain ⟨c0, c1, c2, c3⟩ := hc
  have h1 : ¬ (i : Int) < 0 := by omega
  have h2 : ¬ (n : Int) ≤ (i : Int) := by omega
  have h3 : (i : Int) < (n : Int) := by omega
  have hw1 : IntKind.i64.wrap ((n : Int) - (i : Int)) = (l : Int) + 1 := by rw [IntWalk.i64_in _ (by omega)]; omega
  have hw2 : IntKind.i64.wrap (l : Int) = (l : Int) := IntWalk.i64_in _ (by omega)
  have hw3 : IntKind.u64.wrap (l : Int) = (l : Int) := by rw [IntKind.wrap_u64]; omega
  have hk1 := k.isLt
  have hw4 : IntKind.u64.wrap (k.toNat : Int) = (k.toNat : Int) := by rw [IntKind.wrap_u64]; omega
  have hw5 : IntKind.i64.wrap (jt : Int) = (jt : Int) := IntWalk.i64_in _ (by omega)
  have hw6 : IntKind.i64.wrap (jf : Int) = (jf : Int) := IntWalk.i64_in _ (by omega)
  have HSE := Lib.hid (fun w => ref_Seals_is (c := 69) (b := true) rfl w)
  have HJU := Lib.hid (fun w => ref_Jump_is (c := 69) (b := true) rfl w)
  have g0 : ¬ (l : Int) ≤ (jt : Int) := by omega
  have g00 : decide (l ≤ jt) = false := decide_eq_false hk0
  have g1 : (l : Int) ≤ (jf : Int) := by omega
  clear hl
  go_enter Tryz.func25, Tryz.ntmps25
  go_wp2_with (first
    | (go_at_call 54; (with_reducible refine (HSE.out _).mono ?_); rintro e w' ⟨rfl, rfl⟩)
    | (go_at_call 36; (with_reducible refine (HJU.out _).mono ?_); rintro e w' ⟨rfl, rfl⟩))
  go_ret
  exact ⟨rfl, box_below w _⟩
theorem ref_One_jump_69 (hc : InsCells w b (o + i * 4) ⟨69, jt, jf, k⟩) (hb : b < w.heap.size) (hi : i < n) (hn : n ≤ 140737488351232) (hl : n = i + l + 1) (hjt : jt < 256) (hjf : jf < 256) (hk0 : ¬ l ≤ jt) (hk : ¬ l ≤ jf) :
    Calls Tryz.prog 25 #[.slice (some ⟨b, o, none⟩) n cap, .int .i64 (i : Int)] w (LookP w 0) := by
  obtain ⟨c0, c1, c2, c3⟩ := hc
  have h1 : ¬ (i : Int) < 0 := by omega
  have h2 : ¬ (n : Int) ≤ (i : Int) := by omega
  have h3 : (i : Int) < (n : Int) := by omega
  have hw1 : IntKind.i64.wrap ((n : Int) - (i : Int)) = (l : Int) + 1 := by rw [IntWalk.i64_in _ (by omega)]; omega
  have hw2 : IntKind.i64.wrap (l : Int) = (l : Int) := IntWalk.i64_in _ (by omega)
  have hw3 : IntKind.u64.wrap (l : Int) = (l : Int) := by rw [IntKind.wrap_u64]; omega
  have hk1 := k.isLt
  have hw4 : IntKind.u64.wrap (k.toNat : Int) = (k.toNat : Int) := by rw [IntKind.wrap_u64]; omega
  have hw5 : IntKind.i64.wrap (jt : Int) = (jt : Int) := IntWalk.i64_in _ (by omega)
  have hw6 : IntKind.i64.wrap (jf : Int) = (jf : Int) := IntWalk.i64_in _ (by omega)
  have HSE := Lib.hid (fun w => ref_Seals_is (c := 69) (b := true) rfl w)
  have HJU := Lib.hid (fun w => ref_Jump_is (c := 69) (b := true) rfl w)
  have g0 : ¬ (l : Int) ≤ (jt : Int) := by omega
  have g00 : decide (l ≤ jt) = false := decide_eq_false hk0
  have g1 : ¬ (l : Int) ≤ (jf : Int) := by omega
  have g11 : decide (l ≤ jf) = false := decide_eq_false hk
  clear hl
  go_enter Tryz.func25, Tryz.ntmps25
  go_wp2_with (first
    | (go_at_call 54; (with_reducible refine (HSE.out _).mono ?_); rintro e w' ⟨rfl, rfl⟩)
    | (go_at_call 36; (with_reducible refine (HJU.out _).mono ?_); rintro e w' ⟨rfl, rfl⟩))
  go_ret
  exact ⟨rfl, box_below w _⟩
theorem ref_One_jump_t_29 (hc : InsCells w b (o + i * 4) ⟨29, jt, jf, k⟩) (hb : b < w.heap.size) (hi : i < n) (hn : n ≤ 140737488351232) (hl : n = i + l + 1) (hjt : jt < 256) (hjf : jf < 256) (hk : l ≤ jt) :
    Calls Tryz.prog 25 #[.slice (some ⟨b, o, none⟩) n cap, .int .i64 (i : Int)] w (LookP w 43) := by
  obtain ⟨c0, c1, c2, c3⟩ := hc
  have h1 : ¬ (i : Int) < 0 := by omega
  have h2 : ¬ (n : Int) ≤ (i : Int) := by omega
  have h3 : (i : Int) < (n : Int) := by omega
  have hw1 : IntKind.i64.wrap ((n : Int) - (i : Int)) = (l : Int) + 1 := by rw [IntWalk.i64_in _ (by omega)]; omega
  have hw2 : IntKind.i64.wrap (l : Int) = (l : Int) := IntWalk.i64_in _ (by omega)
  have hw3 : IntKind.u64.wrap (l : Int) = (l : Int) := by rw [IntKind.wrap_u64]; omega
  have hk1 := k.isLt
  have hw4 : IntKind.u64.wrap (k.toNat : Int) = (k.toNat : Int) := by rw [IntKind.wrap_u64]; omega
  have hw5 : IntKind.i64.wrap (jt : Int) = (jt : Int) := IntWalk.i64_in _ (by omega)
  have hw6 : IntKind.i64.wrap (jf : Int) = (jf : Int) := IntWalk.i64_in _ (by omega)
  have HSE := Lib.hid (fun w => ref_Seals_is (c := 29) (b := true) rfl w)
  have HJU := Lib.hid (fun w => ref_Jump_is (c := 29) (b := true) rfl w)
  have g1 : (l : Int) ≤ (jt : Int) := by omega
  clear hl
  go_enter Tryz.func25, Tryz.ntmps25
  go_wp2_with (first
    | (go_at_call 54; (with_reducible refine (HSE.out _).mono ?_); rintro e w' ⟨rfl, rfl⟩)
    | (go_at_call 36; (with_reducible refine (HJU.out _).mono ?_); rintro e w' ⟨rfl, rfl⟩))
  go_ret
  exact ⟨rfl, box_below w _⟩
theorem ref_One_jump_f_29 (hc : InsCells w b (o + i * 4) ⟨29, jt, jf, k⟩) (hb : b < w.heap.size) (hi : i < n) (hn : n ≤ 140737488351232) (hl : n = i + l + 1) (hjt : jt < 256) (hjf : jf < 256) (hk0 : ¬ l ≤ jt) (hk : l ≤ jf) :
    Calls Tryz.prog 25 #[.slice (some ⟨b, o, none⟩) n cap, .int .i64 (i : Int)] w (LookP w 43) := by
  obtain ⟨c0, c1, c2, c3⟩ := hc
  have h1 : ¬ (i : Int) < 0 := by omega
  have h2 : ¬ (n : Int) ≤ (i : Int) := by omega
  have h3 : (i : Int) < (n : Int) := by omega
  have hw1 : IntKind.i64.wrap ((n : Int) - (i : Int)) = (l : Int) + 1 := by rw [IntWalk.i64_in _ (by omega)]; omega
  have hw2 : IntKind.i64.wrap (l : Int) = (l : Int) := IntWalk.i64_in _ (by omega)
  have hw3 : IntKind.u64.wrap (l : Int) = (l : Int) := by rw [IntKind.wrap_u64]; omega
  have hk1 := k.isLt
  have hw4 : IntKind.u64.wrap (k.toNat : Int) = (k.toNat : Int) := by rw [IntKind.wrap_u64]; omega
  have hw5 : IntKind.i64.wrap (jt : Int) = (jt : Int) := IntWalk.i64_in _ (by omega)
  have hw6 : IntKind.i64.wrap (jf : Int) = (jf : Int) := IntWalk.i64_in _ (by omega)
  have HSE := Lib.hid (fun w => ref_Seals_is (c := 29) (b := true) rfl w)
  have HJU := Lib.hid (fun w => ref_Jump_is (c := 29) (b := true) rfl w)
  have g0 : ¬ (l : Int) ≤ (jt : Int) := by omega
  have g00 : decide (l ≤ jt) = false := decide_eq_false hk0
  have g1 : (l : Int) ≤ (jf : Int) := by omega
  clear hl
  go_enter Tryz.func25, Tryz.ntmps25
  go_wp2_with (first
    | (go_at_call 54; (with_reducible refine (HSE.out _).mono ?_); rintro e w' ⟨rfl, rfl⟩)
    | (go_at_call 36; (with_reducible refine (HJU.out _).mono ?_); rintro e w' ⟨rfl, rfl⟩))
  go_ret
  exact ⟨rfl, box_below w _⟩
theorem ref_One_jump_29 (hc : InsCells w b (o + i * 4) ⟨29, jt, jf, k⟩) (hb : b < w.heap.size) (hi : i < n) (hn : n ≤ 140737488351232) (hl : n = i + l + 1) (hjt : jt < 256) (hjf : jf < 256) (hk0 : ¬ l ≤ jt) (hk : ¬ l ≤ jf) :
    Calls Tryz.prog 25 #[.slice (some ⟨b, o, none⟩) n cap, .int .i64 (i : Int)] w (LookP w 0) := by
  obtain ⟨c0, c1, c2, c3⟩ := hc
  have h1 : ¬ (i : Int) < 0 := by omega
  have h2 : ¬ (n : Int) ≤ (i : Int) := by omega
  have h3 : (i : Int) < (n : Int) := by omega
  have hw1 : IntKind.i64.wrap ((n : Int) - (i : Int)) = (l : Int) + 1 := by rw [IntWalk.i64_in _ (by omega)]; omega
  have hw2 : IntKind.i64.wrap (l : Int) = (l : Int) := IntWalk.i64_in _ (by omega)
  have hw3 : IntKind.u64.wrap (l : Int) = (l : Int) := by rw [IntKind.wrap_u64]; omega
  have hk1 := k.isLt
  have hw4 : IntKind.u64.wrap (k.toNat : Int) = (k.toNat : Int) := by rw [IntKind.wrap_u64]; omega
  have hw5 : IntKind.i64.wrap (jt : Int) = (jt : Int) := IntWalk.i64_in _ (by omega)
  have hw6 : IntKind.i64.wrap (jf : Int) = (jf : Int) := IntWalk.i64_in _ (by omega)
  have HSE := Lib.hid (fun w => ref_Seals_is (c := 29) (b := true) rfl w)
  have HJU := Lib.hid (fun w => ref_Jump_is (c := 29) (b := true) rfl w)
  have g0 : ¬ (l : Int) ≤ (jt : Int) := by omega
  have g00 : decide (l ≤ jt) = false := decide_eq_false hk0
  have g1 : ¬ (l : Int) ≤ (jf : Int) := by omega
  have g11 : decide (l ≤ jf) = false := decide_eq_false hk
  clear hl
  go_enter Tryz.func25, Tryz.ntmps25
  go_wp2_with (first
    | (go_at_call 54; (with_reducible refine (HSE.out _).mono ?_); rintro e w' ⟨rfl, rfl⟩)
    | (go_at_call 36; (with_reducible refine (HJU.out _).mono ?_); rintro e w' ⟨rfl, rfl⟩))
  go_ret
  exact ⟨rfl, box_below w _⟩
theorem ref_One_jump_t_45 (hc : InsCells w b (o + i * 4) ⟨45, jt, jf, k⟩) (hb : b < w.heap.size) (hi : i < n) (hn : n ≤ 140737488351232) (hl : n = i + l + 1) (hjt : jt < 256) (hjf : jf < 256) (hk : l ≤ jt) :
    Calls Tryz.prog 25 #[.slice (some ⟨b, o, none⟩) n cap, .int .i64 (i : Int)] w (LookP w 43) := by
  obtain ⟨c0, c1, c2, c3⟩ := hc
  have h1 : ¬ (i : Int) < 0 := by omega
  have h2 : ¬ (n : Int) ≤ (i : Int) := by omega
  have h3 : (i : Int) < (n : Int) := by omega
  have hw1 : IntKind.i64.wrap ((n : Int) - (i : Int)) = (l : Int) + 1 := by rw [IntWalk.i64_in _ (by omega)]; omega
  have hw2 : IntKind.i64.wrap (l : Int) = (l : Int) := IntWalk.i64_in _ (by omega)
  have hw3 : IntKind.u64.wrap (l : Int) = (l : Int) := by rw [IntKind.wrap_u64]; omega
  have hk1 := k.isLt
  have hw4 : IntKind.u64.wrap (k.toNat : Int) = (k.toNat : Int) := by rw [IntKind.wrap_u64]; omega
  have hw5 : IntKind.i64.wrap (jt : Int) = (jt : Int) := IntWalk.i64_in _ (by omega)
  have hw6 : IntKind.i64.wrap (jf : Int) = (jf : Int) := IntWalk.i64_in _ (by omega)
  have HSE := Lib.hid (fun w => ref_Seals_is (c := 45) (b := true) rfl w)
  have HJU := Lib.hid (fun w => ref_Jump_is (c := 45) (b := true) rfl w)
  have g1 : (l : Int) ≤ (jt : Int) := by omega
  clear hl
  go_enter Tryz.func25, Tryz.ntmps25
  go_wp2_with (first
    | (go_at_call 54; (with_reducible refine (HSE.out _).mono ?_); rintro e w' ⟨rfl, rfl⟩)
    | (go_at_call 36; (with_reducible refine (HJU.out _).mono ?_); rintro e w' ⟨rfl, rfl⟩))
  go_ret
  exact ⟨rfl, box_below w _⟩
theorem ref_One_jump_f_45 (hc : InsCells w b (o + i * 4) ⟨45, jt, jf, k⟩) (hb : b < w.heap.size) (hi : i < n) (hn : n ≤ 140737488351232) (hl : n = i + l + 1) (hjt : jt < 256) (hjf : jf < 256) (hk0 : ¬ l ≤ jt) (hk : l ≤ jf) :
    Calls Tryz.prog 25 #[.slice (some ⟨b, o, none⟩) n cap, .int .i64 (i : Int)] w (LookP w 43) := by
  obtain ⟨c0, c1, c2, c3⟩ := hc
  have h1 : ¬ (i : Int) < 0 := by omega
  have h2 : ¬ (n : Int) ≤ (i : Int) := by omega
  have h3 : (i : Int) < (n : Int) := by omega
  have hw1 : IntKind.i64.wrap ((n : Int) - (i : Int)) = (l : Int) + 1 := by rw [IntWalk.i64_in _ (by omega)]; omega
  have hw2 : IntKind.i64.wrap (l : Int) = (l : Int) := IntWalk.i64_in _ (by omega)
  have hw3 : IntKind.u64.wrap (l : Int) = (l : Int) := by rw [IntKind.wrap_u64]; omega
  have hk1 := k.isLt
  have hw4 : IntKind.u64.wrap (k.toNat : Int) = (k.toNat : Int) := by rw [IntKind.wrap_u64]; omega
  have hw5 : IntKind.i64.wrap (jt : Int) = (jt : Int) := IntWalk.i64_in _ (by omega)
  have hw6 : IntKind.i64.wrap (jf : Int) = (jf : Int) := IntWalk.i64_in _ (by omega)
  have HSE := Lib.hid (fun w => ref_Seals_is (c := 45) (b := true) rfl w)
  have HJU := Lib.hid (fun w => ref_Jump_is (c := 45) (b := true) rfl w)
  have g0 : ¬ (l : Int) ≤ (jt : Int) := by omega
  have g00 : decide (l ≤ jt) = false := decide_eq_false hk0
  have g1 : (l : Int) ≤ (jf : Int) := by omega
  clear hl
  go_enter Tryz.func25, Tryz.ntmps25
  go_wp2_with (first
    | (go_at_call 54; (with_reducible refine (HSE.out _).mono ?_); rintro e w' ⟨rfl, rfl⟩)
    | (go_at_call 36; (with_reducible refine (HJU.out _).mono ?_); rintro e w' ⟨rfl, rfl⟩))
  go_ret
  exact ⟨rfl, box_below w _⟩
theorem ref_One_jump_45 (hc : InsCells w b (o + i * 4) ⟨45, jt, jf, k⟩) (hb : b < w.heap.size) (hi : i < n) (hn : n ≤ 140737488351232) (hl : n = i + l + 1) (hjt : jt < 256) (hjf : jf < 256) (hk0 : ¬ l ≤ jt) (hk : ¬ l ≤ jf) :
    Calls Tryz.prog 25 #[.slice (some ⟨b, o, none⟩) n cap, .int .i64 (i : Int)] w (LookP w 0) := by
  obtain ⟨c0, c1, c2, c3⟩ := hc
  have h1 : ¬ (i : Int) < 0 := by omega
  have h2 : ¬ (n : Int) ≤ (i : Int) := by omega
  have h3 : (i : Int) < (n : Int) := by omega
  have hw1 : IntKind.i64.wrap ((n : Int) - (i : Int)) = (l : Int) + 1 := by rw [IntWalk.i64_in _ (by omega)]; omega
  have hw2 : IntKind.i64.wrap (l : Int) = (l : Int) := IntWalk.i64_in _ (by omega)
  have hw3 : IntKind.u64.wrap (l : Int) = (l : Int) := by rw [IntKind.wrap_u64]; omega
  have hk1 := k.isLt
  have hw4 : IntKind.u64.wrap (k.toNat : Int) = (k.toNat : Int) := by rw [IntKind.wrap_u64]; omega
  have hw5 : IntKind.i64.wrap (jt : Int) = (jt : Int) := IntWalk.i64_in _ (by omega)
  have hw6 : IntKind.i64.wrap (jf : Int) = (jf : Int) := IntWalk.i64_in _ (by omega)
  have HSE := Lib.hid (fun w => ref_Seals_is (c := 45) (b := true) rfl w)
  have HJU := Lib.hid (fun w => ref_Jump_is (c := 45) (b := true) rfl w)
  have g0 : ¬ (l : Int) ≤ (jt : Int) := by omega
  have g00 : decide (l ≤ jt) = false := decide_eq_false hk0
  have g1 : ¬ (l : Int) ≤ (jf : Int) := by omega
  have g11 : decide (l ≤ jf) = false := decide_eq_false hk
  clear hl
  go_enter Tryz.func25, Tryz.ntmps25
  go_wp2_with (first
    | (go_at_call 54; (with_reducible refine (HSE.out _).mono ?_); rintro e w' ⟨rfl, rfl⟩)
    | (go_at_call 36; (with_reducible refine (HJU.out _).mono ?_); rintro e w' ⟨rfl, rfl⟩))
  go_ret
  exact ⟨rfl, box_below w _⟩
theorem ref_One_jump_t_61 (hc : InsCells w b (o + i * 4) ⟨61, jt, jf, k⟩) (hb : b < w.heap.size) (hi : i < n) (hn : n ≤ 140737488351232) (hl : n = i + l + 1) (hjt : jt < 256) (hjf : jf < 256) (hk : l ≤ jt) :
    Calls Tryz.prog 25 #[.slice (some ⟨b, o, none⟩) n cap, .int .i64 (i : Int)] w (LookP w 43) := by
  obtain ⟨c0, c1, c2, c3⟩ := hc
  have h1 : ¬ (i : Int) < 0 := by omega
  have h2 : ¬ (n : Int) ≤ (i : Int) := by omega
  have h3 : (i : Int) < (n : Int) := by omega
  have hw1 : IntKind.i64.wrap ((n : Int) - (i : Int)) = (l : Int) + 1 := by rw [IntWalk.i64_in _ (by omega)]; omega
  have hw2 : IntKind.i64.wrap (l : Int) = (l : Int) := IntWalk.i64_in _ (by omega)
  have hw3 : IntKind.u64.wrap (l : Int) = (l : Int) := by rw [IntKind.wrap_u64]; omega
  have hk1 := k.isLt
  have hw4 : IntKind.u64.wrap (k.toNat : Int) = (k.toNat : Int) := by rw [IntKind.wrap_u64]; omega
  have hw5 : IntKind.i64.wrap (jt : Int) = (jt : Int) := IntWalk.i64_in _ (by omega)
  have hw6 : IntKind.i64.wrap (jf : Int) = (jf : Int) := IntWalk.i64_in _ (by omega)
  have HSE := Lib.hid (fun w => ref_Seals_is (c := 61) (b := true) rfl w)
  have HJU := Lib.hid (fun w => ref_Jump_is (c := 61) (b := true) rfl w)
  have g1 : (l : Int) ≤ (jt : Int) := by omega
  clear hl
  go_enter Tryz.func25, Tryz.ntmps25
  go_wp2_with (first
    | (go_at_call 54; (with_reducible refine (HSE.out _).mono ?_); rintro e w' ⟨rfl, rfl⟩)
    | (go_at_call 36; (with_reducible refine (HJU.out _).mono ?_); rintro e w' ⟨rfl, rfl⟩))
  go_ret
  exact ⟨rfl, box_below w _⟩
theorem ref_One_jump_f_61 (hc : InsCells w b (o + i * 4) ⟨61, jt, jf, k⟩) (hb : b < w.heap.size) (hi : i < n) (hn : n ≤ 140737488351232) (hl : n = i + l + 1) (hjt : jt < 256) (hjf : jf < 256) (hk0 : ¬ l ≤ jt) (hk : l ≤ jf) :
    Calls Tryz.prog 25 #[.slice (some ⟨b, o, none⟩) n cap, .int .i64 (i : Int)] w (LookP w 43) := by
  obtain ⟨c0, c1, c2, c3⟩ := hc
  have h1 : ¬ (i : Int) < 0 := by omega
  have h2 : ¬ (n : Int) ≤ (i : Int) := by omega
  have h3 : (i : Int) < (n : Int) := by omega
  have hw1 : IntKind.i64.wrap ((n : Int) - (i : Int)) = (l : Int) + 1 := by rw [IntWalk.i64_in _ (by omega)]; omega
  have hw2 : IntKind.i64.wrap (l : Int) = (l : Int) := IntWalk.i64_in _ (by omega)
  have hw3 : IntKind.u64.wrap (l : Int) = (l : Int) := by rw [IntKind.wrap_u64]; omega
  have hk1 := k.isLt
  have hw4 : IntKind.u64.wrap (k.toNat : Int) = (k.toNat : Int) := by rw [IntKind.wrap_u64]; omega
  have hw5 : IntKind.i64.wrap (jt : Int) = (jt : Int) := IntWalk.i64_in _ (by omega)
  have hw6 : IntKind.i64.wrap (jf : Int) = (jf : Int) := IntWalk.i64_in _ (by omega)
  have HSE := Lib.hid (fun w => ref_Seals_is (c := 61) (b := true) rfl w)
  have HJU := Lib.hid (fun w => ref_Jump_is (c := 61) (b := true) rfl w)
  have g0 : ¬ (l : Int) ≤ (jt : Int) := by omega
  have g00 : decide (l ≤ jt) = false := decide_eq_false hk0
  have g1 : (l : Int) ≤ (jf : Int) := by omega
  clear hl
  go_enter Tryz.func25, Tryz.ntmps25
  go_wp2_with (first
    | (go_at_call 54; (with_reducible refine (HSE.out _).mono ?_); rintro e w' ⟨rfl, rfl⟩)
    | (go_at_call 36; (with_reducible refine (HJU.out _).mono ?_); rintro e w' ⟨rfl, rfl⟩))
  go_ret
  exact ⟨rfl, box_below w _⟩
theorem ref_One_jump_61 (hc : InsCells w b (o + i * 4) ⟨61, jt, jf, k⟩) (hb : b < w.heap.size) (hi : i < n) (hn : n ≤ 140737488351232) (hl : n = i + l + 1) (hjt : jt < 256) (hjf : jf < 256) (hk0 : ¬ l ≤ jt) (hk : ¬ l ≤ jf) :
    Calls Tryz.prog 25 #[.slice (some ⟨b, o, none⟩) n cap, .int .i64 (i : Int)] w (LookP w 0) := by
  obtain ⟨c0, c1, c2, c3⟩ := hc
  have h1 : ¬ (i : Int) < 0 := by omega
  have h2 : ¬ (n : Int) ≤ (i : Int) := by omega
  have h3 : (i : Int) < (n : Int) := by omega
  have hw1 : IntKind.i64.wrap ((n : Int) - (i : Int)) = (l : Int) + 1 := by rw [IntWalk.i64_in _ (by omega)]; omega
  have hw2 : IntKind.i64.wrap (l : Int) = (l : Int) := IntWalk.i64_in _ (by omega)
  have hw3 : IntKind.u64.wrap (l : Int) = (l : Int) := by rw [IntKind.wrap_u64]; omega
  have hk1 := k.isLt
  have hw4 : IntKind.u64.wrap (k.toNat : Int) = (k.toNat : Int) := by rw [IntKind.wrap_u64]; omega
  have hw5 : IntKind.i64.wrap (jt : Int) = (jt : Int) := IntWalk.i64_in _ (by omega)
  have hw6 : IntKind.i64.wrap (jf : Int) = (jf : Int) := IntWalk.i64_in _ (by omega)
  have HSE := Lib.hid (fun w => ref_Seals_is (c := 61) (b := true) rfl w)
  have HJU := Lib.hid (fun w => ref_Jump_is (c := 61) (b := true) rfl w)
  have g0 : ¬ (l : Int) ≤ (jt : Int) := by omega
  have g00 : decide (l ≤ jt) = false := decide_eq_false hk0
  have g1 : ¬ (l : Int) ≤ (jf : Int) := by omega
  have g11 : decide (l ≤ jf) = false := decide_eq_false hk
  clear hl
  go_enter Tryz.func25, Tryz.ntmps25
  go_wp2_with (first
    | (go_at_call 54; (with_reducible refine (HSE.out _).mono ?_); rintro e w' ⟨rfl, rfl⟩)
    | (go_at_call 36; (with_reducible refine (HJU.out _).mono ?_); rintro e w' ⟨rfl, rfl⟩))
  go_ret
  exact ⟨rfl, box_below w _⟩
theorem ref_One_jump_t_77 (hc : InsCells w b (o + i * 4) ⟨77, jt, jf, k⟩) (hb : b < w.heap.size) (hi : i < n) (hn : n ≤ 140737488351232) (hl : n = i + l + 1) (hjt : jt < 256) (hjf : jf < 256) (hk : l ≤ jt) :
    Calls Tryz.prog 25 #[.slice (some ⟨b, o, none⟩) n cap, .int .i64 (i : Int)] w (LookP w 43) := by
  obtain ⟨c0, c1, c2, c3⟩ := hc
  have h1 : ¬ (i : Int) < 0 := by omega
  have h2 : ¬ (n : Int) ≤ (i : Int) := by omega
  have h3 : (i : Int) < (n : Int) := by omega
  have hw1 : IntKind.i64.wrap ((n : Int) - (i : Int)) = (l : Int) + 1 := by rw [IntWalk.i64_in _ (by omega)]; omega
  have hw2 : IntKind.i64.wrap (l : Int) = (l : Int) := IntWalk.i64_in _ (by omega)
  have hw3 : IntKind.u64.wrap (l : Int) = (l : Int) := by rw [IntKind.wrap_u64]; omega
  have hk1 := k.isLt
  have hw4 : IntKind.u64.wrap (k.toNat : Int) = (k.toNat : Int) := by rw [IntKind.wrap_u64]; omega
  have hw5 : IntKind.i64.wrap (jt : Int) = (jt : Int) := IntWalk.i64_in _ (by omega)
  have hw6 : IntKind.i64.wrap (jf : Int) = (jf : Int) := IntWalk.i64_in _ (by omega)
  have HSE := Lib.hid (fun w => ref_Seals_is (c := 77) (b := true) rfl w)
  have HJU := Lib.hid (fun w => ref_Jump_is (c := 77) (b := true) rfl w)
  have g1 : (l : Int) ≤ (jt : Int) := by omega
  clear hl
  go_enter Tryz.func25, Tryz.ntmps25
  go_wp2_with (first
    | (go_at_call 54; (with_reducible refine (HSE.out _).mono ?_); rintro e w' ⟨rfl, rfl⟩)
    | (go_at_call 36; (with_reducible refine (HJU.out _).mono ?_); rintro e w' ⟨rfl, rfl⟩))
  go_ret
  exact ⟨rfl, box_below w _⟩
theorem ref_One_jump_f_77 (hc : InsCells w b (o + i * 4) ⟨77, jt, jf, k⟩) (hb : b < w.heap.size) (hi : i < n) (hn : n ≤ 140737488351232) (hl : n = i + l + 1) (hjt : jt < 256) (hjf : jf < 256) (hk0 : ¬ l ≤ jt) (hk : l ≤ jf) :
    Calls Tryz.prog 25 #[.slice (some ⟨b, o, none⟩) n cap, .int .i64 (i : Int)] w (LookP w 43) := by
  obtain ⟨c0, c1, c2, c3⟩ := hc
  have h1 : ¬ (i : Int) < 0 := by omega
  have h2 : ¬ (n : Int) ≤ (i : Int) := by omega
  have h3 : (i : Int) < (n : Int) := by omega
  have hw1 : IntKind.i64.wrap ((n : Int) - (i : Int)) = (l : Int) + 1 := by rw [IntWalk.i64_in _ (by omega)]; omega
  have hw2 : IntKind.i64.wrap (l : Int) = (l : Int) := IntWalk.i64_in _ (by omega)
  have hw3 : IntKind.u64.wrap (l : Int) = (l : Int) := by rw [IntKind.wrap_u64]; omega
  have hk1 := k.isLt
  have hw4 : IntKind.u64.wrap (k.toNat : Int) = (k.toNat : Int) := by rw [IntKind.wrap_u64]; omega
  have hw5 : IntKind.i64.wrap (jt : Int) = (jt : Int) := IntWalk.i64_in _ (by omega)
  have hw6 : IntKind.i64.wrap (jf : Int) = (jf : Int) := IntWalk.i64_in _ (by omega)
  have HSE := Lib.hid (fun w => ref_Seals_is (c := 77) (b := true) rfl w)
  have HJU := Lib.hid (fun w => ref_Jump_is (c := 77) (b := true) rfl w)
  have g0 : ¬ (l : Int) ≤ (jt : Int) := by omega
  have g00 : decide (l ≤ jt) = false := decide_eq_false hk0
  have g1 : (l : Int) ≤ (jf : Int) := by omega
  clear hl
  go_enter Tryz.func25, Tryz.ntmps25
  go_wp2_with (first
    | (go_at_call 54; (with_reducible refine (HSE.out _).mono ?_); rintro e w' ⟨rfl, rfl⟩)
    | (go_at_call 36; (with_reducible refine (HJU.out _).mono ?_); rintro e w' ⟨rfl, rfl⟩))
  go_ret
  exact ⟨rfl, box_below w _⟩
theorem ref_One_jump_77 (hc : InsCells w b (o + i * 4) ⟨77, jt, jf, k⟩) (hb : b < w.heap.size) (hi : i < n) (hn : n ≤ 140737488351232) (hl : n = i + l + 1) (hjt : jt < 256) (hjf : jf < 256) (hk0 : ¬ l ≤ jt) (hk : ¬ l ≤ jf) :
    Calls Tryz.prog 25 #[.slice (some ⟨b, o, none⟩) n cap, .int .i64 (i : Int)] w (LookP w 0) := by
  obtain ⟨c0, c1, c2, c3⟩ := hc
  have h1 : ¬ (i : Int) < 0 := by omega
  have h2 : ¬ (n : Int) ≤ (i : Int) := by omega
  have h3 : (i : Int) < (n : Int) := by omega
  have hw1 : IntKind.i64.wrap ((n : Int) - (i : Int)) = (l : Int) + 1 := by rw [IntWalk.i64_in _ (by omega)]; omega
  have hw2 : IntKind.i64.wrap (l : Int) = (l : Int) := IntWalk.i64_in _ (by omega)
  have hw3 : IntKind.u64.wrap (l : Int) = (l : Int) := by rw [IntKind.wrap_u64]; omega
  have hk1 := k.isLt
  have hw4 : IntKind.u64.wrap (k.toNat : Int) = (k.toNat : Int) := by rw [IntKind.wrap_u64]; omega
  have hw5 : IntKind.i64.wrap (jt : Int) = (jt : Int) := IntWalk.i64_in _ (by omega)
  have hw6 : IntKind.i64.wrap (jf : Int) = (jf : Int) := IntWalk.i64_in _ (by omega)
  have HSE := Lib.hid (fun w => ref_Seals_is (c := 77) (b := true) rfl w)
  have HJU := Lib.hid (fun w => ref_Jump_is (c := 77) (b := true) rfl w)
  have g0 : ¬ (l : Int) ≤ (jt : Int) := by omega
  have g00 : decide (l ≤ jt) = false := decide_eq_false hk0
  have g1 : ¬ (l : Int) ≤ (jf : Int) := by omega
  have g11 : decide (l ≤ jf) = false := decide_eq_false hk
  clear hl
  go_enter Tryz.func25, Tryz.ntmps25
  go_wp2_with (first
    | (go_at_call 54; (with_reducible refine (HSE.out _).mono ?_); rintro e w' ⟨rfl, rfl⟩)
    | (go_at_call 36; (with_reducible refine (HJU.out _).mono ?_); rintro e w' ⟨rfl, rfl⟩))
  go_ret
  exact ⟨rfl, box_below w _⟩
set_option maxHeartbeats 4000000 in
theorem ref_One_rest (hc : InsCells w b (o + i * 4) ⟨c, jt, jf, k⟩) (hb : b < w.heap.size) (hi : i < n) (hn : n ≤ 140737488351232) (hl : n = i + l + 1) (hjt : jt < 256) (hjf : jf < 256) (hs : sealsC c = true) (hj : jumpC c = false) (n5 : ¬ c = 5) (n32 : ¬ c = 32) (n52 : ¬ c = 52) (n100 : ¬ c = 100) (n116 : ¬ c = 116) (n96 : ¬ c = 96) (n97 : ¬ c = 97) (n2 : ¬ c = 2) (n3 : ¬ c = 3) :
    Calls Tryz.prog 25 #[.slice (some ⟨b, o, none⟩) n cap, .int .i64 (i : Int)] w (LookP w 0) := by
  obtain ⟨c0, c1, c2, c3⟩ := hc
  have h1 : ¬ (i : Int) < 0 := by omega
  have h2 : ¬ (n : Int) ≤ (i : Int) := by omega
  have h3 : (i : Int) < (n : Int) := by omega
  have hw1 : IntKind.i64.wrap ((n : Int) - (i : Int)) = (l : Int) + 1 := by rw [IntWalk.i64_in _ (by omega)]; omega
  have hw2 : IntKind.i64.wrap (l : Int) = (l : Int) := IntWalk.i64_in _ (by omega)
  have hw3 : IntKind.u64.wrap (l : Int) = (l : Int) := by rw [IntKind.wrap_u64]; omega
  have hk1 := k.isLt
  have hw4 : IntKind.u64.wrap (k.toNat : Int) = (k.toNat : Int) := by rw [IntKind.wrap_u64]; omega
  have hw5 : IntKind.i64.wrap (jt : Int) = (jt : Int) := IntWalk.i64_in _ (by omega)
  have hw6 : IntKind.i64.wrap (jf : Int) = (jf : Int) := IntWalk.i64_in _ (by omega)
  have HSE := Lib.hid (fun w => ref_Seals_is hs w)
  have HJU := Lib.hid (fun w => ref_Jump_is hj w)
  have b5 : (c == 5) = false := beq_false_of_ne n5
  have b32 : (c == 32) = false := beq_false_of_ne n32
  have b52 : (c == 52) = false := beq_false_of_ne n52
  have b100 : (c == 100) = false := beq_false_of_ne n100
  have b116 : (c == 116) = false := beq_false_of_ne n116
  have b96 : (c == 96) = false := beq_false_of_ne n96
  have b97 : (c == 97) = false := beq_false_of_ne n97
  have b2 : (c == 2) = false := beq_false_of_ne n2
  have b3 : (c == 3) = false := beq_false_of_ne n3
  clear hl
  go_enter Tryz.func25, Tryz.ntmps25
  go_wp2_with (first
    | (go_at_call 54; (with_reducible refine (HSE.out _).mono ?_); rintro e w' ⟨rfl, rfl⟩)
    | (go_at_call 36; (with_reducible refine (HJU.out _).mono ?_); rintro e w' ⟨rfl, rfl⟩))
  go_ret
  exact ⟨rfl, box_below w _⟩
/-- .. all in one. -/
theorem ref_One_at (hc : InsCells w b (o + i * 4) ⟨c, jt, jf, k⟩) (hb : b < w.heap.size) (hi : i < n) (hn : n ≤ 140737488351232) (hl : n = i + l + 1) (hjt : jt < 256) (hjf : jf < 256) (q : Nat → Ins) (hq : q i = ⟨c, jt, jf, k⟩) :
    Calls Tryz.prog 25 #[.slice (some ⟨b, o, none⟩) n cap, .int .i64 (i : Int)] w (LookP w (oneE q n i)) := by
  unfold oneE
  rw [hq, show n - i - 1 = l by omega]
  simp only
  by_cases hs : sealsC c = false
  · rw [if_pos hs]
    exact ref_One_code w b o n cap i l c jt jf k hc hb hi hn hl hjt hjf hs
  have hs' : sealsC c = true := by cases h : sealsC c <;> simp_all
  rw [if_neg hs]
  by_cases n5 : c = 5
  · subst n5
    by_cases hk : l ≤ k.toNat
    · rw [if_pos ⟨rfl, hk⟩]
      exact ref_One_ja_no w b o n cap i l jt jf k hc hb hi hn hl hjt hjf hk
    · rw [if_neg (fun g => hk g.2), if_neg (fun g => absurd g.1 (by decide)), if_neg (fun g => absurd g.1 (by decide)), if_neg (fun g => absurd g.1 (by decide)), if_neg (fun g => absurd g.1 (by decide)), if_neg (fun g => absurd g.1 (by decide))]
      exact ref_One_ja w b o n cap i l jt jf k hc hb hi hn hl hjt hjf hk
  rw [if_neg (fun g => n5 g.1)]
  by_cases hj : jumpC c = true
  · rcases jump_cases hj with rfl | rfl | rfl | rfl | rfl | rfl | rfl | rfl
    · by_cases hk0 : l ≤ jt
      · rw [if_pos ⟨hj, .inl hk0⟩]
        exact ref_One_jump_t_21 w b o n cap i l jt jf k hc hb hi hn hl hjt hjf hk0
      · by_cases hk : l ≤ jf
        · rw [if_pos ⟨hj, .inr hk⟩]
          exact ref_One_jump_f_21 w b o n cap i l jt jf k hc hb hi hn hl hjt hjf hk0 hk
        · rw [if_neg (fun g => g.2.elim hk0 hk), if_neg (fun g => absurd g.1 (by decide)), if_neg (fun g => absurd g.1 (by decide)), if_neg (fun g => absurd g.1 (by decide)), if_neg (fun g => absurd g.1 (by decide))]
          exact ref_One_jump_21 w b o n cap i l jt jf k hc hb hi hn hl hjt hjf hk0 hk
    · by_cases hk0 : l ≤ jt
      · rw [if_pos ⟨hj, .inl hk0⟩]
        exact ref_One_jump_t_37 w b o n cap i l jt jf k hc hb hi hn hl hjt hjf hk0
      · by_cases hk : l ≤ jf
        · rw [if_pos ⟨hj, .inr hk⟩]
          exact ref_One_jump_f_37 w b o n cap i l jt jf k hc hb hi hn hl hjt hjf hk0 hk
        · rw [if_neg (fun g => g.2.elim hk0 hk), if_neg (fun g => absurd g.1 (by decide)), if_neg (fun g => absurd g.1 (by decide)), if_neg (fun g => absurd g.1 (by decide)), if_neg (fun g => absurd g.1 (by decide))]
          exact ref_One_jump_37 w b o n cap i l jt jf k hc hb hi hn hl hjt hjf hk0 hk
    · by_cases hk0 : l ≤ jt
      · rw [if_pos ⟨hj, .inl hk0⟩]
        exact ref_One_jump_t_53 w b o n cap i l jt jf k hc hb hi hn hl hjt hjf hk0
      · by_cases hk : l ≤ jf
        · rw [if_pos ⟨hj, .inr hk⟩]
          exact ref_One_jump_f_53 w b o n cap i l jt jf k hc hb hi hn hl hjt hjf hk0 hk
        · rw [if_neg (fun g => g.2.elim hk0 hk), if_neg (fun g => absurd g.1 (by decide)), if_neg (fun g => absurd g.1 (by decide)), if_neg (fun g => absurd g.1 (by decide)), if_neg (fun g => absurd g.1 (by decide))]
          exact ref_One_jump_53 w b o n cap i l jt jf k hc hb hi hn hl hjt hjf hk0 hk
    · by_cases hk0 : l ≤ jt
      · rw [if_pos ⟨hj, .inl hk0⟩]
        exact ref_One_jump_t_69 w b o n cap i l jt jf k hc hb hi hn hl hjt hjf hk0
      · by_cases hk : l ≤ jf
        · rw [if_pos ⟨hj, .inr hk⟩]
          exact ref_One_jump_f_69 w b o n cap i l jt jf k hc hb hi hn hl hjt hjf hk0 hk
        · rw [if_neg (fun g => g.2.elim hk0 hk), if_neg (fun g => absurd g.1 (by decide)), if_neg (fun g => absurd g.1 (by decide)), if_neg (fun g => absurd g.1 (by decide)), if_neg (fun g => absurd g.1 (by decide))]
          exact ref_One_jump_69 w b o n cap i l jt jf k hc hb hi hn hl hjt hjf hk0 hk
    · by_cases hk0 : l ≤ jt
      · rw [if_pos ⟨hj, .inl hk0⟩]
        exact ref_One_jump_t_29 w b o n cap i l jt jf k hc hb hi hn hl hjt hjf hk0
      · by_cases hk : l ≤ jf
        · rw [if_pos ⟨hj, .inr hk⟩]
          exact ref_One_jump_f_29 w b o n cap i l jt jf k hc hb hi hn hl hjt hjf hk0 hk
        · rw [if_neg (fun g => g.2.elim hk0 hk), if_neg (fun g => absurd g.1 (by decide)), if_neg (fun g => absurd g.1 (by decide)), if_neg (fun g => absurd g.1 (by decide)), if_neg (fun g => absurd g.1 (by decide))]
          exact ref_One_jump_29 w b o n cap i l jt jf k hc hb hi hn hl hjt hjf hk0 hk
    · by_cases hk0 : l ≤ jt
      · rw [if_pos ⟨hj, .inl hk0⟩]
        exact ref_One_jump_t_45 w b o n cap i l jt jf k hc hb hi hn hl hjt hjf hk0
      · by_cases hk : l ≤ jf
        · rw [if_pos ⟨hj, .inr hk⟩]
          exact ref_One_jump_f_45 w b o n cap i l jt jf k hc hb hi hn hl hjt hjf hk0 hk
        · rw [if_neg (fun g => g.2.elim hk0 hk), if_neg (fun g => absurd g.1 (by decide)), if_neg (fun g => absurd g.1 (by decide)), if_neg (fun g => absurd g.1 (by decide)), if_neg (fun g => absurd g.1 (by decide))]
          exact ref_One_jump_45 w b o n cap i l jt jf k hc hb hi hn hl hjt hjf hk0 hk
    · by_cases hk0 : l ≤ jt
      · rw [if_pos ⟨hj, .inl hk0⟩]
        exact ref_One_jump_t_61 w b o n cap i l jt jf k hc hb hi hn hl hjt hjf hk0
      · by_cases hk : l ≤ jf
        · rw [if_pos ⟨hj, .inr hk⟩]
          exact ref_One_jump_f_61 w b o n cap i l jt jf k hc hb hi hn hl hjt hjf hk0 hk
        · rw [if_neg (fun g => g.2.elim hk0 hk), if_neg (fun g => absurd g.1 (by decide)), if_neg (fun g => absurd g.1 (by decide)), if_neg (fun g => absurd g.1 (by decide)), if_neg (fun g => absurd g.1 (by decide))]
          exact ref_One_jump_61 w b o n cap i l jt jf k hc hb hi hn hl hjt hjf hk0 hk
    · by_cases hk0 : l ≤ jt
      · rw [if_pos ⟨hj, .inl hk0⟩]
        exact ref_One_jump_t_77 w b o n cap i l jt jf k hc hb hi hn hl hjt hjf hk0
      · by_cases hk : l ≤ jf
        · rw [if_pos ⟨hj, .inr hk⟩]
          exact ref_One_jump_f_77 w b o n cap i l jt jf k hc hb hi hn hl hjt hjf hk0 hk
        · rw [if_neg (fun g => g.2.elim hk0 hk), if_neg (fun g => absurd g.1 (by decide)), if_neg (fun g => absurd g.1 (by decide)), if_neg (fun g => absurd g.1 (by decide)), if_neg (fun g => absurd g.1 (by decide))]
          exact ref_One_jump_77 w b o n cap i l jt jf k hc hb hi hn hl hjt hjf hk0 hk
  rw [if_neg (fun g => hj g.1)]
  by_cases n32 : c = 32
  · subst n32
    by_cases hk0 : 60 < k.toNat
    · rw [if_pos ⟨rfl, .inl hk0⟩]
      exact ref_One_load_far w b o n cap i l jt jf k hc hb hi hn hl hjt hjf hk0
    · by_cases hk : k.toNat % 4 = 0
      · rw [if_neg (fun g => g.2.elim hk0 (fun h => h hk)), if_neg (fun g => absurd g.1 (by decide)), if_neg (fun g => absurd g.1 (by decide)), if_neg (fun g => absurd g.1 (by decide))]
        exact ref_One_load w b o n cap i l jt jf k hc hb hi hn hl hjt hjf hk0 hk
      · rw [if_pos ⟨rfl, .inr hk⟩]
        exact ref_One_load_odd w b o n cap i l jt jf k hc hb hi hn hl hjt hjf hk0 hk
  rw [if_neg (fun g => n32 g.1)]
  by_cases n52 : c = 52
  · subst n52
    by_cases hk : k = 0#32
    · rw [if_pos ⟨rfl, hk⟩]
      exact ref_One_div_no w b o n cap i l jt jf k hc hb hi hn hl hjt hjf hk
    · rw [if_neg (fun g => hk g.2), if_neg (fun g => absurd g.1 (by decide)), if_neg (fun g => absurd g.1 (by decide))]
      exact ref_One_div w b o n cap i l jt jf k hc hb hi hn hl hjt hjf hk
  rw [if_neg (fun g => n52 g.1)]
  by_cases n100 : c = 100
  · subst n100
    by_cases hk : 32 ≤ k.toNat
    · rw [if_pos ⟨by decide, hk⟩]
      exact ref_One_shift_no_100 w b o n cap i l jt jf k hc hb hi hn hl hjt hjf hk
    · rw [if_neg (fun g => hk g.2), if_neg (fun g => absurd g.1 (by decide))]
      exact ref_One_shift_100 w b o n cap i l jt jf k hc hb hi hn hl hjt hjf hk
  by_cases n116 : c = 116
  · subst n116
    by_cases hk : 32 ≤ k.toNat
    · rw [if_pos ⟨by decide, hk⟩]
      exact ref_One_shift_no_116 w b o n cap i l jt jf k hc hb hi hn hl hjt hjf hk
    · rw [if_neg (fun g => hk g.2), if_neg (fun g => absurd g.1 (by decide))]
      exact ref_One_shift_116 w b o n cap i l jt jf k hc hb hi hn hl hjt hjf hk
  rw [if_neg (fun g => g.1.elim n100 n116)]
  by_cases n96 : c = 96
  · subst n96
    by_cases hk : 16 ≤ k.toNat
    · rw [if_pos ⟨by decide, hk⟩]
      exact ref_One_mem_no_96 w b o n cap i l jt jf k hc hb hi hn hl hjt hjf hk
    · rw [if_neg (fun g => hk g.2)]
      exact ref_One_mem_96 w b o n cap i l jt jf k hc hb hi hn hl hjt hjf hk
  by_cases n97 : c = 97
  · subst n97
    by_cases hk : 16 ≤ k.toNat
    · rw [if_pos ⟨by decide, hk⟩]
      exact ref_One_mem_no_97 w b o n cap i l jt jf k hc hb hi hn hl hjt hjf hk
    · rw [if_neg (fun g => hk g.2)]
      exact ref_One_mem_97 w b o n cap i l jt jf k hc hb hi hn hl hjt hjf hk
  by_cases n2 : c = 2
  · subst n2
    by_cases hk : 16 ≤ k.toNat
    · rw [if_pos ⟨by decide, hk⟩]
      exact ref_One_mem_no_2 w b o n cap i l jt jf k hc hb hi hn hl hjt hjf hk
    · rw [if_neg (fun g => hk g.2)]
      exact ref_One_mem_2 w b o n cap i l jt jf k hc hb hi hn hl hjt hjf hk
  by_cases n3 : c = 3
  · subst n3
    by_cases hk : 16 ≤ k.toNat
    · rw [if_pos ⟨by decide, hk⟩]
      exact ref_One_mem_no_3 w b o n cap i l jt jf k hc hb hi hn hl hjt hjf hk
    · rw [if_neg (fun g => hk g.2)]
      exact ref_One_mem_3 w b o n cap i l jt jf k hc hb hi hn hl hjt hjf hk
  rw [if_neg (fun g => by rcases g.1 with h | h | h | h; exact n96 h; exact n97 h; exact n2 h; exact n3 h)]
  exact ref_One_rest w b o n cap i l c jt jf k hc hb hi hn hl hjt hjf hs' (by cases h : jumpC c <;> simp_all) n5 n32 n52 n100 n116 n96 n97 n2 n3
end
theorem ref_One (w : World) (A : Option Addr) (n cap i : Nat) (q : Nat → Ins) (h : ProgAt w A n q) (hi : i < n) (hn : n ≤ 140737488351232) (hok : (q i).OK) :
    Calls Tryz.prog 25 #[.slice A n cap, .int .i64 (i : Int)] w (LookP w (oneE q n i)) := by
  obtain ⟨b, o, rfl, hb, hc⟩ := h (by omega)
  exact ref_One_at w b o n cap i (n - i - 1) (q i).code (q i).jt (q i).jf (q i).k (hc i hi) hb hi hn (by omega) hok.2.2.1 hok.2.2.2 q rfl
end Go.Proofs.YtoajommeiocfpaaGreat
