/-
  What verdicts say: contracts on both sides; the program's over any memory in which the table of the kinds stands. Conditions: those that each names.
-/
import Derived.Test.YthdmlbgejbpalaaDoorGSemSys
import Derived.Test.YthdmlbgejbpalaaDoorSecCode
namespace Go.Proofs.YthdmlbgejbpalaaDoor
open Go Go.RowKit
set_option linter.unusedSimpArgs false
set_option linter.unusedVariables false

/-- How great a verdict's number may be, by its kind. -/
def mostI (kind : Int) : Int := if kind = 4 then 4095 else 65535
def actOK (kind d : Int) : Prop := d ≤ mostI kind ∧ codeOK kind d
instance (kind d : Int) : Decidable (actOK kind d) := by unfold actOK; infer_instance
def actW (kind d : Int) : Int := if actOK kind d then rowW (kind - 1).toNat + d else 0
abbrev vdV7 (kind : Int) (d : Nat) : Value := .agg #[.int .i64 kind, .int .u64 (d : Int)]
abbrev vdO7 (kind : Int) (d : Nat) : Obj := .cells #[.int .i64 kind, .int .u64 (d : Int)] 26
def ActC (kind : Int) (d : Nat) (w : World) (e : Ending) (w' : World) : Prop := e = .returned (.tuple #[.int .u32 (actW kind d), .bool (decide (actOK kind d))]) ∧ Below w.heap.size w w'
theorem actC_yes {kind x : Int} {d : Nat} {w w' : World} (h : actOK kind d) (hx : x = rowW (kind - 1).toNat + d) (hb : Below w.heap.size w w') : ActC kind d w (.returned (.tuple #[.int .u32 x, .bool true])) w' := by
  refine ⟨?_, hb⟩
  rw [actW, if_pos h, decide_eq_true h, hx]
theorem actC_no {kind : Int} {d : Nat} {w w' : World} (h : ¬ actOK kind d) (hb : Below w.heap.size w w') : ActC kind d w (.returned (.tuple #[.int .u32 0, .bool false])) w' := by
  refine ⟨?_, hb⟩
  rw [actW, if_neg h, decide_eq_false h]
set_option maxRecDepth 100000 in
theorem ref_act1 (d : Nat) (w : World) : Calls Tryd.prog 23 #[vdV7 1 d] w (ActC 1 d w) := by
  have HB := Lib.hid (lbox w (vdO7 1 d))
  by_cases h : d ≤ 0
  · have g : (d : Int) ≤ 0 := by omega
    have hm : IntKind.u32.wrap (d : Int) = (d : Int) := by rw [IntKind.wrap_u32]; omega
    have hs : IntKind.u32.wrap (2147483648 + (d : Int)) = 2147483648 + (d : Int) := by rw [IntKind.wrap_u32]; omega
    have HO : Hid (actOK 1 d) := Lib.hid ⟨by simp [mostI]; omega, by decide, by decide, .inr (by omega)⟩
    clear h
    go_enter Tryd.func23, Tryd.ntmps23
    go_wp2
    go_ret2
    exact actC_yes HO.out rfl HB.out
  · have g : (0 : Int) < d := by omega
    have HO : Hid (¬ actOK 1 d) := Lib.hid (fun ⟨a, b, c, e⟩ => by rcases e with e | e; cases e; omega)
    clear h
    go_enter Tryd.func23, Tryd.ntmps23
    go_wp2
    go_ret2
    exact actC_no HO.out HB.out
set_option maxRecDepth 100000 in
theorem ref_act2 (d : Nat) (w : World) : Calls Tryd.prog 23 #[vdV7 2 d] w (ActC 2 d w) := by
  have HB := Lib.hid (lbox w (vdO7 2 d))
  by_cases h : d ≤ 0
  · have g : (d : Int) ≤ 0 := by omega
    have hm : IntKind.u32.wrap (d : Int) = (d : Int) := by rw [IntKind.wrap_u32]; omega
    have hs : IntKind.u32.wrap (0 + (d : Int)) = 0 + (d : Int) := by rw [IntKind.wrap_u32]; omega
    have HO : Hid (actOK 2 d) := Lib.hid ⟨by simp [mostI]; omega, by decide, by decide, .inr (by omega)⟩
    clear h
    go_enter Tryd.func23, Tryd.ntmps23
    go_wp2
    go_ret2
    exact actC_yes HO.out (by rw [show rowW ((2 : Int) - 1).toNat = 0 from rfl, Int.zero_add]) HB.out
  · have g : (0 : Int) < d := by omega
    have HO : Hid (¬ actOK 2 d) := Lib.hid (fun ⟨a, b, c, e⟩ => by rcases e with e | e; cases e; omega)
    clear h
    go_enter Tryd.func23, Tryd.ntmps23
    go_wp2
    go_ret2
    exact actC_no HO.out HB.out
set_option maxRecDepth 100000 in
theorem ref_act3 (d : Nat) (w : World) : Calls Tryd.prog 23 #[vdV7 3 d] w (ActC 3 d w) := by
  have HB := Lib.hid (lbox w (vdO7 3 d))
  by_cases h : d ≤ 65535
  · have g : (d : Int) ≤ 65535 := by omega
    have hm : IntKind.u32.wrap (d : Int) = (d : Int) := by rw [IntKind.wrap_u32]; omega
    have hs : IntKind.u32.wrap (196608 + (d : Int)) = 196608 + (d : Int) := by rw [IntKind.wrap_u32]; omega
    have HO : Hid (actOK 3 d) := Lib.hid ⟨by simp [mostI]; omega, by decide, by decide, .inl rfl⟩
    clear h
    go_enter Tryd.func23, Tryd.ntmps23
    go_wp2
    go_ret2
    exact actC_yes HO.out rfl HB.out
  · have g : (65535 : Int) < d := by omega
    have HO : Hid (¬ actOK 3 d) := Lib.hid (fun ⟨a, b, c, e⟩ => by simp [mostI] at a; omega)
    clear h
    go_enter Tryd.func23, Tryd.ntmps23
    go_wp2
    go_ret2
    exact actC_no HO.out HB.out
set_option maxRecDepth 100000 in
theorem ref_act4 (d : Nat) (w : World) : Calls Tryd.prog 23 #[vdV7 4 d] w (ActC 4 d w) := by
  have HB := Lib.hid (lbox w (vdO7 4 d))
  by_cases h : d ≤ 4095
  · have g : (d : Int) ≤ 4095 := by omega
    have hm : IntKind.u32.wrap (d : Int) = (d : Int) := by rw [IntKind.wrap_u32]; omega
    have hs : IntKind.u32.wrap (327680 + (d : Int)) = 327680 + (d : Int) := by rw [IntKind.wrap_u32]; omega
    have HO : Hid (actOK 4 d) := Lib.hid ⟨by simp [mostI]; omega, by decide, by decide, .inl rfl⟩
    clear h
    go_enter Tryd.func23, Tryd.ntmps23
    go_wp2
    go_ret2
    exact actC_yes HO.out rfl HB.out
  · have g : (4095 : Int) < d := by omega
    have HO : Hid (¬ actOK 4 d) := Lib.hid (fun ⟨a, b, c, e⟩ => by simp [mostI] at a; omega)
    clear h
    go_enter Tryd.func23, Tryd.ntmps23
    go_wp2
    go_ret2
    exact actC_no HO.out HB.out
set_option maxRecDepth 100000 in
theorem ref_act5 (d : Nat) (w : World) : Calls Tryd.prog 23 #[vdV7 5 d] w (ActC 5 d w) := by
  have HB := Lib.hid (lbox w (vdO7 5 d))
  by_cases h : d ≤ 0
  · have g : (d : Int) ≤ 0 := by omega
    have hm : IntKind.u32.wrap (d : Int) = (d : Int) := by rw [IntKind.wrap_u32]; omega
    have hs : IntKind.u32.wrap (2143289344 + (d : Int)) = 2143289344 + (d : Int) := by rw [IntKind.wrap_u32]; omega
    have HO : Hid (actOK 5 d) := Lib.hid ⟨by simp [mostI]; omega, by decide, by decide, .inr (by omega)⟩
    clear h
    go_enter Tryd.func23, Tryd.ntmps23
    go_wp2
    go_ret2
    exact actC_yes HO.out rfl HB.out
  · have g : (0 : Int) < d := by omega
    have HO : Hid (¬ actOK 5 d) := Lib.hid (fun ⟨a, b, c, e⟩ => by rcases e with e | e; cases e; omega)
    clear h
    go_enter Tryd.func23, Tryd.ntmps23
    go_wp2
    go_ret2
    exact actC_no HO.out HB.out
set_option maxRecDepth 100000 in
theorem ref_act6 (d : Nat) (w : World) : Calls Tryd.prog 23 #[vdV7 6 d] w (ActC 6 d w) := by
  have HB := Lib.hid (lbox w (vdO7 6 d))
  by_cases h : d ≤ 65535
  · have g : (d : Int) ≤ 65535 := by omega
    have hm : IntKind.u32.wrap (d : Int) = (d : Int) := by rw [IntKind.wrap_u32]; omega
    have hs : IntKind.u32.wrap (2146435072 + (d : Int)) = 2146435072 + (d : Int) := by rw [IntKind.wrap_u32]; omega
    have HO : Hid (actOK 6 d) := Lib.hid ⟨by simp [mostI]; omega, by decide, by decide, .inl rfl⟩
    clear h
    go_enter Tryd.func23, Tryd.ntmps23
    go_wp2
    go_ret2
    exact actC_yes HO.out rfl HB.out
  · have g : (65535 : Int) < d := by omega
    have HO : Hid (¬ actOK 6 d) := Lib.hid (fun ⟨a, b, c, e⟩ => by simp [mostI] at a; omega)
    clear h
    go_enter Tryd.func23, Tryd.ntmps23
    go_wp2
    go_ret2
    exact actC_no HO.out HB.out
set_option maxRecDepth 100000 in
theorem ref_act7 (d : Nat) (w : World) : Calls Tryd.prog 23 #[vdV7 7 d] w (ActC 7 d w) := by
  have HB := Lib.hid (lbox w (vdO7 7 d))
  by_cases h : d ≤ 0
  · have g : (d : Int) ≤ 0 := by omega
    have hm : IntKind.u32.wrap (d : Int) = (d : Int) := by rw [IntKind.wrap_u32]; omega
    have hs : IntKind.u32.wrap (2147221504 + (d : Int)) = 2147221504 + (d : Int) := by rw [IntKind.wrap_u32]; omega
    have HO : Hid (actOK 7 d) := Lib.hid ⟨by simp [mostI]; omega, by decide, by decide, .inr (by omega)⟩
    clear h
    go_enter Tryd.func23, Tryd.ntmps23
    go_wp2
    go_ret2
    exact actC_yes HO.out rfl HB.out
  · have g : (0 : Int) < d := by omega
    have HO : Hid (¬ actOK 7 d) := Lib.hid (fun ⟨a, b, c, e⟩ => by rcases e with e | e; cases e; omega)
    clear h
    go_enter Tryd.func23, Tryd.ntmps23
    go_wp2
    go_ret2
    exact actC_no HO.out HB.out
set_option maxRecDepth 100000 in
theorem ref_act8 (d : Nat) (w : World) : Calls Tryd.prog 23 #[vdV7 8 d] w (ActC 8 d w) := by
  have HB := Lib.hid (lbox w (vdO7 8 d))
  by_cases h : d ≤ 0
  · have g : (d : Int) ≤ 0 := by omega
    have hm : IntKind.u32.wrap (d : Int) = (d : Int) := by rw [IntKind.wrap_u32]; omega
    have hs : IntKind.u32.wrap (2147418112 + (d : Int)) = 2147418112 + (d : Int) := by rw [IntKind.wrap_u32]; omega
    have HO : Hid (actOK 8 d) := Lib.hid ⟨by simp [mostI]; omega, by decide, by decide, .inr (by omega)⟩
    clear h
    go_enter Tryd.func23, Tryd.ntmps23
    go_wp2
    go_ret2
    exact actC_yes HO.out rfl HB.out
  · have g : (0 : Int) < d := by omega
    have HO : Hid (¬ actOK 8 d) := Lib.hid (fun ⟨a, b, c, e⟩ => by rcases e with e | e; cases e; omega)
    clear h
    go_enter Tryd.func23, Tryd.ntmps23
    go_wp2
    go_ret2
    exact actC_no HO.out HB.out
set_option maxRecDepth 100000 in
theorem ref_act0 (kind : Int) (d : Nat) (w : World) (hk : ¬ (1 ≤ kind ∧ kind ≤ 8)) : Calls Tryd.prog 23 #[vdV7 kind d] w (ActC kind d w) := by
  have HB := Lib.hid (lbox w (vdO7 kind d))
  have HO : Hid (¬ actOK kind d) := Lib.hid (fun ⟨a, b, c, e⟩ => hk ⟨b, c⟩)
  have q1 : (kind == 1) = false := beq_false_of_ne (by omega)
  have q2 : (kind == 2) = false := beq_false_of_ne (by omega)
  have q3 : (kind == 3) = false := beq_false_of_ne (by omega)
  have q4 : (kind == 4) = false := beq_false_of_ne (by omega)
  have q5 : (kind == 5) = false := beq_false_of_ne (by omega)
  have q6 : (kind == 6) = false := beq_false_of_ne (by omega)
  have q7 : (kind == 7) = false := beq_false_of_ne (by omega)
  have q8 : (kind == 8) = false := beq_false_of_ne (by omega)
  have n1 : ¬ kind = 1 := by omega
  have n2 : ¬ kind = 2 := by omega
  have n3 : ¬ kind = 3 := by omega
  have n4 : ¬ kind = 4 := by omega
  have n5 : ¬ kind = 5 := by omega
  have n6 : ¬ kind = 6 := by omega
  have n7 : ¬ kind = 7 := by omega
  have n8 : ¬ kind = 8 := by omega
  clear hk
  go_enter Tryd.func23, Tryd.ntmps23
  go_wp2
  go_ret2
  exact actC_no HO.out HB.out
theorem ref_Action7 (kind : Int) (d : Nat) (w : World) : Calls Tryd.prog 23 #[vdV7 kind d] w (ActC kind d w) := by
  by_cases hk : 1 ≤ kind ∧ kind ≤ 8
  · have : kind = 1 ∨ kind = 2 ∨ kind = 3 ∨ kind = 4 ∨ kind = 5 ∨ kind = 6 ∨ kind = 7 ∨ kind = 8 := by omega
    rcases this with rfl | rfl | rfl | rfl | rfl | rfl | rfl | rfl
    · exact ref_act1 d w
    · exact ref_act2 d w
    · exact ref_act3 d w
    · exact ref_act4 d w
    · exact ref_act5 d w
    · exact ref_act6 d w
    · exact ref_act7 d w
    · exact ref_act8 d w
  · exact ref_act0 kind d w hk
set_option maxRecDepth 100000 in
theorem p_mostData (kind : Int) (w : World) : Calls Tryd.prog 45 #[.int .i64 kind] w fun e w' => e = .returned (.int .u64 (mostI kind)) ∧ w = w' := by
  by_cases h : kind = 4
  · have hE : mostI kind = 4095 := if_pos h
    rw [hE, h]
    clear h hE
    go_enter Tryd.func45, Tryd.ntmps45
    go_wp2
    go_ret
    exact ⟨rfl, rfl⟩
  · have hE : mostI kind = 65535 := if_neg h
    have q : (kind == 4) = false := beq_false_of_ne h
    rw [hE]
    clear hE
    go_enter Tryd.func45, Tryd.ntmps45
    go_wp2
    go_ret
    exact ⟨rfl, rfl⟩
set_option maxRecDepth 100000 in
set_option maxHeartbeats 1000000 in
theorem p_Action7 (kind : Int) (d : Nat) (w : World) (hT : Tab w) : Calls Tryd.prog 22 #[vdV7 kind d] w (ActC kind d w) := by
  have hb := lbox w (vdO7 kind d)
  have HT := Lib.hid (hT.below hb hT.1)
  have HB := Lib.hid hb
  have HM := Lib.hid (fun V => p_mostData kind V)
  have hm0 : mostI kind ≤ 65535 := by unfold mostI; split <;> omega
  by_cases h : (d : Int) ≤ mostI kind
  · have h6 : (d : Int) < 65536 := by omega
    have HC := Lib.hid (fun V hV => secdata_Code kind d (by omega) h6 V hV)
    have hu : IntKind.u16.wrap (d : Int) = (d : Int) := by rw [IntKind.wrap_u16]; omega
    have HD := Lib.hid h
    generalize hM : mostI kind = m at HM h
    have g : ¬ m < (d : Int) := by omega
    by_cases hc : codeOK kind d
    · have HO : Hid (actOK kind d) := Lib.hid ⟨HD.out, hc⟩
      have HC2 : Hid (∀ V, Tab V → Calls Tryd.prog 46 #[.agg #[.int .i64 kind, .int .u16 (d : Int)]] V fun e w' => e = .returned (.tuple #[.int .u32 (rowW (kind - 1).toNat + d), .int .i64 0]) ∧ Below V.heap.size V w') := Lib.hid (fun V hV => by
        have := HC.out V hV
        unfold CodeP at this
        rwa [codeW, codeE, if_pos hc, if_pos hc] at this)
      generalize hx : rowW (kind - 1).toNat + (d : Int) = x at HC2
      have HX := Lib.hid hx
      clear hT hb hm0 HC hM hc hx
      go_enter Tryd.func22, Tryd.ntmps22
      go_wp2_with (first
        | go_quiet ((go_at_call 45; exact quietL (HM.out _)))
        | (go_at_call 46; (with_reducible refine (HC2.out _ (HT.out.drawn _)).mono ?_); rintro e w2 ⟨rfl, hb2⟩; have HB2 := Lib.hid ((below_drawn HB.out _).trans (hb2.mono (below_drawn HB.out _).size)); clear hb2))
      go_ret2
      exact actC_yes HO.out HX.out.symm HB2.out
    · have HO : Hid (¬ actOK kind d) := Lib.hid (fun g => hc g.2)
      have HC2 : Hid (∀ V, Tab V → Calls Tryd.prog 46 #[.agg #[.int .i64 kind, .int .u16 (d : Int)]] V fun e w' => e = .returned (.tuple #[.int .u32 0, .int .i64 23]) ∧ Below V.heap.size V w') := Lib.hid (fun V hV => by
        have := HC.out V hV
        unfold CodeP at this
        rwa [codeW, codeE, if_neg hc, if_neg hc] at this)
      clear hT hb hm0 HC hM hc
      go_enter Tryd.func22, Tryd.ntmps22
      go_wp2_with (first
        | go_quiet ((go_at_call 45; exact quietL (HM.out _)))
        | (go_at_call 46; (with_reducible refine (HC2.out _ (HT.out.drawn _)).mono ?_); rintro e w2 ⟨rfl, hb2⟩; have HB2 := Lib.hid ((below_drawn HB.out _).trans (hb2.mono (below_drawn HB.out _).size)); clear hb2))
      go_ret2
      exact actC_no HO.out HB2.out
  · have HO : Hid (¬ actOK kind d) := Lib.hid (fun g => h g.1)
    generalize hM : mostI kind = m at HM h
    have g : m < (d : Int) := by omega
    clear hT hb hm0 hM h
    go_enter Tryd.func22, Tryd.ntmps22
    go_wp2_with (go_quiet ((go_at_call 45; exact quietL (HM.out _))))
    go_ret2
    exact actC_no HO.out (below_drawn HB.out _)
end Go.Proofs.YthdmlbgejbpalaaDoor
