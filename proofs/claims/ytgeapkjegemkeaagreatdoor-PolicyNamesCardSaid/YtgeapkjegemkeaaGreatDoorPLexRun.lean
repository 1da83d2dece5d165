/-
  What the program's closures on bytes answer, and its walks along a text: oneOf, noneOf, behindRun, behindGap: contracts. Conditions: those that each names.
-/
import Derived.Test.YtgeapkjegemkeaaGreatDoorPLexFns
import Derived.Shelf.Abstract
namespace Go.Proofs.YtgeapkjegemkeaaGreatDoor
open Go Go.RowKit
set_option linter.unusedSimpArgs false
set_option linter.unusedVariables false

set_option maxRecDepth 100000 in
theorem p_liteIndex (s : ByteArray) (c : Int) (w : World) : Calls Tryz.prog 148 #[.string s, .int .u8 c] w fun e w' => e = .returned (.int .i64 (Lib.indexByte s.data.toList c.toNat.toUInt8)) ∧ w' = w := by
  go_enter Tryz.func148, Tryz.ntmps148
  go_wp2
  rw [run_callFunc_extern Tryz.func151 (by kernel_rfl) (by kernel_rfl) (by kernel_rfl) (e := Extern.BytealgIndexByte.indexByte) (by kernel_rfl), Lib.run_indexByteString]
  simp only [Result.andThen]
  rw [Oper.upon_value]
  go_wp2
  go_ret
  exact ⟨rfl, rfl⟩
theorem p_IndexByte (s : ByteArray) (c : Int) (w : World) : Calls Tryz.prog 142 #[.string s, .int .u8 c] w fun e w' => e = .returned (.int .i64 (Lib.indexByte s.data.toList c.toNat.toUInt8)) ∧ w' = w := by
  go_enter Tryz.func142, Tryz.ntmps142
  go_wp2_with (go_at_call 148; (with_reducible refine (p_liteIndex s c _).mono ?_); rintro e w' ⟨rfl, rfl⟩)
  go_ret
  exact ⟨rfl, rfl⟩
/-- Is byte c one of a set's? -/
def inSet (set : ByteArray) (c : Nat) : Bool := decide (0 ≤ Lib.indexByte set.data.toList (c : Int).toNat.toUInt8)
def notIn (set : ByteArray) (c : Nat) : Bool := !inSet set c
theorem p_oneOf1 (set : ByteArray) (c : Nat) (p : Addr) (w : World) (hp : w.cell? p = some (.string set)) : Calls Tryz.prog 141 #[.int .u8 (c : Int), .pointer (some p)] w fun e w' => e = .returned (.bool (inSet set c)) ∧ w' = w := by
  have HI := Lib.hid (fun w => p_IndexByte set (c : Int) w)
  have HX := Lib.hid (show inSet set c = decide (0 ≤ Lib.indexByte set.data.toList (c : Int).toNat.toUInt8) from rfl)
  generalize Lib.indexByte set.data.toList (c : Int).toNat.toUInt8 = n at HI HX
  go_enter Tryz.func141, Tryz.ntmps141
  go_wp2_with (go_at_call 142; (with_reducible refine (HI.out _).mono ?_); rintro e w' ⟨rfl, rfl⟩)
  go_ret
  exact ⟨by rw [HX.out]; rfl, rfl⟩
theorem p_noneOf1 (set : ByteArray) (c : Nat) (p : Addr) (w : World) (hp : w.cell? p = some (.string set)) : Calls Tryz.prog 143 #[.int .u8 (c : Int), .pointer (some p)] w fun e w' => e = .returned (.bool (notIn set c)) ∧ w' = w := by
  have HI := Lib.hid (fun w => p_IndexByte set (c : Int) w)
  have HX := Lib.hid (show notIn set c = !decide (0 ≤ Lib.indexByte set.data.toList (c : Int).toNat.toUInt8) from rfl)
  generalize Lib.indexByte set.data.toList (c : Int).toNat.toUInt8 = n at HI HX
  go_enter Tryz.func143, Tryz.ntmps143
  go_wp2_with (go_at_call 142; (with_reducible refine (HI.out _).mono ?_); rintro e w' ⟨rfl, rfl⟩)
  go_ret
  refine ⟨?_, rfl⟩
  rw [HX.out]
  by_cases h : n < 0
  · rw [decide_eq_true h, decide_eq_false (show ¬ 0 ≤ n by omega)]; rfl
  · rw [decide_eq_false h, decide_eq_true (show 0 ≤ n by omega)]; rfl
theorem p_oneOf (set : ByteArray) (w : World) : Calls Tryz.prog 128 #[.string set] w fun e w' => e = .returned (.func (.func 141) #[] #[.pointer (some ⟨w.heap.size, 0, none⟩)]) ∧ w' = w.alloc (.cells #[.string set] 9) := by
  have hmf : ∀ (fn : Fn) (first cap : Array Value) (w : World), (Instr.makeFunc fn first cap).run Tryz.prog w = .ok (.func fn first cap) w := fun _ _ _ _ => rfl
  go_enter Tryz.func128, Tryz.ntmps128
  go_wp2
  go_ret
  exact ⟨rfl, rfl⟩
theorem p_noneOf (set : ByteArray) (w : World) : Calls Tryz.prog 129 #[.string set] w fun e w' => e = .returned (.func (.func 143) #[] #[.pointer (some ⟨w.heap.size, 0, none⟩)]) ∧ w' = w.alloc (.cells #[.string set] 9) := by
  have hmf : ∀ (fn : Fn) (first cap : Array Value) (w : World), (Instr.makeFunc fn first cap).run Tryz.prog w = .ok (.func fn first cap) w := fun _ _ _ _ => rfl
  go_enter Tryz.func129, Tryz.ntmps129
  go_wp2
  go_ret
  exact ⟨rfl, rfl⟩
theorem enters_one : ∀ args w, (callFunc 141 args).run Tryz.prog w = .ok (.enter 141 args) w := Go.Proofs.enters_of Tryz.func141 (by kernel_rfl) rfl
theorem enters_none : ∀ args w, (callFunc 143 args).run Tryz.prog w = .ok (.enter 143 args) w := Go.Proofs.enters_of Tryz.func143 (by kernel_rfl) rfl
theorem enters_part : ∀ args w, (callFunc 112 args).run Tryz.prog w = .ok (.enter 112 args) w := Go.Proofs.enters_of Tryz.func112 (by kernel_rfl) rfl

/-- behindRun, of whatever function that answers p and writes nothing. -/
theorem p_run (p : Nat → Bool) (f : Nat) (cap : Array Value) (hE : ∀ args w, (callFunc f args).run Tryz.prog w = .ok (.enter f args) w) (s : ByteArray) (hs : s.size ≤ maxLen) (i : Nat) (hi : i ≤ s.size) (w : World)
    (hf : ∀ c, c < 256 → Calls Tryz.prog f (#[.int .u8 (c : Int)] ++ cap) w fun e w' => e = .returned (.bool (p c)) ∧ w' = w) :
    Calls Tryz.prog 111 #[.string s, .int .i64 (i : Int), .func (.func f) #[] cap] w fun e w' => e = .returned (.int .i64 (upTo p (byt s) s.size i : Int)) ∧ w' = w := by
  unfold maxLen at hs
  have HF := Lib.hid hf
  clear hf
  go_enter Tryz.func111, Tryz.ntmps111
  go_wp2
  go_loop [1] (fun v => ∃ k : Nat, i ≤ k ∧ k ≤ s.size ∧ v = .int .i64 (k : Int) ∧ upTo p (byt s) s.size i = upTo p (byt s) s.size k) (fun v => s.size - (intOf v).toNat)
  case atStart => exact ⟨i, Nat.le_refl _, hi, rfl, rfl⟩
  case round =>
    obtain ⟨k, hik, hk, rfl, hU⟩ := hrel
    have HU := Lib.hid hU
    clear hU
    by_cases hlt : k < s.size
    · have hlt' : (k : Int) < (s.size : Int) := by omega
      have e := byt_is hlt
      have HB := Lib.hid (HF.out (byt s k) (byt_lt s k))
      cases hp : p (byt s k) with
      | true =>
        have HS := Lib.hid (HU.out.trans (upTo_on hlt hp))
        rw [hp] at HB
        clear hp HU
        generalize byt s k = c at e HB
        go_wp2
        refine HB.out.mono ?_
        rintro e w' ⟨rfl, rfl⟩
        go_wp2
        exact ⟨⟨k + 1, by omega, by omega, by go_num, HS.out⟩, by simp [intOf]; omega⟩
      | false =>
        have HS := Lib.hid (HU.out.trans (upTo_off (fun g => by rw [hp] at g; cases g.2)))
        rw [hp] at HB
        clear hp HU
        generalize byt s k = c at e HB
        go_wp2
        refine HB.out.mono ?_
        rintro e w' ⟨rfl, rfl⟩
        go_wp2
        go_ret
        exact ⟨by rw [HS.out]; rfl, rfl⟩
    · have HS := Lib.hid (HU.out.trans (upTo_off (fun g => hlt g.1)))
      clear HU
      go_wp2
      go_ret
      exact ⟨by rw [HS.out]; rfl, rfl⟩
theorem skip_run (f : Nat → Nat) (n i : Nat) : skipF f n i = skipF f n (upTo blaB f n i) := by
  by_cases h : i < n ∧ blaB (f i) = true
  · rw [skip_blank h.1 h.2, upTo_on h.1 h.2]; exact skip_run f n (i + 1)
  · rw [upTo_off h]
termination_by n - i
theorem all_256 {p q : Nat → Bool} (h : ((List.range 256).all fun c => p c == q c) = true) : ∀ c, c < 256 → p c = q c := fun c hc =>
  eq_of_beq (List.all_eq_true.1 h c (List.mem_range.2 hc))
theorem set_blank : ∀ c, c < 256 → inSet ⟨#[9, 10, 13, 32]⟩ c = blaB c := all_256 (by kernel_rfl)
theorem set_line : ∀ c, c < 256 → notIn ⟨#[10]⟩ c = linB c := all_256 (by kernel_rfl)
theorem p_runBlank (s : ByteArray) (hs : s.size ≤ maxLen) (i : Nat) (hi : i ≤ s.size) (p : Addr) (w : World) (hp : w.cell? p = some (.string ⟨#[9, 10, 13, 32]⟩)) :
    Calls Tryz.prog 111 #[.string s, .int .i64 (i : Int), .func (.func 141) #[] #[.pointer (some p)]] w fun e w' => e = .returned (.int .i64 (upTo blaB (byt s) s.size i : Int)) ∧ w' = w :=
  p_run blaB _ _ enters_one s hs i hi w fun c hc => by
    have := p_oneOf1 ⟨#[9, 10, 13, 32]⟩ c p w hp
    rw [set_blank c hc] at this
    exact this
theorem p_runLine (s : ByteArray) (hs : s.size ≤ maxLen) (i : Nat) (hi : i ≤ s.size) (p : Addr) (w : World) (hp : w.cell? p = some (.string ⟨#[10]⟩)) :
    Calls Tryz.prog 111 #[.string s, .int .i64 (i : Int), .func (.func 143) #[] #[.pointer (some p)]] w fun e w' => e = .returned (.int .i64 (upTo linB (byt s) s.size i : Int)) ∧ w' = w :=
  p_run linB _ _ enters_none s hs i hi w fun c hc => by
    have := p_noneOf1 ⟨#[10]⟩ c p w hp
    rw [set_line c hc] at this
    exact this
theorem p_runPart (s : ByteArray) (hs : s.size ≤ maxLen) (i : Nat) (hi : i ≤ s.size) (w : World) :
    Calls Tryz.prog 111 #[.string s, .int .i64 (i : Int), .func (.func 112) #[] #[]] w fun e w' => e = .returned (.int .i64 (upTo worB (byt s) s.size i : Int)) ∧ w' = w :=
  p_run worB _ _ enters_part s hs i hi w fun c _ => (p_isPart c w).mono fun _ _ h => ⟨h.1, h.2.symm⟩
set_option maxHeartbeats 1000000 in
theorem p_gap (s : ByteArray) (hs : s.size ≤ maxLen) (i : Nat) (hi : i ≤ s.size) (w : World) : Calls Tryz.prog 104 #[.string s, .int .i64 (i : Int)] w fun e w' => e = .returned (.int .i64 (skipF (byt s) s.size i : Int)) ∧ Below w.heap.size w w' := by
  have H1 := Lib.hid (fun w => p_oneOf ⟨#[9, 10, 13, 32]⟩ w)
  have H2 := Lib.hid (fun w => p_noneOf ⟨#[10]⟩ w)
  have HB := Lib.hid (fun k hk p w hp => p_runBlank s hs k hk p w hp)
  have HL := Lib.hid (fun k hk p w hp => p_runLine s hs k hk p w hp)
  unfold maxLen at hs
  have HW : Hid (Below w.heap.size w ((w.alloc (.cells #[.string ⟨#[9, 10, 13, 32]⟩] 9)).alloc (.cells #[.string ⟨#[10]⟩] 9))) := Lib.hid ((lbox w _).trans ((lbox _ _).mono (by simp)))
  have c1 : ((w.alloc (.cells #[.string ⟨#[9, 10, 13, 32]⟩] 9)).alloc (.cells #[.string ⟨#[10]⟩] 9)).cell? ⟨w.heap.size, 0, none⟩ = some (.string ⟨#[9, 10, 13, 32]⟩) := by simp
  have c2 : ((w.alloc (.cells #[.string ⟨#[9, 10, 13, 32]⟩] 9)).alloc (.cells #[.string ⟨#[10]⟩] 9)).cell? ⟨w.heap.size + 1, 0, none⟩ = some (.string ⟨#[10]⟩) := by simp
  go_enter Tryz.func104, Tryz.ntmps104
  go_wp2_with (first
    | (go_at_call 128; (with_reducible refine (H1.out _).mono ?_); rintro e w1 ⟨rfl, rfl⟩)
    | (go_at_call 129; (with_reducible refine (H2.out _).mono ?_); rintro e w2 ⟨rfl, rfl⟩))
  generalize hY : (w.alloc (.cells #[.string ⟨#[9, 10, 13, 32]⟩] 9)).alloc (.cells #[.string ⟨#[10]⟩] 9) = Y at HW c1 c2 ⊢
  clear hY H1 H2
  go_loop [1] (fun v => ∃ k : Nat, i ≤ k ∧ k ≤ s.size ∧ v = .int .i64 (k : Int) ∧ skipF (byt s) s.size i = skipF (byt s) s.size k) (fun v => s.size - (intOf v).toNat)
  case atStart => exact ⟨i, Nat.le_refl _, hi, rfl, rfl⟩
  case round =>
    obtain ⟨k, hik, hk, rfl, hU⟩ := hrel
    have HU := Lib.hid (hU.trans (skip_run (byt s) s.size k))
    clear hU
    have HB1 := Lib.hid (HB.out k hk ⟨w.heap.size, 0, none⟩ Y c1)
    have hke := upTo_le blaB (byt s) s.size k hk
    have hge := upTo_ge blaB (byt s) s.size k
    have hend := upTo_end blaB (byt s) s.size k
    generalize upTo blaB (byt s) s.size k = m at HU HB1 hke hge hend
    have HL1 := Lib.hid (HL.out m hke ⟨w.heap.size + 1, 0, none⟩ Y c2)
    have hle := upTo_le linB (byt s) s.size m hke
    have HLg := Lib.hid (fun g1 g2 => lin_is (byt s) s.size m g1 g2)
    have hne : Hid (m + 1 ≤ upTo linB (byt s) s.size (m + 1)) := Lib.hid (upTo_ge linB (byt s) s.size (m + 1))
    clear c1 c2
    by_cases hlt : m < s.size
    · have hlt' : (m : Int) < (s.size : Int) := by omega
      have e := byt_is hlt
      have hne2 : ((m : Int) == (s.size : Int)) = false := beq_false_of_ne (by omega)
      by_cases h35 : byt s m = 35
      · have HG := Lib.hid (HLg.out hlt h35)
        have HS := Lib.hid (HU.out.trans (skip_remark hlt h35))
        have hgt : m + 1 ≤ upTo linB (byt s) s.size m := by rw [HG.out]; exact hne.out
        have HS2 := Lib.hid (show skipF (byt s) s.size i = skipF (byt s) s.size (upTo linB (byt s) s.size m) by rw [HS.out, HG.out])
        rw [h35] at e
        clear h35 HG HS HU HLg hne hend
        generalize upTo linB (byt s) s.size m = j at HL1 hle hgt HS2
        go_wp2_with (first
          | (go_at_call 111; (with_reducible refine (HB1.out).mono ?_); rintro e w1 ⟨rfl, rfl⟩; clear HB1)
          | (go_at_call 111; (with_reducible refine (HL1.out).mono ?_); rintro e w1 ⟨rfl, rfl⟩; clear HL1))
        exact ⟨⟨j, by omega, by omega, rfl, HS2.out⟩, by simp [intOf]; omega⟩
      · have b35 : (((byt s m : Nat) : Int) != 35) = true := bne_iff_ne.2 (by omega)
        have n35 : ¬ ((byt s m : Nat) : Int) = 35 := by omega
        have HS := Lib.hid (HU.out.trans (skip_stop h35 (hend hlt)))
        clear h35 HU HLg hne hend
        generalize byt s m = c at e b35 n35
        go_wp2_with (first
          | (go_at_call 111; (with_reducible refine (HB1.out).mono ?_); rintro e w1 ⟨rfl, rfl⟩; clear HB1)
          | (go_at_call 111; (with_reducible refine (HL1.out).mono ?_); rintro e w1 ⟨rfl, rfl⟩; clear HL1))
        go_ret
        exact ⟨by rw [HS.out]; rfl, HW.out⟩
    · have hm : m = s.size := by omega
      subst hm
      have HS := Lib.hid (HU.out.trans (skip_end hlt))
      clear HU HLg hne hend
      go_wp2_with (first
          | (go_at_call 111; (with_reducible refine (HB1.out).mono ?_); rintro e w1 ⟨rfl, rfl⟩; clear HB1)
          | (go_at_call 111; (with_reducible refine (HL1.out).mono ?_); rintro e w1 ⟨rfl, rfl⟩; clear HL1))
      go_ret
      exact ⟨by rw [HS.out]; rfl, HW.out⟩
end Go.Proofs.YtgeapkjegemkeaaGreatDoor
