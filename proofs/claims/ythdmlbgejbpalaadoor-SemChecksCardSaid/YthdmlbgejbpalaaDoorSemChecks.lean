/-
  'SemChecks': for every policy, the law of layer 7 that which policy is well formed, what is wrong with it, and where, is the document's returns true, and leaves memory as it was. Condition: the table of the kinds reads as the program's text lays it (the card ties it).
-/
import Derived.Test.YthdmlbgejbpalaaDoorGSemEnd
import Derived.Test.YthdmlbgejbpalaaDoorCards
import Derived.SevenTiedAt
namespace Go.Proofs.YthdmlbgejbpalaaDoor.semChecks
open Go Go.ChangeShapes Go.WideShapes Go.ChangeAt Go.RowKit
set_option linter.unusedSimpArgs false
set_option linter.unusedVariables false

set_option maxRecDepth 100000 in
set_option maxHeartbeats 8000000 in
theorem walk (p : Po) (A : Option Addr) (cap : Nat) (w : World) (h : RulesL w p.rules A) (hw : PoW p) (hTab : Tab w) :
    Calls Tryd.prog 5 #[poA p A cap] w fun e w' => e = .returned (.bool true) ∧ Below w.heap.size w w' := by
  have hb := lbox w (poO7 p A cap)
  have HB := Lib.hid (And.intro hb (And.intro (World.alloc_heap_new w (poO7 p A cap)) (And.intro (h.below hb) (hTab.up hb))))
  have HL := Lib.hid (fun V hV => lives7 V hV)
  have HC := Lib.hid (fun V hr ht => p_Check7 p A cap V hr ht)
  have HR := Lib.hid (fun V hr => ref_Check7 p A cap V hr)
  have HE := Lib.hid (fun x B c V hV => p_Expr7 x B c V hV)
  have HF := Lib.hid (fun x B c V hV => ref_Expr7 x B c V hV)
  have hlen : p.rules.length ≤ maxLen := h.1
  unfold maxLen at hlen
  generalize checkF p = ck at HC HR
  obtain ⟨c, at_⟩ := ck
  clear hb h hw hTab
  go_enter Tryd.func5, Tryd.ntmps5
  go_wp2_with (first
    | (go_at_call 10; (with_reducible refine (HL.out _ HB.out.2.2.2).mono ?_); rintro e w1 ⟨rfl, hb⟩; have HB1 := Lib.hid (And.intro (on7 HB.out.1 hb) (And.intro (keep7 HB.out.2.1 hb) (And.intro (HB.out.2.2.1.below hb) (HB.out.2.2.2.up hb)))); clear hb; obtain ⟨x0, x1, x2, x3, x4, x5⟩ := po_cells HB1.out.2.1)
    | (go_at_call 14; (with_reducible refine (HC.out _ HB1.out.2.2.1 HB1.out.2.2.2).mono ?_); rintro e w2 ⟨rfl, hb⟩; have HB2 := Lib.hid (And.intro (on7 HB1.out.1 hb) (And.intro (keep7 HB1.out.2.1 hb) (RulesL.below HB1.out.2.2.1 hb))); clear hb; obtain ⟨y0, y1, y2, y3, y4, y5⟩ := po_cells HB2.out.2.1)
    | (go_at_call 24; (with_reducible refine (HR.out _ HB2.out.2.2).mono ?_); rintro e w3 ⟨rfl, hb⟩; have HB3 := Lib.hid (And.intro (on7 HB2.out.1 hb) (And.intro (keep7 HB2.out.2.1 hb) (RulesL.below HB2.out.2.2 hb))); clear hb))
  clear x0 x1 x2 x3 x4 x5 y0 y1 y2 y3 y4 y5
  go_loopw [8] (fun v wr => ∃ k : Nat, k ≤ p.rules.length ∧ v = .int .i64 (k : Int) ∧ Below w3.heap.size w3 wr) (fun v _ => p.rules.length - (intOf v).toNat)
  case atStart => exact ⟨0, Nat.zero_le _, rfl, Below.refl _ _⟩
  case round =>
    obtain ⟨k, hk, rfl, hbw⟩ := hrel
    have hbx := keep7 HB3.out.2.1 hbw
    obtain ⟨_, _, _, _, _, r5⟩ := po_cells hbx
    by_cases hlt : k < p.rules.length
    · have hlt' : (k : Int) < (p.rules.length : Int) := by omega
      have hw : IntKind.i64.wrap ((k : Int) + 1) = ((k + 1 : Nat) : Int) := by rw [IntWalk.i64_in _ (by omega)]; omega
      by_cases h5 : k < 5
      · have h5' : (k : Int) < 5 := by omega
        obtain ⟨tb, o, Ac, capc, Ar, capr, hA, htb, hru, hcc⟩ := rules_cells HB3.out.2.2 hbw k hlt
        subst hA
        generalize p.rules.getD k zeroR7 = r at hru hcc
        have c1 := hcc 1 _ rfl
        have c2 := hcc 2 _ rfl
        have c3 := hcc 3 _ rfl
        have c4 := hcc 4 _ rfl
        have c5 := hcc 5 _ rfl
        have c6 := hcc 6 _ rfl
        have HBW := Lib.hid (And.intro hbw (And.intro hbx (And.intro hru.2 (And.intro htb (show RuAt wr tb (o + k * 9) r Ac capc Ar capr from hcc)))))
        clear hbw hbx hru hcc
        go_wp2_with (first
          | (go_at_call 15; (with_reducible refine (HE.out _ _ _ _ HBW.out.2.2.1).mono ?_); rintro e w4 ⟨rfl, hb⟩; have HB4 := Lib.hid (And.intro (on7 HBW.out.1 hb) (ExL.below hb HBW.out.2.2.1)); obtain ⟨_, _, _, _, _, s5⟩ := po_cells (keep7 HBW.out.2.1 hb); obtain ⟨e0, e1, e2, e3, e4, e5, e6, e7, e8⟩ := RuAt.cells (RuAt.up HBW.out.2.2.2.2 HBW.out.2.2.2.1 hb); clear hb)
          | (go_at_call 25; (with_reducible refine (HF.out _ _ _ _ HB4.out.2).mono ?_); rintro e w5 ⟨rfl, hb⟩; have HB5 := Lib.hid (on7 HB4.out.1 hb); clear hb))
        exact ⟨⟨k + 1, by omega, by go_num, HB5.out⟩, by simp [intOf]; omega⟩
      · have h5' : ¬ (k : Int) < 5 := by omega
        have HBW := Lib.hid (on7 HB3.out.1 hbw)
        clear hbw hbx
        go_wp2
        go_ret
        exact ⟨rfl, HBW.out⟩
    · have hlt' : ¬ (k : Int) < (p.rules.length : Int) := by omega
      have HBW := Lib.hid (on7 HB3.out.1 hbw)
      clear hbw hbx
      go_wp2
      go_ret
      exact ⟨rfl, HBW.out⟩

/-! ### The row's step, the statement, and the card -/
theorem door_met (os : Os) (args : Array Value) : laidMetH Tryd.prog [("ravelin/secdata.rows", Rows.laid_ravelin_secdata_rows)] ((World.doorLaid Tryd.prog 400 os).forCall (fun _ _ => 0) ⟨#[], args, []⟩).memory :=
  laidMetH_of_parts3 (fuel := 8) (laidMet_of_run' 8 (by kernel_rfl) (by kernel_rfl)) (by kernel_rfl) (by kernel_rfl)

set_option maxRecDepth 100000 in
theorem lifted (os : Os) (started : os.Started) (H : Type) (enc : TypeId × Value → H) :
    ReturnsInHanded {} Tryd.checked os 5 .any (fun w args => (Rows.semChecksSpec.pre enc Tryd.prog Tryd.f5 [] false w args ∧ laidMetH Tryd.prog [("ravelin/secdata.rows", Rows.laid_ravelin_secdata_rows)] w) ∧ sizedMet enc Tryd.prog Tryd.f5 (OpenSpec.ofChange Rows.semChecksSpec) false w args)
      (Rows.semChecksSpec.post enc Tryd.prog Tryd.f5 false true false false) := by
  refine returnsInHanded_of_change_and (C := Tryd.checked) (X := fun w _ => laidMetH Tryd.prog [("ravelin/secdata.rows", Rows.laid_ravelin_secdata_rows)] w) (fun _ _ _ hh h => h.of_heap hh) own started (by kernel_rfl) Tryd.func5
    (ChangeSpec.witness_shaped (enc := enc) (C := Tryd.checked) (os := os) (X := fun w _ => laidMetH Tryd.prog [("ravelin/secdata.rows", Rows.laid_ravelin_secdata_rows)] w) false (World.doorLaid Tryd.prog 400 os) #[.agg #[.string ⟨#[]⟩, .int .i64 0, .int .u64 0, .int .i64 0, .int .u64 0, .slice none 0 0]] 8 rfl (World.shaped_of_RefB (by kernel_rfl) (by kernel_rfl)) (by kernel_rfl) (by kernel_rfl) (by kernel_rfl) (door_met os _)) ?_
  intro W base args ds gs before hval0 hW _ _ hL _
  have hval : ∀ (j : Nat) t v, Tryd.f5.params[j]? = some t → args[j]? = some v → Value.okWide Tryd.prog W .any base t v := hval0
  have hW' := hW
  obtain ⟨p, q, hA0, hV, rfl, hfz, hnd⟩ := hW
  have hA : DataW.TrodAll enc Tryd.prog W 0 (fun _ => true) true Tryd.f5.params.toList args.toList ds p := hA0
  rw [Tryd.params5] at hA hval
  obtain ⟨v0, vs0, d0, ds0, p0, q0, hargs, rfl, rfl, h0, r0⟩ := trodAll_cons hA
  obtain ⟨rfl, rfl, rfl⟩ := trodAll_nil r0
  obtain rfl : args = #[v0] := by cases args; simp_all
  obtain ⟨rfl, rfl⟩ := trodVars_none hV
  have k0 := h0
  have lt0 : ∀ x ∈ p0, x.block < W.heap.size := by obtain ⟨m, hm⟩ := k0; exact DataW.trod_lt m _ _ _ hm
  obtain ⟨q0, a0, cap0, rfl, w0, ww0⟩ := open_policy (hval 0 29 v0 rfl rfl) h0
  clear hA0 hval0
  refine (walk q0 a0 cap0 W w0 ww0 (tab_of_laid hL)).mono fun e W' ⟨he, bel⟩ => ?_
  subst he
  exact ⟨_, rfl, _, _, _, [], _, [], hW', trodAll_mk1 (shut_bool Tryd.underlying4 _), (trodAll_cons_mk (Below.trod laidOut (by kernel_rfl) (of_decide_eq_true (by kernel_rfl)) k0 bel lt0) trodAll_mk0), rfl, bel.frame _, fun h => by cases h⟩

theorem over : Rows.semChecksRow.holds Tryd.pinned (OpenSpec.ofChange Rows.semChecksSpec) :=
  OpenClaim.holds_of_wide 5 Tryd.f5 rfl rfl rfl rfl rfl rfl rfl ⟨rfl, rfl, rfl, rfl, rfl⟩ rfl rfl rfl rfl rfl (by kernel_rfl) Tryd.func5 (by kernel_rfl)
    (of_decide_eq_true (by kernel_rfl)) (by unfold Func.isWrapper; first | (rw [if_pos (by decide +kernel)]; kernel_rfl) | (rw [if_neg (by decide +kernel)]; exact ⟨rfl, rfl⟩))
    (fun os started H enc _ => lifted os started H enc)

/-- The statement: the row's card, what it lists tied to the program's text. -/
theorem proved : Rows.SemChecksCardSaid :=
  Claim7.holds_tied_plain_at .later [] [.data] true Rows.semChecksCard.stood.harness Rows.semChecksCard.stood.looks
    over (fun _ h => by cases h) (by kernel_rfl) (fun _ h => by cases h) semChecks_row_tie rfl ⟨rfl, rfl⟩ (by kernel_rfl) rfl
    (fun f fn hf hfn => by
      obtain rfl : f = 5 := Option.some.inj ((show Tryd.prog.funcNamed "ravelin/ravelinlaw07.SemChecks" = some 5 by kernel_rfl).symm.trans hf) |>.symm
      obtain rfl : fn = Tryd.f5 := (Option.some.inj (Tryd.func5.symm.trans hfn)).symm
      exact ⟨by kernel_rfl, fun j t ht => by
        have hm : t ∈ Tryd.f5.params.toList := by
          have := Array.mem_of_getElem? ht
          simpa using this
        have hall : (Tryd.f5.params.toList.all fun u => !Tryd.prog.wantsStandIn u) = true := by kernel_rfl
        exact (show Tryd.prog.wantsStandIn t = false by simpa using List.all_eq_true.1 hall t hm)⟩)
    (by kernel_rfl)
end Go.Proofs.YthdmlbgejbpalaaDoor.semChecks
