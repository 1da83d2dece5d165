/-
  'SemEvals': for every policy and all data, the law of layer 7 that what the policy says of the data, and whether its expressions hold, is the document's returns true, and leaves memory as it was. Condition: the table of the kinds reads as the program's text lays it (the card ties it).
-/
import Derived.Test.YthdmlbgejbpalaaDoorGSemEnd
import Derived.Test.YthdmlbgejbpalaaDoorCards
import Derived.SevenTiedAt
namespace Go.Proofs.YthdmlbgejbpalaaDoor.semEvals
open Go Go.ChangeShapes Go.WideShapes Go.ChangeAt Go.RowKit
set_option linter.unusedSimpArgs false
set_option linter.unusedVariables false

set_option maxRecDepth 100000 in
set_option maxHeartbeats 16000000 in
theorem walk (p : Po) (A : Option Addr) (cap : Nat) (l : List Dat) (B : Option Addr) (capd : Nat) (w : World) (h : RulesL w p.rules A) (hw : PoW p) (hl : DatsL w l B) (hlw : ∀ d ∈ l, DatW d) (hTab : Tab w) :
    Calls Tryd.prog 6 #[poA p A cap, .slice B l.length capd] w fun e w' => e = .returned (.bool true) ∧ Below w.heap.size w w' := by
  have hb := lbox w (poO7 p A cap)
  have HB : Hid (EvAt w (w.alloc (poO7 p A cap)) p A cap l B) := Lib.hid ⟨hb, World.alloc_heap_new w (poO7 p A cap), h.below hb, hl.below hb, hTab.up hb⟩
  have HL := Lib.hid (fun V hV => lives7 V hV)
  have HE := Lib.hid (fun i V hr ht => p_Eval7 p (l.getD i zeroD7) A cap V hr ht)
  have HF := Lib.hid (fun i V hr => ref_Eval7 p (l.getD i zeroD7) A cap V hr)
  have hlen : p.rules.length ≤ maxLen := h.1
  have hlenl : l.length ≤ maxLen := hl.1
  unfold maxLen at hlen hlenl
  clear hb h hw hl hlw hTab
  go_enter Tryd.func6, Tryd.ntmps6
  go_wp2_with (go_at_call 10; (with_reducible refine (HL.out _ HB.out.tab).mono ?_); rintro e w1 ⟨rfl, hb⟩; have HB1 := Lib.hid (HB.out.up hb); clear hb)
  go_loopw [6] (fun v wr => ∃ i : Nat, i ≤ l.length ∧ v = .int .i64 (i : Int) ∧ EvAt w wr p A cap l B) (fun v _ => l.length - (intOf v).toNat)
  case atStart => exact ⟨0, Nat.zero_le _, rfl, HB1.out⟩
  case round =>
    obtain ⟨i, hi, rfl, hbw⟩ := hrel
    by_cases hil : i < l.length
    · have hil' : (i : Int) < (l.length : Int) := by omega
      have hwi : IntKind.i64.wrap ((i : Int) + 1) = ((i + 1 : Nat) : Int) := by rw [IntWalk.i64_in _ (by omega)]; omega
      obtain ⟨tb, o, hA⟩ := dats_form hbw.dats i hil
      subst hA
      have HV := Lib.hid hbw
      clear hbw HB HB1
      obtain ⟨d, hgd⟩ : ∃ d, l.getD i zeroD7 = d := ⟨_, rfl⟩
      have HGD := Lib.hid hgd
      have HE1 := Lib.hid (fun V hr ht => by have := HE.out i V hr ht; rw [hgd] at this; exact this)
      have HF1 := Lib.hid (fun V hr => by have := HF.out i V hr; rw [hgd] at this; exact this)
      generalize evalF p d = ev at HE1 HF1
      clear hgd
      go_wp2
      refine wp_region_held_drew (S := fun W' => EvAt w W' p A cap l (some ⟨tb, o, none⟩)) (by kernel_rfl) HV.out.drew (fun hHeld => ?_)
      have HD0 : Hid (EvAt w wr.drew p A cap l (some ⟨tb, o, none⟩)) := Lib.hid HV.out.drew
      generalize wr.drew = Y1 at HD0 hHeld ⊢
      clear hHeld
      have hHeld := HD0.out
      refine wpAnyH_take (i := 0) (v := ?_) rfl (by kernel_rfl) (by kernel_rfl) (by kernel_rfl) (fun _ _ _ h => h) (Or.inl ⟨by rfl, ?_⟩) (by assumption) ?_
      rotate_left
      · intro wS hSw
        (have hA7 := dats_at hSw.dats i hil; rw [HGD.out] at hA7; obtain ⟨d0, d1, d2, d3, d4, d5, d6, d7, d8⟩ := DatAt.cells hA7; obtain ⟨p0, p1, p2, p3, p4, p5⟩ := po_cells hSw.po)
        go_simp
        all_goals with_reducible rfl
      (try simp only [List.getElem_toArray, List.getElem_cons_zero, List.getElem_cons_succ, Act.put, List.setIfInBounds_toArray, List.set_cons_zero, List.set_cons_succ])
      refine wpAnyH_take (i := 1) (v := ?_) rfl (by kernel_rfl) (by kernel_rfl) (by kernel_rfl) (fun _ _ _ h => h) (Or.inl ⟨by rfl, ?_⟩) (by assumption) ?_
      rotate_left
      · intro wS hSw
        (have hA7 := dats_at hSw.dats i hil; rw [HGD.out] at hA7; obtain ⟨d0, d1, d2, d3, d4, d5, d6, d7, d8⟩ := DatAt.cells hA7; obtain ⟨p0, p1, p2, p3, p4, p5⟩ := po_cells hSw.po)
        go_simp
        all_goals with_reducible rfl
      (try simp only [List.getElem_toArray, List.getElem_cons_zero, List.getElem_cons_succ, Act.put, List.setIfInBounds_toArray, List.set_cons_zero, List.set_cons_succ])
      refine wpAnyH_take (i := 2) (v := ?_) rfl (by kernel_rfl) (by kernel_rfl) (by kernel_rfl) (fun _ _ _ h => h) (Or.inl ⟨by rfl, ?_⟩) (by assumption) ?_
      rotate_left
      · intro wS hSw
        (have hA7 := dats_at hSw.dats i hil; rw [HGD.out] at hA7; obtain ⟨d0, d1, d2, d3, d4, d5, d6, d7, d8⟩ := DatAt.cells hA7; obtain ⟨p0, p1, p2, p3, p4, p5⟩ := po_cells hSw.po)
        go_simp
        all_goals with_reducible rfl
      (try simp only [List.getElem_toArray, List.getElem_cons_zero, List.getElem_cons_succ, Act.put, List.setIfInBounds_toArray, List.set_cons_zero, List.set_cons_succ])
      refine wpAnyH_take (i := 3) (v := ?_) rfl (by kernel_rfl) (by kernel_rfl) (by kernel_rfl) (fun _ _ _ h => h) (Or.inl ⟨by rfl, ?_⟩) (by assumption) ?_
      rotate_left
      · intro wS hSw
        (have hA7 := dats_at hSw.dats i hil; rw [HGD.out] at hA7; obtain ⟨d0, d1, d2, d3, d4, d5, d6, d7, d8⟩ := DatAt.cells hA7; obtain ⟨p0, p1, p2, p3, p4, p5⟩ := po_cells hSw.po)
        go_simp
        all_goals with_reducible rfl
      (try simp only [List.getElem_toArray, List.getElem_cons_zero, List.getElem_cons_succ, Act.put, List.setIfInBounds_toArray, List.set_cons_zero, List.set_cons_succ])
      refine wpAnyH_take (i := 4) (v := ?_) rfl (by kernel_rfl) (by kernel_rfl) (by kernel_rfl) (fun _ _ _ h => h) (Or.inl ⟨by rfl, ?_⟩) (by assumption) ?_
      rotate_left
      · intro wS hSw
        (have hA7 := dats_at hSw.dats i hil; rw [HGD.out] at hA7; obtain ⟨d0, d1, d2, d3, d4, d5, d6, d7, d8⟩ := DatAt.cells hA7; obtain ⟨p0, p1, p2, p3, p4, p5⟩ := po_cells hSw.po)
        go_simp
        all_goals with_reducible rfl
      (try simp only [List.getElem_toArray, List.getElem_cons_zero, List.getElem_cons_succ, Act.put, List.setIfInBounds_toArray, List.set_cons_zero, List.set_cons_succ])
      refine held_one (i := 5) (by kernel_rfl) rfl (fun K hK => ?_)
      go_simp
      go_at_call 12
      refine (HE1.out _ hHeld.rules hHeld.tab).mono ?_
      rintro e w4 ⟨rfl, hb3⟩
      have HE0 := Lib.hid (EvAt.up hHeld hb3)
      refine hK.out _ _ HE0.out (fun hH2 => ?_)
      clear hK K hHeld hb3 hH2 HD0
      (try simp only [Act.put, List.setIfInBounds_toArray, List.set_cons_zero, List.set_cons_succ, List.getElem_toArray, List.getElem_cons_zero, List.getElem_cons_succ])
      refine wpAnyH_take (i := 6) (v := ?_) rfl (by kernel_rfl) (by kernel_rfl) (by kernel_rfl) (fun _ _ _ h => h) (Or.inl ⟨by rfl, ?_⟩) (by assumption) ?_
      rotate_left
      · intro wS hSw
        (skip)
        go_simp
        all_goals with_reducible rfl
      (try simp only [List.getElem_toArray, List.getElem_cons_zero, List.getElem_cons_succ, Act.put, List.setIfInBounds_toArray, List.set_cons_zero, List.set_cons_succ])
      refine wpAnyH_done (by kernel_rfl) ?_ _
      have HV4 := HE0
      clear HE0 HV
      go_wp2
      refine wp_region_held_drew (S := fun W' => EvAt w W' p A cap l (some ⟨tb, o, none⟩)) (by kernel_rfl) HV4.out.drew (fun hHeld => ?_)
      have HD0 : Hid (EvAt w w4.drew p A cap l (some ⟨tb, o, none⟩)) := Lib.hid HV4.out.drew
      generalize w4.drew = Y2 at HD0 hHeld ⊢
      clear hHeld
      have hHeld := HD0.out
      refine wpAnyH_take (i := 0) (v := ?_) rfl (by kernel_rfl) (by kernel_rfl) (by kernel_rfl) (fun _ _ _ h => h) (Or.inl ⟨by rfl, ?_⟩) (by assumption) ?_
      rotate_left
      · intro wS hSw
        (have hA7 := dats_at hSw.dats i hil; rw [HGD.out] at hA7; obtain ⟨d0, d1, d2, d3, d4, d5, d6, d7, d8⟩ := DatAt.cells hA7; obtain ⟨p0, p1, p2, p3, p4, p5⟩ := po_cells hSw.po)
        go_simp
        all_goals with_reducible rfl
      (try simp only [List.getElem_toArray, List.getElem_cons_zero, List.getElem_cons_succ, Act.put, List.setIfInBounds_toArray, List.set_cons_zero, List.set_cons_succ])
      refine wpAnyH_take (i := 1) (v := ?_) rfl (by kernel_rfl) (by kernel_rfl) (by kernel_rfl) (fun _ _ _ h => h) (Or.inl ⟨by rfl, ?_⟩) (by assumption) ?_
      rotate_left
      · intro wS hSw
        (have hA7 := dats_at hSw.dats i hil; rw [HGD.out] at hA7; obtain ⟨d0, d1, d2, d3, d4, d5, d6, d7, d8⟩ := DatAt.cells hA7; obtain ⟨p0, p1, p2, p3, p4, p5⟩ := po_cells hSw.po)
        go_simp
        all_goals with_reducible rfl
      (try simp only [List.getElem_toArray, List.getElem_cons_zero, List.getElem_cons_succ, Act.put, List.setIfInBounds_toArray, List.set_cons_zero, List.set_cons_succ])
      refine wpAnyH_take (i := 2) (v := ?_) rfl (by kernel_rfl) (by kernel_rfl) (by kernel_rfl) (fun _ _ _ h => h) (Or.inl ⟨by rfl, ?_⟩) (by assumption) ?_
      rotate_left
      · intro wS hSw
        (have hA7 := dats_at hSw.dats i hil; rw [HGD.out] at hA7; obtain ⟨d0, d1, d2, d3, d4, d5, d6, d7, d8⟩ := DatAt.cells hA7; obtain ⟨p0, p1, p2, p3, p4, p5⟩ := po_cells hSw.po)
        go_simp
        all_goals with_reducible rfl
      (try simp only [List.getElem_toArray, List.getElem_cons_zero, List.getElem_cons_succ, Act.put, List.setIfInBounds_toArray, List.set_cons_zero, List.set_cons_succ])
      refine wpAnyH_take (i := 3) (v := ?_) rfl (by kernel_rfl) (by kernel_rfl) (by kernel_rfl) (fun _ _ _ h => h) (Or.inl ⟨by rfl, ?_⟩) (by assumption) ?_
      rotate_left
      · intro wS hSw
        (have hA7 := dats_at hSw.dats i hil; rw [HGD.out] at hA7; obtain ⟨d0, d1, d2, d3, d4, d5, d6, d7, d8⟩ := DatAt.cells hA7; obtain ⟨p0, p1, p2, p3, p4, p5⟩ := po_cells hSw.po)
        go_simp
        all_goals with_reducible rfl
      (try simp only [List.getElem_toArray, List.getElem_cons_zero, List.getElem_cons_succ, Act.put, List.setIfInBounds_toArray, List.set_cons_zero, List.set_cons_succ])
      refine wpAnyH_take (i := 4) (v := ?_) rfl (by kernel_rfl) (by kernel_rfl) (by kernel_rfl) (fun _ _ _ h => h) (Or.inl ⟨by rfl, ?_⟩) (by assumption) ?_
      rotate_left
      · intro wS hSw
        (have hA7 := dats_at hSw.dats i hil; rw [HGD.out] at hA7; obtain ⟨d0, d1, d2, d3, d4, d5, d6, d7, d8⟩ := DatAt.cells hA7; obtain ⟨p0, p1, p2, p3, p4, p5⟩ := po_cells hSw.po)
        go_simp
        all_goals with_reducible rfl
      (try simp only [List.getElem_toArray, List.getElem_cons_zero, List.getElem_cons_succ, Act.put, List.setIfInBounds_toArray, List.set_cons_zero, List.set_cons_succ])
      refine wpAnyH_take (i := 5) (v := ?_) rfl (by kernel_rfl) (by kernel_rfl) (by kernel_rfl) (fun _ _ _ h => h) (Or.inl ⟨by rfl, ?_⟩) (by assumption) ?_
      rotate_left
      · intro wS hSw
        (have hA7 := dats_at hSw.dats i hil; rw [HGD.out] at hA7; obtain ⟨d0, d1, d2, d3, d4, d5, d6, d7, d8⟩ := DatAt.cells hA7; obtain ⟨p0, p1, p2, p3, p4, p5⟩ := po_cells hSw.po)
        go_simp
        all_goals with_reducible rfl
      (try simp only [List.getElem_toArray, List.getElem_cons_zero, List.getElem_cons_succ, Act.put, List.setIfInBounds_toArray, List.set_cons_zero, List.set_cons_succ])
      refine held_one (i := 6) (by kernel_rfl) rfl (fun K hK => ?_)
      go_simp
      go_at_call 26
      refine (HF1.out _ hHeld.rules).mono ?_
      rintro e w5 ⟨rfl, hb3⟩
      have HE0 := Lib.hid (EvAt.up hHeld hb3)
      refine hK.out _ _ HE0.out (fun hH2 => ?_)
      clear hK K hHeld hb3 hH2 HD0
      (try simp only [Act.put, List.setIfInBounds_toArray, List.set_cons_zero, List.set_cons_succ, List.getElem_toArray, List.getElem_cons_zero, List.getElem_cons_succ])
      refine wpAnyH_take (i := 7) (v := ?_) rfl (by kernel_rfl) (by kernel_rfl) (by kernel_rfl) (fun _ _ _ h => h) (Or.inl ⟨by rfl, ?_⟩) (by assumption) ?_
      rotate_left
      · intro wS hSw
        (skip)
        go_simp
        all_goals with_reducible rfl
      (try simp only [List.getElem_toArray, List.getElem_cons_zero, List.getElem_cons_succ, Act.put, List.setIfInBounds_toArray, List.set_cons_zero, List.set_cons_succ])
      refine wpAnyH_done (by kernel_rfl) ?_ _
      have HV5 := HE0
      clear HE0 HV4
      go_wp2
      go_loopw [8] (fun v wr => ∃ k : Nat, k ≤ p.rules.length ∧ v = .int .i64 (k : Int) ∧ EvAt w wr p A cap l (some ⟨tb, o, none⟩)) (fun v _ => p.rules.length - (intOf v).toNat)
      case atStart => exact ⟨0, Nat.zero_le _, rfl, HV5.out⟩
      case round =>
        obtain ⟨k, hk, rfl, hbw⟩ := hrel
        obtain ⟨_, _, _, _, _, r5⟩ := po_cells hbw.po
        by_cases hlt : k < p.rules.length
        · have hlt' : (k : Int) < (p.rules.length : Int) := by omega
          have hwk : IntKind.i64.wrap ((k : Int) + 1) = ((k + 1 : Nat) : Int) := by rw [IntWalk.i64_in _ (by omega)]; omega
          by_cases h5 : k < 5
          · have h5' : (k : Int) < 5 := by omega
            obtain ⟨tr, qr, Ac, capc, Ar, capr, hA, hh⟩ := hand_of hbw.rules k hlt
            subst hA
            generalize p.rules.getD k zeroR7 = r at hh
            have HV6 := Lib.hid (And.intro hbw hh)
            clear hbw hh
            go_wp2
            clear r5
            refine wp_region_held_drew (S := fun W' => EvAt w W' p (some ⟨tr, qr, none⟩) cap l (some ⟨tb, o, none⟩) ∧ RuHand W' tr (qr + k * 9) r Ac capc Ar capr) (by kernel_rfl) ⟨HV6.out.1.drew, HV6.out.2.drew⟩ (fun hHeld => ?_)
            have HD0 : Hid (EvAt w wr.drew p (some ⟨tr, qr, none⟩) cap l (some ⟨tb, o, none⟩) ∧ RuHand wr.drew tr (qr + k * 9) r Ac capc Ar capr) := Lib.hid ⟨HV6.out.1.drew, HV6.out.2.drew⟩
            generalize wr.drew = Y3 at HD0 hHeld ⊢
            clear hHeld
            have hHeld := HD0.out
            refine wpAnyH_take (i := 0) (v := ?_) rfl (by kernel_rfl) (by kernel_rfl) (by kernel_rfl) (fun _ _ _ h => h) (Or.inl ⟨by rfl, ?_⟩) (by assumption) ?_
            rotate_left
            · intro wS hSw
              (have hA7 := dats_at hSw.1.dats i hil; rw [HGD.out] at hA7; obtain ⟨d0, d1, d2, d3, d4, d5, d6, d7, d8⟩ := DatAt.cells hA7; obtain ⟨p0, p1, p2, p3, p4, p5⟩ := po_cells hSw.1.po; obtain ⟨e0, e1, e2, e3, e4, e5, e6, e7, e8⟩ := RuAt.cells hSw.2.at_)
              go_simp
              all_goals with_reducible rfl
            (try simp only [List.getElem_toArray, List.getElem_cons_zero, List.getElem_cons_succ, Act.put, List.setIfInBounds_toArray, List.set_cons_zero, List.set_cons_succ])
            refine wpAnyH_take (i := 1) (v := ?_) rfl (by kernel_rfl) (by kernel_rfl) (by kernel_rfl) (fun _ _ _ h => h) (Or.inl ⟨by rfl, ?_⟩) (by assumption) ?_
            rotate_left
            · intro wS hSw
              (have hA7 := dats_at hSw.1.dats i hil; rw [HGD.out] at hA7; obtain ⟨d0, d1, d2, d3, d4, d5, d6, d7, d8⟩ := DatAt.cells hA7; obtain ⟨p0, p1, p2, p3, p4, p5⟩ := po_cells hSw.1.po; obtain ⟨e0, e1, e2, e3, e4, e5, e6, e7, e8⟩ := RuAt.cells hSw.2.at_)
              go_simp
              all_goals with_reducible rfl
            (try simp only [List.getElem_toArray, List.getElem_cons_zero, List.getElem_cons_succ, Act.put, List.setIfInBounds_toArray, List.set_cons_zero, List.set_cons_succ])
            refine wpAnyH_take (i := 2) (v := ?_) rfl (by kernel_rfl) (by kernel_rfl) (by kernel_rfl) (fun _ _ _ h => h) (Or.inl ⟨by rfl, ?_⟩) (by assumption) ?_
            rotate_left
            · intro wS hSw
              (have hA7 := dats_at hSw.1.dats i hil; rw [HGD.out] at hA7; obtain ⟨d0, d1, d2, d3, d4, d5, d6, d7, d8⟩ := DatAt.cells hA7; obtain ⟨p0, p1, p2, p3, p4, p5⟩ := po_cells hSw.1.po; obtain ⟨e0, e1, e2, e3, e4, e5, e6, e7, e8⟩ := RuAt.cells hSw.2.at_)
              go_simp
              all_goals with_reducible rfl
            (try simp only [List.getElem_toArray, List.getElem_cons_zero, List.getElem_cons_succ, Act.put, List.setIfInBounds_toArray, List.set_cons_zero, List.set_cons_succ])
            refine wpAnyH_take (i := 3) (v := ?_) rfl (by kernel_rfl) (by kernel_rfl) (by kernel_rfl) (fun _ _ _ h => h) (Or.inl ⟨by rfl, ?_⟩) (by assumption) ?_
            rotate_left
            · intro wS hSw
              (have hA7 := dats_at hSw.1.dats i hil; rw [HGD.out] at hA7; obtain ⟨d0, d1, d2, d3, d4, d5, d6, d7, d8⟩ := DatAt.cells hA7; obtain ⟨p0, p1, p2, p3, p4, p5⟩ := po_cells hSw.1.po; obtain ⟨e0, e1, e2, e3, e4, e5, e6, e7, e8⟩ := RuAt.cells hSw.2.at_)
              go_simp
              all_goals with_reducible rfl
            (try simp only [List.getElem_toArray, List.getElem_cons_zero, List.getElem_cons_succ, Act.put, List.setIfInBounds_toArray, List.set_cons_zero, List.set_cons_succ])
            refine wpAnyH_take (i := 4) (v := ?_) rfl (by kernel_rfl) (by kernel_rfl) (by kernel_rfl) (fun _ _ _ h => h) (Or.inl ⟨by rfl, ?_⟩) (by assumption) ?_
            rotate_left
            · intro wS hSw
              (have hA7 := dats_at hSw.1.dats i hil; rw [HGD.out] at hA7; obtain ⟨d0, d1, d2, d3, d4, d5, d6, d7, d8⟩ := DatAt.cells hA7; obtain ⟨p0, p1, p2, p3, p4, p5⟩ := po_cells hSw.1.po; obtain ⟨e0, e1, e2, e3, e4, e5, e6, e7, e8⟩ := RuAt.cells hSw.2.at_)
              go_simp
              all_goals with_reducible rfl
            (try simp only [List.getElem_toArray, List.getElem_cons_zero, List.getElem_cons_succ, Act.put, List.setIfInBounds_toArray, List.set_cons_zero, List.set_cons_succ])
            refine wpAnyH_take (i := 5) (v := ?_) rfl (by kernel_rfl) (by kernel_rfl) (by kernel_rfl) (fun _ _ _ h => h) (Or.inl ⟨by rfl, ?_⟩) (by assumption) ?_
            rotate_left
            · intro wS hSw
              (have hA7 := dats_at hSw.1.dats i hil; rw [HGD.out] at hA7; obtain ⟨d0, d1, d2, d3, d4, d5, d6, d7, d8⟩ := DatAt.cells hA7; obtain ⟨p0, p1, p2, p3, p4, p5⟩ := po_cells hSw.1.po; obtain ⟨e0, e1, e2, e3, e4, e5, e6, e7, e8⟩ := RuAt.cells hSw.2.at_)
              go_simp
              all_goals with_reducible rfl
            (try simp only [List.getElem_toArray, List.getElem_cons_zero, List.getElem_cons_succ, Act.put, List.setIfInBounds_toArray, List.set_cons_zero, List.set_cons_succ])
            refine wpAnyH_take (i := 6) (v := ?_) rfl (by kernel_rfl) (by kernel_rfl) (by kernel_rfl) (fun _ _ _ h => h) (Or.inl ⟨by rfl, ?_⟩) (by assumption) ?_
            rotate_left
            · intro wS hSw
              (have hA7 := dats_at hSw.1.dats i hil; rw [HGD.out] at hA7; obtain ⟨d0, d1, d2, d3, d4, d5, d6, d7, d8⟩ := DatAt.cells hA7; obtain ⟨p0, p1, p2, p3, p4, p5⟩ := po_cells hSw.1.po; obtain ⟨e0, e1, e2, e3, e4, e5, e6, e7, e8⟩ := RuAt.cells hSw.2.at_)
              go_simp
              all_goals with_reducible rfl
            (try simp only [List.getElem_toArray, List.getElem_cons_zero, List.getElem_cons_succ, Act.put, List.setIfInBounds_toArray, List.set_cons_zero, List.set_cons_succ])
            refine wpAnyH_take (i := 7) (v := ?_) rfl (by kernel_rfl) (by kernel_rfl) (by kernel_rfl) (fun _ _ _ h => h) (Or.inl ⟨by rfl, ?_⟩) (by assumption) ?_
            rotate_left
            · intro wS hSw
              (have hA7 := dats_at hSw.1.dats i hil; rw [HGD.out] at hA7; obtain ⟨d0, d1, d2, d3, d4, d5, d6, d7, d8⟩ := DatAt.cells hA7; obtain ⟨p0, p1, p2, p3, p4, p5⟩ := po_cells hSw.1.po; obtain ⟨e0, e1, e2, e3, e4, e5, e6, e7, e8⟩ := RuAt.cells hSw.2.at_)
              go_simp
              all_goals with_reducible rfl
            (try simp only [List.getElem_toArray, List.getElem_cons_zero, List.getElem_cons_succ, Act.put, List.setIfInBounds_toArray, List.set_cons_zero, List.set_cons_succ])
            refine wpAnyH_take (i := 8) (v := ?_) rfl (by kernel_rfl) (by kernel_rfl) (by kernel_rfl) (fun _ _ _ h => h) (Or.inl ⟨by rfl, ?_⟩) (by assumption) ?_
            rotate_left
            · intro wS hSw
              (have hA7 := dats_at hSw.1.dats i hil; rw [HGD.out] at hA7; obtain ⟨d0, d1, d2, d3, d4, d5, d6, d7, d8⟩ := DatAt.cells hA7; obtain ⟨p0, p1, p2, p3, p4, p5⟩ := po_cells hSw.1.po; obtain ⟨e0, e1, e2, e3, e4, e5, e6, e7, e8⟩ := RuAt.cells hSw.2.at_)
              go_simp
              all_goals with_reducible rfl
            (try simp only [List.getElem_toArray, List.getElem_cons_zero, List.getElem_cons_succ, Act.put, List.setIfInBounds_toArray, List.set_cons_zero, List.set_cons_succ])
            refine wpAnyH_take (i := 9) (v := ?_) rfl (by kernel_rfl) (by kernel_rfl) (by kernel_rfl) (fun _ _ _ h => h) (Or.inl ⟨by rfl, ?_⟩) (by assumption) ?_
            rotate_left
            · intro wS hSw
              (have hA7 := dats_at hSw.1.dats i hil; rw [HGD.out] at hA7; obtain ⟨d0, d1, d2, d3, d4, d5, d6, d7, d8⟩ := DatAt.cells hA7; obtain ⟨p0, p1, p2, p3, p4, p5⟩ := po_cells hSw.1.po; obtain ⟨e0, e1, e2, e3, e4, e5, e6, e7, e8⟩ := RuAt.cells hSw.2.at_)
              go_simp
              all_goals with_reducible rfl
            (try simp only [List.getElem_toArray, List.getElem_cons_zero, List.getElem_cons_succ, Act.put, List.setIfInBounds_toArray, List.set_cons_zero, List.set_cons_succ])
            refine held_one (i := 10) (by kernel_rfl) rfl (fun K hK => ?_)
            go_simp
            go_at_call 27
            refine (p_Holds7 d r.when_ Ar capr _ hHeld.2.ex).mono ?_
            rintro e w7 ⟨rfl, hb3⟩
            have HE0 := Lib.hid (And.intro (EvAt.up hHeld.1 hb3) (RuHand.up hHeld.2 hb3))
            refine hK.out _ _ HE0.out (fun hH2 => ?_)
            clear hK K hHeld hb3 hH2 HD0
            (try simp only [Act.put, List.setIfInBounds_toArray, List.set_cons_zero, List.set_cons_succ, List.getElem_toArray, List.getElem_cons_zero, List.getElem_cons_succ])
            refine wpAnyH_take (i := 11) (v := ?_) rfl (by kernel_rfl) (by kernel_rfl) (by kernel_rfl) (fun _ _ _ h => h) (Or.inl ⟨by rfl, ?_⟩) (by assumption) ?_
            rotate_left
            · intro wS hSw
              (skip)
              go_simp
              all_goals with_reducible rfl
            (try simp only [List.getElem_toArray, List.getElem_cons_zero, List.getElem_cons_succ, Act.put, List.setIfInBounds_toArray, List.set_cons_zero, List.set_cons_succ])
            refine wpAnyH_done (by kernel_rfl) ?_ _
            have HV7 := HE0
            clear HE0 HV6
            go_wp2
            refine wp_region_held_drew (S := fun W' => EvAt w W' p (some ⟨tr, qr, none⟩) cap l (some ⟨tb, o, none⟩) ∧ RuHand W' tr (qr + k * 9) r Ac capc Ar capr) (by kernel_rfl) ⟨HV7.out.1.drew, HV7.out.2.drew⟩ (fun hHeld => ?_)
            have HD0 : Hid (EvAt w w7.drew p (some ⟨tr, qr, none⟩) cap l (some ⟨tb, o, none⟩) ∧ RuHand w7.drew tr (qr + k * 9) r Ac capc Ar capr) := Lib.hid ⟨HV7.out.1.drew, HV7.out.2.drew⟩
            generalize w7.drew = Y4 at HD0 hHeld ⊢
            clear hHeld
            have hHeld := HD0.out
            refine wpAnyH_take (i := 0) (v := ?_) rfl (by kernel_rfl) (by kernel_rfl) (by kernel_rfl) (fun _ _ _ h => h) (Or.inl ⟨by rfl, ?_⟩) (by assumption) ?_
            rotate_left
            · intro wS hSw
              (have hA7 := dats_at hSw.1.dats i hil; rw [HGD.out] at hA7; obtain ⟨d0, d1, d2, d3, d4, d5, d6, d7, d8⟩ := DatAt.cells hA7; obtain ⟨p0, p1, p2, p3, p4, p5⟩ := po_cells hSw.1.po; obtain ⟨e0, e1, e2, e3, e4, e5, e6, e7, e8⟩ := RuAt.cells hSw.2.at_)
              go_simp
              all_goals with_reducible rfl
            (try simp only [List.getElem_toArray, List.getElem_cons_zero, List.getElem_cons_succ, Act.put, List.setIfInBounds_toArray, List.set_cons_zero, List.set_cons_succ])
            refine wpAnyH_take (i := 1) (v := ?_) rfl (by kernel_rfl) (by kernel_rfl) (by kernel_rfl) (fun _ _ _ h => h) (Or.inl ⟨by rfl, ?_⟩) (by assumption) ?_
            rotate_left
            · intro wS hSw
              (have hA7 := dats_at hSw.1.dats i hil; rw [HGD.out] at hA7; obtain ⟨d0, d1, d2, d3, d4, d5, d6, d7, d8⟩ := DatAt.cells hA7; obtain ⟨p0, p1, p2, p3, p4, p5⟩ := po_cells hSw.1.po; obtain ⟨e0, e1, e2, e3, e4, e5, e6, e7, e8⟩ := RuAt.cells hSw.2.at_)
              go_simp
              all_goals with_reducible rfl
            (try simp only [List.getElem_toArray, List.getElem_cons_zero, List.getElem_cons_succ, Act.put, List.setIfInBounds_toArray, List.set_cons_zero, List.set_cons_succ])
            refine wpAnyH_take (i := 2) (v := ?_) rfl (by kernel_rfl) (by kernel_rfl) (by kernel_rfl) (fun _ _ _ h => h) (Or.inl ⟨by rfl, ?_⟩) (by assumption) ?_
            rotate_left
            · intro wS hSw
              (have hA7 := dats_at hSw.1.dats i hil; rw [HGD.out] at hA7; obtain ⟨d0, d1, d2, d3, d4, d5, d6, d7, d8⟩ := DatAt.cells hA7; obtain ⟨p0, p1, p2, p3, p4, p5⟩ := po_cells hSw.1.po; obtain ⟨e0, e1, e2, e3, e4, e5, e6, e7, e8⟩ := RuAt.cells hSw.2.at_)
              go_simp
              all_goals with_reducible rfl
            (try simp only [List.getElem_toArray, List.getElem_cons_zero, List.getElem_cons_succ, Act.put, List.setIfInBounds_toArray, List.set_cons_zero, List.set_cons_succ])
            refine wpAnyH_take (i := 3) (v := ?_) rfl (by kernel_rfl) (by kernel_rfl) (by kernel_rfl) (fun _ _ _ h => h) (Or.inl ⟨by rfl, ?_⟩) (by assumption) ?_
            rotate_left
            · intro wS hSw
              (have hA7 := dats_at hSw.1.dats i hil; rw [HGD.out] at hA7; obtain ⟨d0, d1, d2, d3, d4, d5, d6, d7, d8⟩ := DatAt.cells hA7; obtain ⟨p0, p1, p2, p3, p4, p5⟩ := po_cells hSw.1.po; obtain ⟨e0, e1, e2, e3, e4, e5, e6, e7, e8⟩ := RuAt.cells hSw.2.at_)
              go_simp
              all_goals with_reducible rfl
            (try simp only [List.getElem_toArray, List.getElem_cons_zero, List.getElem_cons_succ, Act.put, List.setIfInBounds_toArray, List.set_cons_zero, List.set_cons_succ])
            refine wpAnyH_take (i := 4) (v := ?_) rfl (by kernel_rfl) (by kernel_rfl) (by kernel_rfl) (fun _ _ _ h => h) (Or.inl ⟨by rfl, ?_⟩) (by assumption) ?_
            rotate_left
            · intro wS hSw
              (have hA7 := dats_at hSw.1.dats i hil; rw [HGD.out] at hA7; obtain ⟨d0, d1, d2, d3, d4, d5, d6, d7, d8⟩ := DatAt.cells hA7; obtain ⟨p0, p1, p2, p3, p4, p5⟩ := po_cells hSw.1.po; obtain ⟨e0, e1, e2, e3, e4, e5, e6, e7, e8⟩ := RuAt.cells hSw.2.at_)
              go_simp
              all_goals with_reducible rfl
            (try simp only [List.getElem_toArray, List.getElem_cons_zero, List.getElem_cons_succ, Act.put, List.setIfInBounds_toArray, List.set_cons_zero, List.set_cons_succ])
            refine wpAnyH_take (i := 5) (v := ?_) rfl (by kernel_rfl) (by kernel_rfl) (by kernel_rfl) (fun _ _ _ h => h) (Or.inl ⟨by rfl, ?_⟩) (by assumption) ?_
            rotate_left
            · intro wS hSw
              (have hA7 := dats_at hSw.1.dats i hil; rw [HGD.out] at hA7; obtain ⟨d0, d1, d2, d3, d4, d5, d6, d7, d8⟩ := DatAt.cells hA7; obtain ⟨p0, p1, p2, p3, p4, p5⟩ := po_cells hSw.1.po; obtain ⟨e0, e1, e2, e3, e4, e5, e6, e7, e8⟩ := RuAt.cells hSw.2.at_)
              go_simp
              all_goals with_reducible rfl
            (try simp only [List.getElem_toArray, List.getElem_cons_zero, List.getElem_cons_succ, Act.put, List.setIfInBounds_toArray, List.set_cons_zero, List.set_cons_succ])
            refine wpAnyH_take (i := 6) (v := ?_) rfl (by kernel_rfl) (by kernel_rfl) (by kernel_rfl) (fun _ _ _ h => h) (Or.inl ⟨by rfl, ?_⟩) (by assumption) ?_
            rotate_left
            · intro wS hSw
              (have hA7 := dats_at hSw.1.dats i hil; rw [HGD.out] at hA7; obtain ⟨d0, d1, d2, d3, d4, d5, d6, d7, d8⟩ := DatAt.cells hA7; obtain ⟨p0, p1, p2, p3, p4, p5⟩ := po_cells hSw.1.po; obtain ⟨e0, e1, e2, e3, e4, e5, e6, e7, e8⟩ := RuAt.cells hSw.2.at_)
              go_simp
              all_goals with_reducible rfl
            (try simp only [List.getElem_toArray, List.getElem_cons_zero, List.getElem_cons_succ, Act.put, List.setIfInBounds_toArray, List.set_cons_zero, List.set_cons_succ])
            refine wpAnyH_take (i := 7) (v := ?_) rfl (by kernel_rfl) (by kernel_rfl) (by kernel_rfl) (fun _ _ _ h => h) (Or.inl ⟨by rfl, ?_⟩) (by assumption) ?_
            rotate_left
            · intro wS hSw
              (have hA7 := dats_at hSw.1.dats i hil; rw [HGD.out] at hA7; obtain ⟨d0, d1, d2, d3, d4, d5, d6, d7, d8⟩ := DatAt.cells hA7; obtain ⟨p0, p1, p2, p3, p4, p5⟩ := po_cells hSw.1.po; obtain ⟨e0, e1, e2, e3, e4, e5, e6, e7, e8⟩ := RuAt.cells hSw.2.at_)
              go_simp
              all_goals with_reducible rfl
            (try simp only [List.getElem_toArray, List.getElem_cons_zero, List.getElem_cons_succ, Act.put, List.setIfInBounds_toArray, List.set_cons_zero, List.set_cons_succ])
            refine wpAnyH_take (i := 8) (v := ?_) rfl (by kernel_rfl) (by kernel_rfl) (by kernel_rfl) (fun _ _ _ h => h) (Or.inl ⟨by rfl, ?_⟩) (by assumption) ?_
            rotate_left
            · intro wS hSw
              (have hA7 := dats_at hSw.1.dats i hil; rw [HGD.out] at hA7; obtain ⟨d0, d1, d2, d3, d4, d5, d6, d7, d8⟩ := DatAt.cells hA7; obtain ⟨p0, p1, p2, p3, p4, p5⟩ := po_cells hSw.1.po; obtain ⟨e0, e1, e2, e3, e4, e5, e6, e7, e8⟩ := RuAt.cells hSw.2.at_)
              go_simp
              all_goals with_reducible rfl
            (try simp only [List.getElem_toArray, List.getElem_cons_zero, List.getElem_cons_succ, Act.put, List.setIfInBounds_toArray, List.set_cons_zero, List.set_cons_succ])
            refine wpAnyH_take (i := 9) (v := ?_) rfl (by kernel_rfl) (by kernel_rfl) (by kernel_rfl) (fun _ _ _ h => h) (Or.inl ⟨by rfl, ?_⟩) (by assumption) ?_
            rotate_left
            · intro wS hSw
              (have hA7 := dats_at hSw.1.dats i hil; rw [HGD.out] at hA7; obtain ⟨d0, d1, d2, d3, d4, d5, d6, d7, d8⟩ := DatAt.cells hA7; obtain ⟨p0, p1, p2, p3, p4, p5⟩ := po_cells hSw.1.po; obtain ⟨e0, e1, e2, e3, e4, e5, e6, e7, e8⟩ := RuAt.cells hSw.2.at_)
              go_simp
              all_goals with_reducible rfl
            (try simp only [List.getElem_toArray, List.getElem_cons_zero, List.getElem_cons_succ, Act.put, List.setIfInBounds_toArray, List.set_cons_zero, List.set_cons_succ])
            refine wpAnyH_take (i := 10) (v := ?_) rfl (by kernel_rfl) (by kernel_rfl) (by kernel_rfl) (fun _ _ _ h => h) (Or.inl ⟨by rfl, ?_⟩) (by assumption) ?_
            rotate_left
            · intro wS hSw
              (have hA7 := dats_at hSw.1.dats i hil; rw [HGD.out] at hA7; obtain ⟨d0, d1, d2, d3, d4, d5, d6, d7, d8⟩ := DatAt.cells hA7; obtain ⟨p0, p1, p2, p3, p4, p5⟩ := po_cells hSw.1.po; obtain ⟨e0, e1, e2, e3, e4, e5, e6, e7, e8⟩ := RuAt.cells hSw.2.at_)
              go_simp
              all_goals with_reducible rfl
            (try simp only [List.getElem_toArray, List.getElem_cons_zero, List.getElem_cons_succ, Act.put, List.setIfInBounds_toArray, List.set_cons_zero, List.set_cons_succ])
            refine held_one (i := 11) (by kernel_rfl) rfl (fun K hK => ?_)
            go_simp
            go_at_call 28
            refine (ref_Holds7 d r.when_ Ar capr _ hHeld.2.ex).mono ?_
            rintro e w8 ⟨rfl, hb3⟩
            have HE0 := Lib.hid (And.intro (EvAt.up hHeld.1 hb3) (RuHand.up hHeld.2 hb3))
            refine hK.out _ _ HE0.out (fun hH2 => ?_)
            clear hK K hHeld hb3 hH2 HD0
            (try simp only [Act.put, List.setIfInBounds_toArray, List.set_cons_zero, List.set_cons_succ, List.getElem_toArray, List.getElem_cons_zero, List.getElem_cons_succ])
            refine wpAnyH_take (i := 12) (v := ?_) rfl (by kernel_rfl) (by kernel_rfl) (by kernel_rfl) (fun _ _ _ h => h) (Or.inl ⟨by rfl, ?_⟩) (by assumption) ?_
            rotate_left
            · intro wS hSw
              (skip)
              go_simp
              all_goals with_reducible rfl
            (try simp only [List.getElem_toArray, List.getElem_cons_zero, List.getElem_cons_succ, Act.put, List.setIfInBounds_toArray, List.set_cons_zero, List.set_cons_succ])
            refine wpAnyH_done (by kernel_rfl) ?_ _
            have HV8 := HE0
            clear HE0 HV7
            go_wp2
            exact ⟨⟨k + 1, by omega, by go_num, HV8.out.1⟩, by simp [intOf]; omega⟩
          · have h5' : ¬ (k : Int) < 5 := by omega
            have HBW := Lib.hid hbw
            clear hbw
            go_wp2
            exact ⟨⟨i + 1, by omega, by go_num, HBW.out⟩, by simp [intOf]; omega⟩
        · have hlt' : ¬ (k : Int) < (p.rules.length : Int) := by omega
          have HBW := Lib.hid hbw
          clear hbw
          go_wp2
          exact ⟨⟨i + 1, by omega, by go_num, HBW.out⟩, by simp [intOf]; omega⟩
    · have hil' : ¬ (i : Int) < (l.length : Int) := by omega
      have HBW := Lib.hid hbw.below
      clear hbw
      go_wp2
      go_ret
      exact ⟨rfl, HBW.out⟩

/-! ### The row's step, the statement, and the card -/
theorem door_met (os : Os) (args : Array Value) : laidMetH Tryd.prog [("ravelin/secdata.rows", Rows.laid_ravelin_secdata_rows)] ((World.doorLaid Tryd.prog 400 os).forCall (fun _ _ => 0) ⟨#[], args, []⟩).memory :=
  laidMetH_of_parts3 (fuel := 8) (laidMet_of_run' 8 (by kernel_rfl) (by kernel_rfl)) (by kernel_rfl) (by kernel_rfl)

set_option maxRecDepth 100000 in
theorem lifted (os : Os) (started : os.Started) (H : Type) (enc : TypeId × Value → H) :
    ReturnsInHanded {} Tryd.checked os 6 .any (fun w args => (Rows.semEvalsSpec.pre enc Tryd.prog Tryd.f6 [] false w args ∧ laidMetH Tryd.prog [("ravelin/secdata.rows", Rows.laid_ravelin_secdata_rows)] w) ∧ sizedMet enc Tryd.prog Tryd.f6 (OpenSpec.ofChange Rows.semEvalsSpec) false w args)
      (Rows.semEvalsSpec.post enc Tryd.prog Tryd.f6 false true false false) := by
  refine returnsInHanded_of_change_and (C := Tryd.checked) (X := fun w _ => laidMetH Tryd.prog [("ravelin/secdata.rows", Rows.laid_ravelin_secdata_rows)] w) (fun _ _ _ hh h => h.of_heap hh) own started (by kernel_rfl) Tryd.func6
    (ChangeSpec.witness_shaped (enc := enc) (C := Tryd.checked) (os := os) (X := fun w _ => laidMetH Tryd.prog [("ravelin/secdata.rows", Rows.laid_ravelin_secdata_rows)] w) false (World.doorLaid Tryd.prog 400 os) #[.agg #[.string ⟨#[]⟩, .int .i64 0, .int .u64 0, .int .i64 0, .int .u64 0, .slice none 0 0], .slice none 0 0] 8 rfl (World.shaped_of_RefB (by kernel_rfl) (by kernel_rfl)) (by kernel_rfl) (by kernel_rfl) (by kernel_rfl) (door_met os _)) ?_
  intro W base args ds gs before hval0 hW _ _ hL _
  have hval : ∀ (j : Nat) t v, Tryd.f6.params[j]? = some t → args[j]? = some v → Value.okWide Tryd.prog W .any base t v := hval0
  have hW' := hW
  obtain ⟨p, q, hA0, hV, rfl, hfz, hnd⟩ := hW
  have hA : DataW.TrodAll enc Tryd.prog W 0 (fun _ => true) true Tryd.f6.params.toList args.toList ds p := hA0
  rw [Tryd.params6] at hA hval
  obtain ⟨v0, vs0, d0, ds0, p0, q0, hargs, rfl, rfl, h0, r0⟩ := trodAll_cons hA
  obtain ⟨v1, vs1, d1, ds1, p1, q1, rfl, rfl, rfl, h1, r1⟩ := trodAll_cons r0
  obtain ⟨rfl, rfl, rfl⟩ := trodAll_nil r1
  obtain rfl : args = #[v0, v1] := by cases args; simp_all
  obtain ⟨rfl, rfl⟩ := trodVars_none hV
  have k0 := h0
  have lt0 : ∀ x ∈ p0, x.block < W.heap.size := by obtain ⟨m, hm⟩ := k0; exact DataW.trod_lt m _ _ _ hm
  obtain ⟨q0, a0, cap0, rfl, w0, ww0⟩ := open_policy (hval 0 29 v0 rfl rfl) h0
  have k1 := h1
  have lt1 : ∀ x ∈ p1, x.block < W.heap.size := by obtain ⟨m, hm⟩ := k1; exact DataW.trod_lt m _ _ _ hm
  obtain ⟨q1, a1, cap1, rfl, w1, ww1⟩ := open_dats (hval 1 60 v1 rfl rfl) h1
  clear hA0 hval0
  refine (walk q0 a0 cap0 q1 a1 cap1 W w0 ww0 w1 ww1 (tab_of_laid hL)).mono fun e W' ⟨he, bel⟩ => ?_
  subst he
  exact ⟨_, rfl, _, _, _, [], _, [], hW', trodAll_mk1 (shut_bool Tryd.underlying4 _), (trodAll_cons_mk (Below.trod laidOut (by kernel_rfl) (of_decide_eq_true (by kernel_rfl)) k0 bel lt0) (trodAll_cons_mk (Below.trod laidOut (by kernel_rfl) (of_decide_eq_true (by kernel_rfl)) k1 bel lt1) trodAll_mk0)), rfl, bel.frame _, fun h => by cases h⟩

theorem over : Rows.semEvalsRow.holds Tryd.pinned (OpenSpec.ofChange Rows.semEvalsSpec) :=
  OpenClaim.holds_of_wide 6 Tryd.f6 rfl rfl rfl rfl rfl rfl rfl ⟨rfl, rfl, rfl, rfl, rfl⟩ rfl rfl rfl rfl rfl (by kernel_rfl) Tryd.func6 (by kernel_rfl)
    (of_decide_eq_true (by kernel_rfl)) (by unfold Func.isWrapper; first | (rw [if_pos (by decide +kernel)]; kernel_rfl) | (rw [if_neg (by decide +kernel)]; exact ⟨rfl, rfl⟩))
    (fun os started H enc _ => lifted os started H enc)

/-- The statement: the row's card, what it lists tied to the program's text. -/
theorem proved : Rows.SemEvalsCardSaid :=
  Claim7.holds_tied_plain_at .later [] [.data] true Rows.semEvalsCard.stood.harness Rows.semEvalsCard.stood.looks
    over (fun _ h => by cases h) (by kernel_rfl) (fun _ h => by cases h) semEvals_row_tie rfl ⟨rfl, rfl⟩ (by kernel_rfl) rfl
    (fun f fn hf hfn => by
      obtain rfl : f = 6 := Option.some.inj ((show Tryd.prog.funcNamed "ravelin/ravelinlaw07.SemEvals" = some 6 by kernel_rfl).symm.trans hf) |>.symm
      obtain rfl : fn = Tryd.f6 := (Option.some.inj (Tryd.func6.symm.trans hfn)).symm
      exact ⟨by kernel_rfl, fun j t ht => by
        have hm : t ∈ Tryd.f6.params.toList := by
          have := Array.mem_of_getElem? ht
          simpa using this
        have hall : (Tryd.f6.params.toList.all fun u => !Tryd.prog.wantsStandIn u) = true := by kernel_rfl
        exact (show Tryd.prog.wantsStandIn t = false by simpa using List.all_eq_true.1 hall t hm)⟩)
    (by kernel_rfl)
end Go.Proofs.YthdmlbgejbpalaaDoor.semEvals
