/-
  The program lays a decision's nodes one behind the other: a contract. Conditions: those that it names.
-/
import Derived.Test.YtgpjiflgocgolaaLowLay
import Derived.Deep.Cut
namespace Go.Proofs.Ytgpjiflgocgolaa
open Go Go.RowKit
set_option linter.unusedSimpArgs false
set_option linter.unusedVariables false

set_option maxHeartbeats 4000000 in
set_option maxRecDepth 100000 in
theorem p_place {B : Nat} {W : World} {b : Nat} {A : Option Addr} {n cap : Nat} {nd : Nat → Nd} {lb fb : Nat} {lg : Ways} {ft : Nat → Nat} (h : LayAt B W b A n cap nd lb fb lg ft) (hB : B ≤ W.heap.size) (hn : n ≤ 4096) (h0 : ft 0 = 0) :
    Calls Try.prog 27 #[.pointer (some ⟨b, 0, none⟩)] W fun e w' => e = .returned (.tuple #[]) ∧ LayAt B w' b A n cap nd lb fb lg (firstN nd lg) ∧ Below B W w' := by
  obtain ⟨k0, k1, k2⟩ := lay_box h
  have HL := Lib.hid h
  have H0 := Lib.hid h0
  clear h h0
  go_enter Try.func27, Try.ntmps27
  go_wp2
  go_loopw [8] (fun i wr => ∃ k : Nat, k ≤ n ∧ i = .int .i64 (k : Int) ∧ ∃ ft', LayAt B wr b A n cap nd lb fb lg ft' ∧ (∀ j, j ≤ k → ft' j = firstN nd lg j) ∧ Below B W wr) (fun i _ => n - (intOf i).toNat)
  case atStart => exact ⟨0, by omega, rfl, ft, HL.out, fun j hj => by rw [show j = 0 by omega, H0.out]; rfl, Below.refl _ _⟩
  case round =>
    obtain ⟨k, hk, rfl, ft', hl, hf, hb⟩ := hrel
    have HR := Lib.hid (And.intro hl (And.intro hf hb))
    clear hl hf hb k0 k1 k2
    by_cases hlt : k < n
    · have hlt' : (k : Int) < (n : Int) := by omega
      have hlt1 : (k : Int) < (n : Int) + 1 := by omega
      have hge1 : (0 : Int) ≤ (k : Int) + 1 := by omega
      have hw : IntKind.i64.wrap ((k : Int) + 1) = ((k + 1 : Nat) : Int) := by rw [IntWalk.i64_in _ (by omega)]; omega
      have hfl := first_le nd lg k
      have hsl := size_le (nd k) (lg k)
      have hkn : firstN nd lg k ≤ 20480 := by omega
      go_upto_region 3 with fail
      refine wp_region_held_drew (S := fun W' => ∃ q, LayAt B W' b A n cap nd lb fb lg q ∧ q k = firstN nd lg k) (by kernel_rfl) ⟨ft', HR.out.1.below (below_drawn (Below.refl _ _) 1), HR.out.2.1 k (Nat.le_refl _)⟩ (fun hHeld => ?_)
      have HD0 : Hid (LayAt B wr.drew b A n cap nd lb fb lg ft' ∧ Below B W wr.drew) := Lib.hid ⟨HR.out.1.below (below_drawn (Below.refl _ _) 1), HR.out.2.2.drew⟩
      generalize wr.drew = Y at HD0 hHeld ⊢
      have HSZ := Lib.hid (fun (V : World) (q : Nat → Nat) hV => p_sizeAt (ft := q) (W := V) (b := b) (A := A) (n := n) (cap := cap) (nd := nd) (lb := lb) (fb := fb) (lg := lg) (B := B) (i := k) hV hlt)
      have HF : Hid (∀ j, j ≤ k → ft' j = firstN nd lg j) := Lib.hid HR.out.2.1
      clear HR HL H0
      refine wpAnyH_take (i := 0) (v := ?_) rfl (by kernel_rfl) (by kernel_rfl) (by kernel_rfl) (fun _ _ _ h => h) (Or.inl ⟨by rfl, ?_⟩) (by assumption) ?_
      rotate_left
      · intro wS hSw
        (obtain ⟨q, hq, hqk⟩ := hSw; obtain ⟨m0, m1, m2⟩ := lay_box hq; have m3 := lay_first hq (i := k) hk; rw [hqk] at m3)
        go_simp
        all_goals with_reducible rfl
      (try simp only [List.getElem_toArray, List.getElem_cons_zero, List.getElem_cons_succ, Act.put, List.setIfInBounds_toArray, List.set_cons_zero, List.set_cons_succ])
      refine wpAnyH_take (i := 1) (v := ?_) rfl (by kernel_rfl) (by kernel_rfl) (by kernel_rfl) (fun _ _ _ h => h) (Or.inl ⟨by rfl, ?_⟩) (by assumption) ?_
      rotate_left
      · intro wS hSw
        (obtain ⟨q, hq, hqk⟩ := hSw; obtain ⟨m0, m1, m2⟩ := lay_box hq; have m3 := lay_first hq (i := k) hk; rw [hqk] at m3)
        go_simp
        all_goals with_reducible rfl
      (try simp only [List.getElem_toArray, List.getElem_cons_zero, List.getElem_cons_succ, Act.put, List.setIfInBounds_toArray, List.set_cons_zero, List.set_cons_succ])
      refine wpAnyH_take (i := 2) (v := ?_) rfl (by kernel_rfl) (by kernel_rfl) (by kernel_rfl) (fun _ _ _ h => h) (Or.inl ⟨by rfl, ?_⟩) (by assumption) ?_
      rotate_left
      · intro wS hSw
        (obtain ⟨q, hq, hqk⟩ := hSw; obtain ⟨m0, m1, m2⟩ := lay_box hq; have m3 := lay_first hq (i := k) hk; rw [hqk] at m3)
        go_simp
        all_goals with_reducible rfl
      (try simp only [List.getElem_toArray, List.getElem_cons_zero, List.getElem_cons_succ, Act.put, List.setIfInBounds_toArray, List.set_cons_zero, List.set_cons_succ])
      refine wpAnyH_take (i := 3) (v := ?_) rfl (by kernel_rfl) (by kernel_rfl) (by kernel_rfl) (fun _ _ _ h => h) (Or.inl ⟨by rfl, ?_⟩) (by assumption) ?_
      rotate_left
      · intro wS hSw
        (obtain ⟨q, hq, hqk⟩ := hSw; obtain ⟨m0, m1, m2⟩ := lay_box hq; have m3 := lay_first hq (i := k) hk; rw [hqk] at m3)
        go_simp
        all_goals with_reducible rfl
      (try simp only [List.getElem_toArray, List.getElem_cons_zero, List.getElem_cons_succ, Act.put, List.setIfInBounds_toArray, List.set_cons_zero, List.set_cons_succ])
      refine wpAnyH_take (i := 4) (v := ?_) rfl (by kernel_rfl) (by kernel_rfl) (by kernel_rfl) (fun _ _ _ h => h) (Or.inl ⟨by rfl, ?_⟩) (by assumption) ?_
      rotate_left
      · intro wS hSw
        (obtain ⟨q, hq, hqk⟩ := hSw; obtain ⟨m0, m1, m2⟩ := lay_box hq; have m3 := lay_first hq (i := k) hk; rw [hqk] at m3)
        go_simp
        all_goals with_reducible rfl
      (try simp only [List.getElem_toArray, List.getElem_cons_zero, List.getElem_cons_succ, Act.put, List.setIfInBounds_toArray, List.set_cons_zero, List.set_cons_succ])
      refine wpAnyH_take (i := 5) (v := ?_) rfl (by kernel_rfl) (by kernel_rfl) (by kernel_rfl) (fun _ _ _ h => h) (Or.inl ⟨by rfl, ?_⟩) (by assumption) ?_
      rotate_left
      · intro wS hSw
        (obtain ⟨q, hq, hqk⟩ := hSw; obtain ⟨m0, m1, m2⟩ := lay_box hq; have m3 := lay_first hq (i := k) hk; rw [hqk] at m3)
        go_simp
        all_goals with_reducible rfl
      (try simp only [List.getElem_toArray, List.getElem_cons_zero, List.getElem_cons_succ, Act.put, List.setIfInBounds_toArray, List.set_cons_zero, List.set_cons_succ])
      refine wpAnyH_take (i := 6) (v := ?_) rfl (by kernel_rfl) (by kernel_rfl) (by kernel_rfl) (fun _ _ _ h => h) (Or.inl ⟨by rfl, ?_⟩) (by assumption) ?_
      rotate_left
      · intro wS hSw
        (obtain ⟨q, hq, hqk⟩ := hSw; obtain ⟨m0, m1, m2⟩ := lay_box hq; have m3 := lay_first hq (i := k) hk; rw [hqk] at m3)
        go_simp
        all_goals with_reducible rfl
      (try simp only [List.getElem_toArray, List.getElem_cons_zero, List.getElem_cons_succ, Act.put, List.setIfInBounds_toArray, List.set_cons_zero, List.set_cons_succ])
      refine wpAnyH_take (i := 7) (v := ?_) rfl (by kernel_rfl) (by kernel_rfl) (by kernel_rfl) (fun _ _ _ h => h) (Or.inl ⟨by rfl, ?_⟩) (by assumption) ?_
      rotate_left
      · intro wS hSw
        (obtain ⟨q, hq, hqk⟩ := hSw; obtain ⟨m0, m1, m2⟩ := lay_box hq; have m3 := lay_first hq (i := k) hk; rw [hqk] at m3)
        go_simp
        all_goals with_reducible rfl
      (try simp only [List.getElem_toArray, List.getElem_cons_zero, List.getElem_cons_succ, Act.put, List.setIfInBounds_toArray, List.set_cons_zero, List.set_cons_succ])
      refine wpAnyH_take (i := 8) (v := ?_) rfl (by kernel_rfl) (by kernel_rfl) (by kernel_rfl) (fun _ _ _ h => h) (Or.inl ⟨by rfl, ?_⟩) (by assumption) ?_
      rotate_left
      · intro wS hSw
        (obtain ⟨q, hq, hqk⟩ := hSw; obtain ⟨m0, m1, m2⟩ := lay_box hq; have m3 := lay_first hq (i := k) hk; rw [hqk] at m3)
        go_simp
        all_goals with_reducible rfl
      (try simp only [List.getElem_toArray, List.getElem_cons_zero, List.getElem_cons_succ, Act.put, List.setIfInBounds_toArray, List.set_cons_zero, List.set_cons_succ])
      refine wpAnyH_take (i := 9) (v := ?_) rfl (by kernel_rfl) (by kernel_rfl) (by kernel_rfl) (fun _ _ _ h => h) (Or.inl ⟨by rfl, ?_⟩) (by assumption) ?_
      rotate_left
      · intro wS hSw
        (obtain ⟨q, hq, hqk⟩ := hSw; obtain ⟨m0, m1, m2⟩ := lay_box hq; have m3 := lay_first hq (i := k) hk; rw [hqk] at m3)
        go_simp
        all_goals with_reducible rfl
      (try simp only [List.getElem_toArray, List.getElem_cons_zero, List.getElem_cons_succ, Act.put, List.setIfInBounds_toArray, List.set_cons_zero, List.set_cons_succ])
      refine wpAnyH_take (i := 10) (v := ?_) rfl (by kernel_rfl) (by kernel_rfl) (by kernel_rfl) (fun _ _ _ h => h) (Or.inl ⟨by rfl, ?_⟩) (by assumption) ?_
      rotate_left
      · intro wS hSw
        (obtain ⟨q, hq, hqk⟩ := hSw; obtain ⟨m0, m1, m2⟩ := lay_box hq; have m3 := lay_first hq (i := k) hk; rw [hqk] at m3)
        go_simp
        all_goals with_reducible rfl
      (try simp only [List.getElem_toArray, List.getElem_cons_zero, List.getElem_cons_succ, Act.put, List.setIfInBounds_toArray, List.set_cons_zero, List.set_cons_succ])
      refine wpAnyH_take (i := 11) (v := ?_) rfl (by kernel_rfl) (by kernel_rfl) (by kernel_rfl) (fun _ _ _ h => h) (Or.inl ⟨by rfl, ?_⟩) (by assumption) ?_
      rotate_left
      · intro wS hSw
        (obtain ⟨q, hq, hqk⟩ := hSw; obtain ⟨m0, m1, m2⟩ := lay_box hq; have m3 := lay_first hq (i := k) hk; rw [hqk] at m3)
        go_simp
        all_goals with_reducible rfl
      (try simp only [List.getElem_toArray, List.getElem_cons_zero, List.getElem_cons_succ, Act.put, List.setIfInBounds_toArray, List.set_cons_zero, List.set_cons_succ])
      refine wpAnyH_take (i := 12) (v := ?_) rfl (by kernel_rfl) (by kernel_rfl) (by kernel_rfl) (fun _ _ _ h => h) (Or.inl ⟨by rfl, ?_⟩) (by assumption) ?_
      rotate_left
      · intro wS hSw
        (obtain ⟨q, hq, hqk⟩ := hSw; obtain ⟨m0, m1, m2⟩ := lay_box hq; have m3 := lay_first hq (i := k) hk; rw [hqk] at m3)
        go_simp
        all_goals with_reducible rfl
      (try simp only [List.getElem_toArray, List.getElem_cons_zero, List.getElem_cons_succ, Act.put, List.setIfInBounds_toArray, List.set_cons_zero, List.set_cons_succ])
      refine wpAnyH_take (i := 13) (v := ?_) rfl (by kernel_rfl) (by kernel_rfl) (by kernel_rfl) (fun _ _ _ h => h) (Or.inl ⟨by rfl, ?_⟩) (by assumption) ?_
      rotate_left
      · intro wS hSw
        (obtain ⟨q, hq, hqk⟩ := hSw; obtain ⟨m0, m1, m2⟩ := lay_box hq; have m3 := lay_first hq (i := k) hk; rw [hqk] at m3)
        go_simp
        all_goals with_reducible rfl
      (try simp only [List.getElem_toArray, List.getElem_cons_zero, List.getElem_cons_succ, Act.put, List.setIfInBounds_toArray, List.set_cons_zero, List.set_cons_succ])
      refine wpAnyH_take (i := 14) (v := ?_) rfl (by kernel_rfl) (by kernel_rfl) (by kernel_rfl) (fun _ _ _ h => h) (Or.inl ⟨by rfl, ?_⟩) (by assumption) ?_
      rotate_left
      · intro wS hSw
        (obtain ⟨q, hq, hqk⟩ := hSw; obtain ⟨m0, m1, m2⟩ := lay_box hq; have m3 := lay_first hq (i := k) hk; rw [hqk] at m3)
        go_simp
        all_goals with_reducible rfl
      (try simp only [List.getElem_toArray, List.getElem_cons_zero, List.getElem_cons_succ, Act.put, List.setIfInBounds_toArray, List.set_cons_zero, List.set_cons_succ])
      refine held_one (i := 15) (by kernel_rfl) rfl (fun K hK => ?_)
      go_simp
      go_at_call 52
      refine (HSZ.out Y ft' HD0.out.1).mono ?_
      rintro e w1 ⟨rfl, hb1⟩
      have HD1 : Hid (LayAt B w1 b A n cap nd lb fb lg ft' ∧ Below B W w1) := Lib.hid ⟨HD0.out.1.below hb1, HD0.out.2.trans (hb1.mono (Nat.le_trans hB HD0.out.2.size))⟩
      clear hHeld
      have hHeld : ∃ q, LayAt B w1 b A n cap nd lb fb lg q ∧ q k = firstN nd lg k := ⟨ft', HD1.out.1, HF.out k (Nat.le_refl _)⟩
      refine hK.out _ _ hHeld (fun hH2 => ?_)
      clear hK K hH2 hb1 HD0
      (try simp only [Act.put, List.setIfInBounds_toArray, List.set_cons_zero, List.set_cons_succ, List.getElem_toArray, List.getElem_cons_zero, List.getElem_cons_succ])
      refine wpAnyH_take (i := 16) (v := ?_) rfl (by kernel_rfl) (by kernel_rfl) (by kernel_rfl) (fun _ _ _ h => h) (Or.inl ⟨by rfl, ?_⟩) (by assumption) ?_
      rotate_left
      · intro wS hSw
        (obtain ⟨q, hq, hqk⟩ := hSw; obtain ⟨m0, m1, m2⟩ := lay_box hq; have m3 := lay_first hq (i := k) hk; rw [hqk] at m3)
        go_simp
        all_goals with_reducible rfl
      (try simp only [List.getElem_toArray, List.getElem_cons_zero, List.getElem_cons_succ, Act.put, List.setIfInBounds_toArray, List.set_cons_zero, List.set_cons_succ])
      refine wpAnyH_take (i := 17) (v := ?_) rfl (by kernel_rfl) (by kernel_rfl) (by kernel_rfl) (fun _ _ _ h => h) (Or.inl ⟨by rfl, ?_⟩) (by assumption) ?_
      rotate_left
      · intro wS hSw
        (obtain ⟨q, hq, hqk⟩ := hSw; obtain ⟨m0, m1, m2⟩ := lay_box hq; have m3 := lay_first hq (i := k) hk; rw [hqk] at m3)
        go_simp
        all_goals with_reducible rfl
      (try simp only [List.getElem_toArray, List.getElem_cons_zero, List.getElem_cons_succ, Act.put, List.setIfInBounds_toArray, List.set_cons_zero, List.set_cons_succ])
      obtain ⟨F, hFr, f2⟩ := HD1.out.1.first
      have x0 := World.rowIs.cell hFr (i := k + 1) (by omega)
      have z0 := World.rowIs.frozen hFr (k + 1)
      clear hFr f2
      refine held_one (i := 18) (by kernel_rfl) rfl (fun K hK => ?_)
      go_simp
      have hv : IntKind.i64.wrap ((firstN nd lg k : Int) + (sizeN (nd k) (lg k) : Int)) = ((firstN nd lg (k + 1) : Nat) : Int) := by rw [IntWalk.i64_in _ (by omega), firstN]; omega
      rw [hv]
      have HP : Hid (LayAt B (w1.setCell ⟨fb, k + 1, none⟩ (.int .i64 ((firstN nd lg (k + 1) : Nat) : Int))) b A n cap nd lb fb lg (fun j => if j = k + 1 then firstN nd lg (k + 1) else ft' j) ∧ Below B W (w1.setCell ⟨fb, k + 1, none⟩ (.int .i64 ((firstN nd lg (k + 1) : Nat) : Int)))) := Lib.hid ⟨HD1.out.1.place (k + 1) (firstN nd lg (k + 1)), HD1.out.2.setCell (p := ⟨fb, k + 1, none⟩) HD1.out.1.up.2.2.1 _⟩
      refine hK.out _ _ ⟨_, HP.out.1, by simp [HF.out k (Nat.le_refl _)]⟩ (fun _ => ?_)
      clear hK K hHeld HD1 x0 z0
      refine wpAnyH_done (by kernel_rfl) ?_ _
      go_wp2
      exact ⟨⟨k + 1, by omega, by go_num, _, HP.out.1, fun j hj => by
        by_cases e : j = k + 1
        · simp [e]
        · simp only [if_neg e]; exact HF.out j (by omega), HP.out.2⟩, by simp [intOf]; omega⟩
    · go_wp2
      go_end0
      exact ⟨rfl, HR.out.1.firsts (fun i hi => HR.out.2.1 i (by omega)), HR.out.2.2⟩
end Go.Proofs.Ytgpjiflgocgolaa
