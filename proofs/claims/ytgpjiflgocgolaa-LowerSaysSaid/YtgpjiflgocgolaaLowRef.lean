/-
  The document's Check of nodes, its sizes and places: contracts. Conditions: those that each names.
-/
import Derived.Test.YtgpjiflgocgolaaLowPrg
namespace Go.Proofs.Ytgpjiflgocgolaa
open Go Go.RowKit
set_option linter.unusedSimpArgs false
set_option linter.unusedVariables false

set_option maxHeartbeats 4000000 in
set_option maxRecDepth 100000 in
theorem r_Check (w : World) (A : Option Addr) (n cap : Nat) (nd : Nat → Nd) (h : NdAt w A n nd) :
    Calls Try.prog 7 #[.slice A n cap] w fun e w' => e = .returned (.tuple #[.int .i64 (chkN nd n).1, .int .i64 ((chkN nd n).2 : Int)]) ∧ Below w.heap.size w w' := by
  have HN := Lib.hid h
  clear h
  unfold chkN
  by_cases h0 : n = 0
  · subst h0
    go_enter Try.func7, Try.ntmps7
    go_wp2
    go_ret2
    exact ⟨rfl, Below.refl _ _⟩
  have h0' : ¬ (n : Int) < 1 := by omega
  by_cases h1 : 4096 < n
  · have h1' : (4096 : Int) < (n : Int) := by omega
    rw [if_pos (.inr h1)]
    go_enter Try.func7, Try.ntmps7
    go_wp2
    go_ret2
    exact ⟨rfl, Below.refl _ _⟩
  rw [if_neg (by omega)]
  have h2 : ¬ (4096 : Int) < (n : Int) := by omega
  go_enter Try.func7, Try.ntmps7
  go_wp2
  go_loopw [4] (fun i wr => ∃ k : Nat, k ≤ n ∧ i = .int .i64 (k : Int) ∧ (∀ j, j < k → faultN (nd j) j n = 0) ∧ Below w.heap.size w wr) (fun i _ => n - (intOf i).toNat)
  case atStart => exact ⟨0, by omega, rfl, fun j hj => by omega, Below.refl _ _⟩
  case round =>
    obtain ⟨k, hk, rfl, hall, hb⟩ := hrel
    have HB := Lib.hid (And.intro hall hb)
    by_cases hlt : k < n
    · have hlt' : (k : Int) < (n : Int) := by omega
      have hw : IntKind.i64.wrap ((k : Int) + 1) = ((k + 1 : Nat) : Int) := by rw [IntWalk.i64_in _ (by omega)]; omega
      obtain ⟨b, o, rfl, hl, c0, c1, c2, c3, c4, c5, c6, c7⟩ := nd_at (HN.out.below hb) hlt
      clear hall hb
      have HO : Hid (∀ ob, Below w.heap.size w (wr.alloc ob)) := Lib.hid (fun ob => HB.out.2.trans ((lboxL wr ob).mono HB.out.2.size))
      have HF : Hid (faultN (nd k) k n = 0 → ∀ j, j < k + 1 → faultN (nd j) j n = 0) := Lib.hid (fun hz j hj => by
        rcases Nat.lt_or_ge j k with g | g
        · exact HB.out.1 j g
        · rw [show j = k by omega]; exact hz)
      have HE : Hid (faultN (nd k) k n ≠ 0 → findN nd n 0 n = (faultN (nd k) k n, k)) := Lib.hid (find_at nd n hlt HB.out.1)
      generalize nd k = x at c0 c1 c2 c3 c4 c5 c6 c7 HF HE
      obtain ⟨leaf, word, off, mask, op, kk, t, f⟩ := x
      dsimp only at c0 c1 c2 c3 c4 c5 c6 c7
      cases leaf with
      | true =>
        go_wp2
        exact ⟨⟨k + 1, by omega, by go_num, HF.out rfl, HO.out _⟩, by simp [intOf]; omega⟩
      | false =>
        have HD : Hid (faultN ⟨false, word, off, mask, op, kk, t, f⟩ k n = if ¬ (0 ≤ off ∧ off < 64 ∧ off % 4 = 0) ∨ ¬ (1 ≤ op ∧ op ≤ 4) then 84 else if ¬ ((k : Int) < t ∧ t < n) ∨ ¬ ((k : Int) < f ∧ f < n) then 85 else 0) := Lib.hid rfl
        by_cases hbad : off < 0 ∨ 60 < off ∨ off.tmod 4 ≠ 0 ∨ op < 1 ∨ 4 < op
        · have hbad2 : ¬ (0 ≤ off ∧ off < 64 ∧ off % 4 = 0) ∨ ¬ (1 ≤ op ∧ op ≤ 4) := by
            rcases hbad with g | g | g | g | g
            · exact .inl (by omega)
            · exact .inl (by omega)
            · by_cases hp : 0 ≤ off
              · rw [Int.tmod_eq_emod_of_nonneg hp] at g; exact .inl (by omega)
              · exact .inl (by omega)
            · exact .inr (by omega)
            · exact .inr (by omega)
          have HE2 : Hid (findN nd n 0 n = (84, k)) := Lib.hid (by
            have hf : faultN ⟨false, word, off, mask, op, kk, t, f⟩ k n = 84 := by rw [HD.out, if_pos hbad2]
            rw [← hf]; exact HE.out (by rw [hf]; decide))
          clear hbad2 HD HE HF
          by_cases g1 : off < 0
          · clear hbad
            go_wp2
            go_ret2
            exact ⟨by rw [HE2.out] <;> rfl, HO.out _⟩
          by_cases g2 : 60 < off
          · clear hbad
            go_wp2
            go_ret2
            exact ⟨by rw [HE2.out] <;> rfl, HO.out _⟩
          by_cases g3 : off.tmod 4 = 0
          · have g3b : off % 4 = 0 := by rw [← Int.tmod_eq_emod_of_nonneg (by omega)]; exact g3
            have hbad3 : op < 1 ∨ 4 < op := by
              rcases hbad with g | g | g | g | g
              · exact absurd g g1
              · exact absurd g g2
              · exact absurd g3 g
              · exact .inl g
              · exact .inr g
            clear g3 hbad
            by_cases g4 : op < 1
            · clear hbad3
              go_wp2
              go_ret2
              exact ⟨by rw [HE2.out] <;> rfl, HO.out _⟩
            · have g5 : 4 < op := by omega
              clear hbad3
              go_wp2
              go_ret2
              exact ⟨by rw [HE2.out] <;> rfl, HO.out _⟩
          · have g3b : ¬ off % 4 = 0 := by rw [← Int.tmod_eq_emod_of_nonneg (by omega)]; exact g3
            clear g3 hbad
            go_wp2
            go_ret2
            exact ⟨by rw [HE2.out] <;> rfl, HO.out _⟩
        · have g1 : ¬ off < 0 := fun g => hbad (.inl g)
          have g2 : ¬ 60 < off := fun g => hbad (.inr (.inl g))
          have g3 : off.tmod 4 = 0 := Decidable.byContradiction fun g => hbad (.inr (.inr (.inl g)))
          have g3b : off % 4 = 0 := by rw [← Int.tmod_eq_emod_of_nonneg (by omega)]; exact g3
          have g4 : ¬ op < 1 := fun g => hbad (.inr (.inr (.inr (.inl g))))
          have g5 : ¬ 4 < op := fun g => hbad (.inr (.inr (.inr (.inr g))))
          have HG : Hid (¬ (¬ (0 ≤ off ∧ off < 64 ∧ off % 4 = 0) ∨ ¬ (1 ≤ op ∧ op ≤ 4))) := Lib.hid (fun hh => by
            rw [Int.tmod_eq_emod_of_nonneg (by omega)] at g3
            rcases hh with g | g <;> omega)
          clear hbad g3
          by_cases hbad : t ≤ (k : Int) ∨ f ≤ (k : Int) ∨ (n : Int) ≤ t ∨ (n : Int) ≤ f
          · have HE2 : Hid (findN nd n 0 n = (85, k)) := Lib.hid (by
              have hf : faultN ⟨false, word, off, mask, op, kk, t, f⟩ k n = 85 := by rw [HD.out, if_neg HG.out, if_pos (by omega)]
              rw [← hf]; exact HE.out (by rw [hf]; decide))
            clear HD HE HF HG
            by_cases q1 : t ≤ (k : Int)
            · clear hbad
              go_wp2
              go_ret2
              exact ⟨by rw [HE2.out] <;> rfl, HO.out _⟩
            by_cases q2 : f ≤ (k : Int)
            · clear hbad
              go_wp2
              go_ret2
              exact ⟨by rw [HE2.out] <;> rfl, HO.out _⟩
            by_cases q3 : (n : Int) ≤ t
            · clear hbad
              go_wp2
              go_ret2
              exact ⟨by rw [HE2.out] <;> rfl, HO.out _⟩
            · have q4 : (n : Int) ≤ f := by omega
              clear hbad
              go_wp2
              go_ret2
              exact ⟨by rw [HE2.out] <;> rfl, HO.out _⟩
          · have q1 : ¬ t ≤ (k : Int) := by omega
            have q2 : ¬ f ≤ (k : Int) := by omega
            have q3 : ¬ (n : Int) ≤ t := by omega
            have q4 : ¬ (n : Int) ≤ f := by omega
            have hz : faultN ⟨false, word, off, mask, op, kk, t, f⟩ k n = 0 := by rw [HD.out, if_neg HG.out, if_neg (by omega)]
            have HZ := Lib.hid (HF.out hz)
            clear hbad hz HD HE HF HG
            go_wp2
            exact ⟨⟨k + 1, by omega, by go_num, HZ.out, HO.out _⟩, by simp [intOf]; omega⟩
    · clear hall hb
      go_wp2
      go_ret2
      exact ⟨by rw [find_all nd n (fun j hj => HB.out.1 j (by omega))]; rfl, HB.out.2⟩
end Go.Proofs.Ytgpjiflgocgolaa
