/-
  'CheckOnes': for every program, places and codes, the law of layer 4 on One and Seals returns true, and leaves memory as it was. No condition.
-/
import Derived.Test.YtnhfipedhbeajaaCheckHead
import Derived.Test.YtnhfipedhbeajaaRowsSized
namespace Go.Proofs.Ytnhfipedhbeajaa.checkOnes
open Go Go.ChangeShapes Go.WideShapes Go.ChangeAt Go.RowKit
set_option linter.unusedSimpArgs false
set_option linter.unusedVariables false

/-- What One tells of any place. -/
def onesE (q : Nat → Ins) (n : Nat) (p : Int) : Int := if p < 0 ∨ (n : Int) ≤ p then 41 else oneE q n p.toNat
theorem look_is (w : World) (A : Option Addr) (n cap : Nat) (q : Nat → Ins) (h : ProgAt w A n q) (hn : n * 8 ≤ 140737488351232) (hok : ∀ i, i < n → (q i).OK) (p : Int) : Calls Try.prog 14 #[.slice A n cap, .int .i64 p] w (LookP w (onesE q n p)) := by
  by_cases h0 : p < 0
  · rw [onesE, if_pos (.inl h0)]; exact check_One_low w A n cap p h0
  by_cases h1 : (n : Int) ≤ p
  · rw [onesE, if_pos (.inr h1)]; exact check_One_high w A n cap p (by omega) h1
  rw [onesE, if_neg (by omega)]
  have := check_One w A n cap q p.toNat h (by omega) (by omega) (hok _ (by omega))
  rwa [show ((p.toNat : Nat) : Int) = p by omega] at this
theorem rlook_is (w : World) (A : Option Addr) (n cap : Nat) (q : Nat → Ins) (h : ProgAt w A n q) (hn : n * 8 ≤ 140737488351232) (hok : ∀ i, i < n → (q i).OK) (p : Int) : Calls Try.prog 15 #[.slice A n cap, .int .i64 p] w (LookP w (onesE q n p)) := by
  by_cases h0 : p < 0
  · rw [onesE, if_pos (.inl h0)]; exact ref_One_low w A n cap p h0
  by_cases h1 : (n : Int) ≤ p
  · rw [onesE, if_pos (.inr h1)]; exact ref_One_high w A n cap p (by omega) h1
  rw [onesE, if_neg (by omega)]
  have := ref_One w A n cap p.toNat q h (by omega) (by omega) (hok _ (by omega))
  rwa [show ((p.toNat : Nat) : Int) = p by omega] at this
theorem isRow_u16 {w : World} {a : Option Addr} {len cap : Nat} {zs : List Int} (h : IsRow .u16 w a len cap zs) (i : Nat) : 0 ≤ zs.getD i 0 ∧ zs.getD i 0 < 65536 := by
  rcases h with ⟨_, _, _, rfl⟩ | ⟨x, rfl, hl, _, hz, hcell, hw⟩
  · simp
  · rcases Nat.lt_or_ge i zs.length with g | g
    · have := hw (zs.getD i 0) (by rw [List.getD_eq_getElem?_getD, List.getElem?_eq_getElem g]; exact List.getElem_mem g)
      have hb : 0 ≤ zs.getD i 0 ∧ zs.getD i 0 ≤ 65535 := by simpa [Lit.wf, IntKind.min, IntKind.max, IntKind.bits, IntKind.signed] using this
      omega
    · rw [List.getD_eq_getElem?_getD, List.getElem?_eq_none g]; simp
theorem isRow_max {k : IntKind} {w : World} {a : Option Addr} {len cap : Nat} {zs : List Int} (h : IsRow k w a len cap zs) : len ≤ maxLen := by
  rcases h with ⟨_, rfl, _, _⟩ | ⟨x, rfl, hl, hm, _⟩
  · exact Nat.zero_le _
  · exact Nat.le_trans hl hm

/-- What stands while the law goes on. -/
abbrev St (w W : World) (a0 : Option Addr) (n : Nat) (q : Nat → Ins) (a1 : Option Addr) (len1 : Nat) (z1 : List Int) (a2 : Option Addr) (len2 : Nat) (z2 : List Int) : Prop :=
  ProgAt W a0 n q ∧ Holds W a1 len1 (fun i => .int .i64 (z1.getD i 0)) ∧ Holds W a2 len2 (fun i => .int .u16 (z2.getD i 0)) ∧ Below w.heap.size w W
theorem st_below {w W W' : World} {a0 : Option Addr} {n : Nat} {q : Nat → Ins} {a1 : Option Addr} {len1 : Nat} {z1 : List Int} {a2 : Option Addr} {len2 : Nat} {z2 : List Int} (h : St w W a0 n q a1 len1 z1 a2 len2 z2) (hb : Below W.heap.size W W') : St w W' a0 n q a1 len1 z1 a2 len2 z2 :=
  ⟨h.1.below hb, h.2.1.below hb, h.2.2.1.below hb, h.2.2.2.trans (hb.mono h.2.2.2.size)⟩
set_option maxHeartbeats 1000000 in
theorem walk (a0 : Option Addr) (len0 cap0 : Nat) (a1 : Option Addr) (len1 cap1 : Nat) (z1 : List Int) (a2 : Option Addr) (len2 cap2 : Nat) (z2 : List Int) (w : World) (w0 : RowsOf [.u16, .u8, .u8, .u32] w a0 len0) (s0 : len0 * 8 ≤ 140737488351232) (w1 : IsRow .i64 w a1 len1 cap1 z1 ∧ cap1 * 8 ≤ 140737488351232) (w2 : IsRow .u16 w a2 len2 cap2 z2 ∧ cap2 * 2 ≤ 140737488351232) :
    Calls Try.prog 4 #[.slice a0 len0 cap0, .slice a1 len1 cap1, .slice a2 len2 cap2] w fun e w' => e = .returned (.bool true) ∧ Below w.heap.size w w' := by
  obtain ⟨q, hp, ho⟩ := prog_of_rows w0
  have hm1 := isRow_max w1.1
  have hm2 := isRow_max w2.1
  unfold maxLen at hm1 hm2
  have HS := Lib.hid (show St w w a0 len0 q a1 len1 z1 a2 len2 z2 from ⟨hp, holds_of_isRow w1.1, holds_of_isRow w2.1, Below.refl _ _⟩)
  have HU := Lib.hid (isRow_u16 w2.1)
  have HO := Lib.hid ho
  clear hp ho w0 w1 w2
  go_enter Try.func4, Try.ntmps4
  go_wp2_with (go_at_call 9; (with_reducible refine (head4_is _).mono ?_); rintro e wa ⟨rfl, hb⟩; have HS1 := Lib.hid (st_below HS.out hb); clear hb HS)
  go_loopw [8] (fun v wr => ∃ k : Nat, k ≤ len1 ∧ v = .int .i64 (k : Int) ∧ St w wr a0 len0 q a1 len1 z1 a2 len2 z2) (fun v _ => len1 - (intOf v).toNat)
  case atStart => exact ⟨0, by omega, rfl, HS1.out⟩
  case round =>
    obtain ⟨k, hk, rfl, hF⟩ := hrel
    clear HS1
    have HF := Lib.hid hF
    clear hF
    by_cases hlt : k < len1
    · have hlt' : (k : Int) < (len1 : Int) := by omega
      obtain ⟨pb, po, rfl, hpl, hpc⟩ := HF.out.2.1 (by omega)
      have hk1 := hpc k hlt
      clear hpc
      simp only at hk1
      have hw : IntKind.i64.wrap ((k : Int) + 1) = ((k + 1 : Nat) : Int) := by rw [IntWalk.i64_in _ (by omega)]; omega
      go_wp2
      refine wp_region_held_drew (S := fun w' => ProgAt w' a0 len0 q ∧ w'.cell? ⟨pb, po + k, none⟩ = some (.int .i64 (z1.getD k 0))) (by kernel_rfl) ⟨HF.out.1, hk1⟩ (fun hHeld => ?_)
      have HF1 := Lib.hid (show St w wr.drew a0 len0 q (some ⟨pb, po, none⟩) len1 z1 a2 len2 z2 from st_below HF.out (below_drawn (Below.refl _ _) 1))
      clear hk1 HF
      generalize wr.drew = Y at hHeld HF1 ⊢
      generalize z1.getD k 0 = p at hHeld ⊢
      refine wpAnyH_take (i := 0) (v := ?_) rfl (by kernel_rfl) (by kernel_rfl) (by kernel_rfl) (fun _ _ _ h => h) (Or.inl ⟨by rfl, ?_⟩) (by assumption) ?_
      rotate_left
      · intro wS hSw
        (obtain ⟨i0, i1⟩ := hSw)
        go_simp
        all_goals with_reducible rfl
      (try simp only [List.getElem_toArray, List.getElem_cons_zero, List.getElem_cons_succ, Act.put, List.setIfInBounds_toArray, List.set_cons_zero, List.set_cons_succ])
      refine wpAnyH_take (i := 1) (v := ?_) rfl (by kernel_rfl) (by kernel_rfl) (by kernel_rfl) (fun _ _ _ h => h) (Or.inl ⟨by rfl, ?_⟩) (by assumption) ?_
      rotate_left
      · intro wS hSw
        (obtain ⟨i0, i1⟩ := hSw)
        go_simp
        all_goals with_reducible rfl
      (try simp only [List.getElem_toArray, List.getElem_cons_zero, List.getElem_cons_succ, Act.put, List.setIfInBounds_toArray, List.set_cons_zero, List.set_cons_succ])
      refine wpAnyH_take (i := 2) (v := ?_) rfl (by kernel_rfl) (by kernel_rfl) (by kernel_rfl) (fun _ _ _ h => h) (Or.inl ⟨by rfl, ?_⟩) (by assumption) ?_
      rotate_left
      · intro wS hSw
        (obtain ⟨i0, i1⟩ := hSw)
        go_simp
        all_goals with_reducible rfl
      (try simp only [List.getElem_toArray, List.getElem_cons_zero, List.getElem_cons_succ, Act.put, List.setIfInBounds_toArray, List.set_cons_zero, List.set_cons_succ])
      refine wpAnyH_take (i := 3) (v := ?_) rfl (by kernel_rfl) (by kernel_rfl) (by kernel_rfl) (fun _ _ _ h => h) (Or.inl ⟨by rfl, ?_⟩) (by assumption) ?_
      rotate_left
      · intro wS hSw
        (obtain ⟨i0, i1⟩ := hSw)
        go_simp
        all_goals with_reducible rfl
      (try simp only [List.getElem_toArray, List.getElem_cons_zero, List.getElem_cons_succ, Act.put, List.setIfInBounds_toArray, List.set_cons_zero, List.set_cons_succ])
      refine wpAnyH_take (i := 4) (v := ?_) rfl (by kernel_rfl) (by kernel_rfl) (by kernel_rfl) (fun _ _ _ h => h) (Or.inl ⟨by rfl, ?_⟩) (by assumption) ?_
      rotate_left
      · intro wS hSw
        (obtain ⟨i0, i1⟩ := hSw)
        go_simp
        all_goals with_reducible rfl
      (try simp only [List.getElem_toArray, List.getElem_cons_zero, List.getElem_cons_succ, Act.put, List.setIfInBounds_toArray, List.set_cons_zero, List.set_cons_succ])
      refine wpAnyH_take (i := 6) (v := ?_) rfl (by kernel_rfl) (by kernel_rfl) (by kernel_rfl) (fun _ _ _ h => h) (Or.inl ⟨by rfl, ?_⟩) (by assumption) ?_
      rotate_left
      · intro wS hSw
        (obtain ⟨i0, i1⟩ := hSw)
        go_simp
        all_goals with_reducible rfl
      (try simp only [List.getElem_toArray, List.getElem_cons_zero, List.getElem_cons_succ, Act.put, List.setIfInBounds_toArray, List.set_cons_zero, List.set_cons_succ])
      refine wpAnyH_take (i := 7) (v := ?_) rfl (by kernel_rfl) (by kernel_rfl) (by kernel_rfl) (fun _ _ _ h => h) (Or.inl ⟨by rfl, ?_⟩) (by assumption) ?_
      rotate_left
      · intro wS hSw
        (obtain ⟨i0, i1⟩ := hSw)
        go_simp
        all_goals with_reducible rfl
      (try simp only [List.getElem_toArray, List.getElem_cons_zero, List.getElem_cons_succ, Act.put, List.setIfInBounds_toArray, List.set_cons_zero, List.set_cons_succ])
      refine wpAnyH_take (i := 8) (v := ?_) rfl (by kernel_rfl) (by kernel_rfl) (by kernel_rfl) (fun _ _ _ h => h) (Or.inl ⟨by rfl, ?_⟩) (by assumption) ?_
      rotate_left
      · intro wS hSw
        (obtain ⟨i0, i1⟩ := hSw)
        go_simp
        all_goals with_reducible rfl
      (try simp only [List.getElem_toArray, List.getElem_cons_zero, List.getElem_cons_succ, Act.put, List.setIfInBounds_toArray, List.set_cons_zero, List.set_cons_succ])
      refine wpAnyH_take (i := 9) (v := ?_) rfl (by kernel_rfl) (by kernel_rfl) (by kernel_rfl) (fun _ _ _ h => h) (Or.inl ⟨by rfl, ?_⟩) (by assumption) ?_
      rotate_left
      · intro wS hSw
        (obtain ⟨i0, i1⟩ := hSw)
        go_simp
        all_goals with_reducible rfl
      (try simp only [List.getElem_toArray, List.getElem_cons_zero, List.getElem_cons_succ, Act.put, List.setIfInBounds_toArray, List.set_cons_zero, List.set_cons_succ])
      refine wpAnyH_take (i := 10) (v := ?_) rfl (by kernel_rfl) (by kernel_rfl) (by kernel_rfl) (fun _ _ _ h => h) (Or.inl ⟨by rfl, ?_⟩) (by assumption) ?_
      rotate_left
      · intro wS hSw
        (obtain ⟨i0, i1⟩ := hSw)
        go_simp
        all_goals with_reducible rfl
      (try simp only [List.getElem_toArray, List.getElem_cons_zero, List.getElem_cons_succ, Act.put, List.setIfInBounds_toArray, List.set_cons_zero, List.set_cons_succ])
      refine held_one (i := 5) (by kernel_rfl) rfl (fun K hK => ?_)
      go_simp
      refine (look_is _ a0 len0 cap0 q hHeld.1 s0 HO.out p).mono ?_
      rintro e w1 ⟨rfl, hb⟩
      have HF2 := Lib.hid (st_below HF1.out hb)
      refine hK.out _ _ ⟨hHeld.1.below hb, (hb.cell (p := ⟨pb, po + k, none⟩) (cell_lt hHeld.2)).trans hHeld.2⟩ (fun hH2 => ?_)
      clear hK K hHeld hb HF1
      refine held_one (i := 11) (by kernel_rfl) rfl (fun K hK => ?_)
      go_simp
      refine (rlook_is _ a0 len0 cap0 q hH2.1 s0 HO.out p).mono ?_
      rintro e w2 ⟨rfl, hb⟩
      have HF3 := Lib.hid (st_below HF2.out hb)
      refine hK.out _ _ ⟨hH2.1.below hb, (hb.cell (p := ⟨pb, po + k, none⟩) (cell_lt hH2.2)).trans hH2.2⟩ (fun _ => ?_)
      clear hK K hH2 hb HF2
      refine wpAnyH_take (i := 12) (v := ?_) rfl (by kernel_rfl) (by kernel_rfl) (by kernel_rfl) (fun _ _ _ h => h) (Or.inl ⟨by rfl, ?_⟩) (by assumption) ?_
      rotate_left
      · intro wS hSw
        skip
        go_simp
        all_goals with_reducible rfl
      (try simp only [List.getElem_toArray, List.getElem_cons_zero, List.getElem_cons_succ, Act.put, List.setIfInBounds_toArray, List.set_cons_zero, List.set_cons_succ])
      refine wpAnyH_done (by kernel_rfl) ?_ _
      go_wp2
      exact ⟨⟨k + 1, by omega, by go_num, HF3.out⟩, by simp [intOf]; omega⟩
    · go_wp2
      go_loopw [9] (fun v wr => ∃ k : Nat, k ≤ len2 ∧ v = .int .i64 (k : Int) ∧ St w wr a0 len0 q a1 len1 z1 a2 len2 z2) (fun v _ => len2 - (intOf v).toNat)
      case atStart => exact ⟨0, by omega, rfl, HF.out⟩
      case round =>
        obtain ⟨j, hj, rfl, hG⟩ := hrel
        clear HF
        have HG := Lib.hid hG
        clear hG
        by_cases hlt2 : j < len2
        · have hlt2' : (j : Int) < (len2 : Int) := by omega
          obtain ⟨pb, po, rfl, hpl, hpc⟩ := HG.out.2.2.1 (by omega)
          have hk1 := hpc j hlt2
          have hu := HU.out j
          clear hpc
          simp only at hk1
          have hw : IntKind.i64.wrap ((j : Int) + 1) = ((j + 1 : Nat) : Int) := by rw [IntWalk.i64_in _ (by omega)]; omega
          go_wp2
          refine wp_region_held_drew (S := fun w' => w'.cell? ⟨pb, po + j, none⟩ = some (.int .u16 (z2.getD j 0))) (by kernel_rfl) hk1 (fun hHeld => ?_)
          have HG1 := Lib.hid (show St w wr.drew a0 len0 q a1 len1 z1 (some ⟨pb, po, none⟩) len2 z2 from st_below HG.out (below_drawn (Below.refl _ _) 1))
          clear hk1 HG
          generalize wr.drew = Y at hHeld HG1 ⊢
          generalize z2.getD j 0 = c at hHeld hu ⊢
          refine wpAnyH_take (i := 0) (v := ?_) rfl (by kernel_rfl) (by kernel_rfl) (by kernel_rfl) (fun _ _ _ h => h) (Or.inl ⟨by rfl, ?_⟩) (by assumption) ?_
          rotate_left
          · intro wS hSw
            (have i1 := hSw)
            go_simp
            all_goals with_reducible rfl
          (try simp only [List.getElem_toArray, List.getElem_cons_zero, List.getElem_cons_succ, Act.put, List.setIfInBounds_toArray, List.set_cons_zero, List.set_cons_succ])
          refine wpAnyH_take (i := 1) (v := ?_) rfl (by kernel_rfl) (by kernel_rfl) (by kernel_rfl) (fun _ _ _ h => h) (Or.inl ⟨by rfl, ?_⟩) (by assumption) ?_
          rotate_left
          · intro wS hSw
            (have i1 := hSw)
            go_simp
            all_goals with_reducible rfl
          (try simp only [List.getElem_toArray, List.getElem_cons_zero, List.getElem_cons_succ, Act.put, List.setIfInBounds_toArray, List.set_cons_zero, List.set_cons_succ])
          refine wpAnyH_take (i := 2) (v := ?_) rfl (by kernel_rfl) (by kernel_rfl) (by kernel_rfl) (fun _ _ _ h => h) (Or.inl ⟨by rfl, ?_⟩) (by assumption) ?_
          rotate_left
          · intro wS hSw
            (have i1 := hSw)
            go_simp
            all_goals with_reducible rfl
          (try simp only [List.getElem_toArray, List.getElem_cons_zero, List.getElem_cons_succ, Act.put, List.setIfInBounds_toArray, List.set_cons_zero, List.set_cons_succ])
          refine wpAnyH_take (i := 3) (v := ?_) rfl (by kernel_rfl) (by kernel_rfl) (by kernel_rfl) (fun _ _ _ h => h) (Or.inl ⟨by rfl, ?_⟩) (by assumption) ?_
          rotate_left
          · intro wS hSw
            (have i1 := hSw)
            go_simp
            all_goals with_reducible rfl
          (try simp only [List.getElem_toArray, List.getElem_cons_zero, List.getElem_cons_succ, Act.put, List.setIfInBounds_toArray, List.set_cons_zero, List.set_cons_succ])
          refine wpAnyH_take (i := 5) (v := ?_) rfl (by kernel_rfl) (by kernel_rfl) (by kernel_rfl) (fun _ _ _ h => h) (Or.inl ⟨by rfl, ?_⟩) (by assumption) ?_
          rotate_left
          · intro wS hSw
            (have i1 := hSw)
            go_simp
            all_goals with_reducible rfl
          (try simp only [List.getElem_toArray, List.getElem_cons_zero, List.getElem_cons_succ, Act.put, List.setIfInBounds_toArray, List.set_cons_zero, List.set_cons_succ])
          refine wpAnyH_take (i := 6) (v := ?_) rfl (by kernel_rfl) (by kernel_rfl) (by kernel_rfl) (fun _ _ _ h => h) (Or.inl ⟨by rfl, ?_⟩) (by assumption) ?_
          rotate_left
          · intro wS hSw
            (have i1 := hSw)
            go_simp
            all_goals with_reducible rfl
          (try simp only [List.getElem_toArray, List.getElem_cons_zero, List.getElem_cons_succ, Act.put, List.setIfInBounds_toArray, List.set_cons_zero, List.set_cons_succ])
          refine wpAnyH_take (i := 7) (v := ?_) rfl (by kernel_rfl) (by kernel_rfl) (by kernel_rfl) (fun _ _ _ h => h) (Or.inl ⟨by rfl, ?_⟩) (by assumption) ?_
          rotate_left
          · intro wS hSw
            (have i1 := hSw)
            go_simp
            all_goals with_reducible rfl
          (try simp only [List.getElem_toArray, List.getElem_cons_zero, List.getElem_cons_succ, Act.put, List.setIfInBounds_toArray, List.set_cons_zero, List.set_cons_succ])
          refine wpAnyH_take (i := 8) (v := ?_) rfl (by kernel_rfl) (by kernel_rfl) (by kernel_rfl) (fun _ _ _ h => h) (Or.inl ⟨by rfl, ?_⟩) (by assumption) ?_
          rotate_left
          · intro wS hSw
            (have i1 := hSw)
            go_simp
            all_goals with_reducible rfl
          (try simp only [List.getElem_toArray, List.getElem_cons_zero, List.getElem_cons_succ, Act.put, List.setIfInBounds_toArray, List.set_cons_zero, List.set_cons_succ])
          refine held_one (i := 4) (by kernel_rfl) rfl (fun K hK => ?_)
          go_simp
          refine (check_Seals c hu _).mono ?_
          rintro e w1 ⟨rfl, rfl⟩
          refine hK.out _ _ hHeld (fun hH2 => ?_)
          clear hK K hHeld
          refine held_one (i := 9) (by kernel_rfl) rfl (fun K hK => ?_)
          go_simp
          refine (ref_Seals c _).mono ?_
          rintro e w1 ⟨rfl, rfl⟩
          refine hK.out _ _ hH2 (fun _ => ?_)
          clear hK K hH2
          refine wpAnyH_take (i := 10) (v := ?_) rfl (by kernel_rfl) (by kernel_rfl) (by kernel_rfl) (fun _ _ _ h => h) (Or.inl ⟨by rfl, ?_⟩) (by assumption) ?_
          rotate_left
          · intro wS hSw
            skip
            go_simp
            all_goals with_reducible rfl
          (try simp only [List.getElem_toArray, List.getElem_cons_zero, List.getElem_cons_succ, Act.put, List.setIfInBounds_toArray, List.set_cons_zero, List.set_cons_succ])
          refine wpAnyH_done (by kernel_rfl) ?_ _
          go_wp2
          exact ⟨⟨j + 1, by omega, by go_num, HG1.out⟩, by simp [intOf]; omega⟩
        · go_wp2
          go_ret
          exact ⟨rfl, HG.out.2.2.2⟩

/-! ### The row's step and the statement -/
set_option maxRecDepth 100000 in
theorem lifted (os : Os) (started : os.Started) (H : Type) (enc : TypeId × Value → H) :
    ReturnsInHanded {} Try.checked os 4 .any (Rows.checkOnesSpec.pre6 enc Try.prog Try.f4 Rows.checkOnesRow.domain false) (Rows.checkOnesSpec.post enc Try.prog Try.f4 false true false false) := by
  refine returnsInHanded_of_change_sized (C := Try.checked) own started (by kernel_rfl) Try.func4
    (ChangeSpec.witness6 (enc := enc) (C := Try.checked) false ⟨#[], #[.slice none 0 0, .slice none 0 0, .slice none 0 0], []⟩ 8 (by kernel_rfl) (by kernel_rfl) (by kernel_rfl) (by kernel_rfl)) ?_
  intro W base args ds gs before hval0 hW hcnd hsz0 _
  have hsz : (DataW.weightsEach Try.prog (Try.f4.params.toList ++ Rows.checkOnesSpec.plain.varTypes Try.prog) (ds ++ gs)).all (· ≤ reachBytes) = true := hsz0
  clear hsz0
  have hval : ∀ (j : Nat) t v, Try.f4.params[j]? = some t → args[j]? = some v → Value.okWide Try.prog W .any base t v := hval0
  have hW' := hW
  obtain ⟨p, q, hA0, hV, rfl, hfz, hnd⟩ := hW
  have hA : DataW.TrodAll enc Try.prog W 0 (fun _ => true) true Try.f4.params.toList args.toList ds p := hA0
  rw [Try.params4] at hA hval hsz
  obtain ⟨v0, vs0, d0, ds0, p0, q0, hargs, rfl, rfl, h0, r0⟩ := trodAll_cons hA
  obtain ⟨v1, vs1, d1, ds1, p1, q1, rfl, rfl, rfl, h1, r1⟩ := trodAll_cons r0
  obtain ⟨v2, vs2, d2, ds2, p2, q2, rfl, rfl, rfl, h2, r2⟩ := trodAll_cons r1
  obtain ⟨rfl, rfl, rfl⟩ := trodAll_nil r2
  obtain rfl : args = #[v0, v1, v2] := by cases args; simp_all
  obtain ⟨rfl, rfl⟩ := trodVars_none hV
  obtain ⟨a0, len0, cap0, rfl⟩ := okWide_slice Try.underlying22 (hval 0 22 v0 rfl rfl)
  have k0 := h0
  have lt0 : ∀ x ∈ p0, x.block < W.heap.size := by obtain ⟨m, hm⟩ := k0; exact DataW.trod_lt m _ _ _ hm
  have w0 : RowsOf [.u16, .u8, .u8, .u32] W a0 len0 := by
    obtain ⟨fuel, hf⟩ := h0
    rcases rows_fields Try.underlying22 Try.underlying38 (by kernel_rfl) (by kernel_rfl) hf with hcs | ⟨x, l, c, hcs, hl, hm, hi⟩
    · simp [Value.cells] at hcs
      obtain ⟨rfl, rfl, rfl⟩ := hcs
      exact .inl ⟨rfl, rfl⟩
    · simp [Value.cells] at hcs
      obtain ⟨rfl, rfl, rfl⟩ := hcs
      refine .inr ⟨_, rfl, Nat.le_trans hl hm, fun i hil j K hK => ?_⟩
      match j, hK with
      | 0, hK =>
        obtain ⟨v, y, n, hc, ht⟩ := hi i hil 0 _ rfl
        obtain ⟨z, e, _, wz⟩ := DataW.trod_int Try.underlying34 ht
        simp only [List.cons.injEq, and_true] at e; subst e
        obtain rfl := Option.some.inj hK
        exact ⟨z, hc, wz⟩
      | 1, hK =>
        obtain ⟨v, y, n, hc, ht⟩ := hi i hil 1 _ rfl
        obtain ⟨z, e, _, wz⟩ := DataW.trod_int Try.underlying5 ht
        simp only [List.cons.injEq, and_true] at e; subst e
        obtain rfl := Option.some.inj hK
        exact ⟨z, hc, wz⟩
      | 2, hK =>
        obtain ⟨v, y, n, hc, ht⟩ := hi i hil 2 _ rfl
        obtain ⟨z, e, _, wz⟩ := DataW.trod_int Try.underlying5 ht
        simp only [List.cons.injEq, and_true] at e; subst e
        obtain rfl := Option.some.inj hK
        exact ⟨z, hc, wz⟩
      | 3, hK =>
        obtain ⟨v, y, n, hc, ht⟩ := hi i hil 3 _ rfl
        obtain ⟨z, e, _, wz⟩ := DataW.trod_int Try.underlying36 ht
        simp only [List.cons.injEq, and_true] at e; subst e
        obtain rfl := Option.some.inj hK
        exact ⟨z, hc, wz⟩
      | _ + 4, hK => exact absurd hK (by simp)
  have s0 : len0 * 8 ≤ 140737488351232 := by
    obtain ⟨fuel, hf⟩ := h0
    rcases rows_sized Try.underlying22 hf with hcs | ⟨x, l, c, elems, rest, hcs, hd, hle⟩
    · simp [Value.cells] at hcs
      obtain ⟨rfl, rfl, rfl⟩ := hcs
      omega
    · simp [Value.cells] at hcs
      obtain ⟨rfl, rfl, rfl⟩ := hcs
      have hr := sized_slice hsz (j := 0) (t := 22) (e := 38) rfl (congrArg some hd) Try.underlying22
      rw [show Try.prog.bytesOf 38 = 8 by kernel_rfl] at hr
      simp only [reachBytes] at hr
      have := Nat.mul_le_mul_right 8 hle
      omega
  obtain ⟨a1, len1, cap1, rfl⟩ := okWide_slice Try.underlying30 (hval 1 30 v1 rfl rfl)
  have k1 := h1
  have lt1 : ∀ x ∈ p1, x.block < W.heap.size := by obtain ⟨m, hm⟩ := k1; exact DataW.trod_lt m _ _ _ hm
  obtain ⟨z1, w1⟩ : ∃ zs, IsRow .i64 W a1 len1 cap1 zs ∧ cap1 * 8 ≤ 140737488351232 := by
    obtain ⟨fuel, hf⟩ := h1
    rcases open_ints Try.underlying30 Try.underlying3 (by kernel_rfl) hf with ⟨hcs, _⟩ | ⟨x, l, c, zs, hcs, _, hl, hm, hz, hx, hcell, hwz⟩
    · simp [Value.cells] at hcs
      obtain ⟨rfl, rfl, rfl⟩ := hcs
      exact ⟨[], ⟨.inl ⟨rfl, rfl, rfl, rfl⟩, by omega⟩⟩
    · simp [Value.cells] at hcs
      obtain ⟨rfl, rfl, rfl⟩ := hcs
      have hd : d1 = _ := congrArg Prod.fst hx
      have hr := sized_slice hsz (j := 1) (t := 30) (e := 3) rfl (congrArg some hd) Try.underlying30
      rw [show Try.prog.bytesOf 3 = 8 by kernel_rfl] at hr
      simp only [lits, List.length_map, List.length_take, List.length_drop, reachBytes] at hr
      have hzl : zs.length = _ := hz
      simp only [if_true] at hzl
      exact ⟨zs, ⟨.inr ⟨_, rfl, hl, hm, by simpa using hz, hcell, hwz⟩, by omega⟩⟩
  obtain ⟨a2, len2, cap2, rfl⟩ := okWide_slice Try.underlying31 (hval 2 31 v2 rfl rfl)
  have k2 := h2
  have lt2 : ∀ x ∈ p2, x.block < W.heap.size := by obtain ⟨m, hm⟩ := k2; exact DataW.trod_lt m _ _ _ hm
  obtain ⟨z2, w2⟩ : ∃ zs, IsRow .u16 W a2 len2 cap2 zs ∧ cap2 * 2 ≤ 140737488351232 := by
    obtain ⟨fuel, hf⟩ := h2
    rcases open_ints Try.underlying31 Try.underlying34 (by kernel_rfl) hf with ⟨hcs, _⟩ | ⟨x, l, c, zs, hcs, _, hl, hm, hz, hx, hcell, hwz⟩
    · simp [Value.cells] at hcs
      obtain ⟨rfl, rfl, rfl⟩ := hcs
      exact ⟨[], ⟨.inl ⟨rfl, rfl, rfl, rfl⟩, by omega⟩⟩
    · simp [Value.cells] at hcs
      obtain ⟨rfl, rfl, rfl⟩ := hcs
      have hd : d2 = _ := congrArg Prod.fst hx
      have hr := sized_slice hsz (j := 2) (t := 31) (e := 34) rfl (congrArg some hd) Try.underlying31
      rw [show Try.prog.bytesOf 34 = 2 by kernel_rfl] at hr
      simp only [lits, List.length_map, List.length_take, List.length_drop, reachBytes] at hr
      have hzl : zs.length = _ := hz
      simp only [if_true] at hzl
      exact ⟨zs, ⟨.inr ⟨_, rfl, hl, hm, by simpa using hz, hcell, hwz⟩, by omega⟩⟩
  clear hA0 hval0
  refine (walk a0 len0 cap0 a1 len1 cap1 z1 a2 len2 cap2 z2 W w0 s0 w1 w2).mono fun e W' ⟨he, bel⟩ => ?_
  subst he
  exact ⟨_, rfl, _, _, _, [], _, [], hW', trodAll_mk1 (shut_bool Try.underlying4 _), (trodAll_cons_mk (Below.trod laidOut (by kernel_rfl) (of_decide_eq_true (by kernel_rfl)) k0 bel lt0) (trodAll_cons_mk (Below.trod laidOut (by kernel_rfl) (of_decide_eq_true (by kernel_rfl)) k1 bel lt1) (trodAll_cons_mk (Below.trod laidOut (by kernel_rfl) (of_decide_eq_true (by kernel_rfl)) k2 bel lt2) trodAll_mk0))), rfl, bel.frame _, fun h => by cases h⟩

theorem over : Rows.checkOnesRow.holds Try.pinned (OpenSpec.ofChange Rows.checkOnesSpec) :=
  OpenClaim.holds_of_wide 4 Try.f4 rfl rfl rfl rfl rfl rfl rfl ⟨rfl, rfl, rfl, rfl, rfl⟩ rfl rfl rfl rfl rfl (by kernel_rfl) Try.func4 (by kernel_rfl)
    (of_decide_eq_true (by kernel_rfl)) (by unfold Func.isWrapper; first | (rw [if_pos (by decide +kernel)]; kernel_rfl) | (rw [if_neg (by decide +kernel)]; exact ⟨rfl, rfl⟩))
    (fun os started H enc _ => lifted os started H enc)

/-- The statement. -/
theorem proved : Rows.CheckOnesSaid := over
end Go.Proofs.Ytnhfipedhbeajaa.checkOnes
