/-
  The document's reading of bytes as a program of classic BPF: what its Read answers, a contract for all bytes. Conditions: those that it names.
-/
import Derived.Test.YtlfbkalpnbjdjaaCbpfWrite
namespace Go.Proofs.Ytlfbkalpnbjdjaa
open Go Go.RowKit
set_option linter.unusedSimpArgs false
set_option linter.unusedVariables false

/-- The instruction in eight bytes. -/
def readI (z : Nat → Int) (p : Nat) : Ins := ⟨leB (fun j => z (p + j)) 2, (z (p + 2)).toNat, (z (p + 3)).toNat, wordZ z (p + 4)⟩
def insC (i : Ins) : List Value := [.int .u16 i.code, .int .u8 (i.jt : Int), .int .u8 (i.jf : Int), .int .u32 (i.k.toNat : Int)]
def readL (z : Nat → Int) : Nat → List Value
  | 0 => []
  | k + 1 => readL z k ++ insC (readI z (k * 8))
theorem four_new (w : World) (i : Ins) (t : TypeId) : ∀ j u, (insC i)[j]? = some u → (w.alloc (.cells #[.int .u16 i.code, .int .u8 (i.jt : Int), .int .u8 (i.jf : Int), .int .u32 (i.k.toNat : Int)] t)).cell? ((⟨w.heap.size, 0, none⟩ : Addr).add j) = some u := by
  intro j u hj
  have h4 : j < 4 := by
    rcases Nat.lt_or_ge j 4 with h | h
    · exact h
    · rw [List.getElem?_eq_none (by simpa [insC] using h)] at hj; cases hj
  have : j = 0 ∨ j = 1 ∨ j = 2 ∨ j = 3 := by omega
  rcases this with rfl | rfl | rfl | rfl <;> (simp [insC] at hj; subst hj; simp [Addr.add])
theorem le2_bd {z : Nat → Int} (hz : ∀ i, 0 ≤ z i ∧ z i < 256) (p : Nat) : 0 ≤ leB (fun j => z (p + j)) 2 ∧ leB (fun j => z (p + j)) 2 < 65536 := by
  have h0 := hz (p + 0)
  have h1 := hz (p + 1)
  simp only [leB]
  omega

theorem ref3_Read_no (A : Option Addr) (len cap : Nat) (hl : len ≤ maxLen) (h : ¬ len % 8 = 0) (w : World) :
    Calls Try.prog 17 #[.slice A len cap] w fun e w' => e = .returned (.tuple #[.slice none 0 0, .int .i64 31]) ∧ w = w' := by
  unfold maxLen at hl
  have h1 : (len : Int).tmod 8 = ((len % 8 : Nat) : Int) := by rw [Int.tmod_eq_emod_of_nonneg (by omega)]; omega
  have h2 : ¬ ((len % 8 : Nat) : Int) = 0 := by omega
  generalize len % 8 = r at h1 h2
  clear h
  go_enter Try.func17, Try.ntmps17
  go_wp2
  go_ret2
  exact ⟨rfl, rfl⟩

theorem ld_code (b off len cap : Nat) (z : Nat → Int) (p : Nat) (hz : ∀ i, 0 ≤ z i ∧ z i < 256) (hl : len ≤ maxLen) (hp : p + 8 ≤ len) (w : World) (hc : ∀ i, i < len → w.cell? ⟨b, off + i, none⟩ = some (.int .u8 (z i))) :
    Calls Try.prog 30 #[.slice (some ⟨b, off, none⟩) len cap, .int .i64 (p : Int), .int .i64 2] w fun e w' => e = .returned (.tuple #[.int .u64 (leB (fun j => z (p + j)) 2), .int .i64 0]) ∧ w = w' :=
  ref_Load b off len cap (fun j => z (p + j)) p 2 w hl (by decide) (by decide) (by omega) (fun i hi => hc _ (by omega)) (fun i => hz _)
theorem ld_k (b off len cap : Nat) (z : Nat → Int) (p : Nat) (hz : ∀ i, 0 ≤ z i ∧ z i < 256) (hl : len ≤ maxLen) (hp : p + 8 ≤ len) (w : World) (hc : ∀ i, i < len → w.cell? ⟨b, off + i, none⟩ = some (.int .u8 (z i))) :
    Calls Try.prog 30 #[.slice (some ⟨b, off, none⟩) len cap, .int .i64 ((p : Int) + 4), .int .i64 4] w fun e w' => e = .returned (.tuple #[.int .u64 (w4 z (p + 4)), .int .i64 0]) ∧ w = w' :=
  ref_Load b off len cap (fun j => z (p + 4 + j)) (p + 4) 4 w hl (by decide) (by decide) (by omega) (fun i hi => hc _ (by omega)) (fun i => hz _)

set_option maxHeartbeats 8000000 in
set_option maxRecDepth 100000 in
theorem ref3_Read (w : World) (A : Option Addr) (n cap : Nat) (z : Nat → Int) (hn : n * 8 ≤ 140737488351232) (hz : ∀ i, 0 ≤ z i ∧ z i < 256) (h : Holds w A (n * 8) (fun i => .int .u8 (z i))) :
    Calls Try.prog 17 #[.slice A (n * 8) cap] w fun e w' => ∃ v, e = .returned (.tuple #[v, .int .i64 0]) ∧ w'.ownsRow w.heap.size 43 4 v n (readL z n) ∧ Below w.heap.size w w' := by
  have HP := Lib.hid h
  have HZ := Lib.hid hz
  have h1 : ((n * 8 : Nat) : Int).tmod 8 = 0 := by rw [Int.tmod_eq_emod_of_nonneg (by omega)]; omega
  generalize hm : n * 8 = m at *
  clear h hz
  go_enter Try.func17, Try.ntmps17
  go_wp2
  go_loopw [4, 5] (fun v i wr => ∃ k : Nat, k ≤ n ∧ i = .int .i64 ((k * 8 : Nat) : Int) ∧ wr.ownsRow w.heap.size 43 4 v k (readL z k) ∧ Below w.heap.size w wr) (fun _ i _ => m - (intOf i).toNat)
  case atStart => exact ⟨0, by omega, rfl, World.ownsRow_nil _ _ _ _, Below.refl _ _⟩
  case round =>
    obtain ⟨k, hk, rfl, hown, hb⟩ := hrel
    have HW := Lib.hid hown
    have HB := Lib.hid hb
    clear hown hb h1
    by_cases hlt : k < n
    · obtain ⟨b, off, rfl, hl, hc⟩ := HP.out (by omega)
      have hQ : readL z (k + 1) = readL z k ++ insC (readI z (k * 8)) := rfl
      have hnext : (k + 1) * 8 = k * 8 + 8 := by omega
      have hp8 : k * 8 + 8 ≤ m := by omega
      have e0 : leB (fun j => z (k * 8 + j)) 2 = (readI z (k * 8)).code := rfl
      have E16 : IntKind.u16.wrap (readI z (k * 8)).code = (readI z (k * 8)).code := IntWalk.u16_in _ (by have := le2_bd HZ.out (k * 8); rw [← e0]; omega)
      have e3 : w4 z (k * 8 + 4) = ((readI z (k * 8)).k.toNat : Int) := (wordZ_nat HZ.out _).symm
      have E32 : IntKind.u32.wrap ((readI z (k * 8)).k.toNat : Int) = ((readI z (k * 8)).k.toNat : Int) := IntWalk.u32_in _ (by have := (readI z (k * 8)).k.isLt; omega)
      have e1 : z (k * 8 + 2) = ((readI z (k * 8)).jt : Int) := (Int.toNat_of_nonneg (HZ.out _).1).symm
      have e2 : z (k * 8 + 3) = ((readI z (k * 8)).jf : Int) := (Int.toNat_of_nonneg (HZ.out _).1).symm
      have HC := Lib.hid hc
      have x1 : w.cell? ⟨b, off + (k * 8 + 2), none⟩ = some (.int .u8 ((readI z (k * 8)).jt : Int)) := by rw [← e1]; exact hc _ (by omega)
      have x2 : w.cell? ⟨b, off + (k * 8 + 3), none⟩ = some (.int .u8 ((readI z (k * 8)).jf : Int)) := by rw [← e2]; exact hc _ (by omega)
      have hmx : m ≤ maxLen := by unfold maxLen; omega
      have HLc := Lib.hid (fun W (hW : ∀ i, i < m → W.cell? ⟨b, off + i, none⟩ = some (.int .u8 (z i))) => ld_code b off m cap z (k * 8) HZ.out hmx hp8 W hW)
      have HLk := Lib.hid (fun W (hW : ∀ i, i < m → W.cell? ⟨b, off + i, none⟩ = some (.int .u8 (z i))) => ld_k b off m cap z (k * 8) HZ.out hmx hp8 W hW)
      rw [e0] at HLc
      rw [e3] at HLk
      have HX := Lib.hid (And.intro x1 x2)
      have HQ := Lib.hid hQ
      clear e0 e1 e2 e3 x1 x2 hc hQ
      generalize readI z (k * 8) = i at E16 E32 HLc HLk HX HQ
      generalize hpe : k * 8 = p at *
      obtain ⟨c, jt, jf, kk⟩ := i
      simp only at E16 E32
      have hw2 : IntKind.i64.wrap ((p : Int) + 2) = (p : Int) + 2 := IntWalk.i64_in _ (by omega)
      have hw3 : IntKind.i64.wrap ((p : Int) + 3) = (p : Int) + 3 := IntWalk.i64_in _ (by omega)
      have hw4 : IntKind.i64.wrap ((p : Int) + 4) = (p : Int) + 4 := IntWalk.i64_in _ (by omega)
      have hw8 : IntKind.i64.wrap ((p : Int) + 8) = (p : Int) + 8 := IntWalk.i64_in _ (by omega)
      have hlt' : (p : Int) < (m : Int) := by omega
      have HCr := Lib.hid (show ∀ i, i < m → wr.cell? ⟨b, off + i, none⟩ = some (.int .u8 (z i)) from fun i hi => (HB.out.cell (p := ⟨b, off + i, none⟩) hl).trans (HC.out i hi))
      go_wp2_with (first
        | (go_at_call 30; (with_reducible refine (HLc.out _ HCr.out).mono ?_); rintro e w' ⟨rfl, rfl⟩)
        | (go_at_call 30; (with_reducible refine (HLk.out _ HCr.out).mono ?_); rintro e w' ⟨rfl, rfl⟩))
      have a2 : (0 : Int) ≤ (p : Int) + 2 := by omega
      have a3 : (0 : Int) ≤ (p : Int) + 3 := by omega
      refine wp_region_held_drew (S := fun w' => w'.cell? ⟨b, off + (p + 2), none⟩ = some (.int .u8 (jt : Int)) ∧ w'.cell? ⟨b, off + (p + 3), none⟩ = some (.int .u8 (jf : Int))) (by kernel_rfl) ⟨(HB.out.cell (p := ⟨b, off + (p + 2), none⟩) hl).trans HX.out.1, (HB.out.cell (p := ⟨b, off + (p + 3), none⟩) hl).trans HX.out.2⟩ (fun hHeld => ?_)
      have t2 : ((p : Int) + 2).toNat = p + 2 := by omega
      have t3 : ((p : Int) + 3).toNat = p + 3 := by omega
      have b2 : (p : Int) + 2 < (m : Int) := by omega
      have b3 : (p : Int) + 3 < (m : Int) := by omega
      refine wpAnyH_take (i := 0) (v := ?_) rfl (by kernel_rfl) (by kernel_rfl) (by kernel_rfl) (fun _ _ _ h => h) (Or.inl ⟨by rfl, ?_⟩) (by assumption) ?_
      rotate_left
      · intro wS hSw
        (obtain ⟨i1, i2⟩ := hSw)
        go_simp
        all_goals with_reducible rfl
      (try simp only [Act.put, List.setIfInBounds_toArray, List.set_cons_zero, List.set_cons_succ])
      refine wpAnyH_take (i := 1) (v := ?_) rfl (by kernel_rfl) (by kernel_rfl) (by kernel_rfl) (fun _ _ _ h => h) (Or.inl ⟨by rfl, ?_⟩) (by assumption) ?_
      rotate_left
      · intro wS hSw
        (obtain ⟨i1, i2⟩ := hSw)
        go_simp
        all_goals with_reducible rfl
      (try simp only [Act.put, List.setIfInBounds_toArray, List.set_cons_zero, List.set_cons_succ])
      refine wpAnyH_take (i := 2) (v := ?_) rfl (by kernel_rfl) (by kernel_rfl) (by kernel_rfl) (fun _ _ _ h => h) (Or.inl ⟨by rfl, ?_⟩) (by assumption) ?_
      rotate_left
      · intro wS hSw
        (obtain ⟨i1, i2⟩ := hSw)
        go_simp
        all_goals with_reducible rfl
      (try simp only [Act.put, List.setIfInBounds_toArray, List.set_cons_zero, List.set_cons_succ])
      refine wpAnyH_take (i := 3) (v := ?_) rfl (by kernel_rfl) (by kernel_rfl) (by kernel_rfl) (fun _ _ _ h => h) (Or.inl ⟨by rfl, ?_⟩) (by assumption) ?_
      rotate_left
      · intro wS hSw
        (obtain ⟨i1, i2⟩ := hSw)
        go_simp
        all_goals with_reducible rfl
      (try simp only [Act.put, List.setIfInBounds_toArray, List.set_cons_zero, List.set_cons_succ])
      refine wpAnyH_take (i := 4) (v := ?_) rfl (by kernel_rfl) (by kernel_rfl) (by kernel_rfl) (fun _ _ _ h => h) (Or.inl ⟨by rfl, ?_⟩) (by assumption) ?_
      rotate_left
      · intro wS hSw
        (obtain ⟨i1, i2⟩ := hSw)
        go_simp
        all_goals with_reducible rfl
      (try simp only [Act.put, List.setIfInBounds_toArray, List.set_cons_zero, List.set_cons_succ])
      refine wpAnyH_take (i := 5) (v := ?_) rfl (by kernel_rfl) (by kernel_rfl) (by kernel_rfl) (fun _ _ _ h => h) (Or.inl ⟨by rfl, ?_⟩) (by assumption) ?_
      rotate_left
      · intro wS hSw
        (obtain ⟨i1, i2⟩ := hSw)
        go_simp
        all_goals with_reducible rfl
      (try simp only [Act.put, List.setIfInBounds_toArray, List.set_cons_zero, List.set_cons_succ])
      refine wpAnyH_take (i := 6) (v := ?_) rfl (by kernel_rfl) (by kernel_rfl) (by kernel_rfl) (fun _ _ _ h => h) (Or.inl ⟨by rfl, ?_⟩) (by assumption) ?_
      rotate_left
      · intro wS hSw
        (obtain ⟨i1, i2⟩ := hSw)
        go_simp
        all_goals with_reducible rfl
      (try simp only [Act.put, List.setIfInBounds_toArray, List.set_cons_zero, List.set_cons_succ])
      refine wpAnyH_take (i := 7) (v := ?_) rfl (by kernel_rfl) (by kernel_rfl) (by kernel_rfl) (fun _ _ _ h => h) (Or.inl ⟨by rfl, ?_⟩) (by assumption) ?_
      rotate_left
      · intro wS hSw
        (obtain ⟨i1, i2⟩ := hSw)
        go_simp
        all_goals with_reducible rfl
      (try simp only [Act.put, List.setIfInBounds_toArray, List.set_cons_zero, List.set_cons_succ])
      refine wpAnyH_take (i := 8) (v := ?_) rfl (by kernel_rfl) (by kernel_rfl) (by kernel_rfl) (fun _ _ _ h => h) (Or.inl ⟨by rfl, ?_⟩) (by assumption) ?_
      rotate_left
      · intro wS hSw
        (obtain ⟨i1, i2⟩ := hSw)
        go_simp
        all_goals with_reducible rfl
      (try simp only [Act.put, List.setIfInBounds_toArray, List.set_cons_zero, List.set_cons_succ])
      refine wpAnyH_take (i := 9) (v := ?_) rfl (by kernel_rfl) (by kernel_rfl) (by kernel_rfl) (fun _ _ _ h => h) (Or.inl ⟨by rfl, ?_⟩) (by assumption) ?_
      rotate_left
      · intro wS hSw
        (obtain ⟨i1, i2⟩ := hSw)
        go_simp
        all_goals with_reducible rfl
      (try simp only [Act.put, List.setIfInBounds_toArray, List.set_cons_zero, List.set_cons_succ])
      refine wpAnyH_take (i := 10) (v := ?_) rfl (by kernel_rfl) (by kernel_rfl) (by kernel_rfl) (fun _ _ _ h => h) (Or.inl ⟨by rfl, ?_⟩) (by assumption) ?_
      rotate_left
      · intro wS hSw
        (obtain ⟨i1, i2⟩ := hSw)
        go_simp
        all_goals with_reducible rfl
      (try simp only [Act.put, List.setIfInBounds_toArray, List.set_cons_zero, List.set_cons_succ])
      refine wpAnyH_take (i := 11) (v := ?_) rfl (by kernel_rfl) (by kernel_rfl) (by kernel_rfl) (fun _ _ _ h => h) (Or.inl ⟨by rfl, ?_⟩) (by assumption) ?_
      rotate_left
      · intro wS hSw
        (obtain ⟨i1, i2⟩ := hSw)
        go_simp
        all_goals with_reducible rfl
      (try simp only [Act.put, List.setIfInBounds_toArray, List.set_cons_zero, List.set_cons_succ])
      refine wpAnyH_take (i := 12) (v := ?_) rfl (by kernel_rfl) (by kernel_rfl) (by kernel_rfl) (fun _ _ _ h => h) (Or.inl ⟨by rfl, ?_⟩) (by assumption) ?_
      rotate_left
      · intro wS hSw
        (obtain ⟨i1, i2⟩ := hSw)
        go_simp
        all_goals with_reducible rfl
      (try simp only [Act.put, List.setIfInBounds_toArray, List.set_cons_zero, List.set_cons_succ])
      refine wpAnyH_take (i := 13) (v := ?_) rfl (by kernel_rfl) (by kernel_rfl) (by kernel_rfl) (fun _ _ _ h => h) (Or.inl ⟨by rfl, ?_⟩) (by assumption) ?_
      rotate_left
      · intro wS hSw
        (obtain ⟨i1, i2⟩ := hSw)
        go_simp
        all_goals with_reducible rfl
      (try simp only [Act.put, List.setIfInBounds_toArray, List.set_cons_zero, List.set_cons_succ])
      refine wpAnyH_take (i := 14) (v := ?_) rfl (by kernel_rfl) (by kernel_rfl) (by kernel_rfl) (fun _ _ _ h => h) (Or.inl ⟨by rfl, ?_⟩) (by assumption) ?_
      rotate_left
      · intro wS hSw
        (obtain ⟨i1, i2⟩ := hSw)
        go_simp
        all_goals with_reducible rfl
      (try simp only [Act.put, List.setIfInBounds_toArray, List.set_cons_zero, List.set_cons_succ])
      refine wpAnyH_take (i := 15) (v := ?_) rfl (by kernel_rfl) (by kernel_rfl) (by kernel_rfl) (fun _ _ _ h => h) (Or.inl ⟨by rfl, ?_⟩) (by assumption) ?_
      rotate_left
      · intro wS hSw
        (obtain ⟨i1, i2⟩ := hSw)
        go_simp
        all_goals with_reducible rfl
      (try simp only [Act.put, List.setIfInBounds_toArray, List.set_cons_zero, List.set_cons_succ])
      refine held_one (i := 16) (by kernel_rfl) rfl (fun K hK => ?_)
      go_simp
      have HS : ∀ W, Below w.heap.size w W → W.cell? ⟨b, off + (p + 2), none⟩ = some (.int .u8 (jt : Int)) ∧ W.cell? ⟨b, off + (p + 3), none⟩ = some (.int .u8 (jf : Int)) := fun W hW => ⟨(hW.cell (p := ⟨b, off + (p + 2), none⟩) hl).trans HX.out.1, (hW.cell (p := ⟨b, off + (p + 3), none⟩) hl).trans HX.out.2⟩
      have HBA := Lib.hid (below_drawn (HB.out.alloc HB.out.size (.cells #[.int .u16 c, .int .u8 (jt : Int), .int .u8 (jf : Int), .int .u32 (kk.toNat : Int)] 43)) 1)
      refine hK.out _ _ (HS _ HBA.out) (fun hH2 => ?_)
      clear hK K hHeld hH2
      (try simp only [Act.put, List.setIfInBounds_toArray, List.set_cons_zero, List.set_cons_succ])
      refine held_one (i := 17) (by kernel_rfl) rfl (fun K hK => ?_)
      rw [if_pos (by kernel_rfl)]
      obtain ⟨i8, hi8, hz8, hs8, hb8⟩ := info_partsN info_ins
      refine oper_append (.tmp 33) (.tmp 49) 22 rfl w.heap.size 43 i8 (.agg #[.int .u16 0, .int .u8 0, .int .u8 0, .int .u32 0]) 4 8 Try.underlying22 hi8 hz8 hs8 hb8 rfl (by decide) _ k (readL z k) rfl (HW.out.alloc _) ⟨wr.heap.size, 0, none⟩ 1 1 (insC ⟨c, jt, jf, kk⟩) rfl rfl (four_new wr ⟨c, jt, jf, kk⟩ _) (by intro u hu; simp only [insC, List.mem_cons, List.not_mem_nil, or_false] at hu; rcases hu with rfl | rfl | rfl | rfl <;> rfl) (by unfold maxLen; omega) (by omega) (by simp; have := HB.out.size; omega) ?_
      intro v' w' hown' hg' hat'
      have hbel := HBA.out.trans (below_ownN (show World.ownsRow _ w.heap.size 43 4 _ k (readL z k) from HW.out.alloc _) hg' (by simp; have := HB.out.size; omega))
      have HN := Lib.hid (And.intro hown' hbel)
      refine hK.out _ _ (HS _ hbel) (fun hH2 => ?_)
      clear hK K hH2 hown' hbel hg' hat' hi8
      refine held_one (i := 18) (by kernel_rfl) rfl (fun K hK => ?_)
      go_simp
      refine hK.out _ _ (HS _ HN.out.2) (fun hH2 => ?_)
      clear hK K hH2
      refine wpAnyH_done (by kernel_rfl) ?_ _
      go_wp2
      exact ⟨⟨k + 1, by omega, by rw [hnext]; go_num, by rw [HQ.out]; exact HN.out.1, HN.out.2⟩, by simp [intOf]; omega⟩
    · have hst : ¬ ((k * 8 : Nat) : Int) < (m : Int) := by omega
      go_wp2
      all_goals
        go_ret2
        obtain rfl : k = n := by omega
        exact ⟨_, rfl, HW.out, HB.out⟩
end Go.Proofs.Ytlfbkalpnbjdjaa
