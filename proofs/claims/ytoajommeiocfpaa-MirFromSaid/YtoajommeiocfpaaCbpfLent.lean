/-
  Classic BPF's instructions lent with a mark behind, and whether they were kept: the verifier's own Lent and Kept: contracts. Conditions: those that each names.
-/
import Derived.Test.YtoajommeiocfpaaCbpfSame
import Derived.Test.YtoajommeiocfpaaRowsN
import Derived.Test.YtoajommeiocfpaaAppend2
namespace Go.Proofs.Ytoajommeiocfpaa
open Go Go.RowKit
set_option linter.unusedSimpArgs false
set_option linter.unusedVariables false

/-- A program's cells. -/
def progF (q : Nat → Ins) (k : Nat) : Value := insF (q (k / 4)) (k % 4)
theorem progF_at (q : Nat → Ins) (i j : Nat) (hj : j < 4) : progF q (i * 4 + j) = insF (q i) j := by
  rw [progF, show (i * 4 + j) / 4 = i by omega, show (i * 4 + j) % 4 = j by omega]
theorem progF_one (q : Nat → Ins) (k : Nat) : (progF q k).oneCell' = true := by
  rw [progF]
  have : k % 4 = 0 ∨ k % 4 = 1 ∨ k % 4 = 2 ∨ k % 4 = 3 := by omega
  rcases this with h | h | h | h <;> rw [h] <;> rfl
theorem holds_of_prog {w : World} {A : Option Addr} {n : Nat} {q : Nat → Ins} (h : ProgAt w A n q) : Holds w A (n * 4) (progF q) := fun hn => by
  obtain ⟨b, o, rfl, hl, hc⟩ := h (by omega)
  refine ⟨b, o, rfl, hl, fun i hi => ?_⟩
  obtain ⟨c0, c1, c2, c3⟩ := hc (i / 4) (by omega)
  have hi4 : i = i / 4 * 4 + i % 4 := by omega
  have : i % 4 = 0 ∨ i % 4 = 1 ∨ i % 4 = 2 ∨ i % 4 = 3 := by omega
  rcases this with h | h | h | h <;> rw [progF, h, show o + i = o + i / 4 * 4 + i % 4 by omega, h]
  · exact c0
  · exact c1
  · exact c2
  · exact c3
theorem prog_of_row {w : World} {g m n : Nat} {t : TypeId} {F : Nat → Value} {q : Nat → Ins} (h : w.rowIs g t m F) (hF : ∀ k, k < n * 4 → F k = progF q k) (hm : n * 4 ≤ m) : ProgAt w (some ⟨g, 0, none⟩) n q := fun _ => by
  refine ⟨g, 0, rfl, h.lt, fun i hi => ?_⟩
  have at_ : ∀ j, j < 4 → w.cell? ⟨g, i * 4 + j, none⟩ = some (insF (q i) j) := fun j hj => by
    rw [World.rowIs.cell h (by omega), hF _ (by omega), progF_at _ _ _ hj]
  rw [Nat.zero_add]
  exact ⟨at_ 0 (by decide), at_ 1 (by decide), at_ 2 (by decide), at_ 3 (by decide)⟩
theorem ins_made (w : World) : Holds (w.alloc (.cells #[.int .u16 30583, .int .u8 0, .int .u8 0, .int .u32 0] 44)) (some ⟨w.heap.size, 0, none⟩) (1 * 4) (progF fun _ => ⟨30583, 0, 0, 0#32⟩) := fun _ =>
  ⟨w.heap.size, 0, rfl, by simp, fun i hi => by
    have : i = 0 ∨ i = 1 ∨ i = 2 ∨ i = 3 := by omega
    rcases this with rfl | rfl | rfl | rfl <;> simp [progF, insF]⟩
theorem info_ins : (Try.prog.info? 44).map (fun i => (i.zero, i.size, i.bytes)) = some (some (.agg #[.int .u16 0, .int .u8 0, .int .u8 0, .int .u32 0]), 4, 8) := by kernel_rfl

/-- What Lent leaves: the same instructions in new memory, the mark behind. -/
def LentAt (w w' : World) (g cap n : Nat) (q : Nat → Ins) : Prop :=
  ∃ F, w'.rowIs g 44 (cap * 4) F ∧ n + 1 ≤ cap ∧ cap ≤ maxLen ∧ (∀ k, k < n * 4 → F k = progF q k) ∧ F (n * 4) = .int .u16 30583 ∧ Below w.heap.size w w' ∧ w.heap.size ≤ g
theorem LentAt.prog {w w' : World} {g cap n : Nat} {q : Nat → Ins} (h : LentAt w w' g cap n q) : ProgAt w' (some ⟨g, 0, none⟩) n q := by
  obtain ⟨F, hr, hc, _, hF, _⟩ := h
  exact prog_of_row hr hF (by omega)
theorem LentAt.mark {w w' : World} {g cap n : Nat} {q : Nat → Ins} (h : LentAt w w' g cap n q) : w'.cell? ⟨g, n * 4, none⟩ = some (.int .u16 30583) := by
  obtain ⟨F, hr, hc, _, _, h77, _⟩ := h
  rw [← h77]; exact World.rowIs.cell hr (by omega)

set_option maxHeartbeats 2000000 in
theorem lent_is (w : World) (A : Option Addr) (n cap : Nat) (q : Nat → Ins) (hn : n * 8 ≤ 140737488351232) (h : ProgAt w A n q) :
    Calls Try.prog 5 #[.slice A n cap] w fun e w' => ∃ g cap', e = .returned (.slice (some ⟨g, 0, none⟩) n cap') ∧ LentAt w w' g cap' n q := by
  have HS := Lib.hid ((holds_of_prog h).below (box_below w (.cells #[] 44)))
  clear h
  go_enter Try.func5, Try.ntmps5
  go_wp2_with (first
    | (at_builtin; refine wpList_append_rows _ rfl (.tmp 3) (.tmp 4) 22 rfl 44 (.agg #[.int .u16 0, .int .u8 0, .int .u8 0, .int .u32 0]) 4 8 Try.underlying22 info_ins rfl (by decide) w.heap.size 0 0 (fun _ => undef) rfl (World.rowIs_alloc w #[] 44 (fun _ => undef) (fun i hi => absurd hi (by simp))) (Nat.le_refl _) (by decide) _ n cap (progF q) rfl HS.out (progF_one q) (by unfold maxLen; omega) (by omega) ?_; intro g1 cap1 F1 w1 hr1 hc1 hm1 _ hF1 hg1 hgg1; simp only [Nat.zero_add, Nat.zero_mul] at hc1 hF1; obtain ⟨hb1, hge1⟩ := append_new_below hg1 hgg1; clear hg1 hgg1; have HF1 := Lib.hid hF1; clear hF1)
    | (at_builtin; refine wpList_append_rows _ rfl (.tmp 5) (.tmp 7) 22 rfl 44 (.agg #[.int .u16 0, .int .u8 0, .int .u8 0, .int .u32 0]) 4 8 Try.underlying22 info_ins rfl (by decide) g1 n cap1 F1 rfl (hr1.alloc _) hc1 hm1 (some ⟨w1.heap.size, 0, none⟩) 1 1 (progF fun _ => ⟨30583, 0, 0, 0#32⟩) rfl (ins_made w1) (progF_one _) (by unfold maxLen; omega) (by omega) ?_; intro g2 cap2 F2 w2 hr2 hc2 hm2 hF2 hG2 hg2 hgg2; clear HS))
  go_ret
  obtain ⟨hb2, hge2⟩ := second_new hg2 hgg2 hb1 hge1 hr1.lt
  exact ⟨g2, cap2, rfl, F2, hr2, hc2, hm2, fun k hk => (hF2 k hk).trans (HF1.out k hk), (hG2 0 (by decide)).trans rfl, hb2, hge2⟩

/-- Kept of what was lent and of what it was lent from. -/
theorem kept_is (w : World) (g cap : Nat) (A : Option Addr) (n cap' : Nat) (q : Nat → Ins) (hn : n * 8 ≤ 140737488351232) (hc : n + 1 ≤ cap) (h : ProgAt w (some ⟨g, 0, none⟩) n q) (hm : w.cell? ⟨g, n * 4, none⟩ = some (.int .u16 30583)) (h' : ProgAt w A n q) :
    Calls Try.prog 7 #[.slice (some ⟨g, 0, none⟩) n cap, .slice A n cap'] w fun e w' => e = .returned (.bool true) ∧ ∃ m, w' = w.drewN m := by
  have HP := Lib.hid (And.intro h h')
  have hn' : n ≤ 140737488351232 := by omega
  have hw : IntKind.i64.wrap ((n : Int) + 1) = (n : Int) + 1 := IntWalk.i64_in _ (by omega)
  have hcc : (n : Int) + 1 ≤ (cap : Int) := by omega
  have hcm : n + 1 ≤ cap := hc
  clear h h' hc
  go_enter Try.func7, Try.ntmps7
  go_wp2_with (go_at_call 14; (with_reducible refine (ref_Same _ _ _ _ _ _ q hn' HP.out.1 HP.out.2).mono ?_); rintro e w1 ⟨rfl, m, rfl⟩)
  go_ret
  exact ⟨rfl, m, rfl⟩
end Go.Proofs.Ytoajommeiocfpaa
