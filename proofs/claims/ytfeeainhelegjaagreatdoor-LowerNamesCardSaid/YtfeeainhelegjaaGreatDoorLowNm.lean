/-
  The examples of lowering, as plain functions and in memory; a policy that may not be: contracts. Conditions: those that each names.
-/
import Derived.Test.YtfeeainhelegjaaGreatDoorLowSame
import Derived.Test.YtfeeainhelegjaaGreatDoorLowGrown
import Derived.Laws.ResultCell
namespace Go.Proofs.YtfeeainhelegjaaGreatDoor
open Go Go.RowKit
set_option linter.unusedSimpArgs false
set_option linter.unusedVariables false

/-! ### No way is long -/
theorem zero_iter {nd : Nat → Nd} {n : Nat} (h : stepN nd n (fun _ => (false, false)) = fun _ => (false, false)) : ∀ k, iterN nd n k = fun _ => (false, false)
  | 0 => rfl
  | k + 1 => by
    show stepN nd n (iterN nd n k) = _
    rw [zero_iter h k]; exact h
abbrev exL (mask : Nat) : List Nd := [⟨false, 0, 0, mask, 1, 7, 1, 2⟩, ⟨true, 1, 0, 0, 0, 0, 0, 0⟩, ⟨true, 2, 0, 0, 0, 0, 0, 0⟩]
abbrev exN (mask : Nat) : Nat → Nd := fun i => (exL mask).getD i ndZ
theorem ex_short (mask : Nat) (hm : mask = 4294967295 ∨ mask = 255) : stepN (exN mask) 3 (fun _ => (false, false)) = fun _ => (false, false) := by
  funext i
  unfold stepN
  by_cases g : i < 3 ∧ ((exN mask) i).leaf = false
  · rw [if_pos g]
    have hi : i = 0 := by
      obtain ⟨g1, g2⟩ := g
      rcases (by omega : i = 0 ∨ i = 1 ∨ i = 2) with e | e | e
      · exact e
      · subst e; exact absurd g2 (by show ¬ true = false; decide)
      · subst e; exact absurd g2 (by show ¬ true = false; decide)
    subst hi
    rcases hm with rfl | rfl <;> rfl
  · rw [if_neg g]
theorem ex_emit1 : emitR (exN 4294967295) 3 = ([(32, 0, 0, 0), (21, 0, 1, 7), (6, 0, 0, 1), (6, 0, 0, 2)], 0) := by
  unfold emitR
  have hl : longN (exN 4294967295) 3 = fun _ => (false, false) := zero_iter (ex_short _ (.inl rfl)) _
  rw [if_pos (by rfl), hl, if_neg (by show ¬ 4096 < 4; decide)]
  rfl
theorem ex_emit2 : emitR (exN 255) 3 = ([(32, 0, 0, 0), (84, 0, 0, 255), (21, 0, 1, 7), (6, 0, 0, 1), (6, 0, 0, 2)], 0) := by
  unfold emitR
  have hl : longN (exN 255) 3 = fun _ => (false, false) := zero_iter (ex_short _ (.inr rfl)) _
  rw [if_pos (by rfl), hl, if_neg (by show ¬ 4096 < 5; decide)]
  rfl
theorem ex_size2 : sizeR (exN 255) 3 = (5, 0) := by
  unfold sizeR
  have hl : longN (exN 255) 3 = fun _ => (false, false) := zero_iter (ex_short _ (.inr rfl)) _
  rw [if_pos (by rfl), hl]
  rfl
theorem ex_none (nd : Nat → Nd) : emitR nd 0 = ([], 83) := by
  unfold emitR
  rw [if_neg (by show ¬ (83 : Int) = 0; decide)]
  rfl
/-! ### .. in memory -/
theorem nd_block {W : World} {b : Nat} {l : List Nd} (h : W.heap[b]? = some (.cells (ndL l).toArray 26)) (hl : l.length ≤ 1000) : NdAt W (some ⟨b, 0, none⟩) l.length (fun i => l.getD i ndZ) :=
  ⟨by unfold maxLen; omega, fun _ => ⟨b, 0, rfl, (Array.getElem?_eq_some_iff.1 h).1, fun i hi j u hj => by
    have hj8 : j < 8 := (List.getElem?_eq_some_iff.1 hj).1
    have hx : l[i]? = some (l.getD i ndZ) := by
      rw [List.getD_eq_getElem?_getD, List.getElem?_eq_getElem hi]; rfl
    have hq := ndL_get l i j _ hx hj8
    rw [Nat.zero_add]
    exact cellL h (i * 8 + j) (v := u) (by rw [List.getElem?_toArray, hq]; exact hj)⟩⟩
theorem prog_block (w : World) (xs : List I4) (hx : xs.length ≤ 1000) : (w.alloc (.cells (i4L xs).toArray 45)).ownsRow w.heap.size 45 4 (.slice (some ⟨w.heap.size, 0, none⟩) xs.length xs.length) xs.length (i4L xs) :=
  ⟨i4L_len xs, .inr ⟨w.heap.size, xs.length, _, rfl, Nat.le_refl _, World.alloc_heap_new w _, Nat.le_refl _, by unfold maxLen; omega, by rw [List.size_toArray, i4L_len], by
    show List.take (xs.length * 4) (i4L xs) = i4L xs
    rw [← i4L_len xs, List.take_length]⟩⟩
theorem own_apart {B : Nat} {W : World} {v : Value} {n : Nat} {ys : List Value} {b : Nat} {e : TypeId} {sz : Nat} (h : W.ownsRow B e sz v n ys) (hb : b < B) : v.ownBlock ≠ some b := fun q => by
  have := h.lt _ q; omega
/-! ### A policy that may not be -/
abbrev polZ : Value := .agg #[.string ⟨#[]⟩, .int .i64 0, .int .u64 0, .int .i64 0, .int .u64 0, .slice none 0 0]
theorem n_systemOf (w : World) : Calls Tryz.prog 29 #[.string ⟨#[]⟩] w fun e w' => e = .returned (.tuple #[.agg #[.int .u32 0, .slice none 0 0], .bool false]) ∧ Below w.heap.size w w' := by
  have HB := Lib.hid (fun o => lboxL w o)
  go_enter Tryz.func29, Tryz.ntmps29
  go_wp2
  (try simp only [Exit.inBlock, Exit.then])
  refine bodyPost_ret (v := .tuple #[.agg #[.int .u32 0, .slice none 0 0], .bool false]) ?_ rfl ⟨rfl, HB.out _⟩
  rw [results_cell_tmp rfl]
  go_simp
theorem n_Check (w : World) : Calls Tryz.prog 19 #[polZ] w fun e w' => e = .returned (.tuple #[.int .i64 71, .int .i64 (-1)]) ∧ Below w.heap.size w w' := by
  have HB := Lib.hid (fun o => lboxL w o)
  have HS := Lib.hid (fun W => n_systemOf W)
  go_enter Tryz.func19, Tryz.ntmps19
  go_wp2_with (go_at_call 29; (with_reducible refine (HS.out _).mono ?_); rintro e w1 ⟨rfl, hb1⟩; have H1 : Hid (∀ o, Below w.heap.size w (w1.alloc o)) := Lib.hid (fun o => ((HB.out _).trans (hb1.mono (by simp))).trans ((lboxL w1 o).mono (Nat.le_trans (by simp) hb1.size))); clear hb1)
  go_ret2
  exact ⟨rfl, H1.out _⟩
theorem n_Build (w : World) : Calls Tryz.prog 13 #[polZ] w fun e w' => e = .returned (.tuple #[.slice none 0 0, .int .i64 81]) ∧ Below w.heap.size w w' := by
  have HB := Lib.hid (fun o => lboxL w o)
  have HS := Lib.hid (fun W => n_Check W)
  go_enter Tryz.func13, Tryz.ntmps13
  go_wp2_with (go_at_call 19; (with_reducible refine (HS.out _).mono ?_); rintro e w1 ⟨rfl, hb1⟩; have H1 : Hid (Below w.heap.size w w1) := Lib.hid ((HB.out _).trans (hb1.mono (by simp))); clear hb1)
  go_ret2
  exact ⟨rfl, H1.out⟩
theorem n_Lower (w : World) : Calls Tryz.prog 7 #[polZ] w fun e w' => e = .returned (.tuple #[.slice none 0 0, .int .i64 81]) ∧ Below w.heap.size w w' := by
  have HB := Lib.hid (fun o => lboxL w o)
  have HS := Lib.hid (fun W => n_Build W)
  go_enter Tryz.func7, Tryz.ntmps7
  go_wp2_with (go_at_call 13; (with_reducible refine (HS.out _).mono ?_); rintro e w1 ⟨rfl, hb1⟩; have H1 : Hid (Below w.heap.size w w1) := Lib.hid ((HB.out _).trans (hb1.mono (by simp))); clear hb1)
  go_ret2
  exact ⟨rfl, H1.out⟩
end Go.Proofs.YtfeeainhelegjaaGreatDoor
