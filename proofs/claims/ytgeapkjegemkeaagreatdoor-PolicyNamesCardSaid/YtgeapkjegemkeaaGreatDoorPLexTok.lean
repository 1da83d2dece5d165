/-
  What the program makes of the bytes at a place of a text: the sign's length, a copy of a piece, the token there, and Next: contracts. Conditions: those that each names.
-/
import Derived.Test.YtgeapkjegemkeaaGreatDoorPLexNum
import Derived.Test.YtgeapkjegemkeaaGreatDoorLexNext
import Derived.Test.YtgeapkjegemkeaaGreatDoorMemory
import Derived.Test.YtgeapkjegemkeaaGreatDoorRegion
import Derived.Lib.BufferWrite
import Derived.Lib.UnsafeStr
import Derived.Lib.Buffer
import Derived.Laws.MakeOwn
namespace Go.Proofs.YtgeapkjegemkeaaGreatDoor
open Go Go.RowKit
set_option linter.unusedSimpArgs false
set_option linter.unusedVariables false

set_option maxRecDepth 100000 in
theorem info_byte5 : (Tryz.prog.info? 5).map (fun i => (i.zero, i.size, i.bytes)) = some (some (.int .u8 0), 1, 1) := by kernel_rfl
set_option maxHeartbeats 1000000 in
set_option maxRecDepth 100000 in
/-- A copy of a text: the same bytes, in new memory. -/
theorem p_liteClone (s : ByteArray) (hs : s.size ≤ 65536) (w : World) : Calls Tryz.prog 152 #[.string s] w fun e w' => e = .returned (.string s) ∧ Below w.heap.size w w' := by
  by_cases h0 : s.size = 0
  · have he : s.toList.isEmpty = true := by rw [text_empty]; exact decide_eq_true h0
    have hs0 : s = ⟨#[]⟩ := ByteArray.ext (Array.eq_empty_of_size_eq_zero h0)
    subst hs0
    clear hs h0 he
    go_enter Tryz.func152, Tryz.ntmps152
    go_wp2
    go_ret
    exact ⟨rfl, Below.refl _ _⟩
  · have hne : (((s.size : Nat) : Int) == 0) = false := beq_false_of_ne (by omega)
    obtain ⟨i0, hi, hz0, hz1, hz2⟩ := info_parts info_byte5
    obtain ⟨M, hM⟩ : ∃ M, M = madeCells (Value.int .u8 0).cells (((s.size : Nat) : Int).toNat * i0.size) := ⟨_, rfl⟩
    have hMs : M.size = s.size := by rw [hM, size_madeCells, hz1]; simp
    have hmk : ∀ W : World, (Instr.makeSlice 53 (.int .i64 (s.size : Int)) (.int .i64 (s.size : Int))).run Tryz.prog W = .ok (.slice (some ⟨W.heap.size, 0, none⟩) s.size s.size) (W.alloc (.cells M 5)) := fun W => by
      have h := run_make (P := Tryz.prog) W 53 5 i0 (.int .u8 0) Tryz.underlying53 hi hz0 .i64 .i64 (s.size : Int) (s.size : Int) (by omega) (by omega) (by rw [hz2]; omega) (by omega)
      rw [← hM] at h
      simpa using h
    clear hM
    have hcp := Lib.run_copy_row_string (P := Tryz.prog) (w.alloc (.cells M 5)) 53 9 3 5 w.heap.size 0 s.size s.size s M 5 Tryz.underlying53 (by rw [hi]; simp [hz1]) (heap_alloc_new w _) (Nat.le_refl _) (by omega)
    obtain ⟨Y, hY⟩ : ∃ Y, Y = (M.toList.take 0 ++ Lib.byteCells s.data.toList ++ M.toList.drop (0 + s.size)).toArray := ⟨_, rfl⟩
    rw [← hY] at hcp
    have hYl : Y.toList = Lib.byteCells s.data.toList := by
      rw [hY, List.toList_toArray, List.take_zero, List.nil_append, List.drop_of_length_le (by rw [Array.length_toList]; omega), List.append_nil]
    have hgY : ((w.alloc (.cells M 5)).setRow w.heap.size Y).heap[w.heap.size]? = some (.cells Y 5 (0, 0)) := setRow_heap _ _ M _ 5 (0, 0) (heap_alloc_new w _)
    have hnl : s.data.toList ≠ [] := fun e => h0 (by rw [Lib.size_eq, e]; rfl)
    have hYs : Y.size = s.size := by rw [← Array.length_toList, hYl, Lib.byteCells_length, ← Lib.size_eq]
    have hUS := Lib.run_unsafeString_row (P := Tryz.prog) ((w.alloc (.cells M 5)).setRow w.heap.size Y) 106 3 9 5 Tryz.underlying106 (by simp [Program.cellsOf, hi, hz1]) w.heap.size Y.size (by unfold World.shape?; rw [hgY]) s.data.toList hnl (by rw [← Lib.size_eq]; omega) (by rw [← Lib.size_eq]; omega)
      (fun j x hx => Lib.cells_of_row hgY Y.size j _ (by rw [List.take_of_length_le (by rw [Array.length_toList]; exact Nat.le_refl _), hYl]; simp [Lib.byteCells, hx]))
    rw [← Lib.size_eq] at hUS
    have HB1 := Lib.hid (lbox w (.cells M 5))
    have HB2 := Lib.hid (show Below w.heap.size (w.alloc (.cells M 5)) ((w.alloc (.cells M 5)).setRow w.heap.size Y) from ⟨rfl, rfl, rfl, by simp, fun k hk => setRow_other _ _ _ _ (by omega)⟩)
    clear hY hgY hYl hnl
    go_enter Tryz.func152, Tryz.ntmps152
    go_wp2
    go_ret
    exact ⟨rfl, Lib.below_freeze (HB1.out.trans HB2.out) (p := ⟨w.heap.size, 0, none⟩) (Nat.le_refl _) _⟩
set_option maxRecDepth 100000 in
theorem p_Clone (s : ByteArray) (hs : s.size ≤ 65536) (w : World) : Calls Tryz.prog 149 #[.string s] w fun e w' => e = .returned (.string s) ∧ Below w.heap.size w w' := by
  have HC := Lib.hid (fun w => p_liteClone s hs w)
  go_enter Tryz.func149, Tryz.ntmps149
  go_wp2_with (go_at_call 152; (with_reducible refine (HC.out _).mono ?_); rintro e w' ⟨rfl, hb⟩; have HB := Lib.hid hb; clear hb)
  go_ret
  exact ⟨rfl, HB.out⟩
def twoB (c : Nat) : Bool := decide (c = 61 ∨ c = 33 ∨ c = 60 ∨ c = 62)
def oneB (c : Nat) : Bool := decide (c = 59 ∨ c = 44 ∨ c = 40 ∨ c = 41 ∨ c = 38 ∨ c = 60 ∨ c = 62)
set_option maxRecDepth 100000 in
theorem set_two : ∀ c, c < 256 → inSet ⟨#[61, 33, 60, 62]⟩ c = twoB c := all_256 (by kernel_rfl)
set_option maxRecDepth 100000 in
theorem set_one : ∀ c, c < 256 → inSet ⟨#[59, 44, 40, 41, 38, 60, 62]⟩ c = oneB c := all_256 (by kernel_rfl)
set_option maxRecDepth 100000 in
theorem sig5_two {f : Nat → Nat} {n : Nat} (h : 1 < n) (h1 : f 1 = 61) (h2 : twoB (f 0) = true) : sigF f n 0 = 2 := by
  have := of_decide_eq_true h2
  unfold sigF
  rw [if_neg (by omega)]
  split
  · rw [if_pos ⟨h, h1⟩]
  · rw [if_pos (by omega), if_pos ⟨h, h1⟩]
set_option maxRecDepth 100000 in
theorem sig5_one {f : Nat → Nat} {n : Nat} (h : ¬ (1 < n ∧ f 1 = 61 ∧ twoB (f 0) = true)) (h2 : oneB (f 0) = true) : sigF f n 0 = 1 := by
  have := of_decide_eq_true h2
  unfold sigF
  split
  · rfl
  · have h3 : f 0 = 60 ∨ f 0 = 62 := by omega
    rw [if_pos h3, if_neg (fun g => h ⟨g.1, g.2, decide_eq_true (by omega)⟩)]
set_option maxRecDepth 100000 in
theorem sig5_none {f : Nat → Nat} {n : Nat} (h : ¬ (1 < n ∧ f 1 = 61 ∧ twoB (f 0) = true)) (h2 : oneB (f 0) = false) : sigF f n 0 = 0 := by
  have := of_decide_eq_false h2
  unfold sigF
  rw [if_neg (by omega), if_neg (by omega)]
  split
  · rename_i h3
    rw [if_neg (fun g => h ⟨g.1, g.2, decide_eq_true (by omega)⟩)]
  · rfl
set_option maxRecDepth 100000 in
theorem p_two {s : ByteArray} {c : Nat} (hc : c < 256) {b : Bool} (h : twoB c = b) (p : Addr) (w : World) (hp : w.cell? p = some (.string ⟨#[61, 33, 60, 62]⟩)) : Calls Tryz.prog 141 #[.int .u8 (c : Int), .pointer (some p)] w fun e w' => e = .returned (.bool b) ∧ w' = w := by
  have := p_oneOf1 ⟨#[61, 33, 60, 62]⟩ c p w hp
  rw [set_two c hc, h] at this; exact this
set_option maxRecDepth 100000 in
theorem p_one {s : ByteArray} {c : Nat} (hc : c < 256) {b : Bool} (h : oneB c = b) (p : Addr) (w : World) (hp : w.cell? p = some (.string ⟨#[59, 44, 40, 41, 38, 60, 62]⟩)) : Calls Tryz.prog 141 #[.int .u8 (c : Int), .pointer (some p)] w fun e w' => e = .returned (.bool b) ∧ w' = w := by
  have := p_oneOf1 ⟨#[59, 44, 40, 41, 38, 60, 62]⟩ c p w hp
  rw [set_one c hc, h] at this; exact this
set_option maxHeartbeats 1000000 in
set_option maxRecDepth 100000 in
theorem p_signLen_two (s : ByteArray) (hs : s.size ≤ 65536) (hp : 1 < s.size) (h1 : byt s 1 = 61) (h2 : twoB (byt s 0) = true) (w : World) : Calls Tryz.prog 134 #[.string s] w fun e w' => e = .returned (.int .i64 2) ∧ Below w.heap.size w w' := by
  have h0 : 0 < s.size := by omega
  have e0 := byt_is h0
  have e1 := byt_is hp
  have h2'' : (1 : Int) < (s.size : Int) := by omega
  have HC := Lib.hid (fun p w hp => p_two (s := s) (byt_lt s 0) h2 p w hp)
  rw [h1] at e1
  clear h1 h2
  generalize byt s 0 = c at e0 HC
  go_enter Tryz.func134, Tryz.ntmps134
  go_wp2
  refine wp_region_held_drew (S := fun _ => True) (by kernel_rfl) trivial (fun hHeld => ?_)
  have HB0 := Lib.hid (below_drawn (Below.refl w.heap.size w) 1)
  generalize hY : w.drew = Y at ⊢
  have HBY : Hid (Below w.heap.size w Y) := Lib.hid (hY ▸ HB0.out)
  clear HB0 hY
  refine wpAnyH_take (i := 0) (v := ?_) rfl (by kernel_rfl) (by kernel_rfl) (by kernel_rfl) (fun _ _ _ h => h) (Or.inl ⟨by rfl, ?_⟩) (by assumption) ?_
  rotate_left
  · intro wS hSw
    (skip)
    go_simp
    all_goals with_reducible rfl
  (try simp only [List.getElem_toArray, List.getElem_cons_zero, List.getElem_cons_succ, Act.put, List.setIfInBounds_toArray, List.set_cons_zero, List.set_cons_succ])
  refine wpAnyH_take (i := 1) (v := ?_) rfl (by kernel_rfl) (by kernel_rfl) (by kernel_rfl) (fun _ _ _ h => h) (Or.inl ⟨by rfl, ?_⟩) (by assumption) ?_
  rotate_left
  · intro wS hSw
    (skip)
    go_simp
    all_goals with_reducible rfl
  (try simp only [List.getElem_toArray, List.getElem_cons_zero, List.getElem_cons_succ, Act.put, List.setIfInBounds_toArray, List.set_cons_zero, List.set_cons_succ])
  refine wpAnyH_take (i := 2) (v := ?_) rfl (by kernel_rfl) (by kernel_rfl) (by kernel_rfl) (fun _ _ _ h => h) (Or.inl ⟨by rfl, ?_⟩) (by assumption) ?_
  rotate_left
  · intro wS hSw
    (skip)
    go_simp
    all_goals with_reducible rfl
  (try simp only [List.getElem_toArray, List.getElem_cons_zero, List.getElem_cons_succ, Act.put, List.setIfInBounds_toArray, List.set_cons_zero, List.set_cons_succ])
  refine wpAnyH_take (i := 3) (v := ?_) rfl (by kernel_rfl) (by kernel_rfl) (by kernel_rfl) (fun _ _ _ h => h) (Or.inl ⟨by rfl, ?_⟩) (by assumption) ?_
  rotate_left
  · intro wS hSw
    (skip)
    go_simp
    all_goals with_reducible rfl
  (try simp only [List.getElem_toArray, List.getElem_cons_zero, List.getElem_cons_succ, Act.put, List.setIfInBounds_toArray, List.set_cons_zero, List.set_cons_succ])
  refine wpAnyH_take (i := 4) (v := ?_) rfl (by kernel_rfl) (by kernel_rfl) (by kernel_rfl) (fun _ _ _ h => h) (Or.inl ⟨by rfl, ?_⟩) (by assumption) ?_
  rotate_left
  · intro wS hSw
    (skip)
    go_simp
    all_goals with_reducible rfl
  (try simp only [List.getElem_toArray, List.getElem_cons_zero, List.getElem_cons_succ, Act.put, List.setIfInBounds_toArray, List.set_cons_zero, List.set_cons_succ])
  refine wpAnyH_take (i := 5) (v := ?_) rfl (by kernel_rfl) (by kernel_rfl) (by kernel_rfl) (fun _ _ _ h => h) (Or.inl ⟨by rfl, ?_⟩) (by assumption) ?_
  rotate_left
  · intro wS hSw
    (skip)
    go_simp
    all_goals with_reducible rfl
  (try simp only [List.getElem_toArray, List.getElem_cons_zero, List.getElem_cons_succ, Act.put, List.setIfInBounds_toArray, List.set_cons_zero, List.set_cons_succ])
  refine wpAnyH_take (i := 6) (v := ?_) rfl (by kernel_rfl) (by kernel_rfl) (by kernel_rfl) (fun _ _ _ h => h) (Or.inl ⟨by rfl, ?_⟩) (by assumption) ?_
  rotate_left
  · intro wS hSw
    (skip)
    go_simp
    all_goals with_reducible rfl
  (try simp only [List.getElem_toArray, List.getElem_cons_zero, List.getElem_cons_succ, Act.put, List.setIfInBounds_toArray, List.set_cons_zero, List.set_cons_succ])
  refine wpAnyH_take (i := 7) (v := ?_) rfl (by kernel_rfl) (by kernel_rfl) (by kernel_rfl) (fun _ _ _ h => h) (Or.inl ⟨by rfl, ?_⟩) (by assumption) ?_
  rotate_left
  · intro wS hSw
    (skip)
    go_simp
    all_goals with_reducible rfl
  (try simp only [List.getElem_toArray, List.getElem_cons_zero, List.getElem_cons_succ, Act.put, List.setIfInBounds_toArray, List.set_cons_zero, List.set_cons_succ])
  refine wpAnyH_take (i := 8) (v := ?_) rfl (by kernel_rfl) (by kernel_rfl) (by kernel_rfl) (fun _ _ _ h => h) (Or.inl ⟨by rfl, ?_⟩) (by assumption) ?_
  rotate_left
  · intro wS hSw
    (skip)
    go_simp
    all_goals with_reducible rfl
  (try simp only [List.getElem_toArray, List.getElem_cons_zero, List.getElem_cons_succ, Act.put, List.setIfInBounds_toArray, List.set_cons_zero, List.set_cons_succ])
  refine wpAnyH_take (i := 10) (v := ?_) rfl (by kernel_rfl) (by kernel_rfl) (by kernel_rfl) (fun _ _ _ h => h) (Or.inl ⟨by rfl, ?_⟩) (by assumption) ?_
  rotate_left
  · intro wS hSw
    (skip)
    go_simp
    all_goals with_reducible rfl
  (try simp only [List.getElem_toArray, List.getElem_cons_zero, List.getElem_cons_succ, Act.put, List.setIfInBounds_toArray, List.set_cons_zero, List.set_cons_succ])
  refine wpAnyH_take (i := 11) (v := ?_) rfl (by kernel_rfl) (by kernel_rfl) (by kernel_rfl) (fun _ _ _ h => h) (Or.inl ⟨by rfl, ?_⟩) (by assumption) ?_
  rotate_left
  · intro wS hSw
    (skip)
    go_simp
    all_goals with_reducible rfl
  (try simp only [List.getElem_toArray, List.getElem_cons_zero, List.getElem_cons_succ, Act.put, List.setIfInBounds_toArray, List.set_cons_zero, List.set_cons_succ])
  refine held_one (i := 9) (by kernel_rfl) rfl (fun K hK => ?_)
  go_simp
  refine (p_oneOf _ _).mono ?_
  rintro e w1 ⟨rfl, rfl⟩
  refine hK.out _ _ trivial (fun hH2 => ?_)
  clear hK K
  refine held_one (i := 12) (by kernel_rfl) rfl (fun K hK => ?_)
  go_simp
  refine (HC.out ⟨Y.heap.size, 0, none⟩ _ (by simp)).mono ?_
  rintro e w2 ⟨rfl, rfl⟩
  refine hK.out _ _ trivial (fun _ => ?_)
  clear hK K hH2
  refine wpAnyH_take (i := 13) (v := ?_) rfl (by kernel_rfl) (by kernel_rfl) (by kernel_rfl) (fun _ _ _ h => h) (Or.inl ⟨by rfl, ?_⟩) (by assumption) ?_
  rotate_left
  · intro wS hSw
    (skip)
    go_simp
    all_goals with_reducible rfl
  (try simp only [List.getElem_toArray, List.getElem_cons_zero, List.getElem_cons_succ, Act.put, List.setIfInBounds_toArray, List.set_cons_zero, List.set_cons_succ])
  refine wpAnyH_done (by kernel_rfl) ?_ _
  have HBZ := Lib.hid (HBY.out.alloc HBY.out.size (.cells #[.string ⟨#[61, 33, 60, 62]⟩] 9))
  generalize hZ : Y.alloc (.cells #[.string ⟨#[61, 33, 60, 62]⟩] 9) = Z at HBZ ⊢
  clear HBY hHeld hZ
  go_wp2
  go_ret
  exact ⟨rfl, HBZ.out⟩
set_option maxHeartbeats 2000000 in
set_option maxRecDepth 100000 in
theorem p_signLen_short (s : ByteArray) (hs : s.size ≤ 65536) (hp : 0 < s.size) (h : ¬ 1 < s.size) (w : World) : Calls Tryz.prog 134 #[.string s] w fun e w' => e = .returned (.int .i64 (sigF (byt s) s.size 0 : Int)) ∧ Below w.heap.size w w' := by
  have hno : ¬ (1 < s.size ∧ byt s 1 = 61 ∧ twoB (byt s 0) = true) := fun g => h g.1
  have h2'' : ¬ (1 : Int) < (s.size : Int) := by omega
  have h0 : 0 < s.size := hp
  have e0 := byt_is h0
  have HG := Lib.hid (show sigF (byt s) s.size 0 = (bif oneB (byt s 0) then 1 else 0) by
    cases ho : oneB (byt s 0) with
    | true => exact sig5_one hno ho
    | false => exact sig5_none hno ho)
  have HD0 := Lib.hid (fun b (hb : oneB (byt s 0) = b) p w hp => p_one (s := s) (byt_lt s 0) hb p w hp)
  clear hno
  cases ho : oneB (byt s 0) with
  | _ =>
    have HD := Lib.hid (HD0.out _ ho)
    rw [ho] at HG
    clear ho HD0
    generalize byt s 0 = c at e0 HD
    go_enter Tryz.func134, Tryz.ntmps134
    go_wp2
    have g9 : ¬ (1 : Int) < (s.size : Int) := by omega
    go_quiet (fail)
    go_wp2
    have HZ0 := Lib.hid (below_drawn (Below.refl w.heap.size w) nq)
    generalize hZ0 : w.drewN nq = Z0 at HZ0 ⊢
    clear hZ0
    refine wp_region_held_drew (S := fun _ => True) (by kernel_rfl) trivial (fun hHeld => ?_)
    have HB0 := Lib.hid (below_drawn HZ0.out 1)
    generalize hY : Z0.drew = Y at ⊢
    have HBY : Hid (Below w.heap.size w Y) := Lib.hid (hY ▸ HB0.out)
    clear HB0 hY
    refine wpAnyH_take (i := 1) (v := ?_) rfl (by kernel_rfl) (by kernel_rfl) (by kernel_rfl) (fun _ _ _ h => h) (Or.inl ⟨by rfl, ?_⟩) (by assumption) ?_
    rotate_left
    · intro wS hSw
      (skip)
      go_simp
      all_goals with_reducible rfl
    (try simp only [List.getElem_toArray, List.getElem_cons_zero, List.getElem_cons_succ, Act.put, List.setIfInBounds_toArray, List.set_cons_zero, List.set_cons_succ])
    refine wpAnyH_take (i := 2) (v := ?_) rfl (by kernel_rfl) (by kernel_rfl) (by kernel_rfl) (fun _ _ _ h => h) (Or.inl ⟨by rfl, ?_⟩) (by assumption) ?_
    rotate_left
    · intro wS hSw
      (skip)
      go_simp
      all_goals with_reducible rfl
    (try simp only [List.getElem_toArray, List.getElem_cons_zero, List.getElem_cons_succ, Act.put, List.setIfInBounds_toArray, List.set_cons_zero, List.set_cons_succ])
    refine held_one (i := 0) (by kernel_rfl) rfl (fun K hK => ?_)
    go_simp
    refine (p_oneOf _ _).mono ?_
    rintro e w1 ⟨rfl, rfl⟩
    refine hK.out _ _ trivial (fun hH2 => ?_)
    clear hK K
    refine held_one (i := 3) (by kernel_rfl) rfl (fun K hK => ?_)
    go_simp
    refine (HD.out ⟨Y.heap.size, 0, none⟩ _ (by simp)).mono ?_
    rintro e w2 ⟨rfl, rfl⟩
    refine hK.out _ _ trivial (fun _ => ?_)
    clear hK K hH2
    refine wpAnyH_done (by kernel_rfl) ?_ _
    have HBZ := Lib.hid (HBY.out.alloc HBY.out.size (.cells #[.string ⟨#[59, 44, 40, 41, 38, 60, 62]⟩] 9))
    generalize hZ : Y.alloc (.cells #[.string ⟨#[59, 44, 40, 41, 38, 60, 62]⟩] 9) = Z at HBZ ⊢
    clear HBY hHeld hZ
    go_wp2
    go_ret
    exact ⟨by rw [HG.out]; rfl, HBZ.out⟩
set_option maxHeartbeats 2000000 in
set_option maxRecDepth 100000 in
theorem p_signLen_else (s : ByteArray) (hs : s.size ≤ 65536) (hp : 0 < s.size) (h : 1 < s.size) (hne : ¬ byt s 1 = 61) (w : World) : Calls Tryz.prog 134 #[.string s] w fun e w' => e = .returned (.int .i64 (sigF (byt s) s.size 0 : Int)) ∧ Below w.heap.size w w' := by
  have hno : ¬ (1 < s.size ∧ byt s 1 = 61 ∧ twoB (byt s 0) = true) := fun g => hne g.2.1
  have h2'' : (1 : Int) < (s.size : Int) := by omega
  have e1 := byt_is h
  have b1 : (((byt s 1 : Nat) : Int) == 61) = false := beq_false_of_ne (by omega)
  have b1' : ¬ ((byt s 1 : Nat) : Int) = 61 := by omega
  clear hne
  have h0 : 0 < s.size := hp
  have e0 := byt_is h0
  have HG := Lib.hid (show sigF (byt s) s.size 0 = (bif oneB (byt s 0) then 1 else 0) by
    cases ho : oneB (byt s 0) with
    | true => exact sig5_one hno ho
    | false => exact sig5_none hno ho)
  have HD0 := Lib.hid (fun b (hb : oneB (byt s 0) = b) p w hp => p_one (s := s) (byt_lt s 0) hb p w hp)
  clear hno
  cases ho : oneB (byt s 0) with
  | _ =>
    have HD := Lib.hid (HD0.out _ ho)
    rw [ho] at HG
    clear ho HD0
    generalize byt s 0 = c at e0 HD
    generalize byt s 1 = c1 at e1 b1 b1'
    go_enter Tryz.func134, Tryz.ntmps134
    go_wp2
    have g9 : (1 : Int) < (s.size : Int) := by omega
    have g8 : ¬ (c1 : Int) = 61 := by omega
    go_quiet (fail)
    go_wp2
    have HZ0 := Lib.hid (below_drawn (Below.refl w.heap.size w) nq)
    generalize hZ0 : w.drewN nq = Z0 at HZ0 ⊢
    clear hZ0
    refine wp_region_held_drew (S := fun _ => True) (by kernel_rfl) trivial (fun hHeld => ?_)
    have HB0 := Lib.hid (below_drawn HZ0.out 1)
    generalize hY : Z0.drew = Y at ⊢
    have HBY : Hid (Below w.heap.size w Y) := Lib.hid (hY ▸ HB0.out)
    clear HB0 hY
    refine wpAnyH_take (i := 1) (v := ?_) rfl (by kernel_rfl) (by kernel_rfl) (by kernel_rfl) (fun _ _ _ h => h) (Or.inl ⟨by rfl, ?_⟩) (by assumption) ?_
    rotate_left
    · intro wS hSw
      (skip)
      go_simp
      all_goals with_reducible rfl
    (try simp only [List.getElem_toArray, List.getElem_cons_zero, List.getElem_cons_succ, Act.put, List.setIfInBounds_toArray, List.set_cons_zero, List.set_cons_succ])
    refine wpAnyH_take (i := 2) (v := ?_) rfl (by kernel_rfl) (by kernel_rfl) (by kernel_rfl) (fun _ _ _ h => h) (Or.inl ⟨by rfl, ?_⟩) (by assumption) ?_
    rotate_left
    · intro wS hSw
      (skip)
      go_simp
      all_goals with_reducible rfl
    (try simp only [List.getElem_toArray, List.getElem_cons_zero, List.getElem_cons_succ, Act.put, List.setIfInBounds_toArray, List.set_cons_zero, List.set_cons_succ])
    refine held_one (i := 0) (by kernel_rfl) rfl (fun K hK => ?_)
    go_simp
    refine (p_oneOf _ _).mono ?_
    rintro e w1 ⟨rfl, rfl⟩
    refine hK.out _ _ trivial (fun hH2 => ?_)
    clear hK K
    refine held_one (i := 3) (by kernel_rfl) rfl (fun K hK => ?_)
    go_simp
    refine (HD.out ⟨Y.heap.size, 0, none⟩ _ (by simp)).mono ?_
    rintro e w2 ⟨rfl, rfl⟩
    refine hK.out _ _ trivial (fun _ => ?_)
    clear hK K hH2
    refine wpAnyH_done (by kernel_rfl) ?_ _
    have HBZ := Lib.hid (HBY.out.alloc HBY.out.size (.cells #[.string ⟨#[59, 44, 40, 41, 38, 60, 62]⟩] 9))
    generalize hZ : Y.alloc (.cells #[.string ⟨#[59, 44, 40, 41, 38, 60, 62]⟩] 9) = Z at HBZ ⊢
    clear HBY hHeld hZ
    go_wp2
    go_ret
    exact ⟨by rw [HG.out]; rfl, HBZ.out⟩
set_option maxHeartbeats 2000000 in
set_option maxRecDepth 100000 in
theorem p_signLen_three (s : ByteArray) (hs : s.size ≤ 65536) (hp : 0 < s.size) (h : 1 < s.size) (h1 : byt s 1 = 61) (h3 : twoB (byt s 0) = false) (w : World) : Calls Tryz.prog 134 #[.string s] w fun e w' => e = .returned (.int .i64 (sigF (byt s) s.size 0 : Int)) ∧ Below w.heap.size w w' := by
  have hno : ¬ (1 < s.size ∧ byt s 1 = 61 ∧ twoB (byt s 0) = true) := fun g => by rw [h3] at g; exact absurd g.2.2 (by decide)
  have h2'' : (1 : Int) < (s.size : Int) := by omega
  have e1 := byt_is h
  have HC0 := Lib.hid (fun p w hp => p_two (s := s) (byt_lt s 0) h3 p w hp)
  rw [h1] at e1
  clear h1 h3
  have h0 : 0 < s.size := hp
  have e0 := byt_is h0
  have HG := Lib.hid (show sigF (byt s) s.size 0 = (bif oneB (byt s 0) then 1 else 0) by
    cases ho : oneB (byt s 0) with
    | true => exact sig5_one hno ho
    | false => exact sig5_none hno ho)
  have HD0 := Lib.hid (fun b (hb : oneB (byt s 0) = b) p w hp => p_one (s := s) (byt_lt s 0) hb p w hp)
  clear hno
  cases ho : oneB (byt s 0) with
  | _ =>
    have HD := Lib.hid (HD0.out _ ho)
    rw [ho] at HG
    clear ho HD0
    generalize byt s 0 = c at e0 HD HC0
    have HC := HC0
    clear HC0
    go_enter Tryz.func134, Tryz.ntmps134
    go_wp2
    refine wp_region_held_drew (S := fun _ => True) (by kernel_rfl) trivial (fun hHeld => ?_)
    have HB0 := Lib.hid (below_drawn (Below.refl w.heap.size w) 1)
    generalize hY : w.drew = Y at ⊢
    have HBY : Hid (Below w.heap.size w Y) := Lib.hid (hY ▸ HB0.out)
    clear HB0 hY
    refine wpAnyH_take (i := 0) (v := ?_) rfl (by kernel_rfl) (by kernel_rfl) (by kernel_rfl) (fun _ _ _ h => h) (Or.inl ⟨by rfl, ?_⟩) (by assumption) ?_
    rotate_left
    · intro wS hSw
      (skip)
      go_simp
      all_goals with_reducible rfl
    (try simp only [List.getElem_toArray, List.getElem_cons_zero, List.getElem_cons_succ, Act.put, List.setIfInBounds_toArray, List.set_cons_zero, List.set_cons_succ])
    refine wpAnyH_take (i := 1) (v := ?_) rfl (by kernel_rfl) (by kernel_rfl) (by kernel_rfl) (fun _ _ _ h => h) (Or.inl ⟨by rfl, ?_⟩) (by assumption) ?_
    rotate_left
    · intro wS hSw
      (skip)
      go_simp
      all_goals with_reducible rfl
    (try simp only [List.getElem_toArray, List.getElem_cons_zero, List.getElem_cons_succ, Act.put, List.setIfInBounds_toArray, List.set_cons_zero, List.set_cons_succ])
    refine wpAnyH_take (i := 2) (v := ?_) rfl (by kernel_rfl) (by kernel_rfl) (by kernel_rfl) (fun _ _ _ h => h) (Or.inl ⟨by rfl, ?_⟩) (by assumption) ?_
    rotate_left
    · intro wS hSw
      (skip)
      go_simp
      all_goals with_reducible rfl
    (try simp only [List.getElem_toArray, List.getElem_cons_zero, List.getElem_cons_succ, Act.put, List.setIfInBounds_toArray, List.set_cons_zero, List.set_cons_succ])
    refine wpAnyH_take (i := 3) (v := ?_) rfl (by kernel_rfl) (by kernel_rfl) (by kernel_rfl) (fun _ _ _ h => h) (Or.inl ⟨by rfl, ?_⟩) (by assumption) ?_
    rotate_left
    · intro wS hSw
      (skip)
      go_simp
      all_goals with_reducible rfl
    (try simp only [List.getElem_toArray, List.getElem_cons_zero, List.getElem_cons_succ, Act.put, List.setIfInBounds_toArray, List.set_cons_zero, List.set_cons_succ])
    refine wpAnyH_take (i := 4) (v := ?_) rfl (by kernel_rfl) (by kernel_rfl) (by kernel_rfl) (fun _ _ _ h => h) (Or.inl ⟨by rfl, ?_⟩) (by assumption) ?_
    rotate_left
    · intro wS hSw
      (skip)
      go_simp
      all_goals with_reducible rfl
    (try simp only [List.getElem_toArray, List.getElem_cons_zero, List.getElem_cons_succ, Act.put, List.setIfInBounds_toArray, List.set_cons_zero, List.set_cons_succ])
    refine wpAnyH_take (i := 5) (v := ?_) rfl (by kernel_rfl) (by kernel_rfl) (by kernel_rfl) (fun _ _ _ h => h) (Or.inl ⟨by rfl, ?_⟩) (by assumption) ?_
    rotate_left
    · intro wS hSw
      (skip)
      go_simp
      all_goals with_reducible rfl
    (try simp only [List.getElem_toArray, List.getElem_cons_zero, List.getElem_cons_succ, Act.put, List.setIfInBounds_toArray, List.set_cons_zero, List.set_cons_succ])
    refine wpAnyH_take (i := 6) (v := ?_) rfl (by kernel_rfl) (by kernel_rfl) (by kernel_rfl) (fun _ _ _ h => h) (Or.inl ⟨by rfl, ?_⟩) (by assumption) ?_
    rotate_left
    · intro wS hSw
      (skip)
      go_simp
      all_goals with_reducible rfl
    (try simp only [List.getElem_toArray, List.getElem_cons_zero, List.getElem_cons_succ, Act.put, List.setIfInBounds_toArray, List.set_cons_zero, List.set_cons_succ])
    refine wpAnyH_take (i := 7) (v := ?_) rfl (by kernel_rfl) (by kernel_rfl) (by kernel_rfl) (fun _ _ _ h => h) (Or.inl ⟨by rfl, ?_⟩) (by assumption) ?_
    rotate_left
    · intro wS hSw
      (skip)
      go_simp
      all_goals with_reducible rfl
    (try simp only [List.getElem_toArray, List.getElem_cons_zero, List.getElem_cons_succ, Act.put, List.setIfInBounds_toArray, List.set_cons_zero, List.set_cons_succ])
    refine wpAnyH_take (i := 8) (v := ?_) rfl (by kernel_rfl) (by kernel_rfl) (by kernel_rfl) (fun _ _ _ h => h) (Or.inl ⟨by rfl, ?_⟩) (by assumption) ?_
    rotate_left
    · intro wS hSw
      (skip)
      go_simp
      all_goals with_reducible rfl
    (try simp only [List.getElem_toArray, List.getElem_cons_zero, List.getElem_cons_succ, Act.put, List.setIfInBounds_toArray, List.set_cons_zero, List.set_cons_succ])
    refine wpAnyH_take (i := 10) (v := ?_) rfl (by kernel_rfl) (by kernel_rfl) (by kernel_rfl) (fun _ _ _ h => h) (Or.inl ⟨by rfl, ?_⟩) (by assumption) ?_
    rotate_left
    · intro wS hSw
      (skip)
      go_simp
      all_goals with_reducible rfl
    (try simp only [List.getElem_toArray, List.getElem_cons_zero, List.getElem_cons_succ, Act.put, List.setIfInBounds_toArray, List.set_cons_zero, List.set_cons_succ])
    refine wpAnyH_take (i := 11) (v := ?_) rfl (by kernel_rfl) (by kernel_rfl) (by kernel_rfl) (fun _ _ _ h => h) (Or.inl ⟨by rfl, ?_⟩) (by assumption) ?_
    rotate_left
    · intro wS hSw
      (skip)
      go_simp
      all_goals with_reducible rfl
    (try simp only [List.getElem_toArray, List.getElem_cons_zero, List.getElem_cons_succ, Act.put, List.setIfInBounds_toArray, List.set_cons_zero, List.set_cons_succ])
    refine held_one (i := 9) (by kernel_rfl) rfl (fun K hK => ?_)
    go_simp
    refine (p_oneOf _ _).mono ?_
    rintro e w1 ⟨rfl, rfl⟩
    refine hK.out _ _ trivial (fun hH2 => ?_)
    clear hK K
    refine held_one (i := 12) (by kernel_rfl) rfl (fun K hK => ?_)
    go_simp
    refine (HC.out ⟨Y.heap.size, 0, none⟩ _ (by simp)).mono ?_
    rintro e w2 ⟨rfl, rfl⟩
    refine hK.out _ _ trivial (fun _ => ?_)
    clear hK K hH2
    refine wpAnyH_take (i := 13) (v := ?_) rfl (by kernel_rfl) (by kernel_rfl) (by kernel_rfl) (fun _ _ _ h => h) (Or.inl ⟨by rfl, ?_⟩) (by assumption) ?_
    rotate_left
    · intro wS hSw
      (skip)
      go_simp
      all_goals with_reducible rfl
    (try simp only [List.getElem_toArray, List.getElem_cons_zero, List.getElem_cons_succ, Act.put, List.setIfInBounds_toArray, List.set_cons_zero, List.set_cons_succ])
    refine wpAnyH_done (by kernel_rfl) ?_ _
    have HBZ := Lib.hid (HBY.out.alloc HBY.out.size (.cells #[.string ⟨#[61, 33, 60, 62]⟩] 9))
    generalize hZ : Y.alloc (.cells #[.string ⟨#[61, 33, 60, 62]⟩] 9) = Z at HBZ ⊢
    clear HBY hHeld hZ
    go_wp2
    have HZ0 := HBZ
    clear HBZ
    refine wp_region_held_drew (S := fun _ => True) (by kernel_rfl) trivial (fun hHeld => ?_)
    have HB0 := Lib.hid (below_drawn HZ0.out 1)
    generalize hY : Z.drew = Y at ⊢
    have HBY : Hid (Below w.heap.size w Y) := Lib.hid (hY ▸ HB0.out)
    clear HB0 hY
    refine wpAnyH_take (i := 1) (v := ?_) rfl (by kernel_rfl) (by kernel_rfl) (by kernel_rfl) (fun _ _ _ h => h) (Or.inl ⟨by rfl, ?_⟩) (by assumption) ?_
    rotate_left
    · intro wS hSw
      (skip)
      go_simp
      all_goals with_reducible rfl
    (try simp only [List.getElem_toArray, List.getElem_cons_zero, List.getElem_cons_succ, Act.put, List.setIfInBounds_toArray, List.set_cons_zero, List.set_cons_succ])
    refine wpAnyH_take (i := 2) (v := ?_) rfl (by kernel_rfl) (by kernel_rfl) (by kernel_rfl) (fun _ _ _ h => h) (Or.inl ⟨by rfl, ?_⟩) (by assumption) ?_
    rotate_left
    · intro wS hSw
      (skip)
      go_simp
      all_goals with_reducible rfl
    (try simp only [List.getElem_toArray, List.getElem_cons_zero, List.getElem_cons_succ, Act.put, List.setIfInBounds_toArray, List.set_cons_zero, List.set_cons_succ])
    refine held_one (i := 0) (by kernel_rfl) rfl (fun K hK => ?_)
    go_simp
    refine (p_oneOf _ _).mono ?_
    rintro e w1 ⟨rfl, rfl⟩
    refine hK.out _ _ trivial (fun hH2 => ?_)
    clear hK K
    refine held_one (i := 3) (by kernel_rfl) rfl (fun K hK => ?_)
    go_simp
    refine (HD.out ⟨Y.heap.size, 0, none⟩ _ (by simp)).mono ?_
    rintro e w2 ⟨rfl, rfl⟩
    refine hK.out _ _ trivial (fun _ => ?_)
    clear hK K hH2
    refine wpAnyH_done (by kernel_rfl) ?_ _
    have HBZ := Lib.hid (HBY.out.alloc HBY.out.size (.cells #[.string ⟨#[59, 44, 40, 41, 38, 60, 62]⟩] 9))
    generalize hZ2 : Y.alloc (.cells #[.string ⟨#[59, 44, 40, 41, 38, 60, 62]⟩] 9) = Z2 at HBZ ⊢
    clear HBY hHeld hZ2
    go_wp2
    go_ret
    exact ⟨by rw [HG.out]; rfl, HBZ.out⟩
set_option maxRecDepth 100000 in
theorem p_signLen (s : ByteArray) (hs : s.size ≤ 65536) (hp : 0 < s.size) (w : World) : Calls Tryz.prog 134 #[.string s] w fun e w' => e = .returned (.int .i64 (sigF (byt s) s.size 0 : Int)) ∧ Below w.heap.size w w' := by
  by_cases h : 1 < s.size
  · by_cases h1 : byt s 1 = 61
    · cases h2 : twoB (byt s 0) with
      | true => rw [sig5_two h h1 h2]; exact p_signLen_two s hs h h1 h2 w
      | false => exact p_signLen_three s hs hp h h1 h2 w
    · exact p_signLen_else s hs hp h h1 w
  · exact p_signLen_short s hs hp h w
end Go.Proofs.YtgeapkjegemkeaaGreatDoor
