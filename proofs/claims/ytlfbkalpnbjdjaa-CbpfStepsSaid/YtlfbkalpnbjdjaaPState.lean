/-
  A machine of the program: what New makes is all in new memory; what State tells. Conditions: those that each names.
-/
import Derived.Test.YtlfbkalpnbjdjaaPRun
namespace Go.Proofs.Ytlfbkalpnbjdjaa
open Go Go.RowKit
set_option linter.unusedSimpArgs false
set_option linter.unusedVariables false

/-- What a clone leaves: a slice in new memory, or nil. -/
def CloneQ (w : World) (n : Nat) (R : World → Option Addr → Prop) (e : Ending) (w' : World) : Prop := ∃ A cap, e = .returned (.slice A n cap) ∧ R w' A ∧ Below w.heap.size w w' ∧ ∀ ad, A = some ad → w.heap.size ≤ ad.block
theorem new_ins (w : World) (A : Option Addr) (n cap : Nat) (q : Nat → Ins) (hn : n * 8 ≤ 140737488351232) (h : ProgAt w A n q) :
    Calls Try.prog 31 #[.slice A n cap] w (CloneQ w n fun w' A' => ProgAt w' A' n q) := by
  rcases A with _ | ad
  · have hn0 : n = 0 := by
      rcases Nat.eq_zero_or_pos n with g | g
      · exact g
      · obtain ⟨_, _, e, _⟩ := h g; cases e
    subst hn0
    clear h
    have hq := nil_eq_ins cap
    go_enter Try.func31, Try.ntmps31
    go_wp2
    go_ret
    exact ⟨none, 0, rfl, fun h => absurd h (by omega), Below.refl _ _, fun _ h => by cases h⟩
  · have HS := Lib.hid ((holds_of_prog h).below (box_below w (.cells #[] 43)))
    have hq := some_eq_ins ad n cap
    clear h
    go_enter Try.func31, Try.ntmps31
    go_wp2_with (at_builtin; refine wpList_append_rows _ rfl (.tmp 5) (.tmp 6) 22 rfl 43 (.agg #[.int .u16 0, .int .u8 0, .int .u8 0, .int .u32 0]) 4 8 Try.underlying22 info_ins rfl (by decide) w.heap.size 0 0 (fun _ => undef) rfl (World.rowIs_alloc w #[] 43 (fun _ => undef) (fun i hi => absurd hi (by simp))) (Nat.le_refl _) (by decide) (some ad) n cap (progF q) rfl HS.out (progF_one q) (by unfold maxLen; omega) (by omega) ?_; intro g1 cap1 F1 w1 hr1 hc1 hm1 _ hF1 hg1 hgg1; simp only [Nat.zero_add, Nat.zero_mul] at hc1 hF1; obtain ⟨hb1, hge1⟩ := append_new_below hg1 hgg1; clear hg1 hgg1; have HF1 := Lib.hid hF1; clear hF1)
    go_ret
    exact ⟨some ⟨g1, 0, none⟩, cap1, by simp, prog_of_row hr1 HF1.out (by omega), hb1, fun ad h => by injection h with h; subst h; exact hge1⟩

theorem new_bytes (w : World) (A : Option Addr) (n cap : Nat) (z : Nat → Int) (hn : n ≤ 140737488351232) (h : Holds w A n fun i => .int .u8 (z i)) :
    Calls Try.prog 32 #[.slice A n cap] w (CloneQ w n fun w' A' => Holds w' A' n fun i => .int .u8 (z i)) := by
  rcases A with _ | ad
  · have hn0 : n = 0 := by
      rcases Nat.eq_zero_or_pos n with g | g
      · exact g
      · obtain ⟨_, _, e, _⟩ := h g; cases e
    subst hn0
    clear h
    have hq := nil_eq_u8 cap
    go_enter Try.func32, Try.ntmps32
    go_wp2
    go_ret
    exact ⟨none, 0, rfl, fun h => absurd h (by omega), Below.refl _ _, fun _ h => by cases h⟩
  · have HS := Lib.hid (h.below (box_below w (.cells #[] 5)))
    have hq := some_eq_u8 ad n cap
    clear h
    go_enter Try.func32, Try.ntmps32
    go_wp2_with (at_builtin; refine wpList_append_row _ rfl (.tmp 5) (.tmp 6) 25 rfl 5 (.int .u8 0) 1 Try.underlying25 rfl rfl w.heap.size 0 0 (fun _ => undef) rfl (World.rowIs_alloc w #[] 5 (fun _ => undef) (fun i hi => absurd hi (by simp))) (Nat.le_refl _) (by decide) (some ad) n cap (fun i => .int .u8 (z i)) rfl HS.out (fun _ => rfl) (by unfold maxLen; omega) (by omega) ?_; intro g1 cap1 F1 w1 hr1 hc1 hm1 _ hF1 hg1 hgg1; simp only [Nat.zero_add] at hc1 hF1; obtain ⟨hb1, hge1⟩ := append_new_below hg1 hgg1; clear hg1 hgg1; have HF1 := Lib.hid hF1; clear hF1)
    go_ret
    exact ⟨some ⟨g1, 0, none⟩, cap1, by simp, (holds_of_row hr1 (by omega)).congr HF1.out, hb1, fun ad h => by injection h with h; subst h; exact hge1⟩

/-- A machine that has been made, all in new memory. -/
def NewQ (w : World) (n : Nat) (q : Nat → Ins) (dlen : Nat) (z : Nat → Int) (e : Ending) (w' : World) : Prop :=
  ∃ b qa qcap da dcap mb, e = .returned (.pointer (some ⟨b, 0, none⟩)) ∧ PReady w' b qa n qcap q da dlen dcap z mb Mach.start ∧ Below w.heap.size w w' ∧ w.heap.size ≤ b ∧ w.heap.size ≤ mb ∧ (∀ ad, qa = some ad → w.heap.size ≤ ad.block) ∧ (∀ ad, da = some ad → w.heap.size ≤ ad.block)
theorem cbpf_NewQ (w : World) (qa : Option Addr) (n qcap : Nat) (q : Nat → Ins) (da : Option Addr) (dlen dcap : Nat) (z : Nat → Int) (h : PLies w qa n q da dlen z) :
    Calls Try.prog 20 #[.slice qa n qcap, .slice da dlen dcap] w (NewQ w n q dlen z) := by
  have HL := Lib.hid h
  clear h
  go_enter Try.func20, Try.ntmps20
  go_wp2_with (first
    | (go_at_call 31; (with_reducible refine (new_ins _ _ _ _ q HL.out.len HL.out.prog).mono ?_); rintro e w1 ⟨qa1, qcap1, rfl, hp, hb, hnq⟩; have HP1 := Lib.hid hp; have HB1 := Lib.hid hb; have HN1 := Lib.hid hnq; have HL1 := Lib.hid (HL.out.below hb); clear hp hb hnq)
    | (go_at_call 32; (with_reducible refine (new_bytes _ _ _ _ z HL1.out.dlen HL1.out.data).mono ?_); rintro e w2 ⟨da1, dcap1, rfl, hd, hb, hnd⟩; have HD2 := Lib.hid hd; have HP2 := Lib.hid (HP1.out.below hb); have HN2 := Lib.hid (fun ad h => Nat.le_trans HB1.out.size (hnd ad h)); have HB2 := Lib.hid (HB1.out.trans (hb.mono HB1.out.size)); clear hd hb hnd HP1 HB1 HL1)
    | (go_at_call 33; (with_reducible refine (cbpf_operations _).mono ?_); rintro e w3 ⟨rfl, hm, hb⟩; have HM3 := Lib.hid hm; have HD3 := Lib.hid (HD2.out.below hb); have HP3 := Lib.hid (HP2.out.below hb); have hmb := HB2.out.size; have HB3 := Lib.hid (HB2.out.trans (hb.mono HB2.out.size)); clear hm hb HP2 HD2 HB2))
  go_ret
  have hbx := box_below w3 (.cells #[.slice qa1 n qcap1, .slice da1 dlen dcap1, .map (some w2.heap.size), .int .u32 0, .int .u32 0, .int .u32 0, .int .u32 0, .int .u32 0, .int .u32 0, .int .u32 0, .int .u32 0, .int .u32 0, .int .u32 0, .int .u32 0, .int .u32 0, .int .u32 0, .int .u32 0, .int .u32 0, .int .u32 0, .int .u32 0, .int .u32 0, .int .i64 0, .int .i64 0, .bool false, .int .u32 0, .int .i64 0] 65)
  have hml := HM3.out.lt
  refine ⟨w3.heap.size, qa1, qcap1, da1, dcap1, w2.heap.size, rfl, ⟨pmach_new w3 qa1 da1 n qcap1 dlen dcap1 w2.heap.size, HP3.out.below hbx, fun h64 => ?_, fun ad hn e => ?_, fun ad h64 e => ?_, by have := HL.out.len; omega, HL.out.ok, by decide, HM3.out.below hbx hml, Nat.ne_of_lt hml⟩, HB3.out.trans (hbx.mono HB3.out.size), HB3.out.size, hmb, HN1.out, HN2.out⟩
  · obtain ⟨db, doff, e, hl, hc⟩ := (HD3.out.below hbx) (by omega)
    exact ⟨db, doff, e, hl, HL.out.bytes, fun i hi => hc i (by omega)⟩
  · obtain ⟨qb, qo, e', hl, _⟩ := HP3.out hn
    rw [e] at e'; injection e' with e'; subst e'; exact Nat.ne_of_lt hl
  · obtain ⟨db, doff, e', hl, _⟩ := HD3.out (by omega)
    rw [e] at e'; injection e' with e'; subst e'; exact Nat.ne_of_lt hl

theorem new_words (w : World) (b off : Nat) (f : Nat → Int) (h : Holds w (some ⟨b, off, none⟩) 16 fun i => .int .u32 (f i)) :
    Calls Try.prog 34 #[.slice (some ⟨b, off, none⟩) 16 16] w fun e w' => ∃ g cap F, e = .returned (.slice (some ⟨g, 0, none⟩) 16 cap) ∧ w'.rowIs g 33 cap F ∧ 16 ≤ cap ∧ (∀ k, k < 16 → F k = .int .u32 (f k)) ∧ Below w.heap.size w w' ∧ w.heap.size ≤ g := by
  have HS := Lib.hid (h.below (box_below w (.cells #[] 33)))
  have hq := some_eq_u32 ⟨b, off, none⟩ 16 16
  clear h
  go_enter Try.func34, Try.ntmps34
  go_wp2_with (at_builtin; refine wpList_append_row _ rfl (.tmp 5) (.tmp 6) 44 rfl 33 (.int .u32 0) 4 Try.underlying44 rfl rfl w.heap.size 0 0 (fun _ => undef) rfl (World.rowIs_alloc w #[] 33 (fun _ => undef) (fun i hi => absurd hi (by simp))) (Nat.le_refl _) (by decide) (some ⟨b, off, none⟩) 16 16 (fun i => .int .u32 (f i)) rfl HS.out (fun _ => rfl) (by decide) (by decide) ?_; intro g1 cap1 F1 w1 hr1 hc1 hm1 _ hF1 hg1 hgg1; simp only [Nat.zero_add] at hc1 hF1; obtain ⟨hb1, hge1⟩ := append_new_below hg1 hgg1; clear hg1 hgg1; have HF1 := Lib.hid hF1; clear hF1)
  go_ret
  exact ⟨g1, cap1, F1, by simp, hr1, hc1, HF1.out, hb1, hge1⟩
/-- What State tells. -/
def StateP (w : World) (s : Mach) (e : Ending) (w' : World) : Prop :=
  ∃ g cap F, e = .returned (.tuple #[.int .u32 (s.a.toNat : Int), .int .u32 (s.x.toNat : Int), .slice (some ⟨g, 0, none⟩) 16 cap, .int .i64 (s.place : Int)]) ∧ w'.rowIs g 33 cap F ∧ 16 ≤ cap ∧ (∀ k, k < 16 → F k = .int .u32 ((s.m k).toNat : Int)) ∧ Below w.heap.size w w' ∧ w.heap.size ≤ g
set_option maxHeartbeats 4000000 in
theorem cbpf_State (w : World) (b : Nat) (qv dv mv : Value) (s : Mach) (h : PMAt w b qv dv mv s) :
    Calls Try.prog 22 #[.pointer (some ⟨b, 0, none⟩)] w (StateP w s) := by
  have HM := Lib.hid h
  clear h
  go_enter Try.func22, Try.ntmps22
  go_wp2
  refine wp_region_held_drew (S := fun w' => PMAt w' b qv dv mv s) (by kernel_rfl) HM.out.drew (fun hHeld => ?_)
  have HB1 : Hid (Below w.heap.size w w.drew) := Lib.hid (below_drawn (Below.refl _ _) 1)
  have HM1 : Hid (PMAt w.drew b qv dv mv s) := Lib.hid HM.out.drew
  clear HM
  generalize w.drew = w1 at HB1 HM1 hHeld ⊢
  refine wpAnyH_take (i := 0) (v := ?_) rfl (by kernel_rfl) (by kernel_rfl) (by kernel_rfl) (fun _ _ _ h => h) (Or.inl ⟨by rfl, ?_⟩) (by assumption) ?_
  rotate_left
  · intro wS hSw
    (have q3 : wS.cell? ⟨b, 3, none⟩ = some (.int .u32 (s.a.toNat : Int)) := World.rowIs.cell hSw (i := 3) (by decide); have q4 : wS.cell? ⟨b, 4, none⟩ = some (.int .u32 (s.x.toNat : Int)) := World.rowIs.cell hSw (i := 4) (by decide); have q21 : wS.cell? ⟨b, 21, none⟩ = some (.int .i64 (s.place : Int)) := World.rowIs.cell hSw (i := 21) (by decide); clear hSw)
    go_simp
    all_goals with_reducible rfl
  (try simp only [List.getElem_toArray, List.getElem_cons_zero, List.getElem_cons_succ, Act.put, List.setIfInBounds_toArray, List.set_cons_zero, List.set_cons_succ])
  refine wpAnyH_take (i := 1) (v := ?_) rfl (by kernel_rfl) (by kernel_rfl) (by kernel_rfl) (fun _ _ _ h => h) (Or.inl ⟨by rfl, ?_⟩) (by assumption) ?_
  rotate_left
  · intro wS hSw
    (have q3 : wS.cell? ⟨b, 3, none⟩ = some (.int .u32 (s.a.toNat : Int)) := World.rowIs.cell hSw (i := 3) (by decide); have q4 : wS.cell? ⟨b, 4, none⟩ = some (.int .u32 (s.x.toNat : Int)) := World.rowIs.cell hSw (i := 4) (by decide); have q21 : wS.cell? ⟨b, 21, none⟩ = some (.int .i64 (s.place : Int)) := World.rowIs.cell hSw (i := 21) (by decide); clear hSw)
    go_simp
    all_goals with_reducible rfl
  (try simp only [List.getElem_toArray, List.getElem_cons_zero, List.getElem_cons_succ, Act.put, List.setIfInBounds_toArray, List.set_cons_zero, List.set_cons_succ])
  refine wpAnyH_take (i := 2) (v := ?_) rfl (by kernel_rfl) (by kernel_rfl) (by kernel_rfl) (fun _ _ _ h => h) (Or.inl ⟨by rfl, ?_⟩) (by assumption) ?_
  rotate_left
  · intro wS hSw
    (have q3 : wS.cell? ⟨b, 3, none⟩ = some (.int .u32 (s.a.toNat : Int)) := World.rowIs.cell hSw (i := 3) (by decide); have q4 : wS.cell? ⟨b, 4, none⟩ = some (.int .u32 (s.x.toNat : Int)) := World.rowIs.cell hSw (i := 4) (by decide); have q21 : wS.cell? ⟨b, 21, none⟩ = some (.int .i64 (s.place : Int)) := World.rowIs.cell hSw (i := 21) (by decide); clear hSw)
    go_simp
    all_goals with_reducible rfl
  (try simp only [List.getElem_toArray, List.getElem_cons_zero, List.getElem_cons_succ, Act.put, List.setIfInBounds_toArray, List.set_cons_zero, List.set_cons_succ])
  refine wpAnyH_take (i := 3) (v := ?_) rfl (by kernel_rfl) (by kernel_rfl) (by kernel_rfl) (fun _ _ _ h => h) (Or.inl ⟨by rfl, ?_⟩) (by assumption) ?_
  rotate_left
  · intro wS hSw
    (have q3 : wS.cell? ⟨b, 3, none⟩ = some (.int .u32 (s.a.toNat : Int)) := World.rowIs.cell hSw (i := 3) (by decide); have q4 : wS.cell? ⟨b, 4, none⟩ = some (.int .u32 (s.x.toNat : Int)) := World.rowIs.cell hSw (i := 4) (by decide); have q21 : wS.cell? ⟨b, 21, none⟩ = some (.int .i64 (s.place : Int)) := World.rowIs.cell hSw (i := 21) (by decide); clear hSw)
    go_simp
    all_goals with_reducible rfl
  (try simp only [List.getElem_toArray, List.getElem_cons_zero, List.getElem_cons_succ, Act.put, List.setIfInBounds_toArray, List.set_cons_zero, List.set_cons_succ])
  refine wpAnyH_take (i := 4) (v := ?_) rfl (by kernel_rfl) (by kernel_rfl) (by kernel_rfl) (fun _ _ _ h => h) (Or.inl ⟨by rfl, ?_⟩) (by assumption) ?_
  rotate_left
  · intro wS hSw
    (have q3 : wS.cell? ⟨b, 3, none⟩ = some (.int .u32 (s.a.toNat : Int)) := World.rowIs.cell hSw (i := 3) (by decide); have q4 : wS.cell? ⟨b, 4, none⟩ = some (.int .u32 (s.x.toNat : Int)) := World.rowIs.cell hSw (i := 4) (by decide); have q21 : wS.cell? ⟨b, 21, none⟩ = some (.int .i64 (s.place : Int)) := World.rowIs.cell hSw (i := 21) (by decide); clear hSw)
    go_simp
    all_goals with_reducible rfl
  (try simp only [List.getElem_toArray, List.getElem_cons_zero, List.getElem_cons_succ, Act.put, List.setIfInBounds_toArray, List.set_cons_zero, List.set_cons_succ])
  refine wpAnyH_take (i := 5) (v := ?_) rfl (by kernel_rfl) (by kernel_rfl) (by kernel_rfl) (fun _ _ _ h => h) (Or.inl ⟨by rfl, ?_⟩) (by assumption) ?_
  rotate_left
  · intro wS hSw
    (have q3 : wS.cell? ⟨b, 3, none⟩ = some (.int .u32 (s.a.toNat : Int)) := World.rowIs.cell hSw (i := 3) (by decide); have q4 : wS.cell? ⟨b, 4, none⟩ = some (.int .u32 (s.x.toNat : Int)) := World.rowIs.cell hSw (i := 4) (by decide); have q21 : wS.cell? ⟨b, 21, none⟩ = some (.int .i64 (s.place : Int)) := World.rowIs.cell hSw (i := 21) (by decide); clear hSw)
    go_simp
    all_goals with_reducible rfl
  (try simp only [List.getElem_toArray, List.getElem_cons_zero, List.getElem_cons_succ, Act.put, List.setIfInBounds_toArray, List.set_cons_zero, List.set_cons_succ])
  refine wpAnyH_take (i := 6) (v := ?_) rfl (by kernel_rfl) (by kernel_rfl) (by kernel_rfl) (fun _ _ _ h => h) (Or.inl ⟨by rfl, ?_⟩) (by assumption) ?_
  rotate_left
  · intro wS hSw
    (have q3 : wS.cell? ⟨b, 3, none⟩ = some (.int .u32 (s.a.toNat : Int)) := World.rowIs.cell hSw (i := 3) (by decide); have q4 : wS.cell? ⟨b, 4, none⟩ = some (.int .u32 (s.x.toNat : Int)) := World.rowIs.cell hSw (i := 4) (by decide); have q21 : wS.cell? ⟨b, 21, none⟩ = some (.int .i64 (s.place : Int)) := World.rowIs.cell hSw (i := 21) (by decide); clear hSw)
    go_simp
    all_goals with_reducible rfl
  (try simp only [List.getElem_toArray, List.getElem_cons_zero, List.getElem_cons_succ, Act.put, List.setIfInBounds_toArray, List.set_cons_zero, List.set_cons_succ])
  refine wpAnyH_take (i := 7) (v := ?_) rfl (by kernel_rfl) (by kernel_rfl) (by kernel_rfl) (fun _ _ _ h => h) (Or.inl ⟨by rfl, ?_⟩) (by assumption) ?_
  rotate_left
  · intro wS hSw
    (have q3 : wS.cell? ⟨b, 3, none⟩ = some (.int .u32 (s.a.toNat : Int)) := World.rowIs.cell hSw (i := 3) (by decide); have q4 : wS.cell? ⟨b, 4, none⟩ = some (.int .u32 (s.x.toNat : Int)) := World.rowIs.cell hSw (i := 4) (by decide); have q21 : wS.cell? ⟨b, 21, none⟩ = some (.int .i64 (s.place : Int)) := World.rowIs.cell hSw (i := 21) (by decide); clear hSw)
    go_simp
    all_goals with_reducible rfl
  (try simp only [List.getElem_toArray, List.getElem_cons_zero, List.getElem_cons_succ, Act.put, List.setIfInBounds_toArray, List.set_cons_zero, List.set_cons_succ])
  refine wpAnyH_take (i := 8) (v := ?_) rfl (by kernel_rfl) (by kernel_rfl) (by kernel_rfl) (fun _ _ _ h => h) (Or.inl ⟨by rfl, ?_⟩) (by assumption) ?_
  rotate_left
  · intro wS hSw
    (have q3 : wS.cell? ⟨b, 3, none⟩ = some (.int .u32 (s.a.toNat : Int)) := World.rowIs.cell hSw (i := 3) (by decide); have q4 : wS.cell? ⟨b, 4, none⟩ = some (.int .u32 (s.x.toNat : Int)) := World.rowIs.cell hSw (i := 4) (by decide); have q21 : wS.cell? ⟨b, 21, none⟩ = some (.int .i64 (s.place : Int)) := World.rowIs.cell hSw (i := 21) (by decide); clear hSw)
    go_simp
    all_goals with_reducible rfl
  (try simp only [List.getElem_toArray, List.getElem_cons_zero, List.getElem_cons_succ, Act.put, List.setIfInBounds_toArray, List.set_cons_zero, List.set_cons_succ])
  refine wpAnyH_take (i := 9) (v := ?_) rfl (by kernel_rfl) (by kernel_rfl) (by kernel_rfl) (fun _ _ _ h => h) (Or.inl ⟨by rfl, ?_⟩) (by assumption) ?_
  rotate_left
  · intro wS hSw
    (have q3 : wS.cell? ⟨b, 3, none⟩ = some (.int .u32 (s.a.toNat : Int)) := World.rowIs.cell hSw (i := 3) (by decide); have q4 : wS.cell? ⟨b, 4, none⟩ = some (.int .u32 (s.x.toNat : Int)) := World.rowIs.cell hSw (i := 4) (by decide); have q21 : wS.cell? ⟨b, 21, none⟩ = some (.int .i64 (s.place : Int)) := World.rowIs.cell hSw (i := 21) (by decide); clear hSw)
    go_simp
    all_goals with_reducible rfl
  (try simp only [List.getElem_toArray, List.getElem_cons_zero, List.getElem_cons_succ, Act.put, List.setIfInBounds_toArray, List.set_cons_zero, List.set_cons_succ])
  refine wpAnyH_take (i := 10) (v := ?_) rfl (by kernel_rfl) (by kernel_rfl) (by kernel_rfl) (fun _ _ _ h => h) (Or.inl ⟨by rfl, ?_⟩) (by assumption) ?_
  rotate_left
  · intro wS hSw
    (have q3 : wS.cell? ⟨b, 3, none⟩ = some (.int .u32 (s.a.toNat : Int)) := World.rowIs.cell hSw (i := 3) (by decide); have q4 : wS.cell? ⟨b, 4, none⟩ = some (.int .u32 (s.x.toNat : Int)) := World.rowIs.cell hSw (i := 4) (by decide); have q21 : wS.cell? ⟨b, 21, none⟩ = some (.int .i64 (s.place : Int)) := World.rowIs.cell hSw (i := 21) (by decide); clear hSw)
    go_simp
    all_goals with_reducible rfl
  (try simp only [List.getElem_toArray, List.getElem_cons_zero, List.getElem_cons_succ, Act.put, List.setIfInBounds_toArray, List.set_cons_zero, List.set_cons_succ])
  refine wpAnyH_take (i := 11) (v := ?_) rfl (by kernel_rfl) (by kernel_rfl) (by kernel_rfl) (fun _ _ _ h => h) (Or.inl ⟨by rfl, ?_⟩) (by assumption) ?_
  rotate_left
  · intro wS hSw
    (have q3 : wS.cell? ⟨b, 3, none⟩ = some (.int .u32 (s.a.toNat : Int)) := World.rowIs.cell hSw (i := 3) (by decide); have q4 : wS.cell? ⟨b, 4, none⟩ = some (.int .u32 (s.x.toNat : Int)) := World.rowIs.cell hSw (i := 4) (by decide); have q21 : wS.cell? ⟨b, 21, none⟩ = some (.int .i64 (s.place : Int)) := World.rowIs.cell hSw (i := 21) (by decide); clear hSw)
    go_simp
    all_goals with_reducible rfl
  (try simp only [List.getElem_toArray, List.getElem_cons_zero, List.getElem_cons_succ, Act.put, List.setIfInBounds_toArray, List.set_cons_zero, List.set_cons_succ])
  refine wpAnyH_take (i := 13) (v := ?_) rfl (by kernel_rfl) (by kernel_rfl) (by kernel_rfl) (fun _ _ _ h => h) (Or.inl ⟨by rfl, ?_⟩) (by assumption) ?_
  rotate_left
  · intro wS hSw
    (have q3 : wS.cell? ⟨b, 3, none⟩ = some (.int .u32 (s.a.toNat : Int)) := World.rowIs.cell hSw (i := 3) (by decide); have q4 : wS.cell? ⟨b, 4, none⟩ = some (.int .u32 (s.x.toNat : Int)) := World.rowIs.cell hSw (i := 4) (by decide); have q21 : wS.cell? ⟨b, 21, none⟩ = some (.int .i64 (s.place : Int)) := World.rowIs.cell hSw (i := 21) (by decide); clear hSw)
    go_simp
    all_goals with_reducible rfl
  (try simp only [List.getElem_toArray, List.getElem_cons_zero, List.getElem_cons_succ, Act.put, List.setIfInBounds_toArray, List.set_cons_zero, List.set_cons_succ])
  refine wpAnyH_take (i := 14) (v := ?_) rfl (by kernel_rfl) (by kernel_rfl) (by kernel_rfl) (fun _ _ _ h => h) (Or.inl ⟨by rfl, ?_⟩) (by assumption) ?_
  rotate_left
  · intro wS hSw
    (have q3 : wS.cell? ⟨b, 3, none⟩ = some (.int .u32 (s.a.toNat : Int)) := World.rowIs.cell hSw (i := 3) (by decide); have q4 : wS.cell? ⟨b, 4, none⟩ = some (.int .u32 (s.x.toNat : Int)) := World.rowIs.cell hSw (i := 4) (by decide); have q21 : wS.cell? ⟨b, 21, none⟩ = some (.int .i64 (s.place : Int)) := World.rowIs.cell hSw (i := 21) (by decide); clear hSw)
    go_simp
    all_goals with_reducible rfl
  (try simp only [List.getElem_toArray, List.getElem_cons_zero, List.getElem_cons_succ, Act.put, List.setIfInBounds_toArray, List.set_cons_zero, List.set_cons_succ])
  refine wpAnyH_take (i := 15) (v := ?_) rfl (by kernel_rfl) (by kernel_rfl) (by kernel_rfl) (fun _ _ _ h => h) (Or.inl ⟨by rfl, ?_⟩) (by assumption) ?_
  rotate_left
  · intro wS hSw
    (have q3 : wS.cell? ⟨b, 3, none⟩ = some (.int .u32 (s.a.toNat : Int)) := World.rowIs.cell hSw (i := 3) (by decide); have q4 : wS.cell? ⟨b, 4, none⟩ = some (.int .u32 (s.x.toNat : Int)) := World.rowIs.cell hSw (i := 4) (by decide); have q21 : wS.cell? ⟨b, 21, none⟩ = some (.int .i64 (s.place : Int)) := World.rowIs.cell hSw (i := 21) (by decide); clear hSw)
    go_simp
    all_goals with_reducible rfl
  (try simp only [List.getElem_toArray, List.getElem_cons_zero, List.getElem_cons_succ, Act.put, List.setIfInBounds_toArray, List.set_cons_zero, List.set_cons_succ])
  refine wpAnyH_take (i := 16) (v := ?_) rfl (by kernel_rfl) (by kernel_rfl) (by kernel_rfl) (fun _ _ _ h => h) (Or.inl ⟨by rfl, ?_⟩) (by assumption) ?_
  rotate_left
  · intro wS hSw
    (have q3 : wS.cell? ⟨b, 3, none⟩ = some (.int .u32 (s.a.toNat : Int)) := World.rowIs.cell hSw (i := 3) (by decide); have q4 : wS.cell? ⟨b, 4, none⟩ = some (.int .u32 (s.x.toNat : Int)) := World.rowIs.cell hSw (i := 4) (by decide); have q21 : wS.cell? ⟨b, 21, none⟩ = some (.int .i64 (s.place : Int)) := World.rowIs.cell hSw (i := 21) (by decide); clear hSw)
    go_simp
    all_goals with_reducible rfl
  (try simp only [List.getElem_toArray, List.getElem_cons_zero, List.getElem_cons_succ, Act.put, List.setIfInBounds_toArray, List.set_cons_zero, List.set_cons_succ])
  refine held_one (i := 12) (by kernel_rfl) rfl (fun K hK => ?_)
  go_simp
  go_at_call 34
  refine (new_words w1 b 5 (fun k => ((s.m k).toNat : Int)) (fun _ => ⟨b, 5, rfl, World.rowIs.lt HM1.out, fun k hk => (World.rowIs.cell HM1.out (i := 5 + k) (by omega)).trans (congrArg some (progV_m _ _ _ _ k hk))⟩)).mono ?_
  rintro e w2 ⟨g, cap, F, rfl, hr, hc, hF, hb, hge⟩
  refine hK.out _ _ (HM1.out.below hb (World.rowIs.lt HM1.out)) (fun hHeld => ?_)
  have HR := Lib.hid hr
  have HF := Lib.hid hF
  have HB2 := Lib.hid (HB1.out.trans (hb.mono HB1.out.size))
  have hge2 : w.heap.size ≤ g := Nat.le_trans HB1.out.size hge
  clear hK K hr hF hb hge HM1
  (try simp only [Act.put, List.setIfInBounds_toArray, List.set_cons_zero, List.set_cons_succ])
  refine wpAnyH_take (i := 17) (v := ?_) rfl (by kernel_rfl) (by kernel_rfl) (by kernel_rfl) (fun _ _ _ h => h) (Or.inl ⟨by rfl, ?_⟩) (by assumption) ?_
  rotate_left
  · intro wS hSw
    (clear hSw)
    go_simp
    all_goals with_reducible rfl
  (try simp only [List.getElem_toArray, List.getElem_cons_zero, List.getElem_cons_succ, Act.put, List.setIfInBounds_toArray, List.set_cons_zero, List.set_cons_succ])
  refine wpAnyH_take (i := 18) (v := ?_) rfl (by kernel_rfl) (by kernel_rfl) (by kernel_rfl) (fun _ _ _ h => h) (Or.inl ⟨by rfl, ?_⟩) (by assumption) ?_
  rotate_left
  · intro wS hSw
    (clear hSw)
    go_simp
    all_goals with_reducible rfl
  (try simp only [List.getElem_toArray, List.getElem_cons_zero, List.getElem_cons_succ, Act.put, List.setIfInBounds_toArray, List.set_cons_zero, List.set_cons_succ])
  refine wpAnyH_take (i := 19) (v := ?_) rfl (by kernel_rfl) (by kernel_rfl) (by kernel_rfl) (fun _ _ _ h => h) (Or.inl ⟨by rfl, ?_⟩) (by assumption) ?_
  rotate_left
  · intro wS hSw
    (clear hSw)
    go_simp
    all_goals with_reducible rfl
  (try simp only [List.getElem_toArray, List.getElem_cons_zero, List.getElem_cons_succ, Act.put, List.setIfInBounds_toArray, List.set_cons_zero, List.set_cons_succ])
  refine wpAnyH_take (i := 20) (v := ?_) rfl (by kernel_rfl) (by kernel_rfl) (by kernel_rfl) (fun _ _ _ h => h) (Or.inl ⟨by rfl, ?_⟩) (by assumption) ?_
  rotate_left
  · intro wS hSw
    (clear hSw)
    go_simp
    all_goals with_reducible rfl
  (try simp only [List.getElem_toArray, List.getElem_cons_zero, List.getElem_cons_succ, Act.put, List.setIfInBounds_toArray, List.set_cons_zero, List.set_cons_succ])
  refine wpAnyH_done (by kernel_rfl) ?_ _
  go_wp2
  (try simp only [Exit.inBlock, Exit.then])
  refine bodyPost_ret (results_tmp4 rfl _ _ _) rfl ?_
  exact ⟨g, cap, F, rfl, HR.out, hc, HF.out, HB2.out, hge2⟩

/-- A write into a block of its own leaves a machine ready. -/
theorem PReady.keep {w w' : World} {b : Nat} {qa : Option Addr} {n qcap : Nat} {q : Nat → Ins} {da : Option Addr} {dlen dcap : Nat} {z : Nat → Int} {mb g : Nat} {s : Mach} (h : PReady w b qa n qcap q da dlen dcap z mb s) (hg : w.grownBy w' (some g))
    (h1 : b ≠ g) (h2 : mb ≠ g) (h3 : ∀ ad, 0 < n → qa = some ad → ad.block ≠ g) (h4 : ∀ ad, dlen = 64 → da = some ad → ad.block ≠ g) : PReady w' b qa n qcap q da dlen dcap z mb s :=
  ⟨h.mach.grown hg h1, h.prog.grown hg h3, fun h64 => by
    obtain ⟨db, doff, rfl, hb⟩ := h.data h64
    exact ⟨db, doff, rfl, hb.grown hg (h4 _ h64 rfl)⟩, h.qfar, h.dfar, h.len, h.ok, h.steps, h.ops.grown hg h2, h.mfar⟩
theorem PReady.below {w w' : World} {b : Nat} {qa : Option Addr} {n qcap : Nat} {q : Nat → Ins} {da : Option Addr} {dlen dcap : Nat} {z : Nat → Int} {mb : Nat} {s : Mach} (h : PReady w b qa n qcap q da dlen dcap z mb s) (hb : Below w.heap.size w w') : PReady w' b qa n qcap q da dlen dcap z mb s :=
  ⟨h.mach.below hb (World.rowIs.lt h.mach), h.prog.below hb, fun h64 => by
    obtain ⟨db, doff, rfl, hz⟩ := h.data h64
    exact ⟨db, doff, rfl, hz.below hb hz.1⟩, h.qfar, h.dfar, h.len, h.ok, h.steps, h.ops.below hb h.ops.lt, h.mfar⟩
theorem Ready.keep {w w' : World} {b : Nat} {qa : Option Addr} {n qcap : Nat} {q : Nat → Ins} {da : Option Addr} {dlen dcap : Nat} {z : Nat → Int} {g : Nat} {s : Mach} (h : Ready w b qa n qcap q da dlen dcap z s) (hg : w.grownBy w' (some g))
    (h1 : b ≠ g) (h3 : ∀ ad, 0 < n → qa = some ad → ad.block ≠ g) (h4 : ∀ ad, dlen = 64 → da = some ad → ad.block ≠ g) : Ready w' b qa n qcap q da dlen dcap z s :=
  ⟨h.mach.grown hg h1, h.prog.grown hg h3, fun h64 => by
    obtain ⟨db, doff, rfl, hb⟩ := h.data h64
    exact ⟨db, doff, rfl, hb.grown hg (h4 _ h64 rfl)⟩, h.qfar, h.dfar, h.len, h.ok, h.steps⟩
theorem Ready.below {w w' : World} {b : Nat} {qa : Option Addr} {n qcap : Nat} {q : Nat → Ins} {da : Option Addr} {dlen dcap : Nat} {z : Nat → Int} {s : Mach} (h : Ready w b qa n qcap q da dlen dcap z s) (hb : Below w.heap.size w w') : Ready w' b qa n qcap q da dlen dcap z s :=
  ⟨h.mach.below hb (World.rowIs.lt h.mach), h.prog.below hb, fun h64 => by
    obtain ⟨db, doff, rfl, hz⟩ := h.data h64
    exact ⟨db, doff, rfl, hz.below hb hz.1⟩, h.qfar, h.dfar, h.len, h.ok, h.steps⟩
/-- A machine that still goes has no error, and no answer. -/
theorem fresh_step (q : Nat → Ins) (n len : Nat) (word : Nat → BitVec 32) (s : Mach) (h : s.err = 0 ∧ s.ans = 0#32) (hd : (s.step q n len word).done = false) : (s.step q n len word).err = 0 ∧ (s.step q n len word).ans = 0#32 := by
  have mv : ∀ i, (s.moves word i).err = s.err ∧ (s.moves word i).ans = s.ans := fun i => ⟨by simp only [Mach.moves, apply_ite Mach.err, ite_self], by simp only [Mach.moves, apply_ite Mach.ans, ite_self]⟩
  have h1 : ∀ e, (s.fails e).done = false → False := fun e h => by cases h
  have h2 : ∀ v, (s.ends v).done = false → False := fun v h => by cases h
  have h3 : ∀ (s' : Mach) m, s'.err = s.err → s'.ans = s.ans → (s'.on m).err = 0 ∧ (s'.on m).ans = 0#32 := fun s' m e1 e2 => ⟨e1.trans h.1, e2.trans h.2⟩
  revert hd
  unfold Mach.step
  split
  · intro _; exact h
  · split
    · intro hd; exact (h1 _ hd).elim
    · split
      · intro hd; exact (h1 _ hd).elim
      · split
        · intro hd; exact (h1 _ hd).elim
        · unfold Mach.does
          simp only
          generalize (if usesX (q s.place).code = true then s.x else (q s.place).k) = bv
          split
          · split
            · intro hd; exact (h2 _ hd).elim
            · intro _; exact h3 _ _ rfl rfl
          · split
            · intro _; exact h3 _ _ rfl rfl
            · split
              · intro _; exact h3 _ _ rfl rfl
              · split
                · intro hd; exact (h2 _ hd).elim
                · split
                  · intro hd; exact (h2 _ hd).elim
                  · intro _; exact h3 _ _ (mv _).1 (mv _).2
theorem iter_fresh (q : Nat → Ins) (n len : Nat) (word : Nat → BitVec 32) : ∀ k, (iterS q n len word k).done = false → (iterS q n len word k).err = 0 ∧ (iterS q n len word k).ans = 0#32
  | 0, _ => ⟨rfl, rfl⟩
  | k + 1, hd => by
    have h0 := (step_going q n len word (iterS q n len word k) hd).1
    exact fresh_step q n len word _ (iter_fresh q n len word k h0) hd
end Go.Proofs.Ytlfbkalpnbjdjaa
