/-
  'CbpfReads': for every list of bytes, the law of layer 3 on Read and Bytes returns true, and leaves memory as it was. No condition.
-/
import Derived.Test.YtlfbkalpnbjdjaaCbpfHead
import Derived.Test.YtlfbkalpnbjdjaaPBack
import Derived.Test.YtlfbkalpnbjdjaaPArgs
namespace Go.Proofs.Ytlfbkalpnbjdjaa.cbpfReads
open Go Go.ChangeShapes Go.WideShapes Go.ChangeAt Go.RowKit
set_option linter.unusedSimpArgs false
set_option linter.unusedVariables false

/-- What is known behind the copy: the call's own row of bytes with 77 behind them, and the bytes that came in. -/
abbrev Own (w W : World) (A : Option Addr) (len g2 : Nat) (z : Nat → Int) : Prop :=
  Holds W (some ⟨g2, 0, none⟩) len (fun i => .int .u8 (z i)) ∧ W.cell? ⟨g2, len, none⟩ = some (.int .u8 77) ∧ Holds W A len (fun i => .int .u8 (z i)) ∧ Below w.heap.size w W ∧ g2 < W.heap.size
theorem own_below {w W W' : World} {A : Option Addr} {len g2 : Nat} {z : Nat → Int} (h : Own w W A len g2 z) (hb : Below W.heap.size W W') : Own w W' A len g2 z :=
  ⟨h.1.below hb, (hb.cell (p := ⟨g2, len, none⟩) h.2.2.2.2).trans h.2.1, h.2.2.1.below hb, h.2.2.2.1.trans (hb.mono h.2.2.2.1.size), Nat.lt_of_lt_of_le h.2.2.2.2 hb.size⟩
theorem own_new {w w0 w2 : World} {A : Option Addr} {len cap2 g2 : Nat} {F1 F2 : Nat → Value} {z : Nat → Int} (h0 : Below w.heap.size w w0) (hs : Holds w A len (fun i => .int .u8 (z i))) (hb2 : Below w0.heap.size w0 w2)
    (hF1 : ∀ k, k < len → F1 k = .int .u8 (z k)) (hr2 : w2.rowIs g2 5 cap2 F2) (hc2 : len + 1 ≤ cap2) (hF2 : ∀ k, k < len → F2 k = F1 k) (hG2 : ∀ k, k < 1 → F2 (len + k) = .int .u8 77) : Own w w2 A len g2 z :=
  ⟨(holds_of_row hr2 (by omega)).congr (fun k hk => (hF2 k hk).trans (hF1 k hk)), (World.rowIs.cell hr2 (i := len) (by omega)).trans (congrArg some (by have := hG2 0 (by omega); rwa [Nat.add_zero] at this)), (hs.below h0).below hb2, h0.trans (hb2.mono h0.size), hr2.lt⟩

set_option maxHeartbeats 4000000 in
theorem walk_no (A : Option Addr) (len cap : Nat) (z : Nat → Int) (w : World) (hl : len ≤ 140737488351232) (h8 : ¬ len % 8 = 0) (hs : Holds w A len (fun i => .int .u8 (z i))) :
    Calls Try.prog 4 #[.slice A len cap] w fun e w' => e = .returned (.bool true) ∧ Below w.heap.size w w' := by
  have HS := Lib.hid hs
  have H8 := Lib.hid h8
  have hlm : len ≤ maxLen := by unfold maxLen; omega
  clear hs h8
  go_enter Try.func4, Try.ntmps4
  go_wp2_with (first
    | (go_at_call 10; (with_reducible refine (head_is _).mono ?_); rintro e w0 ⟨rfl, hb0⟩; have HB0 := Lib.hid hb0; have HS0 := Lib.hid (HS.out.below (hb0.alloc hb0.size (.cells #[] 5))); clear hb0)
    | (at_builtin; refine wpList_append_row _ rfl (.tmp 11) (.tmp 12) 25 rfl 5 (.int .u8 0) 1 Try.underlying25 info_u8 rfl w0.heap.size 0 0 (fun _ => undef) rfl (World.rowIs_alloc w0 #[] 5 (fun _ => undef) (fun i hi => absurd hi (by simp))) (Nat.le_refl _) (by decide) _ len cap (fun i => .int .u8 (z i)) rfl HS0.out (fun _ => rfl) (by unfold maxLen; omega) (by omega) ?_; intro g1 cap1 F1 w1 hr1 hc1 hm1 _ hF1 hg1 hgg1; simp only [Nat.zero_add] at hc1 hF1; obtain ⟨hb1, hge1⟩ := append_new_below hg1 hgg1; clear hg1 hgg1; have HF1 := Lib.hid hF1; clear hF1)
    | (at_builtin; refine wpList_append_row _ rfl (.tmp 13) (.tmp 14) 25 rfl 5 (.int .u8 0) 1 Try.underlying25 info_u8 rfl g1 len cap1 F1 rfl (hr1.alloc _) hc1 hm1 (some ⟨w1.heap.size, 0, none⟩) 1 1 (fun _ => .int .u8 77) rfl (one_new w1) (fun _ => rfl) (by unfold maxLen; omega) (by omega) ?_; intro g2 cap2 F2 w2 hr2 hc2 hm2 hF2 hG2 hg2 hgg2; clear HS0))
  obtain ⟨hb2, hge2⟩ := second_new hg2 hgg2 hb1 hge1 hr1.lt
  have HO := Lib.hid (own_new HB0.out HS.out hb2 HF1.out hr2 hc2 hF2 hG2)
  have k1 : (len : Int) ≤ (cap2 : Int) := by omega
  have k2 : (len : Int) + 1 ≤ (cap2 : Int) := by omega
  have hcap2 : len ≤ cap2 := by omega
  clear hr1 hr2 hF2 hG2 hg2 hgg2 hb1 hb2 hge1 HF1 HB0
  have hw1 : IntKind.i64.wrap ((len : Int) + 1) = (len : Int) + 1 := IntWalk.i64_in _ (by omega)
  have q1 := run_string_of (P := Try.prog) w2 25 9 5 Try.underlying25 Try.underlying5 Try.underlying9 (some ⟨g2, 0, none⟩) len cap2 z HO.out.1
  have q2 := run_string_of (P := Try.prog) w2 25 9 5 Try.underlying25 Try.underlying5 Try.underlying9 A len cap z HO.out.2.2.1
  have c77 := HO.out.2.1
  have HNIL : Hid (ProgAt w2 none 0 (fun _ => ⟨0, 0, 0, 0#32⟩)) := Lib.hid (fun h => absurd h (by decide))
  have h00 : 0 ≤ 140737488351232 := by decide
  go_wp2_with (first
    | (go_at_call 14; (with_reducible refine (cbpf_Read_no _ len cap2 hlm H8.out _).mono ?_); rintro e w3 ⟨rfl, rfl⟩)
    | (go_at_call 17; (with_reducible refine (ref3_Read_no _ len cap hlm H8.out _).mono ?_); rintro e w4 ⟨rfl, rfl⟩)
    | (go_at_call 16; (with_reducible refine (ref_Same _ none none 0 0 0 _ h00 HNIL.out HNIL.out).mono ?_); rintro e w5 ⟨rfl, m, rfl⟩))
  clear q1 q2 c77
  go_quiet (fail)
  go_wp2
  go_ret
  exact ⟨rfl, below_drawn (below_drawn HO.out.2.2.2.1 m) _⟩

set_option maxHeartbeats 4000000 in
theorem walk_8 (A : Option Addr) (n cap : Nat) (z : Nat → Int) (w : World) (hn : n * 8 ≤ 140737488351232) (hz : ∀ i, 0 ≤ z i ∧ z i < 256) (hs : Holds w A (n * 8) (fun i => .int .u8 (z i))) :
    Calls Try.prog 4 #[.slice A (n * 8) cap] w fun e w' => e = .returned (.bool true) ∧ Below w.heap.size w w' := by
  have HS := Lib.hid hs
  have HZ := Lib.hid hz
  have hn0 : n ≤ 140737488351232 := by omega
  clear hs hz
  go_enter Try.func4, Try.ntmps4
  go_wp2_with (first
    | (go_at_call 10; (with_reducible refine (head_is _).mono ?_); rintro e w0 ⟨rfl, hb0⟩; have HB0 := Lib.hid hb0; have HS0 := Lib.hid (HS.out.below (hb0.alloc hb0.size (.cells #[] 5))); clear hb0)
    | (at_builtin; refine wpList_append_row _ rfl (.tmp 11) (.tmp 12) 25 rfl 5 (.int .u8 0) 1 Try.underlying25 info_u8 rfl w0.heap.size 0 0 (fun _ => undef) rfl (World.rowIs_alloc w0 #[] 5 (fun _ => undef) (fun i hi => absurd hi (by simp))) (Nat.le_refl _) (by decide) _ (n * 8) cap (fun i => .int .u8 (z i)) rfl HS0.out (fun _ => rfl) (by unfold maxLen; omega) (by omega) ?_; intro g1 cap1 F1 w1 hr1 hc1 hm1 _ hF1 hg1 hgg1; simp only [Nat.zero_add] at hc1 hF1; obtain ⟨hb1, hge1⟩ := append_new_below hg1 hgg1; clear hg1 hgg1; have HF1 := Lib.hid hF1; clear hF1)
    | (at_builtin; refine wpList_append_row _ rfl (.tmp 13) (.tmp 14) 25 rfl 5 (.int .u8 0) 1 Try.underlying25 info_u8 rfl g1 (n * 8) cap1 F1 rfl (hr1.alloc _) hc1 hm1 (some ⟨w1.heap.size, 0, none⟩) 1 1 (fun _ => .int .u8 77) rfl (one_new w1) (fun _ => rfl) (by unfold maxLen; omega) (by omega) ?_; intro g2 cap2 F2 w2 hr2 hc2 hm2 hF2 hG2 hg2 hgg2; clear HS0))
  obtain ⟨hb2, hge2⟩ := second_new hg2 hgg2 hb1 hge1 hr1.lt
  have HO := Lib.hid (own_new HB0.out HS.out hb2 HF1.out hr2 hc2 hF2 hG2)
  have k1 : (n : Int) * 8 ≤ (cap2 : Int) := by omega
  have k2 : (n : Int) * 8 + 1 ≤ (cap2 : Int) := by omega
  have hcap2 : n * 8 ≤ cap2 := by omega
  have hcap3 : n * 8 + 1 ≤ cap2 := by omega
  clear hr1 hr2 hF2 hG2 hg2 hgg2 hb1 hb2 hge1 HF1 HB0
  have hw1 : IntKind.i64.wrap ((n : Int) * 8 + 1) = (n : Int) * 8 + 1 := IntWalk.i64_in _ (by omega)
  go_wp2_with (first
    | (go_at_call 14; (with_reducible refine (cbpf_Read _ _ n _ z hn HZ.out HO.out.1).mono ?_); rintro e w3 ⟨gy, rfl, hy, hb3, hgey⟩; have HO3 := Lib.hid (own_below HO.out hb3); have HY3 := Lib.hid hy; clear hy hb3 HO)
    | (go_at_call 17; (with_reducible refine (ref3_Read _ _ n _ z hn HZ.out HO3.out.2.2.1).mono ?_); rintro e w4 ⟨v4, rfl, hown, hb4⟩; obtain ⟨A4, cap4, rfl, hp4⟩ := own_prog hown (fun j hj => readL_get z n j hj); have HO4 := Lib.hid (own_below HO3.out hb4); have HY4 := Lib.hid (And.intro (HY3.out.below hb4) hp4); clear hown hb4 hp4 HO3 HY3; have q1 := run_string_of (P := Try.prog) w4 25 9 5 Try.underlying25 Try.underlying5 Try.underlying9 (some ⟨g2, 0, none⟩) (n * 8) cap2 z HO4.out.1; have q2 := run_string_of (P := Try.prog) w4 25 9 5 Try.underlying25 Try.underlying5 Try.underlying9 A (n * 8) cap z HO4.out.2.2.1; have c77 := HO4.out.2.1)
    | (go_at_call 16; (with_reducible refine (ref_Same _ _ _ _ _ _ (fun i => readI z (i * 8)) hn0 HY4.out.1 HY4.out.2).mono ?_); rintro e w5 ⟨rfl, m, rfl⟩; clear q1 q2 c77))
  have HH5 : Hid (Holds ((w4.drewN m).drew) A (n * 8) (fun i => .int .u8 (z i))) := Lib.hid HO4.out.2.2.1
  refine wp_region_held_drew (S := fun w' => Holds w' A (n * 8) (fun i => .int .u8 (z i))) (by kernel_rfl) HH5.out (fun hHeld => ?_)
  have HP5 : Hid (ProgAt ((w4.drewN m).drew) (some ⟨gy, 0, none⟩) n (fun i => readI z (i * 8))) := Lib.hid HY4.out.1
  have HB5 : Hid (Below w.heap.size w ((w4.drewN m).drew)) := Lib.hid (below_drawn HO4.out.2.2.2.1 (m + 1))
  clear HH5 HY4 HO4
  generalize (w4.drewN m).drew = w5 at HP5 HB5 hHeld ⊢
  refine wpAnyH_take (i := 0) (v := ?_) rfl (by kernel_rfl) (by kernel_rfl) (by kernel_rfl) (fun _ _ _ h => h) (Or.inl ⟨by rfl, ?_⟩) (by assumption) ?_
  rotate_left
  · intro wS hSw
    (have q2 := run_string_of (P := Try.prog) wS 25 9 5 Try.underlying25 Try.underlying5 Try.underlying9 A (n * 8) cap z hSw; clear hSw)
    go_simp
    all_goals with_reducible rfl
  (try simp only [List.getElem_toArray, List.getElem_cons_zero, List.getElem_cons_succ, Act.put, List.setIfInBounds_toArray, List.set_cons_zero, List.set_cons_succ])
  refine wpAnyH_take (i := 1) (v := ?_) rfl (by kernel_rfl) (by kernel_rfl) (by kernel_rfl) (fun _ _ _ h => h) (Or.inl ⟨by rfl, ?_⟩) (by assumption) ?_
  rotate_left
  · intro wS hSw
    (have q2 := run_string_of (P := Try.prog) wS 25 9 5 Try.underlying25 Try.underlying5 Try.underlying9 A (n * 8) cap z hSw; clear hSw)
    go_simp
    all_goals with_reducible rfl
  (try simp only [List.getElem_toArray, List.getElem_cons_zero, List.getElem_cons_succ, Act.put, List.setIfInBounds_toArray, List.set_cons_zero, List.set_cons_succ])
  refine wpAnyH_take (i := 2) (v := ?_) rfl (by kernel_rfl) (by kernel_rfl) (by kernel_rfl) (fun _ _ _ h => h) (Or.inl ⟨by rfl, ?_⟩) (by assumption) ?_
  rotate_left
  · intro wS hSw
    (have q2 := run_string_of (P := Try.prog) wS 25 9 5 Try.underlying25 Try.underlying5 Try.underlying9 A (n * 8) cap z hSw; clear hSw)
    go_simp
    all_goals with_reducible rfl
  (try simp only [List.getElem_toArray, List.getElem_cons_zero, List.getElem_cons_succ, Act.put, List.setIfInBounds_toArray, List.set_cons_zero, List.set_cons_succ])
  refine wpAnyH_take (i := 3) (v := ?_) rfl (by kernel_rfl) (by kernel_rfl) (by kernel_rfl) (fun _ _ _ h => h) (Or.inl ⟨by rfl, ?_⟩) (by assumption) ?_
  rotate_left
  · intro wS hSw
    (have q2 := run_string_of (P := Try.prog) wS 25 9 5 Try.underlying25 Try.underlying5 Try.underlying9 A (n * 8) cap z hSw; clear hSw)
    go_simp
    all_goals with_reducible rfl
  (try simp only [List.getElem_toArray, List.getElem_cons_zero, List.getElem_cons_succ, Act.put, List.setIfInBounds_toArray, List.set_cons_zero, List.set_cons_succ])
  refine wpAnyH_take (i := 6) (v := ?_) rfl (by kernel_rfl) (by kernel_rfl) (by kernel_rfl) (fun _ _ _ h => h) (Or.inl ⟨by rfl, ?_⟩) (by assumption) ?_
  rotate_left
  · intro wS hSw
    (have q2 := run_string_of (P := Try.prog) wS 25 9 5 Try.underlying25 Try.underlying5 Try.underlying9 A (n * 8) cap z hSw; clear hSw)
    go_simp
    all_goals with_reducible rfl
  (try simp only [List.getElem_toArray, List.getElem_cons_zero, List.getElem_cons_succ, Act.put, List.setIfInBounds_toArray, List.set_cons_zero, List.set_cons_succ])
  refine wpAnyH_take (i := 7) (v := ?_) rfl (by kernel_rfl) (by kernel_rfl) (by kernel_rfl) (fun _ _ _ h => h) (Or.inl ⟨by rfl, ?_⟩) (by assumption) ?_
  rotate_left
  · intro wS hSw
    (have q2 := run_string_of (P := Try.prog) wS 25 9 5 Try.underlying25 Try.underlying5 Try.underlying9 A (n * 8) cap z hSw; clear hSw)
    go_simp
    all_goals with_reducible rfl
  (try simp only [List.getElem_toArray, List.getElem_cons_zero, List.getElem_cons_succ, Act.put, List.setIfInBounds_toArray, List.set_cons_zero, List.set_cons_succ])
  refine held_one (i := 4) (by kernel_rfl) rfl (fun K hK => ?_)
  go_simp
  go_at_call 12
  refine (cbpf_Bytes _ _ _ _ (fun i => readI z (i * 8)) hn (fun i _ => read_ok HZ.out _) HP5.out).mono ?_
  rintro e w6 ⟨g6, rfl, hr6, hb6, hge6⟩
  refine hK.out _ _ (hHeld.below hb6) (fun hH2 => ?_)
  have HB6 := Lib.hid (HB5.out.trans (hb6.mono HB5.out.size))
  have hw6 : Holds w6 (some ⟨g6, 0, none⟩) (n * 8) (fun i => .int .u8 (z i)) := (holds_of_row hr6 (Nat.le_refl _)).congr (fun j hj => by rw [write_read HZ.out])
  clear hK K hHeld hr6 hb6 HB5 HP5
  refine held_mono (S' := fun w' => Holds w' A (n * 8) (fun i => .int .u8 (z i)) ∧ Holds w' (some ⟨g6, 0, none⟩) (n * 8) (fun i => .int .u8 (z i))) (fun _ h => h.1) _ _ _ _ ?_
  have hHeld : (fun w' => Holds w' A (n * 8) (fun i => .int .u8 (z i)) ∧ Holds w' (some ⟨g6, 0, none⟩) (n * 8) (fun i => .int .u8 (z i))) w6 := ⟨hH2, hw6⟩
  clear hH2 hw6
  (try simp only [Act.put, List.setIfInBounds_toArray, List.set_cons_zero, List.set_cons_succ])
  refine wpAnyH_take (i := 5) (v := ?_) rfl (by kernel_rfl) (by kernel_rfl) (by kernel_rfl) (fun _ _ _ h => h) (Or.inl ⟨by rfl, ?_⟩) (by assumption) ?_
  rotate_left
  · intro wS hSw
    (have q2 := run_string_of (P := Try.prog) wS 25 9 5 Try.underlying25 Try.underlying5 Try.underlying9 (some ⟨g6, 0, none⟩) (n * 8) (n * 8) z hSw.2; clear hSw)
    go_simp
    all_goals with_reducible rfl
  (try simp only [List.getElem_toArray, List.getElem_cons_zero, List.getElem_cons_succ, Act.put, List.setIfInBounds_toArray, List.set_cons_zero, List.set_cons_succ])
  refine wpAnyH_take (i := 8) (v := ?_) rfl (by kernel_rfl) (by kernel_rfl) (by kernel_rfl) (fun _ _ _ h => h) (Or.inl ⟨by rfl, ?_⟩) (by assumption) ?_
  rotate_left
  · intro wS hSw
    (have q2 := run_string_of (P := Try.prog) wS 25 9 5 Try.underlying25 Try.underlying5 Try.underlying9 (some ⟨g6, 0, none⟩) (n * 8) (n * 8) z hSw.2; clear hSw)
    go_simp
    all_goals with_reducible rfl
  (try simp only [List.getElem_toArray, List.getElem_cons_zero, List.getElem_cons_succ, Act.put, List.setIfInBounds_toArray, List.set_cons_zero, List.set_cons_succ])
  refine wpAnyH_take (i := 9) (v := ?_) rfl (by kernel_rfl) (by kernel_rfl) (by kernel_rfl) (fun _ _ _ h => h) (Or.inl ⟨by rfl, ?_⟩) (by assumption) ?_
  rotate_left
  · intro wS hSw
    (have q2 := run_string_of (P := Try.prog) wS 25 9 5 Try.underlying25 Try.underlying5 Try.underlying9 (some ⟨g6, 0, none⟩) (n * 8) (n * 8) z hSw.2; clear hSw)
    go_simp
    all_goals with_reducible rfl
  (try simp only [List.getElem_toArray, List.getElem_cons_zero, List.getElem_cons_succ, Act.put, List.setIfInBounds_toArray, List.set_cons_zero, List.set_cons_succ])
  refine wpAnyH_take (i := 10) (v := ?_) rfl (by kernel_rfl) (by kernel_rfl) (by kernel_rfl) (fun _ _ _ h => h) (Or.inl ⟨by rfl, ?_⟩) (by assumption) ?_
  rotate_left
  · intro wS hSw
    (have q2 := run_string_of (P := Try.prog) wS 25 9 5 Try.underlying25 Try.underlying5 Try.underlying9 (some ⟨g6, 0, none⟩) (n * 8) (n * 8) z hSw.2; clear hSw)
    go_simp
    all_goals with_reducible rfl
  (try simp only [List.getElem_toArray, List.getElem_cons_zero, List.getElem_cons_succ, Act.put, List.setIfInBounds_toArray, List.set_cons_zero, List.set_cons_succ])
  refine wpAnyH_done (by kernel_rfl) ?_ _
  go_wp2
  go_ret
  exact ⟨rfl, HB6.out⟩

theorem walk (a0 : Option Addr) (len0 cap0 : Nat) (z0 : List Int) (w : World) (w0 : IsRow .u8 w a0 len0 cap0 z0 ∧ cap0 * 1 ≤ 140737488351232) :
    Calls Try.prog 4 #[.slice a0 len0 cap0] w fun e w' => e = .returned (.bool true) ∧ Below w.heap.size w w' := by
  obtain ⟨w0, hcap⟩ := w0
  have hlc := isRow_len w0
  have hs := holds_of_isRow w0
  have hz := isRow_byte w0
  by_cases h : len0 % 8 = 0
  · obtain ⟨n, rfl⟩ : ∃ n, len0 = n * 8 := ⟨len0 / 8, by omega⟩
    exact walk_8 a0 n cap0 _ w (by omega) hz hs
  · exact walk_no a0 len0 cap0 _ w (by omega) h hs

/-! ### The row's step and the statement -/
set_option maxRecDepth 100000 in
theorem lifted (os : Os) (started : os.Started) (H : Type) (enc : TypeId × Value → H) :
    ReturnsInHanded {} Try.checked os 4 .any (Rows.cbpfReadsSpec.pre6 enc Try.prog Try.f4 Rows.cbpfReadsRow.domain false) (Rows.cbpfReadsSpec.post enc Try.prog Try.f4 false true false false) := by
  refine returnsInHanded_of_change_sized (C := Try.checked) own started (by kernel_rfl) Try.func4
    (ChangeSpec.witness6 (enc := enc) (C := Try.checked) false ⟨#[], #[.slice none 0 0], []⟩ 8 (by kernel_rfl) (by kernel_rfl) (by kernel_rfl) (by kernel_rfl)) ?_
  intro W base args ds gs before hval0 hW hcnd hsz0 _
  have hsz : (DataW.weightsEach Try.prog (Try.f4.params.toList ++ Rows.cbpfReadsSpec.plain.varTypes Try.prog) (ds ++ gs)).all (· ≤ reachBytes) = true := hsz0
  clear hsz0
  have hval : ∀ (j : Nat) t v, Try.f4.params[j]? = some t → args[j]? = some v → Value.okWide Try.prog W .any base t v := hval0
  have hW' := hW
  obtain ⟨p, q, hA0, hV, rfl, hfz, hnd⟩ := hW
  have hA : DataW.TrodAll enc Try.prog W 0 (fun _ => true) true Try.f4.params.toList args.toList ds p := hA0
  rw [Try.params4] at hA hval hsz
  obtain ⟨v0, vs0, d0, ds0, p0, q0, hargs, rfl, rfl, h0, r0⟩ := trodAll_cons hA
  obtain ⟨rfl, rfl, rfl⟩ := trodAll_nil r0
  obtain rfl : args = #[v0] := by cases args; simp_all
  obtain ⟨rfl, rfl⟩ := trodVars_none hV
  obtain ⟨a0, len0, cap0, rfl⟩ := okWide_slice Try.underlying25 (hval 0 25 v0 rfl rfl)
  have k0 := h0
  have lt0 : ∀ x ∈ p0, x.block < W.heap.size := by obtain ⟨m, hm⟩ := k0; exact DataW.trod_lt m _ _ _ hm
  obtain ⟨z0, w0⟩ : ∃ zs, IsRow .u8 W a0 len0 cap0 zs ∧ cap0 * 1 ≤ 140737488351232 := by
    obtain ⟨fuel, hf⟩ := h0
    rcases open_ints Try.underlying25 Try.underlying5 (by kernel_rfl) hf with ⟨hcs, _⟩ | ⟨x, l, c, zs, hcs, _, hl, hm, hz, hx, hcell, hwz⟩
    · simp [Value.cells] at hcs
      obtain ⟨rfl, rfl, rfl⟩ := hcs
      exact ⟨[], ⟨.inl ⟨rfl, rfl, rfl, rfl⟩, by omega⟩⟩
    · simp [Value.cells] at hcs
      obtain ⟨rfl, rfl, rfl⟩ := hcs
      have hd : d0 = _ := congrArg Prod.fst hx
      have hr := sized_slice hsz (j := 0) (t := 25) (e := 5) rfl (congrArg some hd) Try.underlying25
      rw [show Try.prog.bytesOf 5 = 1 by kernel_rfl] at hr
      simp only [lits, List.length_map, List.length_take, List.length_drop, reachBytes] at hr
      have hzl : zs.length = _ := hz
      simp only [if_true] at hzl
      exact ⟨zs, ⟨.inr ⟨_, rfl, hl, hm, by simpa using hz, hcell, hwz⟩, by omega⟩⟩
  clear hA0 hval0
  refine (walk a0 len0 cap0 z0 W w0).mono fun e W' ⟨he, bel⟩ => ?_
  subst he
  exact ⟨_, rfl, _, _, _, [], _, [], hW', trodAll_mk1 (shut_bool Try.underlying4 _), (trodAll_cons_mk (Below.trod laidOut (by kernel_rfl) (of_decide_eq_true (by kernel_rfl)) k0 bel lt0) trodAll_mk0), rfl, bel.frame _, fun h => by cases h⟩

theorem over : Rows.cbpfReadsRow.holds Try.pinned (OpenSpec.ofChange Rows.cbpfReadsSpec) :=
  OpenClaim.holds_of_wide 4 Try.f4 rfl rfl rfl rfl rfl rfl rfl ⟨rfl, rfl, rfl, rfl, rfl⟩ rfl rfl rfl rfl rfl (by kernel_rfl) Try.func4 (by kernel_rfl)
    (of_decide_eq_true (by kernel_rfl)) (by unfold Func.isWrapper; first | (rw [if_pos (by decide +kernel)]; kernel_rfl) | (rw [if_neg (by decide +kernel)]; exact ⟨rfl, rfl⟩))
    (fun os started H enc _ => lifted os started H enc)

/-- The statement. -/
theorem proved : Rows.CbpfReadsSaid := over
end Go.Proofs.Ytlfbkalpnbjdjaa.cbpfReads
