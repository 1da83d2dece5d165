/-
  'SecdataReads': for every list of bytes, the law of layer 2 on Read and Bytes returns true, and leaves memory as it was. Condition: the table of the kinds reads as the program's text lays it (the card ties it).
-/
import Derived.Test.YtdmjbiaigjifaaaDoorSecFacts
import Derived.Test.YtdmjbiaigjifaaaDoorSecRefRead
import Derived.Test.YtdmjbiaigjifaaaDoorAppend2
import Derived.Test.YtdmjbiaigjifaaaDoorRegion
import Derived.Test.YtdmjbiaigjifaaaDoorDataEq
import Derived.Test.YtdmjbiaigjifaaaDoorStrings
import Derived.Test.YtdmjbiaigjifaaaDoorCards
import Derived.SevenTiedAt
namespace Go.Proofs.YtdmjbiaigjifaaaDoor.secdataReads
open Go Go.ChangeShapes Go.WideShapes Go.ChangeAt Go.RowKit
set_option linter.unusedSimpArgs false
set_option linter.unusedVariables false

theorem ref_back {nr arch ip : Int} {a : Nat → Int} (hD : DataOK nr arch ip a) (g off cap : Nat) (w : World) (h : Bytes64 w g off (dbyte nr arch ip a)) :
    Calls Tryd.prog 14 #[.slice (some ⟨g, off, none⟩) 64 cap] w fun e w' => e = .returned (.tuple #[.agg #[.int .u32 nr, .int .u32 arch, .int .u64 ip, .int .u64 (a 0), .int .u64 (a 1), .int .u64 (a 2), .int .u64 (a 3), .int .u64 (a 4), .int .u64 (a 5)], .int .i64 0]) ∧ Below w.heap.size w w' := by
  refine (ref2_Read g off cap _ w h).mono ?_
  rintro e w' ⟨rfl, hb⟩
  refine ⟨?_, hb⟩
  have h0 := w8_arg nr arch ip a 0 (hD.2.2.2 0)
  have h1 := w8_arg nr arch ip a 1 (hD.2.2.2 1)
  have h2 := w8_arg nr arch ip a 2 (hD.2.2.2 2)
  have h3 := w8_arg nr arch ip a 3 (hD.2.2.2 3)
  have h4 := w8_arg nr arch ip a 4 (hD.2.2.2 4)
  have h5 := w8_arg nr arch ip a 5 (hD.2.2.2 5)
  simp only [Nat.zero_mul, Nat.one_mul, Nat.add_zero, Nat.reduceMul, Nat.reduceAdd] at h0 h1 h2 h3 h4 h5
  rw [readV, w4_nr nr arch ip a hD.1, w4_arch nr arch ip a hD.2.1, w8_ip nr arch ip a hD.2.2.1, h0, h1, h2, h3, h4, h5]
theorem read_len (a : Option Addr) (len cap : Nat) (h : ¬ len = 64) (w : World) :
    Calls Tryd.prog 13 #[.slice a len cap] w fun e w' => e = .returned (.tuple #[.agg #[.int .u32 0, .int .u32 0, .int .u64 0, .int .u64 0, .int .u64 0, .int .u64 0, .int .u64 0, .int .u64 0, .int .u64 0], .int .i64 21]) ∧ Below w.heap.size w w' :=
  (secdata_Read_no a len cap h w).mono fun e w' h => ⟨h.1, h.2⟩
theorem ref_len (a : Option Addr) (len cap : Nat) (h : ¬ len = 64) (w : World) :
    Calls Tryd.prog 14 #[.slice a len cap] w fun e w' => e = .returned (.tuple #[.agg #[.int .u32 0, .int .u32 0, .int .u64 0, .int .u64 0, .int .u64 0, .int .u64 0, .int .u64 0, .int .u64 0, .int .u64 0], .int .i64 21]) ∧ Below w.heap.size w w' :=
  (ref2_Read_no a len cap h w).mono fun e w' h => ⟨h.1, h.2⟩

/-- What is known behind the copy: the call's own row of bytes with 77 behind them, and the bytes that came in. -/
def Own (w W : World) (A : Option Addr) (len g2 cap2 : Nat) (z : Nat → Int) : Prop :=
  (∃ F, W.rowIs g2 5 cap2 F ∧ (∀ k, k < len → F k = .int .u8 (z k)) ∧ F len = .int .u8 77) ∧ Holds W A len (fun i => .int .u8 (z i)) ∧ Below w.heap.size w W ∧ len + 1 ≤ cap2 ∧ w.heap.size ≤ g2
theorem Own.below {w W W' : World} {A : Option Addr} {len g2 cap2 : Nat} {z : Nat → Int} (h : Own w W A len g2 cap2 z) (hb : Below W.heap.size W W') : Own w W' A len g2 cap2 z := by
  obtain ⟨⟨F, hr, h1, h2⟩, h3, h4, h5, h6⟩ := h
  exact ⟨⟨F, rowIs_below hr hb hr.lt, h1, h2⟩, h3.below hb, h4.trans (hb.mono h4.size), h5, h6⟩
theorem Own.holds {w W : World} {A : Option Addr} {len g2 cap2 : Nat} {z : Nat → Int} (h : Own w W A len g2 cap2 z) : Holds W (some ⟨g2, 0, none⟩) len (fun i => .int .u8 (z i)) := by
  obtain ⟨⟨F, hr, h1, h2⟩, h3, h4, h5, h6⟩ := h
  exact (holds_of_row hr (by omega)).congr h1
theorem Own.behind {w W : World} {A : Option Addr} {len g2 cap2 : Nat} {z : Nat → Int} (h : Own w W A len g2 cap2 z) : W.cell? ⟨g2, len, none⟩ = some (.int .u8 77) := by
  obtain ⟨⟨F, hr, h1, h2⟩, h3, h4, h5, h6⟩ := h
  exact (hr.cell (by omega)).trans (congrArg some h2)
theorem Own.lt {w W : World} {A : Option Addr} {len g2 cap2 : Nat} {z : Nat → Int} (h : Own w W A len g2 cap2 z) : g2 < W.heap.size := by
  obtain ⟨⟨F, hr, h1, h2⟩, h3, h4, h5, h6⟩ := h
  exact hr.lt
theorem own_new {w w0 w2 : World} {A : Option Addr} {len cap2 g2 : Nat} {F1 F2 : Nat → Value} {z : Nat → Int} (h0 : Below w.heap.size w w0) (hs : Holds w A len (fun i => .int .u8 (z i))) (hb2 : Below w0.heap.size w0 w2) (hge : w0.heap.size ≤ g2)
    (hF1 : ∀ k, k < len → F1 k = .int .u8 (z k)) (hr2 : w2.rowIs g2 5 cap2 F2) (hc2 : len + 1 ≤ cap2) (hF2 : ∀ k, k < len → F2 k = F1 k) (hG2 : ∀ k, k < 1 → F2 (len + k) = .int .u8 77) : Own w w2 A len g2 cap2 z :=
  ⟨⟨F2, hr2, fun k hk => (hF2 k hk).trans (hF1 k hk), by have := hG2 0 (by omega); rwa [Nat.add_zero] at this⟩, (hs.below h0).below hb2, h0.trans (hb2.mono h0.size), hc2, Nat.le_trans h0.size hge⟩

theorem own64 {w W : World} {A : Option Addr} {g2 cap2 : Nat} {z : Nat → Int} (hz : ∀ i, 0 ≤ z i ∧ z i < 256) (h : Own w W A 64 g2 cap2 z) : Bytes64 W g2 0 z := by
  obtain ⟨⟨F, hr, h1, h2⟩, h3, h4, h5, h6⟩ := h
  exact bytes64_row hz hr (by omega) h1
theorem in64 {w W : World} {b off : Nat} {g2 cap2 : Nat} {z : Nat → Int} (hz : ∀ i, 0 ≤ z i ∧ z i < 256) (h : Own w W (some ⟨b, off, none⟩) 64 g2 cap2 z) : Bytes64 W b off z := by
  obtain ⟨b', off', e, hl, hc⟩ := h.2.1 (by decide)
  injection e with e; injection e with e1 e2 _; subst e1; subst e2
  exact ⟨hl, hz, hc⟩

set_option maxHeartbeats 2000000 in
theorem walk_no (A : Option Addr) (len cap : Nat) (z : Nat → Int) (w : World) (hl : len ≤ 140737488351232) (h64 : ¬ len = 64) (hs : Holds w A len (fun i => .int .u8 (z i))) (hT : Tab w) :
    Calls Tryd.prog 4 #[.slice A len cap] w fun e w' => e = .returned (.bool true) ∧ Below w.heap.size w w' := by
  have HT := Lib.hid hT
  have HS := Lib.hid hs
  have H64 := Lib.hid h64
  clear hT hs h64
  have eqd := fun w => ne_same 0 0 0 0 0 0 0 0 0 w
  go_enter Tryd.func4, Tryd.ntmps4
  go_wp2_with (first
    | (go_at_call 10; (with_reducible refine (head_true _ HT.out).mono ?_); rintro e w0 ⟨rfl, hb0⟩; have HB0 := Lib.hid hb0; have HS0 := Lib.hid (HS.out.below (hb0.alloc hb0.size (.cells #[] 5))); clear hb0)
    | (at_builtin; refine wpList_append_row _ rfl (.tmp 11) (.tmp 12) 28 rfl 5 (.int .u8 0) 1 Tryd.underlying28 info_u8 rfl w0.heap.size 0 0 (fun _ => undef) rfl (World.rowIs_alloc w0 #[] 5 (fun _ => undef) (fun i hi => absurd hi (by simp))) (Nat.le_refl _) (by decide) _ len cap (fun i => .int .u8 (z i)) rfl HS0.out (fun _ => rfl) (by unfold maxLen; omega) (by omega) ?_; intro g1 cap1 F1 w1 hr1 hc1 hm1 _ hF1 hg1 hgg1; simp only [Nat.zero_add] at hc1 hF1; obtain ⟨hb1, hge1⟩ := append_new_below hg1 hgg1; clear hg1 hgg1; have HF1 := Lib.hid hF1; clear hF1)
    | (at_builtin; refine wpList_append_row _ rfl (.tmp 13) (.tmp 14) 28 rfl 5 (.int .u8 0) 1 Tryd.underlying28 info_u8 rfl g1 len cap1 F1 rfl (hr1.alloc _) hc1 hm1 (some ⟨w1.heap.size, 0, none⟩) 1 1 (fun _ => .int .u8 77) rfl (one_new w1) (fun _ => rfl) (by unfold maxLen; omega) (by omega) ?_; intro g2 cap2 F2 w2 hr2 hc2 hm2 hF2 hG2 hg2 hgg2; clear HS0))
  obtain ⟨hb2, hge2⟩ := second_new hg2 hgg2 hb1 hge1 hr1.lt
  have HO := Lib.hid (own_new HB0.out HS.out hb2 hge2 HF1.out hr2 hc2 hF2 hG2)
  have k1 : (len : Int) ≤ (cap2 : Int) := by omega
  have k2 : (len : Int) + 1 ≤ (cap2 : Int) := by omega
  clear hr1 hr2 hF2 hG2 hg2 hgg2 hb1 hb2 hge1 HF1 HB0
  have hcap2 : len ≤ cap2 := by omega
  go_wp2_with (first
    | (go_at_call 13; (with_reducible refine (read_len _ len cap2 H64.out _).mono ?_); rintro e w3 ⟨rfl, hb3⟩; have HO3 := Lib.hid ((HO.out.below hb3).below (below_box w3 (.cells #[.int .u32 0, .int .u32 0, .int .u64 0, .int .u64 0, .int .u64 0, .int .u64 0, .int .u64 0, .int .u64 0, .int .u64 0] 26))); have HX3 := Lib.hid (Box.new w3 26 0 0 0 (fun _ => 0)); clear hb3 HO)
    | (go_at_call 14; (with_reducible refine (ref_len _ len cap H64.out _).mono ?_); rintro e w4 ⟨rfl, hb4⟩; have HO5 := Lib.hid ((HO3.out.below hb4).below (below_box w4 (.cells #[.int .u32 0, .int .u32 0, .int .u64 0, .int .u64 0, .int .u64 0, .int .u64 0, .int .u64 0, .int .u64 0, .int .u64 0] 26))); obtain ⟨c0, c1, c2, a0, a1, a2, a3, a4, a5⟩ := box_cells ((HX3.out.below hb4 HX3.out.1).below (below_box w4 (.cells #[.int .u32 0, .int .u32 0, .int .u64 0, .int .u64 0, .int .u64 0, .int .u64 0, .int .u64 0, .int .u64 0, .int .u64 0] 26)) (Nat.lt_of_lt_of_le HX3.out.1 hb4.size)); have k3 := run_string_of (P := Tryd.prog) (w4.alloc (.cells #[.int .u32 0, .int .u32 0, .int .u64 0, .int .u64 0, .int .u64 0, .int .u64 0, .int .u64 0, .int .u64 0, .int .u64 0] 26)) 28 9 5 Tryd.underlying28 Tryd.underlying5 Tryd.underlying9 _ len cap2 z HO5.out.holds; have k4 := run_string_of (P := Tryd.prog) (w4.alloc (.cells #[.int .u32 0, .int .u32 0, .int .u64 0, .int .u64 0, .int .u64 0, .int .u64 0, .int .u64 0, .int .u64 0, .int .u64 0] 26)) 28 9 5 Tryd.underlying28 Tryd.underlying5 Tryd.underlying9 _ len cap z HO5.out.2.1; have c77 := HO5.out.behind; clear hb4 HO3 HX3))
  clear c0 c1 c2 a0 a1 a2 a3 a4 a5 k3 k4 c77
  go_quiet (fail)
  go_wp2
  go_ret
  exact ⟨rfl, below_drawn HO5.out.2.2.1 _⟩

set_option maxHeartbeats 2000000 in
theorem walk_64 (b off cap : Nat) (nr arch ip : Int) (a : Nat → Int) (w : World) (hD : DataOK nr arch ip a) (hs : Bytes64 w b off (dbyte nr arch ip a)) (hT : Tab w) :
    Calls Tryd.prog 4 #[.slice (some ⟨b, off, none⟩) 64 cap] w fun e w' => e = .returned (.bool true) ∧ Below w.heap.size w w' := by
  have HT := Lib.hid hT
  have hs' : Holds w (some ⟨b, off, none⟩) 64 (fun i => .int .u8 (dbyte nr arch ip a i)) := fun _ => ⟨b, off, rfl, hs.1, hs.2.2⟩
  have HS := Lib.hid hs'
  have HZ := Lib.hid hs
  have HD := Lib.hid hD
  have HB := Lib.hid (fun w => secdata_Bytes nr arch ip a hD.1 hD.2.1 hD.2.2.1 hD.2.2.2 w)
  clear hT hs hs' hD
  have eqd := fun w => ne_same nr arch ip (a 0) (a 1) (a 2) (a 3) (a 4) (a 5) w
  go_enter Tryd.func4, Tryd.ntmps4
  go_wp2_with (first
    | (go_at_call 10; (with_reducible refine (head_true _ HT.out).mono ?_); rintro e w0 ⟨rfl, hb0⟩; have HB0 := Lib.hid hb0; have HS0 := Lib.hid (HS.out.below (hb0.alloc hb0.size (.cells #[] 5))); clear hb0)
    | (at_builtin; refine wpList_append_row _ rfl (.tmp 11) (.tmp 12) 28 rfl 5 (.int .u8 0) 1 Tryd.underlying28 info_u8 rfl w0.heap.size 0 0 (fun _ => undef) rfl (World.rowIs_alloc w0 #[] 5 (fun _ => undef) (fun i hi => absurd hi (by simp))) (Nat.le_refl _) (by decide) _ 64 cap (fun i => .int .u8 (dbyte nr arch ip a i)) rfl HS0.out (fun _ => rfl) (by decide) (by decide) ?_; intro g1 cap1 F1 w1 hr1 hc1 hm1 _ hF1 hg1 hgg1; simp only [Nat.zero_add] at hc1 hF1; obtain ⟨hb1, hge1⟩ := append_new_below hg1 hgg1; clear hg1 hgg1; have HF1 := Lib.hid hF1; clear hF1)
    | (at_builtin; refine wpList_append_row _ rfl (.tmp 13) (.tmp 14) 28 rfl 5 (.int .u8 0) 1 Tryd.underlying28 info_u8 rfl g1 64 cap1 F1 rfl (hr1.alloc _) hc1 hm1 (some ⟨w1.heap.size, 0, none⟩) 1 1 (fun _ => .int .u8 77) rfl (one_new w1) (fun _ => rfl) (by decide) (by decide) ?_; intro g2 cap2 F2 w2 hr2 hc2 hm2 hF2 hG2 hg2 hgg2; clear HS0))
  obtain ⟨hb2, hge2⟩ := second_new hg2 hgg2 hb1 hge1 hr1.lt
  have HO := Lib.hid (own_new HB0.out HS.out hb2 hge2 HF1.out hr2 hc2 hF2 hG2)
  have k1 : (64 : Int) ≤ (cap2 : Int) := by omega
  have k2 : (65 : Int) ≤ (cap2 : Int) := by omega
  clear hr1 hr2 hF2 hG2 hg2 hgg2 hb1 hb2 hge1 HF1 HB0
  have hcap2 : 64 ≤ cap2 := by omega
  have hcap3 : 65 ≤ cap2 := by omega
  have HZ2 := Lib.hid (own64 (dbyte_bd nr arch ip a) HO.out)
  go_wp2_with (first
    | (go_at_call 13; (with_reducible refine (read_back HD.out g2 cap2 _ HZ2.out).mono ?_); rintro e w3 ⟨rfl, hb3⟩; have HO3 := Lib.hid ((HO.out.below hb3).below (below_box w3 (.cells #[.int .u32 nr, .int .u32 arch, .int .u64 ip, .int .u64 (a 0), .int .u64 (a 1), .int .u64 (a 2), .int .u64 (a 3), .int .u64 (a 4), .int .u64 (a 5)] 26))); have HX3 := Lib.hid (Box.new w3 26 nr arch ip a); have HI3 := Lib.hid (in64 (dbyte_bd nr arch ip a) HO3.out); clear hb3 HO HZ2)
    | (go_at_call 14; (with_reducible refine (ref_back HD.out b off cap _ HI3.out).mono ?_); rintro e w4 ⟨rfl, hb4⟩; have HO5 := Lib.hid ((HO3.out.below hb4).below (below_box w4 (.cells #[.int .u32 nr, .int .u32 arch, .int .u64 ip, .int .u64 (a 0), .int .u64 (a 1), .int .u64 (a 2), .int .u64 (a 3), .int .u64 (a 4), .int .u64 (a 5)] 26))); have HX5 := Lib.hid ((HX3.out.below hb4 HX3.out.1).below (below_box w4 (.cells #[.int .u32 nr, .int .u32 arch, .int .u64 ip, .int .u64 (a 0), .int .u64 (a 1), .int .u64 (a 2), .int .u64 (a 3), .int .u64 (a 4), .int .u64 (a 5)] 26)) (Nat.lt_of_lt_of_le HX3.out.1 hb4.size)); obtain ⟨c0, c1, c2, a0, a1, a2, a3, a4, a5⟩ := box_cells HX5.out; have k3 := str64 (W := w4.alloc (.cells #[.int .u32 nr, .int .u32 arch, .int .u64 ip, .int .u64 (a 0), .int .u64 (a 1), .int .u64 (a 2), .int .u64 (a 3), .int .u64 (a 4), .int .u64 (a 5)] 26)) cap2 (own64 (dbyte_bd nr arch ip a) HO5.out); have k4 := str64 (W := w4.alloc (.cells #[.int .u32 nr, .int .u32 arch, .int .u64 ip, .int .u64 (a 0), .int .u64 (a 1), .int .u64 (a 2), .int .u64 (a 3), .int .u64 (a 4), .int .u64 (a 5)] 26)) cap (in64 (dbyte_bd nr arch ip a) HO5.out); have c77 := HO5.out.behind; clear hb4 HO3 HX3 HI3))
  clear c0 c1 c2 a0 a1 a2 a3 a4 a5 k3 k4 c77
  have HI5 := Lib.hid (in64 (dbyte_bd nr arch ip a) HO5.out)
  refine wp_region_held_drew (S := fun w' => Box w' w3.heap.size nr arch ip a ∧ Bytes64 w' b off (dbyte nr arch ip a)) (by kernel_rfl) ⟨HX5.out.drew, HI5.out⟩ (fun hHeld => ?_)
  refine wpAnyH_take (i := 0) (v := ?_) rfl (by kernel_rfl) (by kernel_rfl) (by kernel_rfl) (fun _ _ _ h => h) (Or.inl ⟨by rfl, ?_⟩) (by assumption) ?_
  rotate_left
  · intro wS hSw
    (have q1 := box_cells hSw.1; have q2 := str64 cap hSw.2; clear hSw)
    go_simp
    all_goals with_reducible rfl
  (try simp only [Act.put, List.setIfInBounds_toArray, List.set_cons_zero, List.set_cons_succ])
  refine wpAnyH_take (i := 1) (v := ?_) rfl (by kernel_rfl) (by kernel_rfl) (by kernel_rfl) (fun _ _ _ h => h) (Or.inl ⟨by rfl, ?_⟩) (by assumption) ?_
  rotate_left
  · intro wS hSw
    (have q1 := box_cells hSw.1; have q2 := str64 cap hSw.2; clear hSw)
    go_simp
    all_goals with_reducible rfl
  (try simp only [Act.put, List.setIfInBounds_toArray, List.set_cons_zero, List.set_cons_succ])
  refine wpAnyH_take (i := 2) (v := ?_) rfl (by kernel_rfl) (by kernel_rfl) (by kernel_rfl) (fun _ _ _ h => h) (Or.inl ⟨by rfl, ?_⟩) (by assumption) ?_
  rotate_left
  · intro wS hSw
    (have q1 := box_cells hSw.1; have q2 := str64 cap hSw.2; clear hSw)
    go_simp
    all_goals with_reducible rfl
  (try simp only [Act.put, List.setIfInBounds_toArray, List.set_cons_zero, List.set_cons_succ])
  refine wpAnyH_take (i := 3) (v := ?_) rfl (by kernel_rfl) (by kernel_rfl) (by kernel_rfl) (fun _ _ _ h => h) (Or.inl ⟨by rfl, ?_⟩) (by assumption) ?_
  rotate_left
  · intro wS hSw
    (have q1 := box_cells hSw.1; have q2 := str64 cap hSw.2; clear hSw)
    go_simp
    all_goals with_reducible rfl
  (try simp only [Act.put, List.setIfInBounds_toArray, List.set_cons_zero, List.set_cons_succ])
  refine wpAnyH_take (i := 6) (v := ?_) rfl (by kernel_rfl) (by kernel_rfl) (by kernel_rfl) (fun _ _ _ h => h) (Or.inl ⟨by rfl, ?_⟩) (by assumption) ?_
  rotate_left
  · intro wS hSw
    (have q1 := box_cells hSw.1; have q2 := str64 cap hSw.2; clear hSw)
    go_simp
    all_goals with_reducible rfl
  (try simp only [Act.put, List.setIfInBounds_toArray, List.set_cons_zero, List.set_cons_succ])
  refine wpAnyH_take (i := 7) (v := ?_) rfl (by kernel_rfl) (by kernel_rfl) (by kernel_rfl) (fun _ _ _ h => h) (Or.inl ⟨by rfl, ?_⟩) (by assumption) ?_
  rotate_left
  · intro wS hSw
    (have q1 := box_cells hSw.1; have q2 := str64 cap hSw.2; clear hSw)
    go_simp
    all_goals with_reducible rfl
  (try simp only [Act.put, List.setIfInBounds_toArray, List.set_cons_zero, List.set_cons_succ])
  refine held_one (i := 4) (by kernel_rfl) rfl (fun K hK => ?_)
  go_simp
  go_at_call 11
  refine (HB.out _).mono ?_
  rintro e w6 ⟨v6, rfl, hm6⟩
  obtain ⟨g6, cap6, rfl, hz6, hb6, hg6⟩ := bytes64_made (dbyte_bd nr arch ip a) hm6
  refine hK.out _ _ ⟨hHeld.1.below hb6 hHeld.1.1, hHeld.2.below hb6 hHeld.2.1⟩ (fun hH2 => ?_)
  have HB6 := Lib.hid ((below_drawn HO5.out.2.2.1 1).trans (hb6.mono HO5.out.2.2.1.size))
  clear hK K hm6 hb6 hg6 hHeld
  refine held_mono (S' := fun w' => (Box w' w3.heap.size nr arch ip a ∧ Bytes64 w' b off (dbyte nr arch ip a)) ∧ Bytes64 w' g6 0 (dbyte nr arch ip a)) (fun _ h => h.1) _ _ _ _ ?_
  have hHeld : (fun w' => (Box w' w3.heap.size nr arch ip a ∧ Bytes64 w' b off (dbyte nr arch ip a)) ∧ Bytes64 w' g6 0 (dbyte nr arch ip a)) w6 := ⟨hH2, hz6⟩
  clear hH2 hz6
  (try simp only [Act.put, List.setIfInBounds_toArray, List.set_cons_zero, List.set_cons_succ])
  refine wpAnyH_take (i := 5) (v := ?_) rfl (by kernel_rfl) (by kernel_rfl) (by kernel_rfl) (fun _ _ _ h => h) (Or.inl ⟨by rfl, ?_⟩) (by assumption) ?_
  rotate_left
  · intro wS hSw
    (have q2 := str64 cap6 hSw.2; clear hSw)
    go_simp
    all_goals with_reducible rfl
  (try simp only [Act.put, List.setIfInBounds_toArray, List.set_cons_zero, List.set_cons_succ])
  refine wpAnyH_take (i := 8) (v := ?_) rfl (by kernel_rfl) (by kernel_rfl) (by kernel_rfl) (fun _ _ _ h => h) (Or.inl ⟨by rfl, ?_⟩) (by assumption) ?_
  rotate_left
  · intro wS hSw
    (have q2 := str64 cap6 hSw.2; clear hSw)
    go_simp
    all_goals with_reducible rfl
  (try simp only [Act.put, List.setIfInBounds_toArray, List.set_cons_zero, List.set_cons_succ])
  refine wpAnyH_take (i := 9) (v := ?_) rfl (by kernel_rfl) (by kernel_rfl) (by kernel_rfl) (fun _ _ _ h => h) (Or.inl ⟨by rfl, ?_⟩) (by assumption) ?_
  rotate_left
  · intro wS hSw
    (have q2 := str64 cap6 hSw.2; clear hSw)
    go_simp
    all_goals with_reducible rfl
  (try simp only [Act.put, List.setIfInBounds_toArray, List.set_cons_zero, List.set_cons_succ])
  refine wpAnyH_take (i := 10) (v := ?_) rfl (by kernel_rfl) (by kernel_rfl) (by kernel_rfl) (fun _ _ _ h => h) (Or.inl ⟨by rfl, ?_⟩) (by assumption) ?_
  rotate_left
  · intro wS hSw
    (have q2 := str64 cap6 hSw.2; clear hSw)
    go_simp
    all_goals with_reducible rfl
  (try simp only [Act.put, List.setIfInBounds_toArray, List.set_cons_zero, List.set_cons_succ])
  refine wpAnyH_done (by kernel_rfl) ?_ _
  go_wp2
  go_ret
  exact ⟨rfl, HB6.out⟩

theorem walk (a0 : Option Addr) (len0 cap0 : Nat) (z0 : List Int) (w : World) (w0 : IsRow .u8 w a0 len0 cap0 z0 ∧ cap0 * 1 ≤ 140737488351232) (hT : Tab w) :
    Calls Tryd.prog 4 #[.slice a0 len0 cap0] w fun e w' => e = .returned (.bool true) ∧ Below w.heap.size w w' := by
  obtain ⟨w0, hcap⟩ := w0
  have hlc := isRow_len w0
  have hs := holds_of_isRow w0
  have hz := isRow_byte w0
  by_cases h : len0 = 64
  · subst h
    obtain ⟨b, off, rfl, hbl, hc⟩ := hs (by decide)
    have hD : DataOK (w4 (fun i => z0.getD i 0) 0) (w4 (fun i => z0.getD i 0) 4) (w8 (fun i => z0.getD i 0) 8) (fun i => w8 (fun i => z0.getD i 0) (16 + i * 8)) := ⟨w4_bd hz 0, w4_bd hz 4, w8_bd hz 8, fun i => w8_bd hz _⟩
    exact walk_64 b off cap0 _ _ _ _ w hD ⟨hbl, dbyte_bd _ _ _ _, fun i hi => by rw [dbyte_read _ hz i hi]; exact hc i hi⟩ hT
  · exact walk_no a0 len0 cap0 (fun i => z0.getD i 0) w (by omega) h hs hT

/-! ### The row's step, the statement, and the card -/
theorem door_met (os : Os) (args : Array Value) : laidMetH Tryd.prog [("ravelin/secdata.rows", Rows.laid_ravelin_secdata_rows)] ((World.doorLaid Tryd.prog 400 os).forCall (fun _ _ => 0) ⟨#[], args, []⟩).memory :=
  laidMetH_of_parts3 (fuel := 8) (laidMet_of_run' 8 (by kernel_rfl) (by kernel_rfl)) (by kernel_rfl) (by kernel_rfl)

set_option maxRecDepth 100000 in
theorem lifted (os : Os) (started : os.Started) (H : Type) (enc : TypeId × Value → H) :
    ReturnsInHanded {} Tryd.checked os 4 .any (fun w args => (Rows.secdataReadsSpec.pre enc Tryd.prog Tryd.f4 [] false w args ∧ laidMetH Tryd.prog [("ravelin/secdata.rows", Rows.laid_ravelin_secdata_rows)] w) ∧ sizedMet enc Tryd.prog Tryd.f4 (OpenSpec.ofChange Rows.secdataReadsSpec) false w args)
      (Rows.secdataReadsSpec.post enc Tryd.prog Tryd.f4 false true false false) := by
  refine returnsInHanded_of_change_and (C := Tryd.checked) (X := fun w _ => laidMetH Tryd.prog [("ravelin/secdata.rows", Rows.laid_ravelin_secdata_rows)] w) (fun _ _ _ hh h => h.of_heap hh) own started (by kernel_rfl) Tryd.func4
    (ChangeSpec.witness_shaped (enc := enc) (C := Tryd.checked) (os := os) (X := fun w _ => laidMetH Tryd.prog [("ravelin/secdata.rows", Rows.laid_ravelin_secdata_rows)] w) false (World.doorLaid Tryd.prog 400 os) #[.slice none 0 0] 8 rfl (World.shaped_of_RefB (by kernel_rfl) (by kernel_rfl)) (by kernel_rfl) (by kernel_rfl) (by kernel_rfl) (door_met os _)) ?_
  intro W base args ds gs before hval0 hW _ hsz0 hL _
  have hsz : (DataW.weightsEach Tryd.prog (Tryd.f4.params.toList ++ Rows.secdataReadsSpec.plain.varTypes Tryd.prog) (ds ++ gs)).all (· ≤ reachBytes) = true := hsz0
  clear hsz0
  have hval : ∀ (j : Nat) t v, Tryd.f4.params[j]? = some t → args[j]? = some v → Value.okWide Tryd.prog W .any base t v := hval0
  have hW' := hW
  obtain ⟨p, q, hA0, hV, rfl, hfz, hnd⟩ := hW
  have hA : DataW.TrodAll enc Tryd.prog W 0 (fun _ => true) true Tryd.f4.params.toList args.toList ds p := hA0
  rw [Tryd.params4] at hA hval hsz
  obtain ⟨v0, vs0, d0, ds0, p0, q0, hargs, rfl, rfl, h0, r0⟩ := trodAll_cons hA
  obtain ⟨rfl, rfl, rfl⟩ := trodAll_nil r0
  obtain rfl : args = #[v0] := by cases args; simp_all
  obtain ⟨rfl, rfl⟩ := trodVars_none hV
  obtain ⟨a0, len0, cap0, rfl⟩ := okWide_slice Tryd.underlying28 (hval 0 28 v0 rfl rfl)
  have k0 := h0
  have lt0 : ∀ x ∈ p0, x.block < W.heap.size := by obtain ⟨m, hm⟩ := k0; exact DataW.trod_lt m _ _ _ hm
  obtain ⟨z0, w0⟩ : ∃ zs, IsRow .u8 W a0 len0 cap0 zs ∧ cap0 * 1 ≤ 140737488351232 := by
    obtain ⟨fuel, hf⟩ := h0
    rcases open_ints Tryd.underlying28 Tryd.underlying5 (by kernel_rfl) hf with ⟨hcs, _⟩ | ⟨x, l, c, zs, hcs, _, hl, hm, hz, hx, hcell, hwz⟩
    · simp [Value.cells] at hcs
      obtain ⟨rfl, rfl, rfl⟩ := hcs
      exact ⟨[], ⟨.inl ⟨rfl, rfl, rfl, rfl⟩, by omega⟩⟩
    · simp [Value.cells] at hcs
      obtain ⟨rfl, rfl, rfl⟩ := hcs
      have hd : d0 = _ := congrArg Prod.fst hx
      have hr := sized_slice hsz (j := 0) (t := 28) (e := 5) rfl (congrArg some hd) Tryd.underlying28
      rw [show Tryd.prog.bytesOf 5 = 1 by kernel_rfl] at hr
      simp only [lits, List.length_map, List.length_take, List.length_drop, reachBytes] at hr
      have hzl : zs.length = _ := hz
      simp only [if_true] at hzl
      exact ⟨zs, ⟨.inr ⟨_, rfl, hl, hm, by simpa using hz, hcell, hwz⟩, by omega⟩⟩
  clear hA0 hval0
  refine (walk a0 len0 cap0 z0 W w0 (tab_of_laid hL)).mono fun e W' ⟨he, bel⟩ => ?_
  subst he
  exact ⟨_, rfl, _, _, _, [], _, [], hW', trodAll_mk1 (shut_bool Tryd.underlying4 _), (trodAll_cons_mk (Below.trod laidOut (by kernel_rfl) (of_decide_eq_true (by kernel_rfl)) k0 bel lt0) trodAll_mk0), rfl, bel.frame _, fun h => by cases h⟩

theorem over : Rows.secdataReadsRow.holds Tryd.pinned (OpenSpec.ofChange Rows.secdataReadsSpec) :=
  OpenClaim.holds_of_wide 4 Tryd.f4 rfl rfl rfl rfl rfl rfl rfl ⟨rfl, rfl, rfl, rfl, rfl⟩ rfl rfl rfl rfl rfl (by kernel_rfl) Tryd.func4 (by kernel_rfl)
    (of_decide_eq_true (by kernel_rfl)) (by unfold Func.isWrapper; first | (rw [if_pos (by decide +kernel)]; kernel_rfl) | (rw [if_neg (by decide +kernel)]; exact ⟨rfl, rfl⟩))
    (fun os started H enc _ => lifted os started H enc)

/-- The statement: the row's card, what it lists tied to the program's text. -/
theorem proved : Rows.SecdataReadsCardSaid :=
  Claim7.holds_tied_plain_at .later [] [.data] true Rows.secdataReadsCard.stood.harness Rows.secdataReadsCard.stood.looks
    over (fun _ h => by cases h) (by kernel_rfl) (fun _ h => by cases h) secdataReads_row_tie rfl ⟨rfl, rfl⟩ (by kernel_rfl) rfl
    (fun f fn hf hfn => by
      obtain rfl : f = 4 := Option.some.inj ((show Tryd.prog.funcNamed "ravelin/ravelinlaw02.SecdataReads" = some 4 by kernel_rfl).symm.trans hf) |>.symm
      obtain rfl : fn = Tryd.f4 := (Option.some.inj (Tryd.func4.symm.trans hfn)).symm
      exact ⟨by kernel_rfl, fun j t ht => by
        have hm : t ∈ Tryd.f4.params.toList := by
          have := Array.mem_of_getElem? ht
          simpa using this
        have hall : (Tryd.f4.params.toList.all fun u => !Tryd.prog.wantsStandIn u) = true := by kernel_rfl
        exact (show Tryd.prog.wantsStandIn t = false by simpa using List.all_eq_true.1 hall t hm)⟩)
    (by kernel_rfl)
end Go.Proofs.YtdmjbiaigjifaaaDoor.secdataReads
