/-
  What Action of package secdata answers, and the document's: contracts over any memory in which the table of the kinds stands. Conditions: those that each contract names.
-/
import Derived.Test.YtdmjbiaigjifaaaDoorSecCode
import Derived.Laws.ResultCell
namespace Go.Proofs.YtdmjbiaigjifaaaDoor
open Go Go.RowKit
set_option linter.unusedSimpArgs false
set_option linter.unusedVariables false

theorem wrap_high (x : Int) (h0 : 0 ≤ x) (h1 : x < 4294967296) : IntKind.u32.wrap (x - x % 65536) = x - x % 65536 := by
  rw [IntKind.wrap_u32]; omega
theorem wrap_low (x : Int) : IntKind.u16.wrap (x % 65536) = x % 65536 := by
  rw [IntKind.wrap_u16]; omega

theorem below_set2' {w wr : World} (h : Below w.heap.size w wr) (u v : Value) : Below w.heap.size w ((wr.setCell ⟨w.heap.size, 0, none⟩ u).setCell ⟨w.heap.size, 1, none⟩ v) :=
  (h.setCell (p := ⟨w.heap.size, 0, none⟩) (Nat.le_refl _) u).setCell (p := ⟨w.heap.size, 1, none⟩) (Nat.le_refl _) v
theorem below_set2 {w wr : World} (h : Below w.heap.size w wr) (u v : Value) (o : Obj) : Below w.heap.size w (((wr.setCell ⟨w.heap.size, 0, none⟩ u).setCell ⟨w.heap.size, 1, none⟩ v).alloc o) :=
  (below_set2' h u v).alloc (below_set2' h u v).size o

set_option maxHeartbeats 400000 in
theorem secdata_Action (x : Int) (hx : 0 ≤ x) (hx' : x < 4294967296) (w : World) (hT : Tab w) :
    Calls Tryd.prog 21 #[.int .u32 x] w (ActP w x) := by
  have e1 := and_low x hx hx'
  have e2 := wrap_high x hx hx'
  have e3 := wrap_low x
  go_enter Tryd.func21, Tryd.ntmps21
  go_wp2
  go_loopw [7] (fun i wr => ∃ k : Nat, k ≤ 8 ∧ i = .int .i64 (k : Int) ∧ (∀ j, j < k → ¬ rowIsW j x) ∧ Below (w.heap.size + 1) (w.alloc (.cells #[.int .i64 0, .int .u16 0] 47)) wr) (fun i _ => 8 - (intOf i).toNat)
  case atStart => exact ⟨0, by omega, rfl, fun j hj => by omega, Below.refl _ _⟩
  case round =>
    obtain ⟨k, hk, rfl, hno, hb⟩ := hrel
    have d0 := (hb.cell (p := ⟨w.heap.size, 0, none⟩) (by simp)).trans (show _ = some (Value.int .i64 0) by simp)
    have d1 := (hb.cell (p := ⟨w.heap.size, 1, none⟩) (by simp)).trans (show _ = some (Value.int .u16 0) by simp)
    have z0 := (hb.frozen (p := ⟨w.heap.size, 0, none⟩) (by simp)).trans (show _ = false by simp)
    have z1 := (hb.frozen (p := ⟨w.heap.size, 1, none⟩) (by simp)).trans (show _ = false by simp)
    have hbw : Below w.heap.size w wr := ((Below.refl _ _).alloc (Nat.le_refl _) _).trans (hb.mono (by omega))
    have hsz : w.heap.size < wr.heap.size := by have := hb.size; simp at this; omega
    have HB := Lib.hid hb
    have HW := Lib.hid hbw
    have hT' := hT.below hbw hT.1
    have HN := Lib.hid hno
    by_cases h8 : k < 8
    · obtain ⟨c0, c1, c2⟩ := hT'.2 k h8
      have hlt : (k : Int) < 8 := by omega
      have HT := Lib.hid hT
      have hbf : ∀ o : Obj, Below w.heap.size w (wr.alloc o) := fun o => HW.out.alloc HW.out.size o
      have HBF := Lib.hid hbf
      clear hT hT' hb hbw hbf hno
      by_cases hq : rowW k = x - x % 65536
      · have HQ := Lib.hid hq
        rw [hq] at c1
        clear hq
        rcases hr : rowH k with _ | _
        · rw [hr] at c2
          have HR := Lib.hid hr
          clear hr
          by_cases hz : x % 65536 = 0
          · have HZ := Lib.hid hz
            go_wp2
            (try simp only [Exit.inBlock, Exit.then])
            refine bodyPost_ret (v := .tuple #[.agg #[.int .i64 ((k : Int) + 1), .int .u16 0], .int .i64 0]) ?_ rfl ?_
            · rw [results_cell_tmp rfl]
              go_simp
            · have g := actP_yes h8 ⟨HQ.out, .inr HZ.out⟩ HN.out (below_set2 HW.out (.int .i64 ((k : Int) + 1)) (.int .u16 0) (.cells #[.int .i64 ((k : Int) + 1), .int .u32 x, .bool false] 63))
              rwa [HZ.out] at g
          · have HZ := Lib.hid hz
            go_wp2
            go_roundw
            case rel => exact ⟨k + 1, by omega, by go_num, fun j hj h => by
              rcases Nat.lt_or_ge j k with g | g
              · exact HN.out j g h
              · obtain rfl : j = k := by omega
                rcases h.2 with a | a
                · rw [HR.out] at a; cases a
                · exact HZ.out a, HB.out.alloc (by omega) _⟩
            case measure => simp [intOf]; omega
        · rw [hr] at c2
          have HR := Lib.hid hr
          clear hr
          go_wp2
          (try simp only [Exit.inBlock, Exit.then])
          refine bodyPost_ret (v := .tuple #[.agg #[.int .i64 ((k : Int) + 1), .int .u16 (x % 65536)], .int .i64 0]) ?_ rfl ?_
          · rw [results_cell_tmp rfl]
            go_simp
          · exact actP_yes h8 ⟨HQ.out, .inl HR.out⟩ HN.out (below_set2 HW.out _ _ _)
      · have hq' : ¬ rowW k = x - x % 65536 := hq
        have HQ := Lib.hid hq
        clear hq
        go_wp2
        go_roundw
        case rel => exact ⟨k + 1, by omega, by go_num, fun j hj h => by
              rcases Nat.lt_or_ge j k with g | g
              · exact HN.out j g h
              · obtain rfl : j = k := by omega
                exact HQ.out h.1, HB.out.alloc (by omega) _⟩
        case measure => simp [intOf]; omega
    · clear hno
      go_wp2
      (try simp only [Exit.inBlock, Exit.then])
      refine bodyPost_ret (v := .tuple #[.agg #[.int .i64 0, .int .u16 0], .int .i64 23]) ?_ rfl ?_
      · rw [results_cell_tmp rfl]
        go_simp
      · obtain rfl : k = 8 := by omega
        exact actP_no HN.out (below_set2' HW.out _ _)

theorem ref_Code_at (k : Nat) (d v : Int) (h8 : k < 8) (hd : 0 ≤ d) (hd' : d < 65536) (h : rowH k = true ∨ d = 0) (hv : rowW k + d = v) (w : World) :
    Calls Tryd.prog 20 #[.agg #[.int .i64 ((k : Int) + 1), .int .u16 d]] w fun e w' => e = .returned (.tuple #[.int .u32 v, .int .i64 0]) ∧ Below w.heap.size w w' := by
  refine (ref_Code ((k : Int) + 1) d hd hd' w).mono ?_
  rintro e w' ⟨rfl, hb⟩
  have ht : ((k : Int) + 1 - 1).toNat = k := by omega
  have hc : codeOK ((k : Int) + 1) d := ⟨by omega, by omega, by rw [ht]; exact h⟩
  exact ⟨by rw [codeW, codeE, if_pos hc, if_pos hc, ht, hv], hb⟩

theorem act_after {w wr w' : World} {u v : Value} {t : TypeId} (HB : Below (w.heap.size + 1) (w.alloc (.cells #[.int .i64 0, .int .u16 0] 47)) wr)
    (hb : Below (wr.alloc (.cells #[u, v] t)).heap.size (wr.alloc (.cells #[u, v] t)) w') :
    (w'.cell? ⟨wr.heap.size, 0, none⟩ = some u ∧ w'.cell? ⟨wr.heap.size, 1, none⟩ = some v) ∧ (w'.frozen? ⟨w.heap.size, 0, none⟩ = false ∧ w'.frozen? ⟨w.heap.size, 1, none⟩ = false ∧ w'.cell? ⟨w.heap.size, 0, none⟩ = some (.int .i64 0) ∧ w'.cell? ⟨w.heap.size, 1, none⟩ = some (.int .u16 0)) ∧
    Below (w.heap.size + 1) (w.alloc (.cells #[.int .i64 0, .int .u16 0] 47)) w' ∧ Below w.heap.size w w' ∧ w.heap.size < wr.heap.size ∧ wr.heap.size < w'.heap.size := by
  have hs : w.heap.size + 1 ≤ wr.heap.size := by have := HB.size; simpa using this
  have hs2 : wr.heap.size + 1 ≤ w'.heap.size := by have := hb.size; simpa using this
  have h1 : Below (w.heap.size + 1) (w.alloc (.cells #[.int .i64 0, .int .u16 0] 47)) w' := (HB.alloc hs _).trans (hb.mono (by simp; omega))
  exact ⟨⟨(hb.cell (p := ⟨wr.heap.size, 0, none⟩) (by simp)).trans (by simp), (hb.cell (p := ⟨wr.heap.size, 1, none⟩) (by simp)).trans (by simp)⟩,
    ⟨(h1.frozen (p := ⟨w.heap.size, 0, none⟩) (by simp)).trans (by simp), (h1.frozen (p := ⟨w.heap.size, 1, none⟩) (by simp)).trans (by simp), (h1.cell (p := ⟨w.heap.size, 0, none⟩) (by simp)).trans (by simp), (h1.cell (p := ⟨w.heap.size, 1, none⟩) (by simp)).trans (by simp)⟩, h1, (below_box w _).trans (h1.mono (by omega)), by omega, by omega⟩

set_option maxHeartbeats 400000 in
theorem ref_Action (x : Int) (hx : 0 ≤ x) (hx' : x < 4294967296) (w : World) :
    Calls Tryd.prog 22 #[.int .u32 x] w (ActP w x) := by
  have e3 : IntKind.u16.wrap x = x % 65536 := by rw [IntKind.wrap_u16]
  go_enter Tryd.func22, Tryd.ntmps22
  go_wp2
  go_loopw [4] (fun i wr => ∃ k : Nat, k ≤ 8 ∧ i = .int .i64 ((k : Int) + 1) ∧ (∀ j, j < k → ¬ rowIsW j x) ∧ Below (w.heap.size + 1) (w.alloc (.cells #[.int .i64 0, .int .u16 0] 47)) wr) (fun i _ => 9 - (intOf i).toNat)
  case atStart => exact ⟨0, by omega, rfl, fun j hj => by omega, Below.refl _ _⟩
  case round =>
    obtain ⟨k, hk, rfl, hno, hb⟩ := hrel
    have z0 := (hb.frozen (p := ⟨w.heap.size, 0, none⟩) (by simp)).trans (show _ = false by simp)
    have z1 := (hb.frozen (p := ⟨w.heap.size, 1, none⟩) (by simp)).trans (show _ = false by simp)
    have hbw : Below w.heap.size w wr := ((Below.refl _ _).alloc (Nat.le_refl _) _).trans (hb.mono (by omega))
    have hsz : w.heap.size < wr.heap.size := by have := hb.size; simp at this; omega
    have HB := Lib.hid hb
    have HW := Lib.hid hbw
    have HN := Lib.hid hno
    clear hb hbw hno
    by_cases h8 : k < 8
    · have hlt : (k : Int) + 1 ≤ 8 := by omega
      rcases hr : rowH k with _ | _
      · have HR := Lib.hid hr
        clear hr
        by_cases hq : rowW k = x
        · have hm : x % 65536 = 0 := by have := (rowW_lt k).2.2; omega
          have hrow : rowIsW k x := ⟨by omega, .inr hm⟩
          have HQ := Lib.hid hrow
          have HM := Lib.hid hm
          have HX := Lib.hid hq
          clear hrow hm hq
          go_wp2_with (first | (go_at_call 29; refine (ref_base_has k h8 _ HR.out _).mono ?_; rintro e w' ⟨rfl, rfl⟩) | (go_at_call 20; refine (ref_Code_at k _ x h8 (by omega) (by omega) (.inr rfl) (by rw [HX.out]; omega) _).mono ?_; rintro e w' ⟨rfl, hb2⟩; obtain ⟨⟨c0, c1⟩, ⟨y0, y1, y2, y3⟩, b1, b2, s1, s2⟩ := act_after HB.out hb2; clear hb2))
          (try simp only [Exit.inBlock, Exit.then])
          refine bodyPost_ret (v := .tuple #[.agg #[.int .i64 ((k : Int) + 1), .int .u16 0], .int .i64 0]) ?_ rfl ?_
          · rw [results_cell_tmp rfl]
            go_simp
          · have g := actP_yes h8 HQ.out HN.out (below_set2' b2 (.int .i64 ((k : Int) + 1)) (.int .u16 0))
            rwa [HM.out] at g
        · have hq' : ¬ rowW k = x := hq
          have HQ := Lib.hid hq
          clear hq
          go_wp2_with (first | (go_at_call 29; refine (ref_base_has k h8 _ HR.out _).mono ?_; rintro e w' ⟨rfl, rfl⟩) | (go_at_call 20; refine (ref_Code_at k _ (rowW k) h8 (by omega) (by omega) (.inr rfl) (by omega) _).mono ?_; rintro e w' ⟨rfl, hb2⟩; obtain ⟨⟨c0, c1⟩, ⟨y0, y1, y2, y3⟩, b1, b2, s1, s2⟩ := act_after HB.out hb2; clear hb2))
          go_roundw
          case rel => exact ⟨k + 1, by omega, by go_num, fun j hj h => by
              rcases Nat.lt_or_ge j k with g | g
              · exact HN.out j g h
              · obtain rfl : j = k := by omega
                rcases h.2 with a | a
                · rw [HR.out] at a; cases a
                · exact HQ.out (by have := h.1; omega), b1⟩
          case measure => simp [intOf]; omega
      · have HR := Lib.hid hr
        clear hr
        by_cases hq : rowW k = x - x % 65536
        · have hrow : rowIsW k x := ⟨hq, .inl HR.out⟩
          have HQ := Lib.hid hrow
          have HX := Lib.hid hq
          clear hrow hq
          go_wp2_with (first | (go_at_call 29; refine (ref_base_has k h8 _ HR.out _).mono ?_; rintro e w' ⟨rfl, rfl⟩) | (go_at_call 20; refine (ref_Code_at k _ x h8 (by omega) (by omega) (.inl HR.out) (by rw [HX.out]; omega) _).mono ?_; rintro e w' ⟨rfl, hb2⟩; obtain ⟨⟨c0, c1⟩, ⟨y0, y1, y2, y3⟩, b1, b2, s1, s2⟩ := act_after HB.out hb2; clear hb2))
          (try simp only [Exit.inBlock, Exit.then])
          refine bodyPost_ret (v := .tuple #[.agg #[.int .i64 ((k : Int) + 1), .int .u16 (x % 65536)], .int .i64 0]) ?_ rfl ?_
          · rw [results_cell_tmp rfl]
            go_simp
          · exact actP_yes h8 HQ.out HN.out (below_set2' b2 _ _)
        · have hq' : ¬ rowW k + x % 65536 = x := fun h => hq (by omega)
          have HQ := Lib.hid hq
          clear hq
          go_wp2_with (first | (go_at_call 29; refine (ref_base_has k h8 _ HR.out _).mono ?_; rintro e w' ⟨rfl, rfl⟩) | (go_at_call 20; refine (ref_Code_at k _ (rowW k + x % 65536) h8 (by omega) (by omega) (.inl HR.out) rfl _).mono ?_; rintro e w' ⟨rfl, hb2⟩; obtain ⟨⟨c0, c1⟩, ⟨y0, y1, y2, y3⟩, b1, b2, s1, s2⟩ := act_after HB.out hb2; clear hb2))
          go_roundw
          case rel => exact ⟨k + 1, by omega, by go_num, fun j hj h => by
              rcases Nat.lt_or_ge j k with g | g
              · exact HN.out j g h
              · obtain rfl : j = k := by omega
                exact HQ.out h.1, b1⟩
          case measure => simp [intOf]; omega
    · have hge : ¬ (k : Int) + 1 ≤ 8 := by omega
      have y2 := (HB.out.cell (p := ⟨w.heap.size, 0, none⟩) (by simp)).trans (show _ = some (Value.int .i64 0) by simp)
      have y3 := (HB.out.cell (p := ⟨w.heap.size, 1, none⟩) (by simp)).trans (show _ = some (Value.int .u16 0) by simp)
      go_wp2
      (try simp only [Exit.inBlock, Exit.then])
      refine bodyPost_ret (v := .tuple #[.agg #[.int .i64 0, .int .u16 0], .int .i64 23]) ?_ rfl ?_
      · rw [results_cell_tmp rfl]
        go_simp
      · obtain rfl : k = 8 := by omega
        exact actP_no HN.out (below_set2' HW.out _ _)
end Go.Proofs.YtdmjbiaigjifaaaDoor
