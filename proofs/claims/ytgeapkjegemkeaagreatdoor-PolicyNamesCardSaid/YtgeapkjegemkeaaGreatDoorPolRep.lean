/-
  strings.Repeat of at least two copies of a text that begins with none of the five signs that the library keeps a row of: so many copies. Conditions: those, and 2^47 bytes at most.
-/
import Derived.Test.YtgeapkjegemkeaaGreatDoorZStr
import Derived.Test.YtgeapkjegemkeaaGreatDoorShelf2
import Derived.Lib.RepeatB
import Derived.Lib.FrozenHead
import Derived.Deep.LoopGhost
import Derived.Deep.DeepCutAuto
import Derived.Deep.DeepFit
import Derived.Deep.CutBlock
namespace Go.Proofs.YtgeapkjegemkeaaGreatDoor
open Go Go.RowKit Go.Lib
set_option linter.unusedSimpArgs false
set_option linter.unusedVariables false

abbrev BldF (b : Nat) (l : List UInt8) (W : World) : Prop := Lib.IsBuilderF 55 5 b b (Lib.byteCells l) W
theorem bldF_lt {b : Nat} {l : List UInt8} {W : World} (h : BldF b l W) : b < W.heap.size := by
  rcases h with g | g <;> exact g.lt
set_option maxHeartbeats 2000000 in
set_option maxRecDepth 100000 in
theorem bldF_check {b : Nat} {l : List UInt8} {w : World} (h : BldF b l w) :
    Calls Tryz.prog 64 #[.pointer (some ⟨b, 0, none⟩)] w fun e w' => e = .returned (.tuple #[]) ∧ Lib.BuilderAtF 55 5 b b (.pointer (some ⟨b, 0, none⟩)) (Lib.byteCells l) w' ∧ Below b w w' := by
  obtain ⟨j, hj, hjs⟩ := Option.map_eq_some_iff.1 (show (Tryz.prog.info? 55).map (fun i => i.size) = some 2 by kernel_rfl)
  have t1 : Tryz.prog.underlying 52 = some (.pointer 55) := by kernel_rfl
  have t2 : Tryz.prog.underlying 132 = some .unsafePointer := by kernel_rfl
  rcases h with h | h
  · have c0 := h.cell0
    have hsh := h.shape
    have fz := h.frozen0
    have r1 := Lib.run_to_unsafe (P := Tryz.prog) w ⟨b, 0, none⟩ t1 t2 hj (by rw [hjs]; decide) hsh (Nat.zero_lt_succ 1)
    have r3 := Lib.run_from_unsafe (P := Tryz.prog) w ⟨b, 0, none⟩ t2 t1 hj hsh (by kernel_rfl)
    clear hsh
    go_enter Tryz.func64, Tryz.ntmps64
    go_wp2
    rw [run_callFunc_extern Tryz.func93 (by kernel_rfl) (by kernel_rfl) (by kernel_rfl) (e := Extern.AbiNoEscape.same) (by kernel_rfl)]
    rw [Lib.run_noEscape]
    simp only [Result.andThen]
    rw [Oper.upon_value]
    go_wp2
    go_end0
    exact ⟨rfl, h.used _, (Below.refl b w).setCell (p := ⟨b, 0, none⟩) h.1 _⟩
  · have c0 := h.cell0
    have r1 := Lib.run_neq_ptr_same (P := Tryz.prog) w ⟨b, 0, none⟩ t1 hj
    go_enter Tryz.func64, Tryz.ntmps64
    go_wp2
    go_end0
    exact ⟨rfl, h, Below.refl _ _⟩
set_option maxHeartbeats 2000000 in
set_option maxRecDepth 100000 in
theorem bldF_write {b : Nat} {l : List UInt8} {w : World} (h : BldF b l w) (t : ByteArray) (hlen : l.length + t.size ≤ 140737488355328) :
    Calls Tryz.prog 30 #[.pointer (some ⟨b, 0, none⟩), .string t] w fun e W => (∃ n : Int, e = .returned (.tuple #[.int .i64 n, .nilIface])) ∧ BldF b (l ++ t.data.toList) W ∧ Below b w W := by
  obtain ⟨i0, hi, hz⟩ := Option.map_eq_some_iff.1 info_u89
  have hz0 : i0.zero = some (.int .u8 0) := congrArg (·.1) hz
  have hz1 : i0.size = 1 := congrArg (·.2.1) hz
  have hz2 : i0.bytes = 1 := congrArg (·.2.2) hz
  have hlt := bldF_lt h
  have HC := Lib.hid (bldF_check h)
  have HI := Lib.hid (And.intro hi (And.intro hz0 (And.intro hz1 hz2)))
  clear hz hz0 hz1 hz2 hi h
  go_enter Tryz.func30, Tryz.ntmps30
  go_wp2_with (go_at_call 64; refine HC.out.mono ?_)
  rintro e w1 ⟨rfl, h1, hb1⟩
  obtain ⟨hB, v, hbk, hown, hne⟩ := h1
  have c1 : w1.cell? ⟨b, 1, none⟩ = some v := by rw [Lib.cell_of_heap hbk]; rfl
  have HW := Lib.hid hb1
  have hbs := hb1.size
  clear hb1
  go_wp2_with (at_builtin; refine Lib.wpList_append_own_stringF _ rfl _ _ 53 9 rfl b 5 i0 (by kernel_rfl) (by kernel_rfl) HI.out.1 HI.out.2.1 HI.out.2.2.1 HI.out.2.2.2 _ _ _ rfl hown t rfl ?c3 ?c4 ?c5 ?_)
  case c3 => rw [cells_len]; unfold maxLen; omega
  case c4 => rw [cells_len]; exact hlen
  case c5 => omega
  intro v' w2 hown' hgrow _
  have hlt1 : b < w1.heap.size := (Array.getElem?_eq_some_iff.1 hbk).1
  have hb2 : w2.heap[b]? = some (.cells #[.pointer (some ⟨b, 0, none⟩), v] 55 (0, 0)) := by
    rw [hgrow.block b hlt1 (fun e => hne e.symm)]
    exact hbk
  have d1 : w2.cell? ⟨b, 1, none⟩ = some v := by rw [Lib.cell_of_heap hb2]; rfl
  have f1 : w2.frozen? ⟨b, 1, none⟩ = false := Lib.frozen_of_heap hb2 1
  have e3 : (Lib.byteCells l).length + t.size = (Lib.byteCells (l ++ t.data.toList)).length := by rw [cells_len, cells_len, List.length_append]; rfl
  have e4 : Lib.byteCells l ++ Lib.strCells t = Lib.byteCells (l ++ t.data.toList) := by rw [Lib.strCells_eq, cells_app]
  rw [e3, e4] at hown'
  have HE : Hid (BldF b (l ++ t.data.toList) (w2.setCell ⟨b, 1, none⟩ v') ∧ Below b w (w2.setCell ⟨b, 1, none⟩ v')) := Lib.hid ⟨.inr (Lib.BuilderAtF.put (T := 55) (e := 5) (Nat.le_refl _) hb2 hown' (by decide)),
    (HW.out.grown hgrow (by omega) (fun k hk => (hown.lt k hk).1)).setCell (p := ⟨b, 1, none⟩) (Nat.le_refl _) _⟩
  clear e3 e4
  obtain ⟨ao, n', cap, rfl⟩ : ∃ ao n' cap, v' = .slice ao n' cap := by
    rcases hown'.2 with ⟨hv, _⟩ | ⟨g, cap, cur, fz, hv, _⟩
    · exact ⟨_, _, _, hv⟩
    · exact ⟨_, _, _, hv⟩
  clear hown' hgrow hown
  go_wp2
  go_ret2
  exact ⟨⟨_, rfl⟩, HE.out⟩
set_option maxRecDepth 100000 in
theorem bldF_string {b : Nat} {l : List UInt8} {w : World} (h : BldF b l w) :
    Calls Tryz.prog 24 #[.pointer (some ⟨b, 0, none⟩)] w fun e W => e = .returned (.string (strL l)) ∧ BldF b l W ∧ Below b w W := by
  refine (Tryz.Builder_String_any_k b b l w h (Nat.le_of_lt (bldF_lt h))).mono ?_
  rintro e W ⟨rfl, hB, hb, _⟩
  exact ⟨rfl, hB, hb⟩
set_option maxHeartbeats 4000000 in
set_option maxRecDepth 1000000 in
theorem p_Repeat (s : ByteArray) (c : Nat) (w : World) (hc2 : 2 ≤ c) (hlen : s.size * c ≤ 140737488355328) (h0 : 0 < s.size) (h1 : byt s 0 ≠ 32 ∧ byt s 0 ≠ 45 ∧ byt s 0 ≠ 48 ∧ byt s 0 ≠ 61 ∧ byt s 0 ≠ 9) :
    Calls Tryz.prog 11 #[.string s, .int .i64 c] w fun e w' => e = .returned (.string ⟨(Lib.repeatL s.data.toList c).toArray⟩) ∧ Below w.heap.size w w' := by
  have hcb : c ≤ 140737488355328 := Nat.le_trans (Nat.le_mul_of_pos_left _ h0) hlen
  have hsb : s.size ≤ 140737488355328 := Nat.le_trans (Nat.le_mul_of_pos_right _ (by omega)) hlen
  have hMul := Tryz.bits_Mul s.size c (by omega) (by omega) w
  rw [Nat.div_eq_of_lt (by omega : s.size * c < 18446744073709551616), Nat.mod_eq_of_lt (by omega : s.size * c < 18446744073709551616)] at hMul
  obtain ⟨n, hn⟩ : ∃ n, s.size * c = n := ⟨_, rfl⟩
  rw [hn] at hMul hlen
  have HN := Lib.hid hn
  clear hn
  have HMUL := Lib.hid hMul
  clear hMul
  go_enter Tryz.func11, Tryz.ntmps11
  go_upto_block 1 with (go_at_call 27; refine HMUL.out.mono ?_; rintro e w' ⟨rfl, hw⟩; rw [hw])
  clear HMUL
  have hz9 : ((s[0]'h0).toNat : Int) = (byt s 0 : Int) := by rw [byt_is h0]
  generalize ((s[0]'h0).toNat : Int) = z at hz9 ⊢
  obtain ⟨z1, z2, z3, z4, z5⟩ : (z == 32) = false ∧ (z == 45) = false ∧ (z == 48) = false ∧ (z == 61) = false ∧ (z == 9) = false := ⟨beq_false_of_ne (by omega), beq_false_of_ne (by omega), beq_false_of_ne (by omega), beq_false_of_ne (by omega), beq_false_of_ne (by omega)⟩
  clear hz9 h1
  go_upto_if 96 with fail
  have hq8 : wrap64 (8192 / (s.size : Int) * (s.size : Int)) = ((8192 / s.size * s.size : Nat) : Int) := by
    have e : (8192 : Int) / (s.size : Int) * (s.size : Int) = ((8192 / s.size * s.size : Nat) : Int) := by
      rw [Int.natCast_mul, Int.natCast_ediv]
      rfl
    have hle : 8192 / s.size * s.size ≤ 8192 := Nat.div_mul_le_self 8192 s.size
    rw [e]
    unfold wrap64
    omega
  go_cut [8] (fun s8 wx => w = wx ∧ ∃ m : Nat, 1 ≤ m ∧ s8 = .int .i64 ((m * s.size : Nat) : Int))
  case first =>
    go_wp2
    · go_meet
      exact ⟨rfl, 1, Nat.le_refl _, by rw [Nat.one_mul]⟩
    · go_meet
      refine ⟨rfl, 8192 / s.size, ?_, by rw [hq8]⟩
      rcases Nat.eq_zero_or_pos (8192 / s.size) with hz | hz
      · rename_i hne
        have e0 : (8192 : Int) / (s.size : Int) = ((8192 / s.size : Nat) : Int) := by rw [Int.natCast_ediv]; rfl
        first | rw [hq8, hz] at hne | rw [e0, hz] at hne
        simp at hne
      · exact hz
    · go_meet
      exact ⟨rfl, c, by omega, by rw [Nat.mul_comm, HN.out]⟩
  case rest =>
    obtain ⟨rfl, m, hm1, rfl⟩ := hcut
    clear hq8
    obtain ⟨CM, hCM⟩ : ∃ CM, m * s.size = CM := ⟨_, rfl⟩
    rw [hCM]
    have HCM := Lib.hid hCM
    clear hCM
    have b0 : Below w.heap.size w (w.alloc (.cells #[.pointer none, .slice none 0 0] 55)) := lbox w _
    have hb0 := b0.size
    have HG := Lib.hid (Tryz.Builder_Grow_fresh w.heap.size w.heap.size n (w.alloc (.cells #[.pointer none, .slice none 0 0] 55)) (Nat.le_refl _) (World.alloc_heap_new w _) hb0 (by omega))
    go_wp2_with (go_at_call 29; refine HG.out.mono ?_; rintro e W1 ⟨rfl, h1, b1⟩)
    clear HG
    have HW := Lib.hid (bldF_write (b := w.heap.size) (l := []) (Lib.IsBuilderF.of (Or.inr h1)) s (by rw [List.length_nil]; omega))
    go_wp2_with (go_at_call 30; refine HW.out.mono ?_; rintro e W2 ⟨⟨n2, rfl⟩, h2, b2⟩)
    clear HW h1
    have h2' : BldF w.heap.size (Lib.repeatL s.data.toList 1) W2 := by rw [Lib.repeatL_one]; exact h2
    have b02 : Below w.heap.size w W2 := b0.trans (b1.trans b2)
    clear h2 b0 b1 b2
    go_loopg [] (c - 1) (fun g wx => ∃ q : Nat, 1 ≤ q ∧ q + g = c ∧ BldF w.heap.size (Lib.repeatL s.data.toList q) wx ∧ Below w.heap.size w wx)
    case atStart => exact ⟨1, Nat.le_refl _, by omega, h2', b02⟩
    case round =>
      obtain ⟨q, hq1, hqg, hB, hbx⟩ := hrel
      obtain ⟨Q, hQ⟩ : ∃ Q, q * s.size = Q := ⟨_, rfl⟩
      have hrl : (Lib.repeatL s.data.toList q).length = Q := by rw [Lib.repeatL_length, ← Lib.size_eq, hQ]
      have hlq : (Lib.byteCells (Lib.repeatL s.data.toList q)).length = Q := by rw [cells_len, hrl]
      have hLen := Tryz.Builder_Len_f w.heap.size w.heap.size _ wr hB
      rw [hlq] at hLen
      have HLEN := Lib.hid hLen
      have hnc : c * s.size = n := by rw [Nat.mul_comm]; exact HN.out
      have hStr := bldF_string hB
      obtain ⟨SS, hS⟩ : ∃ SS : ByteArray, strL (Lib.repeatL s.data.toList q) = SS := ⟨_, rfl⟩
      have hSd : SS.data.toList = Lib.repeatL s.data.toList q := by rw [← hS]
      have hSz : SS.size = Q := by rw [← hS, strL_size, hrl]
      rw [hS] at hStr
      have HSTR := Lib.hid hStr
      clear hLen hStr
      cases gk with
      | zero =>
        obtain rfl : q = c := by omega
        have hQn : ¬ ((Q : Int) < (n : Int)) := by omega
        go_wp2_with (first
          | (go_at_call 31; refine HLEN.out.mono ?_; rintro e w' ⟨rfl, hw⟩; rw [hw])
          | (go_at_call 24; refine HSTR.out.mono ?_; rintro e W3 ⟨rfl, h3, b3⟩))
        go_ret
        exact ⟨by subst hS; rfl, hbx.trans (b3.mono (Nat.le_refl _))⟩
      | succ g =>
        have hqc : q < c := by omega
        obtain ⟨k, hk1, hkq, hkc, hmin⟩ := Lib.chunk_ok c q m s.size hq1 hqc hm1
        rw [hnc, hQ, HCM.out] at hmin
        obtain ⟨CH, hCH⟩ : ∃ CH, k * s.size = CH := ⟨_, rfl⟩
        rw [hCH] at hmin
        have hQn : (Q : Int) < (n : Int) := by
          have h1 : (q + 1) * s.size ≤ c * s.size := Nat.mul_le_mul_right _ hqc
          rw [Nat.succ_mul, hQ, hnc] at h1
          omega
        have hCHQ : CH ≤ Q := by rw [← hCH, ← hQ]; exact Nat.mul_le_mul_right _ hkq
        have hsum : Q + CH ≤ n := by
          have h1 : (q + k) * s.size ≤ c * s.size := Nat.mul_le_mul_right _ hkc
          rw [Nat.add_mul, hQ, hCH, hnc] at h1
          exact h1
        have hmin3 : ∀ (ts : Array TypeId) (t : TypeId) (W : World), (Builtin.min_ ts t #[.int .i64 ((n : Int) - (Q : Int)), .int .i64 (Q : Int), .int .i64 (CM : Int)]).run Tryz.prog W = .ok (.int .i64 (CH : Int)) W := fun ts t W => by
          have e : (Builtin.min_ ts t #[.int .i64 ((n : Int) - (Q : Int)), .int .i64 (Q : Int), .int .i64 (CM : Int)]).run Tryz.prog W = .ok (.int .i64 (if (CM : Int) < (if (Q : Int) < ((n : Int) - (Q : Int)) then (Q : Int) else ((n : Int) - (Q : Int))) then (CM : Int) else (if (Q : Int) < ((n : Int) - (Q : Int)) then (Q : Int) else ((n : Int) - (Q : Int))))) W := by
            simp [Builtin.min_, Builtin.min2]
          rw [e]
          congr 2
          rw [← hmin]
          omega
        clear hmin
        go_wp2_with (first
          | (go_at_call 31; refine HLEN.out.mono ?_; rintro e w' ⟨rfl, hw⟩; rw [hw])
          | (go_at_call 24; refine HSTR.out.mono ?_; rintro e W3 ⟨rfl, h3, b3⟩))
        have HWR := Lib.hid (bldF_write h3 (SS.extract 0 CH) (by
          rw [hrl, Lib.size_eq, Lib.extract_data, hSd]
          simp only [List.drop_zero, Nat.sub_zero, List.length_take, Lib.repeatL_length]
          omega))
        go_wp2_with (go_at_call 30; refine HWR.out.mono ?_; rintro e W4 ⟨⟨n4, rfl⟩, h4, b4⟩)
        go_roundg (c - (q + k))
        case measure => omega
        case rel =>
          refine ⟨q + k, by omega, by omega, ?_, hbx.trans (b3.trans b4)⟩
          rw [Lib.extract_data, hSd] at h4
          simp only [List.drop_zero, Nat.sub_zero] at h4
          rw [← hCH, Lib.size_eq, Lib.step_ok _ _ _ hkq] at h4
          exact h4
end Go.Proofs.YtgeapkjegemkeaaGreatDoor
