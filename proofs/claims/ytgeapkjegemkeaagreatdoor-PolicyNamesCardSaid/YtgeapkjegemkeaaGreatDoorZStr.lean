/-
  Strings, digits of numbers, a builder: contracts. Conditions: those that each names.
-/
import Derived.Test.YtgeapkjegemkeaaGreatDoorZText
import Derived.Test.YtgeapkjegemkeaaGreatDoorZSem
import Derived.Lib.Hide
import Derived.Test.YtgeapkjegemkeaaGreatDoorShelf
import Derived.Lib.ItoaWalk
import Derived.Lib.ItoaMem
import Derived.Lib.AppendIntMem
import Derived.Lib.Walk
import Derived.WalkKit
import Derived.BigCall
import Derived.BigGuard
import Derived.OwnWalk
import Derived.Test.YtgeapkjegemkeaaGreatDoorFrame
import Derived.Deep.OwnRows
import Derived.Lib.Builder
import Derived.Lib.AppendStr
import Derived.Lib.OthersKept
import Derived.Lib.OwnKind
import Derived.Lib.LaidTab
import Derived.LaidMore
import Derived.OpenShut
import Derived.Stop.Joined
import Derived.MakeChecks
import Derived.Stop.LaidErr
namespace Go.Proofs.YtgeapkjegemkeaaGreatDoor
open Go Go.RowKit
set_option linter.unusedSimpArgs false
set_option linter.unusedVariables false

abbrev strL (l : List UInt8) : ByteArray := ⟨l.toArray⟩
theorem strL_append (a b : List UInt8) : strL a ++ strL b = strL (a ++ b) := by
  apply ByteArray.ext
  simp [strL]
theorem strL_size (l : List UInt8) : (strL l).size = l.length := by simp [strL, ByteArray.size]
theorem size_app (a b : ByteArray) : (a ++ b).size = a.size + b.size := by simp
theorem p_hasNumber {k : Int} (h : 1 ≤ k ∧ k ≤ 8) (w : World) : Calls Tryz.prog 82 #[.int .i64 k] w fun e w' => e = .returned (.bool (numK k)) ∧ w' = w := by
  have : k = 1 ∨ k = 2 ∨ k = 3 ∨ k = 4 ∨ k = 5 ∨ k = 6 ∨ k = 7 ∨ k = 8 := by omega
  rcases this with rfl | rfl | rfl | rfl | rfl | rfl | rfl | rfl <;>
  · go_enter Tryz.func82, Tryz.ntmps82
    go_wp2
    go_ret
    exact ⟨rfl, rfl⟩
/-- What an expression's operation may be. -/
def OpOK (o : Int) : Prop := 1 ≤ o ∧ o ≤ 6
theorem gex_op {e : Ex} (h : GEx e) : OpOK e.op := by
  cases h <;> (unfold OpOK; simp only [Ex.op, Ex.plain, Ex.node]; omega)
theorem p_bracketed {o i : Int} (ho : OpOK o) (hi : OpOK i) (w : World) : Calls Tryz.prog 69 #[.int .i64 o, .int .i64 i] w fun e w' => e = .returned (.bool (brkB o i)) ∧ w' = w := by
  have h1 : o = 1 ∨ o = 2 ∨ o = 3 ∨ o = 4 ∨ o = 5 ∨ o = 6 := by unfold OpOK at ho; omega
  have h2 : i = 1 ∨ i = 2 ∨ i = 3 ∨ i = 4 ∨ i = 5 ∨ i = 6 := by unfold OpOK at hi; omega
  clear ho hi
  rcases h1 with rfl | rfl | rfl | rfl | rfl | rfl <;> rcases h2 with rfl | rfl | rfl | rfl | rfl | rfl <;>
  · go_enter Tryz.func69, Tryz.ntmps69
    go_wp2
    go_ret
    exact ⟨rfl, rfl⟩
end Go.Proofs.YtgeapkjegemkeaaGreatDoor
namespace Go.Proofs.YtgeapkjegemkeaaGreatDoor
open Go Go.RowKit Go.Shelf Go.Sort
set_option linter.unusedSimpArgs false
set_option linter.unusedVariables false

abbrev Pow (w : World) : Prop := Lib.TabIs Tryz.prog w "internal/strconv.uint64pow10" .u64 Lib.pow10Tab
set_option maxHeartbeats 6400000 in
set_option maxRecDepth 100000 in
theorem fmt10_small (u : Nat) (hu : u < 100) (w : World) :
    Calls Tryz.prog 75 #[.int .u64 (u : Int), .int .i64 10] w fun e w' => e = .returned (.string ⟨(Lib.decDigits u).toArray⟩) ∧ w' = w := by
  have iu : (u : Int) < 100 := by omega
  have hw : IntKind.i64.wrap (u : Int) = (u : Int) := IntWalk.i64_in _ (by omega)
  go_enter Tryz.func75, Tryz.ntmps75
  go_wp2_with (go_at_call 99; refine (Tryz.internal_strconv_small u hu _).mono ?_; rintro e w' ⟨rfl, rfl⟩)
  go_ret
  exact ⟨rfl, rfl⟩
set_option maxHeartbeats 12800000 in
set_option maxRecDepth 100000 in
theorem fmt10_big (u : Nat) (hu : 100 ≤ u) (hu64 : u < 18446744073709551616) (w : World) (htab : Pow w) :
    Calls Tryz.prog 75 #[.int .u64 (u : Int), .int .i64 10] w fun e w' => e = .returned (.string ⟨(Lib.decDigits u).toArray⟩) ∧ ∃ k os, w' = grow (w.drewN k) os := by
  have hu1 : 1 ≤ u := by omega
  have hnd20 : Lib.nDigits u ≤ 20 := by have := Lib.numDigits_eq u hu1 hu64; split at this <;> omega
  have hal : Tryz.prog.arrayLen 135 = 24 := by kernel_rfl
  have hsl : ∀ W, (Instr.sliceAt 135 (.pointer (some ⟨w.heap.size, 0, none⟩)) none (some (.int .i64 (Lib.nDigits u : Int))) none).run Tryz.prog W = .ok (.slice (some ⟨w.heap.size, 0, none⟩) (Lib.nDigits u) 24) W := fun W => by
    rw [run_sliceAt_array_h W 135 ⟨w.heap.size, 0, none⟩ (by kernel_rfl) .i64 (Lib.nDigits u : Int) (by omega) (by rw [hal]; omega)]
    go_simp
  have hH0 := Lib.holds_zero0 w 135 (Lib.nDigits u) (by omega)
  have hfmt := Tryz.internal_strconv_formatBase10 w.heap.size 0 24 u (Array.replicate (Lib.nDigits u) 0) (w.alloc (.cells Lib.zeros24 135)) hH0 (by rw [Array.size_replicate]; exact Lib.lt_pow_nDigits u) hu64 (by rw [Array.size_replicate]; omega)
  rw [Array.size_replicate] at hfmt
  have HH0 := Lib.hid hH0
  have iu : ¬ (u : Int) < 100 := by omega
  clear hH0 hal
  go_enter Tryz.func75, Tryz.ntmps75
  go_wp2_with (first
    | (go_at_call 100; refine (Tryz.internal_strconv_numDigits u hu1 hu64 _ (Lib.tabIs_alloc htab _)).mono ?_; rintro e w' ⟨rfl, rfl⟩))
  go_at_call 101
  refine hfmt.mono ?_
  rintro e w' ⟨rfl, k, v', dk, rfl, hF⟩
  have hcv : (convert 53 9 (.slice (some ⟨w.heap.size, 0, none⟩) (Lib.nDigits u) 24)).run Tryz.prog ((putRow (fun (b : UInt8) => Value.int .u8 (b.toNat : Int)) (w.alloc (.cells Lib.zeros24 135)) w.heap.size 0 dk).drewN k) = .ok (.string ⟨(Lib.decDigits u).toArray⟩) ((putRow (fun (b : UInt8) => Value.int .u8 (b.toNat : Int)) (w.alloc (.cells Lib.zeros24 135)) w.heap.size 0 dk).drewN k) := by
    have h := run_convert_bytes_back (P := Tryz.prog) ((putRow (fun (b : UInt8) => Value.int .u8 (b.toNat : Int)) (w.alloc (.cells Lib.zeros24 135)) w.heap.size 0 dk).drewN k) 53 9 5 ⟨w.heap.size, 0, none⟩ 24 (Lib.decDigits u) (by kernel_rfl) (by kernel_rfl) (by kernel_rfl) (fun j hj => by
      rw [Lib.row_is_numeral hF j hj, Lib.add_plain, World.cell?_drewN]
      exact cell?_putRow (fun (b : UInt8) => Value.int .u8 (b.toNat : Int)) _ w.heap.size 0 _ dk HH0.out (by rw [hF.size, Array.size_replicate]) j (by rw [hF.size]; rw [Lib.decDigits_length] at hj; exact hj))
    rw [Lib.decDigits_length] at h
    exact h
  go_wp2
  go_ret
  obtain ⟨os, eo⟩ := Lib.fin_at w (.cells Lib.zeros24 135) dk k 0
  exact ⟨rfl, k, os, eo⟩
end Go.Proofs.YtgeapkjegemkeaaGreatDoor
namespace Go.Proofs.YtgeapkjegemkeaaGreatDoor
open Go Go.RowKit Go.Sort
set_option linter.unusedSimpArgs false
set_option linter.unusedVariables false

/-- The library's tables, as far as they are read. -/
structure Tbl (w : World) : Prop where
  pow : Pow w
  bru : w.cell? ⟨3, 15, none⟩ = some (.int .u8 4)
  lt : 3 < w.heap.size
theorem Tbl.up {w W : World} (h : Tbl w) (hb : Below w.heap.size w W) : Tbl W :=
  ⟨Lib.tabBelow_of_tabIs h.pow W hb, (hb.cell (p := ⟨3, 15, none⟩) h.lt).trans h.bru, Nat.lt_of_lt_of_le h.lt hb.size⟩
theorem tz64 (w : World) (h : Tbl w) : Calls Tryz.prog 140 #[.int .u64 16] w fun e w' => e = .returned (.int .i64 4) ∧ w' = w := by
  have h1 : IntKind.u64.wrap (-16) = 18446744073709551600 := rfl
  have h2 : bits .and .u64 16 18446744073709551600 = 16 := by decide
  have h3 : IntKind.u64.wrap (16 * 285870213051353865) = 4573923408821661840 := rfl
  have c := h.bru
  clear h
  go_enter Tryz.func140, Tryz.ntmps140
  go_wp2
  go_ret
  exact ⟨rfl, rfl⟩
theorem tz16 (w : World) (h : Tbl w) : Calls Tryz.prog 127 #[.int .u64 16] w fun e w' => e = .returned (.int .i64 4) ∧ w' = w := by
  have H := Lib.hid (tz64 w h)
  clear h
  go_enter Tryz.func127, Tryz.ntmps127
  go_wp2_with (go_at_call 140; (with_reducible refine H.out.mono ?_); rintro e w' ⟨rfl, rfl⟩)
  go_ret
  exact ⟨rfl, rfl⟩
theorem pow2_16 (w : World) : Calls Tryz.prog 126 #[.int .i64 16] w fun e w' => e = .returned (.bool true) ∧ w' = w := by
  have h2 : bits .and .i64 16 15 = 0 := by decide
  go_enter Tryz.func126, Tryz.ntmps126
  go_wp2
  go_ret
  exact ⟨rfl, rfl⟩
abbrev digs : ByteArray := ⟨#[48, 49, 50, 51, 52, 53, 54, 55, 56, 57, 97, 98, 99, 100, 101, 102, 103, 104, 105, 106, 107, 108, 109, 110, 111, 112, 113, 114, 115, 116, 117, 118, 119, 120, 121, 122]⟩
theorem digs_at : ∀ i : Fin 16, digs.data.toList.getD i.val 0 = hexC i.val := by decide
theorem digs_is (x : Nat) (hx : x < 16) (h : x < digs.size) : digs[x]'h = hexC x := by rw [Lib.getD_at digs x h, ← digs_at ⟨x, hx⟩]
theorem and_15 (x : Nat) (h : x < 18446744073709551616) : bits .and .u64 (x : Int) 15 = ((x % 16 : Nat) : Int) := by
  show IntKind.u64.wrap ((BitVec.ofInt 64 (x : Int) &&& BitVec.ofInt 64 15).toNat : Int) = _
  have e : (BitVec.ofInt 64 (x : Int) &&& BitVec.ofInt 64 15).toNat = x % 2 ^ 4 := by
    rw [BitVec.toNat_and, show (BitVec.ofInt 64 15).toNat = 2 ^ 4 - 1 by decide, Nat.and_two_pow_sub_one_eq_mod, BitVec.toNat_ofInt]
    congr 1; omega
  rw [e, IntKind.wrap_u64]; omega
theorem hexL_small {x : Nat} (h : x < 16) : hexL x = [hexC x] := by rw [hexL, if_pos h]
theorem hexL_big {x : Nat} (h : ¬ x < 16) : hexL x = hexL (x / 16) ++ [hexC (x % 16)] := by rw [hexL, if_neg h]
/-- The digits written so far. -/
structure HexAt (w W : World) (m x p : Nat) (D : List UInt8) : Prop where
  len : p + D.length = 65
  big : 1 ≤ p
  lt : x < 16 ^ (p - 49)
  up : 50 ≤ p
  rest : hexL m = hexL x ++ D
  row : ∃ F, W.rowIs w.heap.size 157 65 F ∧ ∀ j, j < D.length → F (p + j) = .int .u8 ((D.getD j 0).toNat : Int)
  below : Below w.heap.size w W
theorem HexAt.put {w W : World} {m x p q : Nat} {D : List UInt8} (h : HexAt w W m x p D) (hq : p = q + 1) (c : UInt8) :
    ∃ F, (W.setCell ⟨w.heap.size, q, none⟩ (.int .u8 (c.toNat : Int))).rowIs w.heap.size 157 65 F ∧ ∀ j, j < (c :: D).length → F (q + j) = .int .u8 (((c :: D).getD j 0).toNat : Int) := by
  obtain ⟨F, h1, h2⟩ := h.row
  refine ⟨_, h1.set q _, fun j hj => ?_⟩
  cases j with
  | zero => simp
  | succ j =>
    have := h2 j (by simpa using hj)
    rw [if_neg (by omega), show q + (j + 1) = p + j by omega, this]
    simp
set_option maxHeartbeats 12800000 in
set_option maxRecDepth 100000 in
theorem fmtBits16 (m : Nat) (hm : m < 18446744073709551616) (w : World) (hT : Tbl w) :
    Calls Tryz.prog 102 #[.slice none 0 0, .int .u64 (m : Int), .int .i64 16, .bool false, .bool false] w fun e w' => e = .returned (.tuple #[.slice none 0 0, .string (strL (hexL m))]) ∧ Below w.heap.size w w' := by
  have HP := Lib.hid (fun V => pow2_16 V)
  have HZ := Lib.hid (fun V hV => tz16 V hV)
  have HT : Hid (Tbl (w.alloc (.cells (Array.replicate 65 (.int .u8 0)) 157))) := Lib.hid (hT.up (lbox w _))
  have H0 : Hid (HexAt w (w.alloc (.cells (Array.replicate 65 (.int .u8 0)) 157)) m m 65 []) := Lib.hid
    { len := rfl, big := by decide, lt := hm, up := by decide, rest := (List.append_nil _).symm, row := ⟨_, World.rowIs_alloc w (Array.replicate 65 (.int .u8 0)) 157 (fun _ => .int .u8 0) (fun i hi => by rw [Array.getElem?_replicate, if_pos (by simpa using hi)]), fun j hj => by cases hj⟩, below := lbox w _ }
  clear hT
  go_enter Tryz.func102, Tryz.ntmps102
  go_wp2_with (first
    | (go_at_call 126; (with_reducible refine (HP.out _).mono ?_); rintro e w' ⟨rfl, rfl⟩)
    | (go_at_call 127; (refine (HZ.out _ HT.out).mono ?_); rintro e w' ⟨rfl, rfl⟩))
  go_loopw [1, 13] (fun u v wr => ∃ (x p : Nat) (D : List UInt8), u = .int .u64 (x : Int) ∧ v = .int .i64 (p : Int) ∧ HexAt w wr m x p D) (fun u _ _ => (intOf u).toNat)
  case atStart => exact ⟨m, 65, [], rfl, rfl, H0.out⟩
  case round =>
    obtain ⟨x, p, D, rfl, rfl, hX⟩ := hrel
    have hup := hX.up
    have hlen := hX.len
    have hx64 : x < 18446744073709551616 := by
      have := Nat.pow_le_pow_right (n := 16) (by decide) (show p - 49 ≤ 16 by omega)
      rw [show (16 : Nat) ^ 16 = 18446744073709551616 from rfl] at this
      have := hX.lt
      omega
    obtain ⟨q, hq⟩ : ∃ q, p = q + 1 := ⟨p - 1, by omega⟩
    have hw : IntKind.i64.wrap ((p : Int) - 1) = (q : Int) := by rw [IntWalk.i64_in _ (by omega)]; omega
    have hq65 : (q : Int) < 65 := by omega
    have hq0 : (0 : Int) ≤ (q : Int) := by omega
    have hqn : ((q : Int)).toNat = q := by omega
    obtain ⟨F, hF, hFd⟩ := hX.row
    have cq := hF.cell (i := q) (by omega)
    have fq := hF.frozen q
    generalize F q = vq at cq
    have HX := Lib.hid hX
    have HQ := Lib.hid hq
    clear hF hFd hX hq
    by_cases hbig : 16 ≤ x
    · have hb' : (16 : Int) ≤ (x : Int) := by omega
      have ha := and_15 x hx64
      obtain ⟨c, hc⟩ : ∃ c, c = hexC (x % 16) := ⟨_, rfl⟩
      have e0 : (⟨#[48, 49, 50, 51, 52, 53, 54, 55, 56, 57, 97, 98, 99, 100, 101, 102, 103, 104, 105, 106, 107, 108, 109, 110, 111, 112, 113, 114, 115, 116, 117, 118, 119, 120, 121, 122]⟩ : ByteArray)[x % 16]'(by show x % 16 < 36; omega) = c := by rw [hc]; exact digs_is (x % 16) (by omega) _
      have HC := Lib.hid hc
      clear hc
      have hp2 : 2 ≤ p - 49 := by
        rcases Nat.lt_or_ge (p - 49) 2 with g | g
        · have h1 : p - 49 = 1 := by omega
          have h2 := HX.out.lt
          rw [h1] at h2
          omega
        · exact g
      clear hup
      go_wp2
      have hqe := HQ.out
      have hlt2 : x / 16 < 16 ^ (q - 49) := by
        have h2 := HX.out.lt
        rw [show p - 49 = (q - 49) + 1 by omega, Nat.pow_succ] at h2
        omega
      have hput := HX.out.put HQ.out c
      exact ⟨⟨x / 16, q, c :: D, by go_num, rfl, { len := by rw [List.length_cons]; omega, big := by omega, lt := hlt2, up := by omega, rest := by rw [HX.out.rest, hexL_big (by omega), List.append_assoc, HC.out]; rfl, row := hput, below := HX.out.below.setCell (p := ⟨w.heap.size, q, none⟩) (Nat.le_refl _) _ }⟩, by simp [intOf]; omega⟩
    · have hb' : ¬ (16 : Int) ≤ (x : Int) := by omega
      obtain ⟨c, hc⟩ : ∃ c, c = hexC x := ⟨_, rfl⟩
      have e0 : (⟨#[48, 49, 50, 51, 52, 53, 54, 55, 56, 57, 97, 98, 99, 100, 101, 102, 103, 104, 105, 106, 107, 108, 109, 110, 111, 112, 113, 114, 115, 116, 117, 118, 119, 120, 121, 122]⟩ : ByteArray)[x]'(by show x < 36; omega) = c := by rw [hc]; exact digs_is x (by omega) _
      have hal : Tryz.prog.arrayLen 157 = 65 := by kernel_rfl
      have hsl : ∀ W, (Instr.sliceAt 157 (.pointer (some ⟨w.heap.size, 0, none⟩)) (some (.int .i64 (q : Int))) none none).run Tryz.prog W = .ok (.slice (some ⟨w.heap.size, q, none⟩) (65 - q) (65 - q)) W := fun W => by
        rw [run_sliceAt_array_l W 157 ⟨w.heap.size, 0, none⟩ (by kernel_rfl) .i64 (q : Int) (by omega) (by rw [hal]; omega)]
        go_simp
        omega
      obtain ⟨F2, hF2, hFd2⟩ := HX.out.put HQ.out c
      have hqe := HQ.out
      have hlen2 : (c :: D).length = 65 - q := by rw [List.length_cons]; omega
      have hcv : (convert 53 9 (.slice (some ⟨w.heap.size, q, none⟩) (65 - q) (65 - q))).run Tryz.prog (wr.setCell ⟨w.heap.size, q, none⟩ (.int .u8 (c.toNat : Int))) = .ok (.string (strL (c :: D))) (wr.setCell ⟨w.heap.size, q, none⟩ (.int .u8 (c.toNat : Int))) := by
        have h := run_convert_bytes_back (P := Tryz.prog) (wr.setCell ⟨w.heap.size, q, none⟩ (.int .u8 (c.toNat : Int))) 53 9 5 ⟨w.heap.size, q, none⟩ (65 - q) (c :: D) (by kernel_rfl) (by kernel_rfl) (by kernel_rfl) (fun j hj => by
          rw [Lib.add_plain, hF2.cell (by omega), hFd2 j hj, List.getD_eq_getElem?_getD, List.getElem?_eq_getElem hj]
          rfl)
        rw [hlen2] at h
        exact h
      obtain ⟨T, hT⟩ : ∃ T, T = strL (c :: D) := ⟨_, rfl⟩
      rw [← hT] at hcv
      have HE := Lib.hid (show T = strL (hexL m) by rw [hT, HX.out.rest, hexL_small (by omega), hc]; rfl)
      clear hF2 hFd2 hqe hlen2 hal hc hT hup hlen
      go_wp2
      go_ret2
      exact ⟨by rw [HE.out]; rfl, HX.out.below.setCell (p := ⟨w.heap.size, q, none⟩) (Nat.le_refl _) _⟩
/-- FormatUint at base 16, as it is called. -/
theorem fmt16_in (m : Nat) (hm : m < 18446744073709551616) (w : World) (hT : Tbl w) :
    Calls Tryz.prog 75 #[.int .u64 (m : Int), .int .i64 16] w fun e w' => e = .returned (.string (strL (hexL m))) ∧ Below w.heap.size w w' := by
  have H := Lib.hid (fmtBits16 m hm w hT)
  clear hT
  go_enter Tryz.func75, Tryz.ntmps75
  go_wp2_with (go_at_call 102; (with_reducible refine H.out.mono ?_); rintro e w' ⟨rfl, hb⟩; have HB := Lib.hid hb; clear hb)
  go_ret
  exact ⟨rfl, HB.out⟩
theorem p_fmt16 (m : Nat) (hm : m < 18446744073709551616) (w : World) (hT : Tbl w) :
    Calls Tryz.prog 44 #[.int .u64 (m : Int), .int .i64 16] w fun e w' => e = .returned (.string (strL (hexL m))) ∧ Below w.heap.size w w' := by
  have H := Lib.hid (fmt16_in m hm w hT)
  clear hT
  go_enter Tryz.func44, Tryz.ntmps44
  go_wp2_with (go_at_call 75; (with_reducible refine H.out.mono ?_); rintro e w' ⟨rfl, hb⟩; have HB := Lib.hid hb; clear hb)
  go_ret
  exact ⟨rfl, HB.out⟩
theorem below_grow9 (w : World) (k : Nat) (os : Array Obj) : Below w.heap.size w (grow (w.drewN k) os) := Lib.below_grow w.heap.size w (Nat.le_refl _) k os
theorem fmt10_in (m : Nat) (hm : m < 18446744073709551616) (w : World) (hT : Tbl w) :
    Calls Tryz.prog 75 #[.int .u64 (m : Int), .int .i64 10] w fun e w' => e = .returned (.string (strL (Lib.decDigits m))) ∧ Below w.heap.size w w' := by
  rcases Nat.lt_or_ge m 100 with h | h
  · refine (fmt10_small m h w).mono ?_
    rintro e w' ⟨rfl, rfl⟩
    exact ⟨rfl, Below.refl _ _⟩
  · refine (fmt10_big m h hm w hT.pow).mono ?_
    rintro e w' ⟨rfl, k, os, rfl⟩
    exact ⟨rfl, below_grow9 w k os⟩
theorem p_fmt10 (m : Nat) (hm : m < 18446744073709551616) (w : World) (hT : Tbl w) :
    Calls Tryz.prog 44 #[.int .u64 (m : Int), .int .i64 10] w fun e w' => e = .returned (.string (strL (Lib.decDigits m))) ∧ Below w.heap.size w w' := by
  have H := Lib.hid (fmt10_in m hm w hT)
  clear hT
  go_enter Tryz.func44, Tryz.ntmps44
  go_wp2_with (go_at_call 75; (with_reducible refine H.out.mono ?_); rintro e w' ⟨rfl, hb⟩; have HB := Lib.hid hb; clear hb)
  go_ret
  exact ⟨rfl, HB.out⟩
end Go.Proofs.YtgeapkjegemkeaaGreatDoor
namespace Go.Proofs.YtgeapkjegemkeaaGreatDoor
open Go Go.RowKit
set_option linter.unusedSimpArgs false
set_option linter.unusedVariables false

abbrev Bld (b : Nat) (l : List UInt8) (W : World) : Prop := Lib.IsBuilder 55 5 b b (Lib.byteCells l) W
abbrev Kept (b : Nat) (w W : World) : Prop := Lib.OthersKept 5 (some b) w W
/-- What has been written behind. -/
structure Wrote (b : Nat) (l : List UInt8) (w W : World) : Prop where
  bld : Bld b l W
  below : Below b w W
  kept : Kept b w W
theorem Wrote.lt {b : Nat} {l : List UInt8} {w W : World} (h : Wrote b l w W) : b < W.heap.size := by
  rcases h.bld with g | g <;> exact g.lt
theorem bld_lt {b : Nat} {l : List UInt8} {W : World} (h : Bld b l W) : b < W.heap.size := by
  rcases h with g | g <;> exact g.lt
theorem Wrote.trans {b : Nat} {l m : List UInt8} {w V W : World} (h : Wrote b l w V) (k : Wrote b m V W) : Wrote b m w W := ⟨k.bld, h.below.trans k.below, h.kept.trans k.kept⟩
theorem keptW_below {b : Nat} {w W : World} (hb : Below w.heap.size w W) : Kept b w W := fun k o hk _ _ => (hb.block k (Array.getElem?_eq_some_iff.1 hk).1).trans hk
/-- Quiet steps leave a builder as it is. -/
theorem bld_below {b : Nat} {l : List UInt8} {w W : World} (h : Bld b l w) (hb : Below w.heap.size w W) : Bld b l W := by
  have key : ∀ p, Lib.BuilderAt 55 5 b b p (Lib.byteCells l) w → Lib.BuilderAt 55 5 b b p (Lib.byteCells l) W := by
    rintro p ⟨h0, v, hv, ho, hn⟩
    exact ⟨h0, v, (hb.block b (Array.getElem?_eq_some_iff.1 hv).1).trans hv, own_below ho hb, hn⟩
  exact h.elim (fun g => .inl (key _ g)) (fun g => .inr (key _ g))
theorem Wrote.more {b : Nat} {l : List UInt8} {w V W : World} (h : Wrote b l w V) (hb : Below V.heap.size V W) : Wrote b l w W :=
  ⟨bld_below h.bld hb, h.below.trans (hb.mono (Nat.le_of_lt h.lt)), h.kept.trans (keptW_below hb)⟩
theorem Wrote.start {b : Nat} {l : List UInt8} {w : World} (h : Bld b l w) : Wrote b l w w := ⟨h, Below.refl _ _, Lib.OthersKept.refl _ _ _⟩
set_option maxHeartbeats 2000000 in
set_option maxRecDepth 100000 in
theorem bld_check {b : Nat} {l : List UInt8} {w : World} (h : Bld b l w) :
    Calls Tryz.prog 64 #[.pointer (some ⟨b, 0, none⟩)] w fun e w' => e = .returned (.tuple #[]) ∧ Lib.BuilderAt 55 5 b b (.pointer (some ⟨b, 0, none⟩)) (Lib.byteCells l) w' ∧ Below b w w' ∧ Kept b w w' := by
  obtain ⟨j, hj, hjs⟩ := Option.map_eq_some_iff.1 (show (Tryz.prog.info? 55).map (fun i => i.size) = some 2 by kernel_rfl)
  have t1 : Tryz.prog.underlying 52 = some (.pointer 55) := by kernel_rfl
  have t2 : Tryz.prog.underlying 132 = some .unsafePointer := by kernel_rfl
  rcases h with h | h
  · have c0 := h.cell0
    have hsh := h.shape
    have fz := h.frozen0
    have r1 := Lib.run_to_unsafe (P := Tryz.prog) w ⟨b, 0, none⟩ t1 t2 hj (by rw [hjs]; decide) hsh (Nat.zero_lt_succ 1)
    have r3 := Lib.run_from_unsafe (P := Tryz.prog) w ⟨b, 0, none⟩ t2 t1 hj hsh (by kernel_rfl)
    clear hsh
    go_enter Tryz.func64, Tryz.ntmps64
    go_wp2
    rw [run_callFunc_extern Tryz.func93 (by kernel_rfl) (by kernel_rfl) (by kernel_rfl) (e := Extern.AbiNoEscape.same) (by kernel_rfl)]
    rw [Lib.run_noEscape]
    simp only [Result.andThen]
    rw [Oper.upon_value]
    go_wp2
    go_end0
    exact ⟨rfl, h.used _, (Below.refl b w).setCell (p := ⟨b, 0, none⟩) h.1 _, (Lib.OthersKept.refl _ _ w).setCell ⟨b, 0, none⟩ rfl _⟩
  · have c0 := h.cell0
    have r1 := Lib.run_neq_ptr_same (P := Tryz.prog) w ⟨b, 0, none⟩ t1 hj
    go_enter Tryz.func64, Tryz.ntmps64
    go_wp2
    go_end0
    exact ⟨rfl, h, Below.refl _ _, Lib.OthersKept.refl _ _ _⟩
theorem cells_str (s : List UInt8) : Lib.strCells (strL s) = Lib.byteCells s := by simp [Lib.strCells, Lib.byteCells]
theorem cells_app (l s : List UInt8) : Lib.byteCells l ++ Lib.byteCells s = Lib.byteCells (l ++ s) := by simp [Lib.byteCells]
theorem cells_len (l : List UInt8) : (Lib.byteCells l).length = l.length := by simp [Lib.byteCells]
theorem info_u89 : (Tryz.prog.info? 5).map (fun i => (i.zero, i.size, i.bytes)) = some (some (.int .u8 0), 1, 1) := by kernel_rfl
set_option maxHeartbeats 2000000 in
set_option maxRecDepth 100000 in
theorem bld_write {b : Nat} {l : List UInt8} {w : World} (h : Bld b l w) (t : ByteArray) (s : List UInt8) (ht : t = strL s) (hlen : l.length + s.length ≤ 140737488355328) :
    Calls Tryz.prog 30 #[.pointer (some ⟨b, 0, none⟩), .string t] w fun e W => (∃ n : Int, e = .returned (.tuple #[.int .i64 n, .nilIface])) ∧ Wrote b (l ++ s) w W := by
  obtain ⟨i0, hi, hz⟩ := Option.map_eq_some_iff.1 info_u89
  have hz0 : i0.zero = some (.int .u8 0) := congrArg (·.1) hz
  have hz1 : i0.size = 1 := congrArg (·.2.1) hz
  have hz2 : i0.bytes = 1 := congrArg (·.2.2) hz
  have hts : t.size = s.length := by rw [ht, strL_size]
  have hlt := bld_lt h
  have HC := Lib.hid (bld_check h)
  have HT := Lib.hid ht
  have HI := Lib.hid (And.intro hi (And.intro hz0 (And.intro hz1 hz2)))
  clear hz hz0 hz1 hz2 hi ht h
  go_enter Tryz.func30, Tryz.ntmps30
  go_wp2_with (go_at_call 64; refine HC.out.mono ?_)
  rintro e w1 ⟨rfl, h1, hb1, hk1⟩
  obtain ⟨hB, v, hbk, hown, hne⟩ := h1
  have c1 : w1.cell? ⟨b, 1, none⟩ = some v := by rw [Lib.cell_of_heap hbk]; rfl
  have HW := Lib.hid (And.intro hb1 hk1)
  have hbs := hb1.size
  clear hb1 hk1
  go_wp2_with (at_builtin; refine Lib.wpList_append_own_string _ rfl _ _ 53 9 rfl b 5 i0 (by kernel_rfl) (by kernel_rfl) HI.out.1 HI.out.2.1 HI.out.2.2.1 HI.out.2.2.2 _ _ _ rfl hown t rfl ?c3 ?c4 ?c5 ?_)
  case c3 => rw [cells_len, hts]; unfold maxLen; omega
  case c4 => rw [cells_len, hts]; exact hlen
  case c5 => omega
  intro v' w2 hown' hgrow _
  have hlt1 : b < w1.heap.size := (Array.getElem?_eq_some_iff.1 hbk).1
  have hb2 : w2.heap[b]? = some (.cells #[.pointer (some ⟨b, 0, none⟩), v] 55 (0, 0)) := by
    rw [hgrow.block b hlt1 (fun e => hne e.symm)]
    exact hbk
  have d1 : w2.cell? ⟨b, 1, none⟩ = some v := by rw [Lib.cell_of_heap hb2]; rfl
  have f1 : w2.frozen? ⟨b, 1, none⟩ = false := Lib.frozen_of_heap hb2 1
  have e3 : (Lib.byteCells l).length + s.length = (Lib.byteCells (l ++ s)).length := by rw [cells_len, cells_len, List.length_append]
  have e4 : Lib.byteCells l ++ Lib.strCells t = Lib.byteCells (l ++ s) := by rw [HT.out, cells_str, cells_app]
  rw [e3, e4] at hown'
  have HE : Hid (Wrote b (l ++ s) w (w2.setCell ⟨b, 1, none⟩ v')) := Lib.hid ⟨.inr (Lib.BuilderAt.put (T := 55) (e := 5) (Nat.le_refl _) hb2 hown' (by decide)),
    (HW.out.1.grown hgrow (by omega) (fun k hk => (hown.lt k hk).1)).setCell (p := ⟨b, 1, none⟩) (Nat.le_refl _) _,
    (HW.out.2.grown hgrow (Lib.ownsRow_kind hown)).setCell ⟨b, 1, none⟩ rfl _⟩
  clear e3 e4
  obtain ⟨ao, n', cap, rfl⟩ : ∃ ao n' cap, v' = .slice ao n' cap := by
    rcases hown'.2 with ⟨hv, _⟩ | ⟨g, cap, cur, hv, _⟩
    · exact ⟨_, _, _, hv⟩
    · exact ⟨_, _, _, hv⟩
  clear hown' hgrow hown
  go_wp2
  go_ret2
  exact ⟨⟨_, rfl⟩, HE.out⟩
set_option maxRecDepth 100000 in
theorem bld_string {b : Nat} {l : List UInt8} {w : World} (h : Bld b l w) :
    Calls Tryz.prog 24 #[.pointer (some ⟨b, 0, none⟩)] w fun e W => e = .returned (.string (strL l)) ∧ Below b w W := by
  refine (Tryz.Builder_String_any_k b b l w (Lib.IsBuilderF.of h) (Nat.le_of_lt (bld_lt h))).mono ?_
  rintro e W ⟨rfl, _, hb, _⟩
  exact ⟨rfl, hb⟩
end Go.Proofs.YtgeapkjegemkeaaGreatDoor
namespace Go.Proofs.YtgeapkjegemkeaaGreatDoor
open Go Go.RowKit
set_option linter.unusedSimpArgs false
set_option linter.unusedVariables false

theorem tab_of_laid {W : World} (h : laidMetH Tryz.prog [("math/bits.deBruijn32tab", Rows.laid_math_bits_deBruijn32tab), ("math/bits.deBruijn64tab", Rows.laid_math_bits_deBruijn64tab), ("internal/strconv.uint64pow10", Rows.laid_internal_strconv_uint64pow10)] W) : Tbl W := by
  rw [MakeChecks.laidMetH_plain _ _ _ (by kernel_rfl)] at h
  have h2 := h.tail
  have h3 := h2.tail
  have p10 : Pow W := Lib.tabIs_of_head (g := 1) (t := 156) (e := 24) (n := 20) (by kernel_rfl) (by kernel_rfl) (by kernel_rfl) (by kernel_rfl) (by kernel_rfl) (by kernel_rfl) h3
  have bru : Lib.TabIs Tryz.prog W "math/bits.deBruijn64tab" .u8 [0, 1, 56, 2, 57, 49, 28, 3, 61, 58, 42, 50, 38, 29, 17, 4, 62, 47, 59, 36, 45, 43, 51, 22, 53, 39, 33, 30, 24, 18, 12, 5, 63, 55, 48, 27, 60, 41, 37, 16, 46, 35, 44, 21, 52, 32, 23, 11, 54, 26, 40, 15, 34, 20, 31, 10, 25, 14, 19, 9, 13, 8, 7, 6] := Lib.tabIs_of_head (g := 3) (t := 166) (e := 5) (n := 64) (by kernel_rfl) (by kernel_rfl) (by kernel_rfl) (by kernel_rfl) (by kernel_rfl) (by kernel_rfl) h2
  have hc := bru.cell (g := 3) (by kernel_rfl) 15 (by decide)
  refine ⟨p10, hc, ?_⟩
  rcases Nat.lt_or_ge 3 W.heap.size with g | g
  · exact g
  · simp [World.cell?, Array.getElem?_eq_none g] at hc
end Go.Proofs.YtgeapkjegemkeaaGreatDoor
