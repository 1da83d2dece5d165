/-
  The program's writing of a program of classic BPF: what its Bytes answers, a contract for every program. Conditions: those that it names.
-/
import Derived.Test.YtlfbkalpnbjdjaaCbpfWrite
import Derived.Test.YtlfbkalpnbjdjaaWordStore
import Derived.Test.YtlfbkalpnbjdjaaSecData
import Derived.Test.YtlfbkalpnbjdjaaCbpfLent
import Derived.Test.YtlfbkalpnbjdjaaPOps
namespace Go.Proofs.Ytlfbkalpnbjdjaa
open Go Go.RowKit
set_option linter.unusedSimpArgs false
set_option linter.unusedVariables false

/-- So far written. -/
def bytesF (q : Nat → Ins) (i j : Nat) : Value := if j < i * 8 then .int .u8 (progB q j) else .int .u8 0
theorem bytesF_zero (q : Nat → Ins) : bytesF q 0 = fun _ => .int .u8 0 := by funext j; unfold bytesF; rw [if_neg (by omega)]
theorem progB_at (q : Nat → Ins) (i f : Nat) (hf : f < 8) : progB q (i * 8 + f) = insB (q i) f := by
  unfold progB; rw [show (i * 8 + f) / 8 = i by omega, show (i * 8 + f) % 8 = f by omega]
theorem byteI_zero (x : Int) : byteI x 0 = IntKind.u8.wrap x := by
  rw [IntKind.wrap_u8]; unfold byteI; simp
theorem byteI_one (x : Int) : byteI x 1 = IntKind.u8.wrap (x / 256) := by
  rw [IntKind.wrap_u8]; unfold byteI; rfl
theorem byteI_two (x : Int) : byteI x 2 = IntKind.u8.wrap (x / 65536) := by
  rw [IntKind.wrap_u8]; unfold byteI; rfl
theorem byteI_three (x : Int) : byteI x 3 = IntKind.u8.wrap (x / 16777216) := by
  rw [IntKind.wrap_u8]; unfold byteI; rfl
/-- A round's row. -/
def roundF (q : Nat → Ins) (i : Nat) : Nat → Value := wrote (fun j => if j = i * 8 + 3 then .int .u8 ((q i).jf : Int) else if j = i * 8 + 2 then .int .u8 ((q i).jt : Int) else wrote (bytesF q i) (i * 8) 2 (q i).code j) (i * 8 + 4) 4 ((q i).k.toNat : Int)
theorem roundF_is (q : Nat → Ins) (i j : Nat) : roundF q i j = bytesF q (i + 1) j := by
  unfold roundF
  by_cases h : j / 8 = i
  · have hj : j = i * 8 + j % 8 := by omega
    have hb : bytesF q (i + 1) j = .int .u8 (insB (q i) (j % 8)) := by
      unfold bytesF; rw [if_pos (by omega)]; rw [hj, progB_at _ _ _ (by omega)]; simp
    rw [hb]
    have hf : j % 8 = 0 ∨ j % 8 = 1 ∨ j % 8 = 2 ∨ j % 8 = 3 ∨ j % 8 = 4 ∨ j % 8 = 5 ∨ j % 8 = 6 ∨ j % 8 = 7 := by omega
    rcases hf with f | f | f | f | f | f | f | f
    · rw [f, wrote, if_neg (by omega), if_neg (by omega), if_neg (by omega), wrote, if_pos (by omega), show j - i * 8 = 0 by omega, byteI_zero]; rfl
    · rw [f, wrote, if_neg (by omega), if_neg (by omega), if_neg (by omega), wrote, if_pos (by omega), show j - i * 8 = 1 by omega, byteI_one]; rfl
    · rw [f, wrote, if_neg (by omega), if_neg (by omega), if_pos (by omega)]; rfl
    · rw [f, wrote, if_neg (by omega), if_pos (by omega)]; rfl
    · rw [f, wrote, if_pos (by omega), show j - (i * 8 + 4) = 0 by omega, byteI_zero]; rfl
    · rw [f, wrote, if_pos (by omega), show j - (i * 8 + 4) = 1 by omega, byteI_one]; rfl
    · rw [f, wrote, if_pos (by omega), show j - (i * 8 + 4) = 2 by omega, byteI_two]; rfl
    · rw [f, wrote, if_pos (by omega), show j - (i * 8 + 4) = 3 by omega, byteI_three]; rfl
  · rw [wrote, if_neg (by omega), if_neg (by omega), if_neg (by omega), wrote, if_neg (by omega)]
    unfold bytesF
    by_cases g : j < i * 8
    · rw [if_pos g, if_pos (by omega)]
    · rw [if_neg g, if_neg (by omega)]

/-- What Bytes leaves: a new row of the program's bytes. -/
def PBytesP (w : World) (n : Nat) (q : Nat → Ins) (e : Ending) (w' : World) : Prop := ∃ g, e = .returned (.slice (some ⟨g, 0, none⟩) (n * 8) (n * 8)) ∧ w'.rowIs g 5 (n * 8) (fun j => .int .u8 (progB q j)) ∧ Below w.heap.size w w' ∧ w.heap.size ≤ g
set_option maxHeartbeats 4000000 in
set_option maxRecDepth 100000 in
theorem cbpf_Bytes (w : World) (A : Option Addr) (n cap : Nat) (q : Nat → Ins) (hn : n * 8 ≤ 140737488351232) (hok : ∀ i, i < n → (q i).OK) (h : ProgAt w A n q) :
    Calls Try.prog 12 #[.slice A n cap] w (PBytesP w n q) := by
  have HP := Lib.hid h
  have HO := Lib.hid hok
  have hw0 : IntKind.i64.wrap ((n : Int) * 8) = ((n * 8 : Nat) : Int) := by rw [IntWalk.i64_in _ (by omega)]; simp
  clear h hok
  go_enter Try.func12, Try.ntmps12
  go_wp2_with (refine wpList_make_bytes _ rfl _ _ _ rfl 5 Try.underlying25 info_u8 (n * 8) rfl rfl (by omega) ?_; intro g w1 hr1 hb1 hge; have HR := Lib.hid (show w1.rowIs g 5 (n * 8) (bytesF q 0) from by rw [bytesF_zero]; exact hr1); have HB := Lib.hid hb1; clear hr1 hb1)
  go_loopw [13] (fun i wr => ∃ k : Nat, k ≤ n ∧ i = .int .i64 (k : Int) ∧ wr.rowIs g 5 (n * 8) (bytesF q k) ∧ Below w.heap.size w wr) (fun i _ => n - (intOf i).toNat)
  case atStart => exact ⟨0, by omega, rfl, HR.out, HB.out⟩
  case round =>
    obtain ⟨i, hi, rfl, hr, hb⟩ := hrel
    clear HR HB
    have HR := Lib.hid hr
    have HB := Lib.hid hb
    by_cases hlt : i < n
    · have hlt' : (i : Int) < (n : Int) := by omega
      obtain ⟨qb, qo, rfl, hql, hc⟩ := HP.out (by omega)
      have hwm : IntKind.i64.wrap ((i : Int) * 8) = (i : Int) * 8 := IntWalk.i64_in _ (by omega)
      have hw2 : IntKind.i64.wrap ((i : Int) * 8 + 2) = (i : Int) * 8 + 2 := IntWalk.i64_in _ (by omega)
      have hw3 : IntKind.i64.wrap ((i : Int) * 8 + 3) = (i : Int) * 8 + 3 := IntWalk.i64_in _ (by omega)
      have hw4 : IntKind.i64.wrap ((i : Int) * 8 + 4) = (i : Int) * 8 + 4 := IntWalk.i64_in _ (by omega)
      have hw1 : IntKind.i64.wrap ((i : Int) + 1) = (i : Int) + 1 := IntWalk.i64_in _ (by omega)
      obtain ⟨c0, c1, c2, c3⟩ := (hc i hlt).below hb hql
      have ho := HO.out i hlt
      have ho0 : 0 ≤ (q i).code := ho.1
      have ho1 : (q i).code < 65536 := ho.2.1
      have hk1 := (q i).k.isLt
      clear ho
      clear hr hb hc
      have hwc : IntKind.u64.wrap (q i).code = (q i).code := by rw [IntKind.wrap_u64]; omega
      have hwk : IntKind.u64.wrap ((q i).k.toNat : Int) = ((q i).k.toNat : Int) := by rw [IntKind.wrap_u64]; omega
      have hne : ¬ wr.heap.size = g := by have := World.rowIs.lt HR.out; omega
      have HI := Lib.hid (ins_box wr (q i).code (q i).jt (q i).jf (q i).k)
      go_wp2_with (first
        | (go_at_call 28; (with_reducible refine (word_StoreI g (n * 8) (n * 8) (n * 8) (bytesF q i) ((i : Int) * 8) 2 (i * 8) 2 (by simp) rfl (q i).code ho0 (by omega) _ (by unfold maxLen; omega) (by decide) (by decide) (by omega) (Nat.le_refl _) (World.rowIs.alloc HR.out _)).mono ?_); rintro e w2 ⟨rfl, hr2, hg2⟩; obtain ⟨d0, d1, d2, d3⟩ := ins_cells (rowIs_grown HI.out hg2 (fun e => hne (by injection e))); have e2 := World.rowIs.cell hr2 (i := i * 8 + 2) (by omega); have e3 := World.rowIs.cell hr2 (i := i * 8 + 3) (by omega); have z2 := World.rowIs.frozen hr2 (i * 8 + 2); have z3 := World.rowIs.frozen hr2 (i * 8 + 3); have HR2 := Lib.hid hr2; have HG2 := Lib.hid (grown_trans (grown_alloc (World.grownBy.refl wr (some g)) _) hg2); clear hr2 hg2 HI c0 c1 c2 c3)
        | (go_at_call 28; (with_reducible refine (word_StoreI g (n * 8) (n * 8) (n * 8) _ ((i : Int) * 8 + 4) 4 (i * 8 + 4) 4 (by simp) rfl ((q i).k.toNat : Int) (by omega) (by omega) _ (by unfold maxLen; omega) (by decide) (by decide) (by omega) (Nat.le_refl _) ((HR2.out.set (i * 8 + 2) _).set (i * 8 + 3) _)).mono ?_); rintro e w3 ⟨rfl, hr3, hg3⟩; have HR3 := Lib.hid hr3; have HG3 := Lib.hid (grown_trans (grown_set (grown_set HG2.out (i * 8 + 2) _) (i * 8 + 3) _) hg3); clear hr3 hg3 d0 d1 d2 d3 e2 e3 z2 z3 HG2 HR2))
      go_roundw
      case rel => exact ⟨i + 1, by omega, by go_num, HR3.out.congr (fun j _ => roundF_is q i j), below_grown HB.out HG3.out hge (Nat.le_refl _)⟩
      case measure => simp [intOf]; omega
    · obtain rfl : i = n := by omega
      clear hr hb
      go_wp2
      go_ret
      exact ⟨g, rfl, HR.out.congr (fun j hj => by unfold bytesF; rw [if_pos hj]), HB.out, hge⟩
end Go.Proofs.Ytlfbkalpnbjdjaa
