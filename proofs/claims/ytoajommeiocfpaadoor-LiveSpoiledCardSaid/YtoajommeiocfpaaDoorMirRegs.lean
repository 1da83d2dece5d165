/-
  Steps of programs of registers by their kinds; registers as a row of words. No condition but those that each names.
-/
import Derived.Test.YtoajommeiocfpaaDoorMirShape
import Derived.Test.YtoajommeiocfpaaDoorMirChkP
namespace Go.Proofs.YtoajommeiocfpaaDoor
open Go Go.RowKit
set_option linter.unusedSimpArgs false
set_option linter.unusedVariables false

section
variable (h : Nat → Nat) (word : Nat → BitVec 32) (at_ : Nat) (r : Nat → BitVec 32) (d a b : Int) (k : BitVec 32) (t f : Int)
theorem tX_const : stepX ⟨1, d, a, b, k, t, f⟩ h word at_ r = .on (at_ + 1) (upd r (h d.toNat) k) := by
  simp [stepX, dM, aM, bM, tM, fM, valM]
theorem tX_move : stepX ⟨2, d, a, b, k, t, f⟩ h word at_ r = .on (at_ + 1) (upd r (h d.toNat) (r (h a.toNat))) := by
  simp [stepX, dM, aM, bM, tM, fM, valM]
theorem tX_load : stepX ⟨3, d, a, b, k, t, f⟩ h word at_ r = .on (at_ + 1) (upd r (h d.toNat) (word k.toNat)) := by
  simp [stepX, dM, aM, bM, tM, fM, valM]
theorem tX_neg : stepX ⟨13, d, a, b, k, t, f⟩ h word at_ r = .on (at_ + 1) (upd r (h d.toNat) (-(r (h a.toNat)))) := by
  simp [stepX, dM, aM, bM, tM, fM, valM]
theorem tX_ret : stepX ⟨19, d, a, b, k, t, f⟩ h word at_ r = .stop ⟨r (h a.toNat), 1, 0, 0⟩ := by
  simp [stepX, dM, aM, bM, tM, fM, valM]
theorem tX_jump : stepX ⟨14, d, a, b, k, t, f⟩ h word at_ r = .on t.toNat r := by
  simp [stepX, dM, aM, bM, tM, fM, valM]
theorem tX_if (op : Int) (ho : 15 ≤ op ∧ op ≤ 18) : stepX ⟨op, d, a, b, k, t, f⟩ h word at_ r = .on (if saysM op (r (h a.toNat)) (r (h b.toNat)) = true then t.toNat else f.toNat) r := by
  have h1 : aM op = true := by simp [aM]; omega
  have h2 : bM op = true := by simp [bM]; omega
  have h3 : fM op = true := by simp [fM]; omega
  have h4 : dM op = false := by simp [dM]; omega
  unfold stepX
  simp only [h1, h2, h3, h4, if_true, Bool.false_eq_true, if_false]
  rw [if_neg (by omega), if_neg (by omega), if_neg (by omega)]
theorem tX_two (op : Int) (ho : 4 ≤ op ∧ op ≤ 12) (h7 : op = 7 → r (h b.toNat) ≠ 0#32) : stepX ⟨op, d, a, b, k, t, f⟩ h word at_ r = .on (at_ + 1) (upd r (h d.toNat) (valM word ⟨op, d, a, b, k, t, f⟩ (r (h a.toNat)) (r (h b.toNat)))) := by
  have h1 : aM op = true := by simp [aM]; omega
  have h2 : bM op = true := by simp [bM]; omega
  have h3 : fM op = false := by simp [fM]; omega
  have h4 : dM op = true := by simp [dM]; omega
  unfold stepX
  simp only [h1, h2, h3, h4, if_true, Bool.false_eq_true, if_false]
  rw [if_neg (by omega), if_neg (fun g => h7 g.1 g.2), if_neg (by omega)]
theorem tX_div0 (h0 : r (h b.toNat) = 0#32) : stepX ⟨7, d, a, b, k, t, f⟩ h word at_ r = .stop ⟨0#32, 0, 8, at_⟩ := by
  simp [stepX, dM, aM, bM, tM, fM, valM, h0]
end
abbrev endV (s : EndM) : Value := .tuple #[.int .u32 (s.ans.toNat : Int), .int .i64 (s.n : Int), .int .i64 s.err, .int .i64 (s.at_ : Int)]
/-- So many steps more. -/
def plusM (st : Nat) (s : EndM) : EndM := { s with n := s.n + st }
theorem plus_more (st : Nat) (s : EndM) : plusM st s.more = plusM (st + 1) s := by
  unfold plusM EndM.more; simp only [EndM.mk.injEq, true_and, and_true]; omega
abbrev regF (r : Nat → BitVec 32) (i : Nat) : Value := .int .u32 ((r i).toNat : Int)
theorem reg_set {W : World} {g hn : Nat} {r : Nat → BitVec 32} (h : W.rowIs g 48 hn (regF r)) (i : Nat) (v : BitVec 32) : (W.setCell ⟨g, i, none⟩ (.int .u32 (v.toNat : Int))).rowIs g 48 hn (regF (upd r i v)) :=
  (World.rowIs.set h i _).congr fun j _ => by
    show (if j = i then _ else _) = regF (upd r i v) j
    unfold regF upd
    by_cases e : j = i
    · rw [if_pos e, if_pos e]
    · rw [if_neg e, if_neg e]
theorem info_u32M : (Tryd.prog.info? 48).map (fun i => (i.zero, i.size, i.bytes)) = some (some (.int .u32 0), 1, 4) := by kernel_rfl
/-- make of numbers: zeros. -/
theorem make_zeroM {P : Program} (t e : TypeId) (z : Value) (bytes : Nat) (ht : P.underlying t = some (.slice e)) (hinfo : (P.info? e).map (fun i => (i.zero, i.size, i.bytes)) = some (some z, 1, bytes)) (hz : z.cells = #[z]) (n : Nat) (hn : (bytes : Int) * n ≤ 281474976710656) (h63 : n ≤ 9223372036854775807) :
    ∃ O : Obj, (∀ w : World, (Instr.makeSlice t (.int .i64 (n : Int)) (.int .i64 (n : Int))).run P w = .ok (.slice (some ⟨w.heap.size, 0, none⟩) n n) (w.alloc O)) ∧ ∀ w : World, (w.alloc O).rowIs w.heap.size e n (fun _ => z) := by
  obtain ⟨i, hi, hzz, hs, hb⟩ := info_own hinfo
  refine ⟨.cells (madeCells #[z] n) e, fun w => ?_, fun w => World.rowIs_made w z n e⟩
  have h := run_make (P := P) w t e i z ht hi hzz .i64 .i64 n n (by omega) (Int.le_refl _) (by rw [hb]; omega) (by omega)
  rw [hz] at h
  simpa only [Int.toNat_natCast, hs, Nat.mul_one] using h
theorem bytes_ne {W : World} {db doff mb : Nat} {z : Nat → Int} {c : Array Value} {t : TypeId} (h : Bytes64 W db doff z) (hm : W.heap[mb]? = some (.cells c t (0, 0))) (hc : c.size ≤ 63) : db ≠ mb := fun e => by
  subst e
  have h0 := h.2.2 63 (by decide)
  unfold World.cell? at h0
  rw [hm] at h0
  have : c[doff + 63]? = none := Array.getElem?_eq_none (by omega)
  simp [this] at h0
theorem bytes_setM {W : World} {db doff mb : Nat} {z : Nat → Int} (h : Bytes64 W db doff z) (hne : db ≠ mb) (i : Nat) (v : Value) : Bytes64 (W.setCell ⟨mb, i, none⟩ v) db doff z :=
  ⟨by simpa [World.setCell] using h.1, h.2.1, fun j hj => (World.cell?_of_block (w := W) (a := ⟨db, doff + j, none⟩) (Below.heap_setCell W ⟨mb, i, none⟩ v db hne)).trans (h.2.2 j hj)⟩
end Go.Proofs.YtoajommeiocfpaaDoor
