/-
  Classic BPF's bytes there and back, as plain functions: what is written is read as the same, what is read is written as the same. No condition but those that each names.
-/
import Derived.Test.YtlfbkalpnbjdjaaPRead
namespace Go.Proofs.Ytlfbkalpnbjdjaa
open Go Go.RowKit
set_option linter.unusedSimpArgs false
set_option linter.unusedVariables false

theorem insB_bd {i : Ins} (h : i.OK) (j : Nat) : 0 ≤ insB i j ∧ insB i j < 256 := by
  have h1 := h.2.2.1
  have h2 := h.2.2.2
  have w8 : ∀ x : Int, 0 ≤ IntKind.u8.wrap x ∧ IntKind.u8.wrap x < 256 := fun x => by rw [IntKind.wrap_u8]; omega
  unfold insB
  split
  · exact w8 _
  · exact w8 _
  · omega
  · omega
  · exact w8 _
  · exact w8 _
  · exact w8 _
  · exact w8 _
theorem progB_bd {q : Nat → Ins} (h : ∀ i, (q i).OK) (j : Nat) : 0 ≤ progB q j ∧ progB q j < 256 := insB_bd (h _) _
/-- A program all of whose instructions are of their kinds. -/
theorem prog_all {w : World} {a : Option Addr} {n : Nat} {q : Nat → Ins} (h : ProgAt w a n q) (hok : ∀ i, i < n → (q i).OK) : ∃ q0, ProgAt w a n q0 ∧ ∀ i, (q0 i).OK := by
  refine ⟨fun i => if i < n then q i else ⟨0, 0, 0, 0#32⟩, fun hn => ?_, fun i => ?_⟩
  · obtain ⟨b, o, e, hl, hc⟩ := h hn
    exact ⟨b, o, e, hl, fun i hi => by show InsCells w b _ (if i < n then q i else ⟨0, 0, 0, 0#32⟩); rw [if_pos hi]; exact hc i hi⟩
  · show Ins.OK (if i < n then q i else ⟨0, 0, 0, 0#32⟩)
    split
    · exact hok i ‹_›
    · exact ⟨by decide, by decide, by decide, by decide⟩
/-- What is written is read as the same. -/
theorem read_write {q : Nat → Ins} {i : Nat} (h : (q i).OK) : readI (progB q) (i * 8) = q i := by
  obtain ⟨h0, h1, h2, h3⟩ := h
  have a0 := progB_at q i 0 (by decide)
  have a1 := progB_at q i 1 (by decide)
  have a2 := progB_at q i 2 (by decide)
  have a3 := progB_at q i 3 (by decide)
  have a4 := progB_at q i 4 (by decide)
  have a5 := progB_at q i 5 (by decide)
  have a6 := progB_at q i 6 (by decide)
  have a7 := progB_at q i 7 (by decide)
  have hk := (q i).k.isLt
  generalize q i = x at a0 a1 a2 a3 a4 a5 a6 a7 h0 h1 h2 h3 hk
  obtain ⟨c, jt, jf, k⟩ := x
  simp only [insB] at a0 a1 a2 a3 a4 a5 a6 a7
  simp only at h0 h1 h2 h3 hk
  rw [IntKind.wrap_u8] at a0 a1 a4 a5 a6 a7
  have e0 : leB (fun j => progB q (i * 8 + j)) 2 = c := by simp only [leB]; rw [a0, a1]; omega
  have e3 : w4 (progB q) (i * 8 + 4) = (k.toNat : Int) := by
    have b4 : progB q (i * 8 + 4 + 0) = (k.toNat : Int) % 256 := a4
    have b5 : progB q (i * 8 + 4 + 1) = (k.toNat : Int) / 256 % 256 := a5
    have b6 : progB q (i * 8 + 4 + 2) = (k.toNat : Int) / 65536 % 256 := a6
    have b7 : progB q (i * 8 + 4 + 3) = (k.toNat : Int) / 16777216 % 256 := a7
    simp only [w4, leB]
    rw [b4, b5, b6, b7]
    omega
  unfold readI wordZ
  rw [e0, e3, a2, a3]
  simp
/-- What is read is of its kinds. -/
theorem read_ok {z : Nat → Int} (hz : ∀ i, 0 ≤ z i ∧ z i < 256) (p : Nat) : (readI z p).OK := by
  have hb := le2_bd hz p
  have h2 := hz (p + 2)
  have h3 := hz (p + 3)
  exact ⟨hb.1, hb.2, by show (z (p + 2)).toNat < 256; omega, by show (z (p + 3)).toNat < 256; omega⟩
/-- What is read is written as the same. -/
theorem write_read {z : Nat → Int} (hz : ∀ i, 0 ≤ z i ∧ z i < 256) (j : Nat) : progB (fun i => readI z (i * 8)) j = z j := by
  have hj : j = j / 8 * 8 + j % 8 := by omega
  have ht : insB (readI z (j / 8 * 8)) (j % 8) = z (j / 8 * 8 + j % 8) := by
    generalize j / 8 * 8 = p
    have z0 := hz (p + 0)
    have z1 := hz (p + 1)
    have z2 := hz (p + 2)
    have z3 := hz (p + 3)
    have z4 := hz (p + 4)
    have z5 := hz (p + 5)
    have z6 := hz (p + 6)
    have z7 := hz (p + 7)
    have e3 : ((wordZ z (p + 4)).toNat : Int) = z (p + 4) + 256 * z (p + 5) + 65536 * z (p + 6) + 16777216 * z (p + 7) := by
      rw [wordZ_nat hz]; simp only [w4, leB]
      rw [show p + 4 + 0 = p + 4 from rfl, show p + 4 + 1 = p + 5 from rfl, show p + 4 + 2 = p + 6 from rfl, show p + 4 + 3 = p + 7 from rfl]
      omega
    have e0 : (readI z p).code = z (p + 0) + 256 * z (p + 1) := by show leB (fun j => z (p + j)) 2 = _; simp only [leB]; omega
    have hf : j % 8 = 0 ∨ j % 8 = 1 ∨ j % 8 = 2 ∨ j % 8 = 3 ∨ j % 8 = 4 ∨ j % 8 = 5 ∨ j % 8 = 6 ∨ j % 8 = 7 := by omega
    rcases hf with f | f | f | f | f | f | f | f <;> rw [f] <;> simp only [insB]
    · rw [e0, IntKind.wrap_u8]; omega
    · rw [e0, IntKind.wrap_u8]; omega
    · show (((z (p + 2)).toNat : Nat) : Int) = _; omega
    · show (((z (p + 3)).toNat : Nat) : Int) = _; omega
    · rw [IntKind.wrap_u8]; show ((wordZ z (p + 4)).toNat : Int) % 256 = _; rw [e3]; omega
    · rw [IntKind.wrap_u8]; show ((wordZ z (p + 4)).toNat : Int) / 256 % 256 = _; rw [e3]; omega
    · rw [IntKind.wrap_u8]; show ((wordZ z (p + 4)).toNat : Int) / 65536 % 256 = _; rw [e3]; omega
    · rw [IntKind.wrap_u8]; show ((wordZ z (p + 4)).toNat : Int) / 16777216 % 256 = _; rw [e3]; omega
  unfold progB
  rw [ht, ← hj]
/-- A row of bytes that is owned, as a slice whose cells are known. -/
theorem own_holds {w : World} {B m : Nat} {v : Value} {xs : List Value} {f : Nat → Value} (h : w.ownsRow B 5 1 v m xs) (hx : ∀ j, j < m → xs[j]? = some (f j)) : ∃ A cap, v = .slice A m cap ∧ Holds w A m f := by
  rcases h.2 with ⟨rfl, hm⟩ | ⟨g, cap, cur, rfl, _, hh, hnc, hcm, hsz, htk⟩
  · subst hm
    exact ⟨none, 0, rfl, fun h => absurd h (by omega)⟩
  · refine ⟨some ⟨g, 0, none⟩, cap, rfl, fun _ => ⟨g, 0, rfl, (Array.getElem?_eq_some_iff.1 hh).1, fun j hj => ?_⟩⟩
    have hat : cur[j]? = some (f j) := by
      rw [← hx j hj, ← htk, List.getElem?_take, if_pos (by omega), Array.getElem?_toList]
    rw [Nat.zero_add]
    simp only [World.cell?, hh]
    exact hat
theorem readL_len (z : Nat → Int) : ∀ k, (readL z k).length = k * 4
  | 0 => rfl
  | k + 1 => by rw [readL, List.length_append, readL_len z k]; simp [insC]; omega
theorem insC_get (i : Ins) (j : Nat) (h : j < 4) : (insC i)[j]? = some (insF i j) := by
  have : j = 0 ∨ j = 1 ∨ j = 2 ∨ j = 3 := by omega
  rcases this with rfl | rfl | rfl | rfl <;> rfl
theorem readL_get (z : Nat → Int) : ∀ k j, j < k * 4 → (readL z k)[j]? = some (progF (fun i => readI z (i * 8)) j)
  | 0, j, h => by omega
  | k + 1, j, h => by
    rw [readL]
    by_cases hj : j < k * 4
    · rw [List.getElem?_append_left (by rw [readL_len]; exact hj), readL_get z k j hj]
    · rw [List.getElem?_append_right (by rw [readL_len]; omega), readL_len, insC_get _ _ (by omega), progF, show j / 4 = k by omega, show j % 4 = j - k * 4 by omega]
/-- A row of instructions that is owned, as a program. -/
theorem own_prog {w : World} {B n : Nat} {v : Value} {xs : List Value} {q : Nat → Ins} (h : w.ownsRow B 43 4 v n xs) (hx : ∀ j, j < n * 4 → xs[j]? = some (progF q j)) : ∃ A cap, v = .slice A n cap ∧ ProgAt w A n q := by
  rcases h.2 with ⟨rfl, hm⟩ | ⟨g, cap, cur, rfl, _, hh, hnc, hcm, hsz, htk⟩
  · subst hm
    exact ⟨none, 0, rfl, fun h => absurd h (by omega)⟩
  · have hc4 : n * 4 ≤ cap * 4 := by omega
    have hr : w.rowIs g 43 (cap * 4) (fun k => cur.getD k undef) := ⟨cur, hh, hsz, fun k hk => by show cur[k]? = some (cur.getD k undef); rw [Array.getD_eq_getD_getElem?, Array.getElem?_eq_getElem (show k < cur.size by omega)]; rfl⟩
    refine ⟨some ⟨g, 0, none⟩, cap, rfl, prog_of_row hr (fun k hk => ?_) hc4⟩
    have hat : cur[k]? = some (progF q k) := by
      rw [← hx k hk, ← htk, List.getElem?_take, if_pos hk, Array.getElem?_toList]
    show cur.getD k undef = progF q k
    rw [Array.getD_eq_getD_getElem?, hat]; rfl
end Go.Proofs.Ytlfbkalpnbjdjaa
