/-
  Programs of the same instructions are the same; the program is there: contracts. Conditions: those that each names.
-/
import Derived.Test.YtgpjiflgocgolaaLowNode
import Derived.Test.YtgpjiflgocgolaaLowRef2
namespace Go.Proofs.Ytgpjiflgocgolaa
open Go Go.RowKit
set_option linter.unusedSimpArgs false
set_option linter.unusedVariables false

theorem i4L_get : ∀ (l : List I4) (i j : Nat) (x : I4), l[i]? = some x → j < 4 → (i4L l)[i * 4 + j]? = (i4C x)[j]?
  | [], i, j, x, h, _ => by cases h
  | y :: t, 0, j, x, h, hj => by
    have : y = x := by simpa using h
    subst this
    unfold i4L
    rw [List.flatMap_cons, Nat.zero_mul, Nat.zero_add, List.getElem?_append_left (by show j < 4; exact hj)]
  | y :: t, i + 1, j, x, h, hj => by
    have h' : t[i]? = some x := by simpa using h
    have ih := i4L_get t i j x h' hj
    unfold i4L at ih ⊢
    rw [List.flatMap_cons, List.getElem?_append_right (by show 4 ≤ (i + 1) * 4 + j; omega)]
    have e : (i + 1) * 4 + j - (i4C y).length = i * 4 + j := by show (i + 1) * 4 + j - 4 = _; omega
    rw [e]; exact ih
/-- Instructions in a slice. -/
theorem i4_cells {w : World} {B : Nat} {v : Value} {m : Nat} {xs : List I4} (h : w.ownsRow B 50 4 v m (i4L xs)) (hm : xs.length = m) {i : Nat} (hi : i < m) : ∃ g c x, v = .slice (some ⟨g, 0, none⟩) m c ∧ xs[i]? = some x ∧ g < w.heap.size ∧
    w.cell? ⟨g, i * 4, none⟩ = some (.int .u16 (x.1 : Int)) ∧ w.cell? ⟨g, i * 4 + 1, none⟩ = some (.int .u8 (x.2.1 : Int)) ∧ w.cell? ⟨g, i * 4 + 2, none⟩ = some (.int .u8 (x.2.2.1 : Int)) ∧ w.cell? ⟨g, i * 4 + 3, none⟩ = some (.int .u32 (x.2.2.2 : Int)) := by
  obtain ⟨g, c, rfl, hB, hg, hc, hcell⟩ := own_cells h (by omega)
  have hx : xs[i]? = some (xs[i]'(by omega)) := List.getElem?_eq_getElem (by omega)
  refine ⟨g, c, _, rfl, hx, hg, ?_, ?_, ?_, ?_⟩
  · exact hcell _ _ (i4L_get xs i 0 _ hx (by omega))
  · exact hcell _ _ (i4L_get xs i 1 _ hx (by omega))
  · exact hcell _ _ (i4L_get xs i 2 _ hx (by omega))
  · exact hcell _ _ (i4L_get xs i 3 _ hx (by omega))
/-! ### The program is there -/
abbrev oneNd : Nd := ⟨true, 7, 0, 0, 0, 0, 0, 0⟩
theorem emit_one : emitR (fun _ => oneNd) 1 = ([(6, 0, 0, 7)], 0) := by
  unfold emitR
  have h1 : (chkN (fun _ => oneNd) 1).1 = 0 := rfl
  have h2 : ∀ lg, firstN (fun _ => oneNd) lg 1 = 1 := fun _ => rfl
  have h3 : ∀ lg, emitN (fun _ => oneNd) lg 1 = [(6, 0, 0, 7)] := fun _ => rfl
  rw [if_pos h1, h2, if_neg (by decide), h3]
theorem nd_one_at (w : World) : NdAt (w.alloc (ndO oneNd)) (some ⟨w.heap.size, 0, none⟩) 1 (fun _ => oneNd) :=
  ⟨by unfold maxLen; omega, fun _ => ⟨w.heap.size, 0, rfl, by simp, fun i hi j u hj => by
    obtain rfl : i = 0 := by omega
    simp only [Nat.zero_mul, Nat.zero_add]
    exact cellL (World.alloc_heap_new w (ndO oneNd)) j (v := u) (by show (ndC oneNd).toArray[j]? = some u; rw [List.getElem?_toArray]; exact hj)⟩⟩
set_option maxHeartbeats 2000000 in
set_option maxRecDepth 100000 in
theorem p_lives9 (w : World) : Calls Try.prog 4 #[] w fun e w' => e = .returned (.bool true) ∧ Below w.heap.size w w' := by
  have h := p_LEmit (w.alloc (ndO oneNd)) (some ⟨w.heap.size, 0, none⟩) 1 1 (fun _ => oneNd) (nd_one_at w)
  rw [emit_one] at h
  have HE : Hid (Calls Try.prog 6 #[.slice (some ⟨w.heap.size, 0, none⟩) 1 1] (w.alloc (.cells #[.bool true, .int .u32 7, .int .i64 0, .int .u32 0, .int .i64 0, .int .u32 0, .int .i64 0, .int .i64 0] 48)) fun e w' => ∃ v, e = .returned (.tuple #[v, .int .i64 0]) ∧ w'.ownsRow (w.alloc (ndO oneNd)).heap.size 50 4 v 1 (i4L [(6, 0, 0, 7)]) ∧ Below (w.alloc (ndO oneNd)).heap.size (w.alloc (ndO oneNd)) w') := Lib.hid h
  clear h
  go_enter Try.func4, Try.ntmps4
  go_wp2_with (go_at_call 6; (with_reducible refine HE.out.mono ?_); rintro e w1 ⟨v, rfl, ho, hb⟩; obtain ⟨g, c, x, rfl, hx, hg, x0, x1, x2, x3⟩ := i4_cells ho rfl (i := 0) (by omega); have hx9 : x = (6, 0, 0, 7) := by { injection hx with hx; exact hx.symm }; subst hx9; have H1 : Hid (Below w.heap.size w w1) := Lib.hid ((lboxL w (ndO oneNd)).trans (hb.mono (by simp))); clear ho hb hx hg)
  go_ret
  exact ⟨rfl, H1.out⟩
end Go.Proofs.Ytgpjiflgocgolaa
