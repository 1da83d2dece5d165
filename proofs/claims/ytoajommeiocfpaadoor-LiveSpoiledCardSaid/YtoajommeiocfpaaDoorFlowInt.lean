/-
  Rows of whole numbers, of the call's own, and read alone. Conditions: those that each names.
-/
import Derived.Test.YtoajommeiocfpaaDoorCbpfStep
import Derived.Test.YtoajommeiocfpaaDoorRowsOwn
import Derived.Test.YtoajommeiocfpaaDoorRegion
import Derived.Test.YtoajommeiocfpaaDoorChecked
import Derived.WalkSpells
import Derived.WalkLawsBesides
import Derived.Lib.Hide
import Derived.OwnWalk
import Derived.RangeFuncRecord
namespace Go.Proofs.YtoajommeiocfpaaDoor
open Go Go.RowKit
set_option linter.unusedSimpArgs false
set_option linter.unusedVariables false

theorem lbox10 (w : World) (o : Obj) : Below w.heap.size w (w.alloc o) := (Below.refl _ _).alloc (Nat.le_refl _) o
theorem info_int10 : (Tryd.prog.info? 3).map (fun i => (i.zero, i.size, i.bytes)) = some (some (.int .i64 0), 1, 8) := by kernel_rfl
/-- Numbers as cells. -/
def intL (l : List Nat) : List Value := l.map fun (i : Nat) => Value.int .i64 (i : Int)
theorem intL_snoc (l : List Nat) (x : Nat) : intL (l ++ [x]) = intL l ++ [.int .i64 (x : Int)] := by unfold intL; rw [List.map_append]; rfl
theorem intL_len (l : List Nat) : (intL l).length = l.length := by unfold intL; rw [List.length_map]
theorem intL_get {l : List Nat} {i : Nat} (h : i < l.length) : (intL l)[i]? = some (.int .i64 ((l.getD i 0 : Nat) : Int)) := by
  unfold intL; rw [List.getElem?_map, List.getElem?_eq_getElem h, List.getD_eq_getElem?_getD, List.getElem?_eq_getElem h]; rfl
theorem int_new10 (V : World) (x : Value) (t : TypeId) : ∀ j u, ([x] : List Value)[j]? = some u → (V.alloc (.cells #[x] t)).cell? ((⟨V.heap.size, 0, none⟩ : Addr).add j) = some u := fun j u hj => by
  cases j with
  | zero =>
    injection hj with hj
    subst hj
    unfold World.cell?
    rw [show (⟨V.heap.size, 0, none⟩ : Addr).add 0 = ⟨V.heap.size, 0, none⟩ from rfl, World.alloc_heap_new V _]; rfl
  | succ j => cases hj
theorem int_new11 (V : World) (x : Value) (t : TypeId) {b : Nat} (h : V.heap.size = b) : ∀ j u, ([x] : List Value)[j]? = some u → (V.alloc (.cells #[x] t)).cell? ((⟨b, 0, none⟩ : Addr).add j) = some u := by subst h; exact int_new10 V x t
theorem int_one10 (k : IntKind) (x : Int) : ∀ u ∈ ([.int k x] : List Value), u.oneCell' = true := fun u hu => by
  rw [List.mem_singleton.1 hu]; rfl
theorem own_form10 {w : World} {B : Nat} {e : TypeId} {sz : Nat} {v : Value} {n : Nat} {xs : List Value} (h : w.ownsRow B e sz v n xs) : ∃ A c, v = .slice A n c := by
  rcases h.2 with ⟨rfl, rfl⟩ | ⟨g, c, cur, rfl, _⟩
  · exact ⟨none, 0, rfl⟩
  · exact ⟨some ⟨g, 0, none⟩, c, rfl⟩
/-- A row of one's own, read alone. -/
theorem own_holds10 {w : World} {B : Nat} {e : TypeId} {A : Option Addr} {n c : Nat} {xs : List Value} (h : w.ownsRow B e 1 (.slice A n c) n xs) {f : Nat → Value} (hf : ∀ i, i < n → xs[i]? = some (f i)) : Holds w A n f := fun hn => by
  rcases h.2 with ⟨e1, e2⟩ | ⟨g, c', cur, e1, hB, hg, hc, hm, hs, ht⟩
  · omega
  · injection e1 with e1 _ e3
    subst e1 e3
    refine ⟨g, 0, rfl, (Array.getElem?_eq_some_iff.1 hg).1, fun i hi => ?_⟩
    have hu := hf i hi
    rw [← ht, List.getElem?_take] at hu
    split at hu
    · unfold World.cell?; rw [hg]
      simpa using hu
    · cases hu
/-- Numbers that may be read. -/
def IntsAt (w : World) (A : Option Addr) (l : List Nat) : Prop := Holds w A l.length fun i => .int .i64 ((l.getD i 0 : Nat) : Int)
theorem IntsAt.below {w w' : World} {A : Option Addr} {l : List Nat} (h : IntsAt w A l) (hb : Below w.heap.size w w') : IntsAt w' A l := Holds.below h hb
theorem own_ints {w : World} {B : Nat} {A : Option Addr} {c : Nat} {l : List Nat} (h : w.ownsRow B 3 1 (.slice A l.length c) l.length (intL l)) : IntsAt w A l := own_holds10 h fun i hi => intL_get hi
theorem ints_cell {w : World} {A : Option Addr} {l : List Nat} (h : IntsAt w A l) {i : Nat} (hi : i < l.length) : ∃ b o, A = some ⟨b, o, none⟩ ∧ b < w.heap.size ∧ w.cell? ⟨b, o + i, none⟩ = some (.int .i64 ((l.getD i 0 : Nat) : Int)) := by
  obtain ⟨b, o, rfl, hl, hc⟩ := h (by omega)
  exact ⟨b, o, rfl, hl, hc i hi⟩
/-- make of numbers, or of bools: zeros. -/
theorem make_zero {P : Program} (t e : TypeId) (z : Value) (bytes : Nat) (ht : P.underlying t = some (.slice e)) (hinfo : (P.info? e).map (fun i => (i.zero, i.size, i.bytes)) = some (some z, 1, bytes)) (hz : z.cells = #[z]) (n : Nat) (hn : (bytes : Int) * n ≤ 281474976710656) (h63 : n ≤ 9223372036854775807) :
    ∃ O : Obj, (∀ w : World, (Instr.makeSlice t (.int .i64 (n : Int)) (.int .i64 (n : Int))).run P w = .ok (.slice (some ⟨w.heap.size, 0, none⟩) n n) (w.alloc O)) ∧ ∀ w : World, (w.alloc O).rowIs w.heap.size e n (fun _ => z) := by
  obtain ⟨i, hi, hzz, hs, hb⟩ := info_own hinfo
  refine ⟨.cells (madeCells #[z] n) e, fun w => ?_, fun w => World.rowIs_made w z n e⟩
  have h := run_make (P := P) w t e i z ht hi hzz .i64 .i64 n n (by omega) (Int.le_refl _) (by rw [hb]; omega) (by omega)
  rw [hz] at h
  simpa only [Int.toNat_natCast, hs, Nat.mul_one] using h
end Go.Proofs.YtoajommeiocfpaaDoor
