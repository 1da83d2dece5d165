/-
  Strings of known bytes: alike just if the bytes are. Conditions: those that each names.
-/
import Derived.Test.YtdmjbiaigjifaaaDoorMemory
import Derived.Laws.Strings
namespace Go.Proofs.YtdmjbiaigjifaaaDoor
open Go Go.RowKit
set_option linter.unusedSimpArgs false

theorem strOf_data (n : Nat) (z : Nat → Int) : (strOf n z).data.toList = (List.range n).map fun i => UInt8.ofNat (z i).toNat := by
  unfold strOf; rw [strOfNums_data, List.map_map]; rfl
theorem strOf_congr {n : Nat} {z z' : Nat → Int} (h : ∀ j, j < n → z j = z' j) : strOf n z = strOf n z' := by
  unfold strOf
  congr 1
  exact List.map_congr_left fun i hi => h i (List.mem_range.1 hi)
theorem byte_inj {x y : Int} (hx : 0 ≤ x ∧ x < 256) (hy : 0 ≤ y ∧ y < 256) (h : UInt8.ofNat x.toNat = UInt8.ofNat y.toNat) : x = y := by
  have := congrArg UInt8.toNat h
  simp only [UInt8.toNat_ofNat'] at this
  omega
theorem strOf_inj {n : Nat} {z z' : Nat → Int} (hz : ∀ i, 0 ≤ z i ∧ z i < 256) (hz' : ∀ i, 0 ≤ z' i ∧ z' i < 256) (h : (strOf n z).toList = (strOf n z').toList) (j : Nat) (hj : j < n) : z j = z' j := by
  rw [ByteArray.toList_eq, ByteArray.toList_eq, strOf_data, strOf_data] at h
  have g := congrArg (fun l => l[j]?) h
  simp only [List.getElem?_map, List.getElem?_range hj, Option.map_some, Option.some.injEq] at g
  exact byte_inj (hz j) (hz' j) g
theorem strOf_beq {n : Nat} {z z' : Nat → Int} (hz : ∀ i, 0 ≤ z i ∧ z i < 256) (hz' : ∀ i, 0 ≤ z' i ∧ z' i < 256) : ((strOf n z).toList == (strOf n z').toList) = true ↔ ∀ j, j < n → z j = z' j := by
  rw [beq_iff_eq]
  exact ⟨fun h => strOf_inj hz hz' h, fun h => by rw [strOf_congr h]⟩
end Go.Proofs.YtdmjbiaigjifaaaDoor
