/-
  Words of the data's bytes, as the decision's own words have them. No condition but those that each names.
-/
import Derived.Test.YtgpjiflgocgolaaSecRead
import Derived.Test.YtgpjiflgocgolaaSecData
import Derived.Test.YtgpjiflgocgolaaCbpfAll
import Derived.Test.YtgpjiflgocgolaaLowProg
namespace Go.Proofs.Ytgpjiflgocgolaa
open Go Go.RowKit
set_option linter.unusedSimpArgs false
set_option linter.unusedVariables false

theorem leB4 (f : Nat → Int) : leB f 4 = f 0 + f 1 * 256 + f 2 * 65536 + f 3 * 16777216 := by
  simp [leB]
theorem byteI0 (x : Int) : byteI x 0 = x % 256 := by simp [byteI]
theorem byteI1 (x : Int) : byteI x 1 = x / 256 % 256 := by simp [byteI]
theorem byteI2 (x : Int) : byteI x 2 = x / 65536 % 256 := by simp [byteI]
theorem byteI3 (x : Int) : byteI x 3 = x / 16777216 % 256 := by simp [byteI]
theorem byteI4 (x : Int) : byteI x 4 = x / 4294967296 % 256 := by simp [byteI]
theorem byteI5 (x : Int) : byteI x 5 = x / 1099511627776 % 256 := by simp [byteI]
theorem byteI6 (x : Int) : byteI x 6 = x / 281474976710656 % 256 := by simp [byteI]
theorem byteI7 (x : Int) : byteI x 7 = x / 72057594037927936 % 256 := by simp [byteI]
theorem le4 (x : Int) : leB (byteI x) 4 = x % 4294967296 := by
  rw [leB4, byteI0, byteI1, byteI2, byteI3]; omega
theorem le4_high (x : Int) : leB (fun j => byteI x (4 + j)) 4 = x / 4294967296 % 4294967296 := by
  rw [leB4]; simp only [Nat.add_zero, Nat.reduceAdd]; rw [byteI4, byteI5, byteI6, byteI7]; omega
theorem leB_congr {f g : Nat → Int} : ∀ {n : Nat}, (∀ j, j < n → f j = g j) → leB f n = leB g n
  | 0, _ => rfl
  | n + 1, h => by rw [leB, leB, leB_congr (fun j hj => h j (by omega)), h n (by omega)]
section
variable (nr arch ip : Int) (a : Nat → Int)
theorem w4_nr (h : 0 ≤ nr ∧ nr < 4294967296) : w4 (dbyte nr arch ip a) 0 = nr := by
  unfold w4; rw [leB_congr (g := byteI nr) (fun j hj => (dbyte_nr nr arch ip a j hj).symm), le4]; omega
theorem w4_arch (h : 0 ≤ arch ∧ arch < 4294967296) : w4 (dbyte nr arch ip a) 4 = arch := by
  unfold w4; rw [leB_congr (g := byteI arch) (fun j hj => (dbyte_arch nr arch ip a j hj).symm), le4]; omega
theorem w4_low (i : Nat) : w4 (dbyte nr arch ip a) (16 + i * 8) = a i % 4294967296 := by
  unfold w4; rw [leB_congr (g := byteI (a i)) (fun j hj => (dbyte_arg nr arch ip a i j (by omega)).symm), le4]
theorem w4_high (i : Nat) : w4 (dbyte nr arch ip a) (16 + i * 8 + 4) = a i / 4294967296 % 4294967296 := by
  unfold w4
  rw [leB_congr (g := fun j => byteI (a i) (4 + j)) (fun j hj => by rw [dbyte_arg nr arch ip a i (4 + j) (by omega), Nat.add_assoc (16 + i * 8) 4 j]), le4_high]
end
theorem w4_ip (nr arch ip : Int) (a : Nat → Int) : w4 (dbyte nr arch ip a) 8 = ip % 4294967296 := by
  unfold w4; rw [leB_congr (g := byteI ip) (fun j hj => (dbyte_ip nr arch ip a j (by omega)).symm), le4]
theorem w4_ipH (nr arch ip : Int) (a : Nat → Int) : w4 (dbyte nr arch ip a) 12 = ip / 4294967296 % 4294967296 := by
  unfold w4
  rw [leB_congr (g := fun j => byteI ip (4 + j)) (fun j hj => by rw [dbyte_ip nr arch ip a (4 + j) (by omega)]; congr 1; omega), le4_high]
theorem word_same (nr arch ip : Nat) (args : Nat → Nat) (h1 : nr < 4294967296) (h2 : arch < 4294967296) {p : Nat} (hp : p < 16) :
    wordZ (dbyte nr arch ip (fun i => (args i : Int))) (4 * p) = BitVec.ofNat 32 (wordD nr arch ip args p) := by
  unfold wordZ
  congr 1
  unfold wordD
  by_cases e0 : p = 0
  · subst e0; rw [if_pos rfl, w4_nr (h := by omega)]; omega
  rw [if_neg e0]
  by_cases e1 : p = 1
  · subst e1; rw [if_pos rfl, w4_arch (h := by omega)]; omega
  rw [if_neg e1]
  by_cases e2 : p = 2
  · subst e2; rw [if_pos rfl, w4_ip]; omega
  rw [if_neg e2]
  by_cases e3 : p = 3
  · subst e3; rw [if_pos rfl, w4_ipH]; omega
  rw [if_neg e3]
  by_cases e4 : p % 2 = 0
  · rw [if_pos e4, show 4 * p = 16 + (p / 2 - 2) * 8 by omega, w4_low]; omega
  · rw [if_neg e4, show 4 * p = 16 + (p / 2 - 2) * 8 + 4 by omega, w4_high]; omega
end Go.Proofs.Ytgpjiflgocgolaa
