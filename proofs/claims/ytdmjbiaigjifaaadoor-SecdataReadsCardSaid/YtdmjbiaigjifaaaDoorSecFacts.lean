/-
  Plain facts on the bytes of data: what is read of bytes that were laid, and what is laid of numbers that were read. No condition but those that each names.
-/
import Derived.Test.YtdmjbiaigjifaaaDoorSecRead
import Derived.Test.YtdmjbiaigjifaaaDoorSecRef
import Derived.Test.YtdmjbiaigjifaaaDoorSecHead
import Derived.Test.YtdmjbiaigjifaaaDoorMemory
import Derived.Test.YtdmjbiaigjifaaaDoorDataArg
namespace Go.Proofs.YtdmjbiaigjifaaaDoor
open Go Go.RowKit
set_option linter.unusedSimpArgs false
set_option linter.unusedVariables false

theorem leB4 (f : Nat → Int) : leB f 4 = f 0 + f 1 * 256 + f 2 * 65536 + f 3 * 16777216 := by
  simp [leB]
theorem leB8 (f : Nat → Int) : leB f 8 = f 0 + f 1 * 256 + f 2 * 65536 + f 3 * 16777216 + f 4 * 4294967296 + f 5 * 1099511627776 + f 6 * 281474976710656 + f 7 * 72057594037927936 := by
  simp [leB]
theorem byteI0 (x : Int) : byteI x 0 = x % 256 := by simp [byteI]
theorem byteI1 (x : Int) : byteI x 1 = x / 256 % 256 := by simp [byteI]
theorem byteI2 (x : Int) : byteI x 2 = x / 65536 % 256 := by simp [byteI]
theorem byteI3 (x : Int) : byteI x 3 = x / 16777216 % 256 := by simp [byteI]
theorem byteI4 (x : Int) : byteI x 4 = x / 4294967296 % 256 := by simp [byteI]
theorem byteI5 (x : Int) : byteI x 5 = x / 1099511627776 % 256 := by simp [byteI]
theorem byteI6 (x : Int) : byteI x 6 = x / 281474976710656 % 256 := by simp [byteI]
theorem byteI7 (x : Int) : byteI x 7 = x / 72057594037927936 % 256 := by simp [byteI]
theorem le4 (x : Int) : leB (byteI x) 4 = x % 4294967296 := by
  rw [leB4, byteI0, byteI1, byteI2, byteI3]; omega
theorem le4_high (x : Int) : leB (fun j => byteI x (4 + j)) 4 = x / 4294967296 % 4294967296 := by
  rw [leB4]; simp only [Nat.add_zero, Nat.reduceAdd]; rw [byteI4, byteI5, byteI6, byteI7]; omega
theorem le8 (x : Int) : leB (byteI x) 8 = x % 18446744073709551616 := by
  rw [leB8, byteI0, byteI1, byteI2, byteI3, byteI4, byteI5, byteI6, byteI7]; omega
theorem leB_congr {f g : Nat → Int} : ∀ {n : Nat}, (∀ j, j < n → f j = g j) → leB f n = leB g n
  | 0, _ => rfl
  | n + 1, h => by rw [leB, leB, leB_congr (fun j hj => h j (by omega)), h n (by omega)]
theorem byte_le4 (f : Nat → Int) (hf : ∀ i, 0 ≤ f i ∧ f i < 256) (i : Nat) (h : i < 4) : byteI (leB f 4) i = f i := by
  rw [leB4]
  have h0 := hf 0; have h1 := hf 1; have h2 := hf 2; have h3 := hf 3
  match i, h with
  | 0, _ => rw [byteI0]; omega
  | 1, _ => rw [byteI1]; omega
  | 2, _ => rw [byteI2]; omega
  | 3, _ => rw [byteI3]; omega
theorem byte_le8 (f : Nat → Int) (hf : ∀ i, 0 ≤ f i ∧ f i < 256) (i : Nat) (h : i < 8) : byteI (leB f 8) i = f i := by
  rw [leB8]
  have h0 := hf 0; have h1 := hf 1; have h2 := hf 2; have h3 := hf 3; have h4 := hf 4; have h5 := hf 5; have h6 := hf 6; have h7 := hf 7
  match i, h with
  | 0, _ => rw [byteI0]; omega
  | 1, _ => rw [byteI1]; omega
  | 2, _ => rw [byteI2]; omega
  | 3, _ => rw [byteI3]; omega
  | 4, _ => rw [byteI4]; omega
  | 5, _ => rw [byteI5]; omega
  | 6, _ => rw [byteI6]; omega
  | 7, _ => rw [byteI7]; omega

section
variable (nr arch ip : Int) (a : Nat → Int)
theorem w4_nr (h : 0 ≤ nr ∧ nr < 4294967296) : w4 (dbyte nr arch ip a) 0 = nr := by
  unfold w4; rw [leB_congr (g := byteI nr) (fun j hj => (dbyte_nr nr arch ip a j hj).symm), le4]; omega
theorem w4_arch (h : 0 ≤ arch ∧ arch < 4294967296) : w4 (dbyte nr arch ip a) 4 = arch := by
  unfold w4; rw [leB_congr (g := byteI arch) (fun j hj => (dbyte_arch nr arch ip a j hj).symm), le4]; omega
theorem w8_ip (h : 0 ≤ ip ∧ ip < 18446744073709551616) : w8 (dbyte nr arch ip a) 8 = ip := by
  unfold w8; rw [leB_congr (g := byteI ip) (fun j hj => (dbyte_ip nr arch ip a j hj).symm), le8]; omega
theorem w8_arg (i : Nat) (h : 0 ≤ a i ∧ a i < 18446744073709551616) : w8 (dbyte nr arch ip a) (16 + i * 8) = a i := by
  unfold w8; rw [leB_congr (g := byteI (a i)) (fun j hj => (dbyte_arg nr arch ip a i j hj).symm), le8]; omega
theorem w4_low (i : Nat) : w4 (dbyte nr arch ip a) (16 + i * 8) = a i % 4294967296 := by
  unfold w4; rw [leB_congr (g := byteI (a i)) (fun j hj => (dbyte_arg nr arch ip a i j (by omega)).symm), le4]
theorem w4_high (i : Nat) : w4 (dbyte nr arch ip a) (16 + i * 8 + 4) = a i / 4294967296 % 4294967296 := by
  unfold w4
  rw [leB_congr (g := fun j => byteI (a i) (4 + j)) (fun j hj => by rw [dbyte_arg nr arch ip a i (4 + j) (by omega), Nat.add_assoc (16 + i * 8) 4 j]), le4_high]
/-- Another argument turns just its own words. -/
theorem w4_other (k : Nat) (v : Int) (p : Nat) (hp : p % 4 = 0) (h1 : p ≠ 16 + k * 8) (h2 : p ≠ 16 + k * 8 + 4) : w4 (dbyte nr arch ip (fun i => if i = k then v else a i)) p = w4 (dbyte nr arch ip a) p := by
  unfold w4
  refine leB_congr fun j hj => ?_
  unfold dbyte
  by_cases g1 : p + j < 4
  · rw [if_pos g1, if_pos g1]
  · rw [if_neg g1, if_neg g1]
    by_cases g2 : p + j < 8
    · rw [if_pos g2, if_pos g2]
    · rw [if_neg g2, if_neg g2]
      by_cases g3 : p + j < 16
      · rw [if_pos g3, if_pos g3]
      · rw [if_neg g3, if_neg g3]
        show byteI (if (p + j - 16) / 8 = k then v else a ((p + j - 16) / 8)) _ = _
        rw [if_neg (by omega)]
/-- Laid again, what was read of 64 bytes is the bytes. -/
theorem dbyte_read (z : Nat → Int) (hz : ∀ i, 0 ≤ z i ∧ z i < 256) (j : Nat) (h : j < 64) : dbyte (w4 z 0) (w4 z 4) (w8 z 8) (fun i => w8 z (16 + i * 8)) j = z j := by
  unfold dbyte
  by_cases g1 : j < 4
  · rw [if_pos g1]; unfold w4; rw [byte_le4 _ (fun i => hz _) j g1, Nat.zero_add]
  · rw [if_neg g1]
    by_cases g2 : j < 8
    · rw [if_pos g2]; unfold w4; rw [byte_le4 _ (fun i => hz _) _ (by omega), show 4 + (j - 4) = j by omega]
    · rw [if_neg g2]
      by_cases g3 : j < 16
      · rw [if_pos g3]; unfold w8; rw [byte_le8 _ (fun i => hz _) _ (by omega), show 8 + (j - 8) = j by omega]
      · rw [if_neg g3]; unfold w8; rw [byte_le8 _ (fun i => hz _) _ (by omega), show 16 + (j - 16) / 8 * 8 + (j - 16) % 8 = j by omega]
end
/-- Unlike data have unlike bytes. -/
theorem dbyte_inj {nr arch ip nr' arch' ip' : Int} {a a' : Nat → Int} (h1 : 0 ≤ nr ∧ nr < 4294967296) (h2 : 0 ≤ arch ∧ arch < 4294967296) (h3 : 0 ≤ ip ∧ ip < 18446744073709551616) (h4 : ∀ i, 0 ≤ a i ∧ a i < 18446744073709551616)
    (g1 : 0 ≤ nr' ∧ nr' < 4294967296) (g2 : 0 ≤ arch' ∧ arch' < 4294967296) (g3 : 0 ≤ ip' ∧ ip' < 18446744073709551616) (g4 : ∀ i, 0 ≤ a' i ∧ a' i < 18446744073709551616)
    (h : ∀ j, j < 64 → dbyte nr arch ip a j = dbyte nr' arch' ip' a' j) : nr = nr' ∧ arch = arch' ∧ ip = ip' ∧ ∀ i, i < 6 → a i = a' i := by
  refine ⟨?_, ?_, ?_, fun i hi => ?_⟩
  · rw [← w4_nr nr arch ip a h1, ← w4_nr nr' arch' ip' a' g1]; exact leB_congr fun j hj => h _ (by omega)
  · rw [← w4_arch nr arch ip a h2, ← w4_arch nr' arch' ip' a' g2]; exact leB_congr fun j hj => h _ (by omega)
  · rw [← w8_ip nr arch ip a h3, ← w8_ip nr' arch' ip' a' g3]; exact leB_congr fun j hj => h _ (by omega)
  · rw [← w8_arg nr arch ip a i (h4 i), ← w8_arg nr' arch' ip' a' i (g4 i)]; exact leB_congr fun j hj => h _ (by omega)

/-! ### Rows of 64 bytes that a call hands back -/
theorem bytes64_made {w w' : World} {v : Value} {z : Nat → Int} (hz : ∀ i, 0 ≤ z i ∧ z i < 256) (h : Made w w' v 64 (fun k => .int .u8 (z k))) :
    ∃ g cap, v = .slice (some ⟨g, 0, none⟩) 64 cap ∧ Bytes64 w' g 0 z ∧ Below w.heap.size w w' ∧ w.heap.size ≤ g := by
  obtain ⟨g, cap, F, rfl, hr, hc, hm, hF, hb, hg⟩ := h
  exact ⟨g, cap, rfl, ⟨hr.lt, hz, fun i hi => by rw [Nat.zero_add, hr.cell (by omega), hF i hi]⟩, hb, hg⟩
theorem bytes64_row {w : World} {g cap : Nat} {F : Nat → Value} {z : Nat → Int} (hz : ∀ i, 0 ≤ z i ∧ z i < 256) (hr : w.rowIs g 5 cap F) (hc : 64 ≤ cap) (hF : ∀ k, k < 64 → F k = .int .u8 (z k)) : Bytes64 w g 0 z :=
  ⟨hr.lt, hz, fun i hi => by rw [Nat.zero_add, hr.cell (by omega), hF i hi]⟩
theorem str64 {W : World} {g off : Nat} {z : Nat → Int} (cap : Nat) (h : Bytes64 W g off z) :
    (convert 28 9 (.slice (some ⟨g, off, none⟩) 64 cap)).run Tryd.prog W = .ok (.string (strOf 64 z)) W :=
  run_string_of (P := Tryd.prog) W 28 9 5 Tryd.underlying28 Tryd.underlying5 Tryd.underlying9 _ 64 cap z (fun _ => ⟨g, off, rfl, h.1, h.2.2⟩)
theorem read_back {nr arch ip : Int} {a : Nat → Int} (hD : DataOK nr arch ip a) (g cap : Nat) (w : World) (h : Bytes64 w g 0 (dbyte nr arch ip a)) :
    Calls Tryd.prog 13 #[.slice (some ⟨g, 0, none⟩) 64 cap] w fun e w' => e = .returned (.tuple #[.agg #[.int .u32 nr, .int .u32 arch, .int .u64 ip, .int .u64 (a 0), .int .u64 (a 1), .int .u64 (a 2), .int .u64 (a 3), .int .u64 (a 4), .int .u64 (a 5)], .int .i64 0]) ∧ Below w.heap.size w w' := by
  refine (secdata_Read g 0 cap _ w h).mono ?_
  rintro e w' ⟨rfl, hb⟩
  refine ⟨?_, hb⟩
  have h0 := w8_arg nr arch ip a 0 (hD.2.2.2 0)
  have h1 := w8_arg nr arch ip a 1 (hD.2.2.2 1)
  have h2 := w8_arg nr arch ip a 2 (hD.2.2.2 2)
  have h3 := w8_arg nr arch ip a 3 (hD.2.2.2 3)
  have h4 := w8_arg nr arch ip a 4 (hD.2.2.2 4)
  have h5 := w8_arg nr arch ip a 5 (hD.2.2.2 5)
  simp only [Nat.zero_mul, Nat.one_mul, Nat.add_zero, Nat.reduceMul, Nat.reduceAdd] at h0 h1 h2 h3 h4 h5
  rw [readV, w4_nr nr arch ip a hD.1, w4_arch nr arch ip a hD.2.1, w8_ip nr arch ip a hD.2.2.1, h0, h1, h2, h3, h4, h5]
/-- Behind the live question: the data's cells. -/
theorem after_head {w w' : World} {nr arch ip : Int} {a : Nat → Int} {t : TypeId}
    (hb : Below (w.alloc (.cells #[.int .u32 nr, .int .u32 arch, .int .u64 ip, .int .u64 (a 0), .int .u64 (a 1), .int .u64 (a 2), .int .u64 (a 3), .int .u64 (a 4), .int .u64 (a 5)] t)).heap.size (w.alloc (.cells #[.int .u32 nr, .int .u32 arch, .int .u64 ip, .int .u64 (a 0), .int .u64 (a 1), .int .u64 (a 2), .int .u64 (a 3), .int .u64 (a 4), .int .u64 (a 5)] t)) w') :
    Box w' w.heap.size nr arch ip a ∧ Below w.heap.size w w' ∧ w.heap.size < w'.heap.size :=
  ⟨(Box.new w t nr arch ip a).below hb (by simp), (below_box w _).trans (hb.mono (by simp)), by have := hb.size; simp at this; omega⟩
theorem box_cells {w : World} {b : Nat} {nr arch ip : Int} {a : Nat → Int} (h : Box w b nr arch ip a) :
    w.cell? ⟨b, 0, none⟩ = some (.int .u32 nr) ∧ w.cell? ⟨b, 1, none⟩ = some (.int .u32 arch) ∧ w.cell? ⟨b, 2, none⟩ = some (.int .u64 ip) ∧ w.cell? ⟨b, 3, none⟩ = some (.int .u64 (a 0)) ∧ w.cell? ⟨b, 4, none⟩ = some (.int .u64 (a 1)) ∧ w.cell? ⟨b, 5, none⟩ = some (.int .u64 (a 2)) ∧ w.cell? ⟨b, 6, none⟩ = some (.int .u64 (a 3)) ∧ w.cell? ⟨b, 7, none⟩ = some (.int .u64 (a 4)) ∧ w.cell? ⟨b, 8, none⟩ = some (.int .u64 (a 5)) :=
  ⟨h.2.1, h.2.2.1, h.2.2.2.1, h.2.2.2.2 0 (by decide), h.2.2.2.2 1 (by decide), h.2.2.2.2 2 (by decide), h.2.2.2.2 3 (by decide), h.2.2.2.2 4 (by decide), h.2.2.2.2 5 (by decide)⟩
theorem Box.drawn {w : World} {b : Nat} {nr arch ip : Int} {a : Nat → Int} (h : Box w b nr arch ip a) (n : Nat) : Box (w.drewN n) b nr arch ip a := h
theorem Box.drew {w : World} {b : Nat} {nr arch ip : Int} {a : Nat → Int} (h : Box w b nr arch ip a) : Box w.drew b nr arch ip a := h
end Go.Proofs.YtdmjbiaigjifaaaDoor
