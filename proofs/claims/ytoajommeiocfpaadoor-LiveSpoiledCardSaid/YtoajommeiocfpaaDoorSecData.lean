/-
  What the functions of package secdata on data answer, and the document's: contracts. Conditions: those that each contract names.
-/
import Derived.Test.YtoajommeiocfpaaDoorWordStore
import Derived.Test.YtoajommeiocfpaaDoorSecCode
import Derived.Laws.ResultCell
namespace Go.Proofs.YtoajommeiocfpaaDoor
open Go Go.RowKit
set_option linter.unusedSimpArgs false
set_option linter.unusedVariables false

theorem nat_word {x : Int} (h0 : 0 ≤ x) (h1 : x < 18446744073709551616) : ((BitVec.ofNat 64 x.toNat).toNat : Int) = x := by
  rw [BitVec.toNat_ofNat]; omega
/-- Byte k of the data. -/
def dbyte (nr arch ip : Int) (a : Nat → Int) (k : Nat) : Int :=
  if k < 4 then byteI nr k else if k < 8 then byteI arch (k - 4) else if k < 16 then byteI ip (k - 8) else byteI (a ((k - 16) / 8)) ((k - 16) % 8)
theorem dbyte_bd (nr arch ip : Int) (a : Nat → Int) (k : Nat) : 0 ≤ dbyte nr arch ip a k ∧ dbyte nr arch ip a k < 256 := by
  unfold dbyte; split
  · exact byteI_bd _ _
  · split
    · exact byteI_bd _ _
    · split <;> exact byteI_bd _ _

/-- A call that hands back one slice in new memory. -/
def MadeV (w : World) (len : Nat) (F : Nat → Value) (e : Ending) (w' : World) : Prop := ∃ v, e = .returned v ∧ Made w w' v len F

/-- make of bytes, as a law of the walk: a new row of zeros. -/
theorem wpList_make_bytes {P : Program} (w : World) {ops : Array Oper} {rest : List Oper} {o : Oper} {a : Act} {Q : Exit → Act → World → Prop} (hg : o.guard = none) (l c : Operand) (t : TypeId) (hop : o.op = Op.makeSlice t l c)
    (e : TypeId) (ht : P.underlying t = some (.slice e)) (hinfo : (P.info? e).map (fun i => (i.zero, i.size, i.bytes)) = some (some (.int .u8 0), 1, 1))
    (n : Nat) (hl : a.eval l = .int .i64 (n : Int)) (hc : a.eval c = .int .i64 (n : Int)) (hn : n ≤ 140737488351232)
    (h : ∀ (g : Nat) (w' : World), w'.rowIs g e n (fun _ => .int .u8 0) → Below w.heap.size w w' → w.heap.size ≤ g → wpList P ops Q rest (a.put o.dst (.slice (some ⟨g, 0, none⟩) n n)) w') : wpList P ops Q (o :: rest) a w := by
  obtain ⟨i, hi, hz, hsize, hby⟩ := info_parts hinfo
  refine wpList_make_row w hg l c t hop e i _ ht hi hz hsize rfl .i64 .i64 n hl hc (by rw [hby]; omega) (by omega) ?_
  exact h _ _ (World.rowIs_made w _ n e) ((Below.refl _ _).alloc (Nat.le_refl _) _) (Nat.le_refl _)

/-- The data's nine cells. -/
def Box (w : World) (b : Nat) (nr arch ip : Int) (a : Nat → Int) : Prop :=
  b < w.heap.size ∧ w.cell? ⟨b, 0, none⟩ = some (.int .u32 nr) ∧ w.cell? ⟨b, 1, none⟩ = some (.int .u32 arch) ∧ w.cell? ⟨b, 2, none⟩ = some (.int .u64 ip) ∧ ∀ i, i < 6 → w.cell? ⟨b, 3 + i, none⟩ = some (.int .u64 (a i))
theorem Box.below {w w' : World} {B b : Nat} {nr arch ip : Int} {a : Nat → Int} (h : Box w b nr arch ip a) (hb : Below B w w') (hlt : b < B) : Box w' b nr arch ip a :=
  ⟨Nat.lt_of_lt_of_le h.1 hb.size, (hb.cell (p := ⟨b, 0, none⟩) hlt).trans h.2.1, (hb.cell (p := ⟨b, 1, none⟩) hlt).trans h.2.2.1, (hb.cell (p := ⟨b, 2, none⟩) hlt).trans h.2.2.2.1, fun i hi => (hb.cell (p := ⟨b, 3 + i, none⟩) hlt).trans (h.2.2.2.2 i hi)⟩
theorem Box.grown {w w' : World} {b g : Nat} {nr arch ip : Int} {a : Nat → Int} (h : Box w b nr arch ip a) (hb : w.grownBy w' (some g)) (hne : b ≠ g) : Box w' b nr arch ip a :=
  have hn : some b ≠ some g := fun e => hne (by injection e)
  ⟨Nat.lt_of_lt_of_le h.1 hb.size, hb.cell h.2.1 hn, hb.cell h.2.2.1 hn, hb.cell h.2.2.2.1 hn, fun i hi => hb.cell (h.2.2.2.2 i hi) hn⟩
theorem Box.new (w : World) (t : TypeId) (nr arch ip : Int) (a : Nat → Int) :
    Box (w.alloc (.cells #[.int .u32 nr, .int .u32 arch, .int .u64 ip, .int .u64 (a 0), .int .u64 (a 1), .int .u64 (a 2), .int .u64 (a 3), .int .u64 (a 4), .int .u64 (a 5)] t)) w.heap.size nr arch ip a :=
  ⟨by simp, by simp, by simp, by simp, fun i hi => by
    match i, hi with
    | 0, _ => simp
    | 1, _ => simp
    | 2, _ => simp
    | 3, _ => simp
    | 4, _ => simp
    | 5, _ => simp⟩

/-- How far the bytes have been laid, while they are laid. -/
def Laying (w wr : World) (g n : Nat) (nr arch ip : Int) (a : Nat → Int) : Prop :=
  Box wr w.heap.size nr arch ip a ∧ (∃ F, wr.rowIs g 5 64 F ∧ ∀ j, j < n → F j = .int .u8 (dbyte nr arch ip a j)) ∧ Below w.heap.size w wr ∧ w.heap.size < g
theorem Laying.drawn {w wr : World} {g n : Nat} {nr arch ip : Int} {a : Nat → Int} (h : Laying w wr g n nr arch ip a) (N : Nat) : Laying w (wr.drewN N) g n nr arch ip a :=
  ⟨h.1, h.2.1, below_drawn h.2.2.1 N, h.2.2.2⟩
theorem Laying.drew {w wr : World} {g n : Nat} {nr arch ip : Int} {a : Nat → Int} (h : Laying w wr g n nr arch ip a) : Laying w wr.drew g n nr arch ip a :=
  ⟨h.1, h.2.1, h.2.2.1.drew, h.2.2.2⟩
theorem dbyte_nr (nr arch ip : Int) (a : Nat → Int) (j : Nat) (h : j < 4) : byteI nr j = dbyte nr arch ip a (0 + j) := by unfold dbyte; rw [if_pos (by omega), Nat.zero_add]
theorem dbyte_arch (nr arch ip : Int) (a : Nat → Int) (j : Nat) (h : j < 4) : byteI arch j = dbyte nr arch ip a (4 + j) := by unfold dbyte; rw [if_neg (by omega), if_pos (by omega), Nat.add_sub_cancel_left]
theorem dbyte_ip (nr arch ip : Int) (a : Nat → Int) (j : Nat) (h : j < 8) : byteI ip j = dbyte nr arch ip a (8 + j) := by unfold dbyte; rw [if_neg (by omega), if_neg (by omega), if_pos (by omega), Nat.add_sub_cancel_left]
theorem dbyte_arg (nr arch ip : Int) (a : Nat → Int) (i j : Nat) (h : j < 8) : byteI (a i) j = dbyte nr arch ip a (16 + i * 8 + j) := by
  unfold dbyte; rw [if_neg (by omega), if_neg (by omega), if_neg (by omega), show (16 + i * 8 + j - 16) / 8 = i by omega, show (16 + i * 8 + j - 16) % 8 = j by omega]

theorem laying_start {w w1 : World} {g : Nat} {nr arch ip : Int} {a : Nat → Int} (t : TypeId) (hr1 : w1.rowIs g 5 64 (fun _ => .int .u8 0))
    (hb1 : Below (w.alloc (.cells #[.int .u32 nr, .int .u32 arch, .int .u64 ip, .int .u64 (a 0), .int .u64 (a 1), .int .u64 (a 2), .int .u64 (a 3), .int .u64 (a 4), .int .u64 (a 5)] t)).heap.size (w.alloc (.cells #[.int .u32 nr, .int .u32 arch, .int .u64 ip, .int .u64 (a 0), .int .u64 (a 1), .int .u64 (a 2), .int .u64 (a 3), .int .u64 (a 4), .int .u64 (a 5)] t)) w1)
    (hge : (w.alloc (.cells #[.int .u32 nr, .int .u32 arch, .int .u64 ip, .int .u64 (a 0), .int .u64 (a 1), .int .u64 (a 2), .int .u64 (a 3), .int .u64 (a 4), .int .u64 (a 5)] t)).heap.size ≤ g) : Laying w w1 g 0 nr arch ip a :=
  ⟨(Box.new w t nr arch ip a).below hb1 (by simp), ⟨_, hr1, fun j hj => absurd hj (by omega)⟩, (below_box w _).trans (hb1.mono (by simp)), by simp at hge; omega⟩

end Go.Proofs.YtoajommeiocfpaaDoor
