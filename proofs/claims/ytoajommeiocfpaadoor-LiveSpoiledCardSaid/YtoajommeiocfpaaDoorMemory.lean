/-
  Plain laws on memory that this seat's walks share: rows of bytes that came in, rows that the call itself made, what append leaves, and what a conversion of bytes to a string answers. No condition but those that each names.
-/
import Derived.Test.YtoajommeiocfpaaDoorFrame
import Derived.Lib.Hide
import Derived.WalkSpells
import Derived.WalkLawsBesides
import Derived.Maps.AppendAt
import Derived.Deep.AppendLies
import Derived.Deep.OwnRows
import Derived.Laws.BytesArg
import Derived.StillTailTactics
import Derived.SizedLaws
namespace Go.Proofs.YtoajommeiocfpaaDoor
open Go Go.RowKit
set_option linter.unusedSimpArgs false
set_option linter.unusedVariables false

/-- The first n places from address A on read as f says: nothing is said of A where n is 0. -/
def Holds (w : World) (A : Option Addr) (n : Nat) (f : Nat → Value) : Prop :=
  0 < n → ∃ b off, A = some ⟨b, off, none⟩ ∧ b < w.heap.size ∧ ∀ i, i < n → w.cell? ⟨b, off + i, none⟩ = some (f i)

theorem Holds.below {w w' : World} {A : Option Addr} {n : Nat} {f : Nat → Value} (h : Holds w A n f) (hb : Below w.heap.size w w') : Holds w' A n f := fun hn => by
  obtain ⟨b, off, e, hl, hc⟩ := h hn
  exact ⟨b, off, e, Nat.lt_of_lt_of_le hl hb.size, fun i hi => (hb.cell (p := ⟨b, off + i, none⟩) hl).trans (hc i hi)⟩

theorem rowIs_grown {w w' : World} {b : Nat} {t : TypeId} {n : Nat} {f : Nat → Value} {row : Option Nat} (h : w.rowIs b t n f) (hg : w.grownBy w' row) (hne : some b ≠ row) : w'.rowIs b t n f :=
  h.of_block (hg.block b h.lt hne)
theorem rowIs_below {w w' : World} {B b : Nat} {t : TypeId} {n : Nat} {f : Nat → Value} (h : w.rowIs b t n f) (hb : Below B w w') (hlt : b < B) : w'.rowIs b t n f :=
  h.of_block (hb.block b hlt)
theorem rowIs_drawn {w : World} {b : Nat} {t : TypeId} {n : Nat} {f : Nat → Value} (h : w.rowIs b t n f) (k : Nat) : (w.drewN k).rowIs b t n f := h
theorem holds_of_row {w : World} {b : Nat} {t : TypeId} {n m : Nat} {f : Nat → Value} (h : w.rowIs b t n f) (hm : m ≤ n) : Holds w (some ⟨b, 0, none⟩) m f := fun _ =>
  ⟨b, 0, rfl, h.lt, fun i hi => by rw [Nat.zero_add]; exact h.cell (by omega)⟩

theorem grown_set {a w : World} {g : Nat} (h : a.grownBy w (some g)) (i : Nat) (u : Value) : a.grownBy (w.setCell ⟨g, i, none⟩ u) (some g) :=
  ⟨h.os, h.tape, h.output, by simpa [World.setCell] using h.size, fun k hk hne => (Below.heap_setCell w ⟨g, i, none⟩ u k (fun e => hne (by rw [e]))).trans (h.block k hk hne)⟩
theorem grown_trans {a b c : World} {row : Option Nat} (h : a.grownBy b row) (k : b.grownBy c row) : a.grownBy c row :=
  ⟨k.os.trans h.os, k.tape.trans h.tape, k.output.trans h.output, Nat.le_trans h.size k.size, fun i hi hne => (k.block i (Nat.lt_of_lt_of_le hi h.size) hne).trans (h.block i hi hne)⟩
theorem grown_drawn {a w : World} {row : Option Nat} (h : a.grownBy w row) (n : Nat) : a.grownBy (w.drewN n) row := ⟨h.os, h.tape, h.output, h.size, h.block⟩
theorem grown_alloc {a w : World} {row : Option Nat} (h : a.grownBy w row) (o : Obj) : a.grownBy (w.alloc o) row :=
  ⟨h.os, h.tape, h.output, Nat.le_trans h.size (by simp), fun i hi hne => (Below.heap_alloc w o i (Nat.lt_of_lt_of_le hi h.size)).trans (h.block i hi hne)⟩
theorem grown_of_below {a w : World} (h : Below a.heap.size a w) (row : Option Nat) : a.grownBy w row := ⟨h.os, h.tape, h.output, h.size, fun i hi _ => h.block i hi⟩
theorem below_of_grown {B : Nat} {a w : World} {g : Nat} (h : a.grownBy w (some g)) (hg : B ≤ g) (hB : B ≤ a.heap.size) : Below B a w :=
  ⟨h.os, h.tape, h.output, h.size, fun k hk => h.block k (by omega) (fun e => by injection e with e; omega)⟩

/-- append onto a row that the call itself made: what is left is such a row again. -/
theorem append_row {P : Program} (w : World) (t ty e : TypeId) (i : TypeInfo) (z : Value) (bytes : Nat) (ht : P.underlying t = some (.slice e)) (hi : P.info? e = some i) (hz : i.zero = some z)
    (hsize : i.size = 1) (hby : i.bytes = bytes) (hzs : z.cells.size = 1) (g n0 c0 : Nat) (F : Nat → Value) (hr : w.rowIs g e c0 F) (h0 : n0 ≤ c0) (hm : c0 ≤ maxLen)
    (A : Option Addr) (n c : Nat) (Z : Nat → Value) (hs : Holds w A n Z) (h1 : ∀ k, (Z k).oneCell' = true) (hlen : n0 + n ≤ maxLen) (hbytes : (n0 + n) * bytes ≤ 140737488355328) :
    ∃ g' cap' F' w', (Builtin.append_ #[t, t] ty #[.slice (some ⟨g, 0, none⟩) n0 c0, .slice A n c]).run P w = .ok (.slice (some ⟨g', 0, none⟩) (n0 + n) cap') w' ∧
      w'.rowIs g' e cap' F' ∧ n0 + n ≤ cap' ∧ cap' ≤ maxLen ∧ (∀ k, k < n0 → F' k = F k) ∧ (∀ k, k < n → F' (n0 + k) = Z k) ∧ w.grownBy w' (some g) ∧ (g' = g ∨ g' = w.heap.size) := by
  obtain ⟨cur, hg, hcs, hcF⟩ := hr
  have hown : w.ownsRow 0 e 1 (.slice (some ⟨g, 0, none⟩) n0 c0) n0 (cur.toList.take n0) :=
    ⟨by rw [List.length_take, Array.length_toList, hcs]; omega, .inr ⟨g, c0, cur, rfl, Nat.zero_le _, hg, h0, hm, by omega, by rw [Nat.mul_one]⟩⟩
  have fin : ∀ (v' : Value) (w' : World), w'.ownsRow 0 e 1 v' (n0 + n) (cur.toList.take n0 ++ (List.range n).map Z) → v' ≠ .slice none 0 0 → (v'.ownBlock = some g ∨ v'.ownBlock = some w.heap.size) →
      ∃ g' cap' F', v' = .slice (some ⟨g', 0, none⟩) (n0 + n) cap' ∧ w'.rowIs g' e cap' F' ∧ n0 + n ≤ cap' ∧ cap' ≤ maxLen ∧ (∀ k, k < n0 → F' k = F k) ∧ (∀ k, k < n → F' (n0 + k) = Z k) ∧ (g' = g ∨ g' = w.heap.size) := by
    intro v' w' ho hn hb
    rcases ho.2 with ⟨rfl, _⟩ | ⟨g', cap', cur', rfl, _, hh, hnc, hcm, hsz, htk⟩
    · exact absurd rfl hn
    · have hsz' : cur'.size = cap' := by omega
      rw [Nat.mul_one] at htk
      have hat : ∀ k, k < n0 + n → cur'[k]? = (cur.toList.take n0 ++ (List.range n).map Z)[k]? := fun k hk => by
        rw [← htk, List.getElem?_take, if_pos hk, Array.getElem?_toList]
      have hl : (cur.toList.take n0).length = n0 := by rw [List.length_take, Array.length_toList, hcs]; omega
      refine ⟨g', cap', fun k => cur'.getD k undef, rfl, ⟨cur', hh, hsz', fun k hk => by show cur'[k]? = some (cur'.getD k undef); rw [Array.getD_eq_getD_getElem?, Array.getElem?_eq_getElem (show k < cur'.size by omega)]; rfl⟩, hnc, hcm, fun k hk => ?_, fun k hk => ?_, by simpa [Value.ownBlock] using hb⟩
      · show cur'.getD k undef = F k
        rw [Array.getD_eq_getD_getElem?, hat k (by omega), List.getElem?_append_left (by omega), List.getElem?_take, if_pos hk, Array.getElem?_toList, hcF k (by omega)]; rfl
      · show cur'.getD (n0 + k) undef = Z k
        rw [Array.getD_eq_getD_getElem?, hat (n0 + k) (by omega), List.getElem?_append_right (by omega), hl, Nat.add_sub_cancel_left, List.getElem?_map, List.getElem?_range hk]; rfl
  rcases A with _ | ad
  · have hn : n = 0 := by
      rcases Nat.eq_zero_or_pos n with h | h
      · exact h
      · obtain ⟨_, _, e, _⟩ := hs h; cases e
    subst hn
    have hrun : (Builtin.append_ #[t, t] ty #[.slice (some ⟨g, 0, none⟩) n0 c0, .slice none 0 c]).run P w = .ok (.slice (some ⟨g, 0, none⟩) n0 c0) w := by
      simp [Builtin.append_, run_underlying ht, sizeOf, typeInfo, hi, Builtin.lenOf, Builtin.firstCells, h0, storeCells]
    exact ⟨g, c0, F, w, hrun, ⟨cur, hg, hcs, hcF⟩, h0, hm, fun _ _ => rfl, fun k hk => absurd hk (by omega), World.grownBy.refl w _, .inl rfl⟩
  · have hnews : ∀ j u, ((List.range n).map Z)[j]? = some u → w.cell? (ad.add j) = some u := fun j u hj => by
      have hjn : j < n := by
        rcases Nat.lt_or_ge j n with h | h
        · exact h
        · rw [List.getElem?_eq_none (by simpa using h)] at hj; cases hj
      obtain ⟨b, off, e', _, hc⟩ := hs (by omega)
      injection e' with e'; subst e'
      rw [addr_add, hc j hjn, ← hj, List.getElem?_map, List.getElem?_range hjn]; rfl
    obtain ⟨v', w', hrun, ho, hgr, hnil, hblk⟩ := run_append_own_at (P := P) w 0 t ty e i z 1 bytes ht hi hz hsize hby hzs (by omega) _ n0 _ hown ad n c ((List.range n).map Z) (by simp) hnews
      (fun u hu => by obtain ⟨k, _, rfl⟩ := List.mem_map.1 hu; exact h1 k) hlen hbytes (Nat.zero_le _)
    obtain ⟨g', cap', F', rfl, a1, a2, a3, a4, a5, a6⟩ := fin v' w' ho (fun h => by cases (hnil.1 h).1) (by simpa [Value.ownBlock] using hblk)
    exact ⟨g', cap', F', w', hrun, a1, a2, a3, a4, a5, by simpa [Value.ownBlock] using hgr, a6⟩

/-- .. as a law of the walk, at an append of bytes. -/
theorem wpList_append_row {P : Program} (w : World) {ops : Array Oper} {rest : List Oper} {o : Oper} {a : Act} {Q : Exit → Act → World → Prop} (hgd : o.guard = none) (s x : Operand) (t : TypeId)
    (ho : o.op = .call { callee := .builtin .append, args := #[s, x], argTypes := #[t, t] }) (e : TypeId) (z : Value) (bytes : Nat) (ht : P.underlying t = some (.slice e))
    (hinfo : (P.info? e).map (fun i => (i.zero, i.size, i.bytes)) = some (some z, 1, bytes)) (hzs : z.cells.size = 1) (g n0 c0 : Nat) (F : Nat → Value) (hv : a.eval s = .slice (some ⟨g, 0, none⟩) n0 c0) (hr : w.rowIs g e c0 F) (h0 : n0 ≤ c0) (hm : c0 ≤ maxLen)
    (A : Option Addr) (n c : Nat) (Z : Nat → Value) (hu : a.eval x = .slice A n c) (hs : Holds w A n Z) (h1 : ∀ k, (Z k).oneCell' = true) (hlen : n0 + n ≤ maxLen) (hbytes : (n0 + n) * bytes ≤ 140737488355328)
    (h : ∀ (g' cap' : Nat) (F' : Nat → Value) (w' : World), w'.rowIs g' e cap' F' → n0 + n ≤ cap' → cap' ≤ maxLen → (∀ k, k < n0 → F' k = F k) → (∀ k, k < n → F' (n0 + k) = Z k) → w.grownBy w' (some g) → (g' = g ∨ g' = w.heap.size) →
      wpList P ops Q rest (a.put o.dst (.slice (some ⟨g', 0, none⟩) (n0 + n) cap')) w') : wpList P ops Q (o :: rest) a w :=
  wpList_plain hgd fun _ hK => by
    obtain ⟨i, hi, hz, hsize, hby⟩ := info_parts hinfo
    obtain ⟨g', cap', F', w', hrun, b1, b2, b3, b4, b5, b6, b7⟩ := append_row w t o.type e i z bytes ht hi hz hsize hby hzs g n0 c0 F hr h0 hm A n c Z hs h1 hlen hbytes
    unfold Oper.wp execOp
    simp only [ho, resolve, invoke, builtin, Sem.run_bind, Sem.run_pure, Result.andThen_ok, List.map_toArray, List.map_cons, List.map_nil, hv, hu, hrun]
    exact hK _ _ (h g' cap' F' w' b1 b2 b3 b4 b5 b6 b7)

/-- The string of the first n numbers. -/
def strOf (n : Nat) (z : Nat → Int) : ByteArray := strOfNums ((List.range n).map z)
/-- string(b), b a slice whose cells are known (nil too). -/
theorem run_string_of {P : Program} (w : World) (src dst e : TypeId) (hs : P.underlying src = some (.slice e)) (he : P.underlying e = some (.int .u8)) (hd : P.underlying dst = some .string)
    (A : Option Addr) (n c : Nat) (z : Nat → Int) (h : Holds w A n (fun i => .int .u8 (z i))) : (convert src dst (.slice A n c)).run P w = .ok (.string (strOf n z)) w := by
  rcases Nat.eq_zero_or_pos n with h0 | h0
  · subst h0
    rw [run_convert_bytes_string w src dst e _ 0 c hs he hd]
    cases A with
    | none => simp [Conv.bytesToString]; rfl
    | some ad => exact run_bytesToString (P := P) w ad 0 c [] (by simp [loadCells]; rfl)
  · obtain ⟨b, off, rfl, _, hc⟩ := h h0
    exact run_convert_bytes_arg w src e hs he b off n c _ (by simp) (fun i hi => by rw [hc i hi]; simp [List.getD, List.getElem?_range hi]) dst hd

/-- append onto a row that has just been made: nothing that was there is written. -/
theorem append_new_below {w w1 : World} {o : Obj} {g' : Nat} (hg : (w.alloc o).grownBy w1 (some w.heap.size)) (hgg : g' = w.heap.size ∨ g' = (w.alloc o).heap.size) : Below w.heap.size w w1 ∧ w.heap.size ≤ g' :=
  ⟨((Below.refl _ _).alloc (Nat.le_refl _) o).trans (below_of_grown hg (Nat.le_refl _) (by simp)), by rcases hgg with h | h <;> rw [h] <;> simp⟩
theorem below_grown {B : Nat} {a b c : World} {g : Nat} (h : Below B a b) (k : b.grownBy c (some g)) (hg : B ≤ g) (hB : B ≤ a.heap.size) : Below B a c :=
  h.trans (below_of_grown k hg (Nat.le_trans hB h.size))

theorem holds_of_isRow {k : IntKind} {w : World} {a : Option Addr} {len cap : Nat} {zs : List Int} (h : IsRow k w a len cap zs) : Holds w a len (fun i => .int k (zs.getD i 0)) := fun hn => by
  rcases h with ⟨_, h0, _, _⟩ | ⟨x, rfl, hl, _, hz, hcell, _⟩
  · omega
  · obtain ⟨b, off, spot⟩ := x
    have hspot : spot = none := by simpa [Addr.add] using World.cell?_spot (hcell 0 (by omega))
    subst hspot
    have hc : ∀ i, i < len → w.cell? ⟨b, off + i, none⟩ = some (.int k (zs.getD i 0)) := fun i hi => by have := hcell i (by omega); rwa [addr_add] at this
    exact ⟨b, off, rfl, cell_lt (hc 0 hn), hc⟩
theorem isRow_byte {w : World} {a : Option Addr} {len cap : Nat} {zs : List Int} (h : IsRow .u8 w a len cap zs) (i : Nat) : 0 ≤ zs.getD i 0 ∧ zs.getD i 0 < 256 := by
  rcases h with ⟨_, _, _, rfl⟩ | ⟨x, rfl, hl, _, hz, hcell, hw⟩
  · simp
  · rcases Nat.lt_or_ge i zs.length with g | g
    · have := hw (zs.getD i 0) (by rw [List.getD_eq_getElem?_getD, List.getElem?_eq_getElem g]; exact List.getElem_mem g)
      have hb : 0 ≤ zs.getD i 0 ∧ zs.getD i 0 ≤ 255 := by simpa [Lit.wf, IntKind.min, IntKind.max, IntKind.bits, IntKind.signed] using this
      omega
    · rw [List.getD_eq_getElem?_getD, List.getElem?_eq_none g]; simp
theorem isRow_len {k : IntKind} {w : World} {a : Option Addr} {len cap : Nat} {zs : List Int} (h : IsRow k w a len cap zs) : len ≤ cap := by
  rcases h with ⟨_, h0, h1, _⟩ | ⟨x, rfl, hl, _⟩ <;> omega
theorem Holds.congr {w : World} {A : Option Addr} {n : Nat} {f g : Nat → Value} (h : Holds w A n f) (e : ∀ i, i < n → f i = g i) : Holds w A n g := fun hn => by
  obtain ⟨b, off, e', hl, hc⟩ := h hn
  exact ⟨b, off, e', hl, fun i hi => by rw [hc i hi, e i hi]⟩
theorem Holds.drawn {w : World} {A : Option Addr} {n : Nat} {f : Nat → Value} (h : Holds w A n f) (k : Nat) : Holds (w.drewN k) A n f := h
theorem Holds.upto {w : World} {A : Option Addr} {n m : Nat} {f : Nat → Value} (h : Holds w A n f) (hm : m ≤ n) : Holds w A m f := fun hn => by
  obtain ⟨b, off, e', hl, hc⟩ := h (by omega)
  exact ⟨b, off, e', hl, fun i hi => hc i (by omega)⟩
/-- What is left of a slice behind its first k cells; where nothing is left nothing is said of the address. -/
theorem Holds.from_ {w : World} {b off n k : Nat} {f : Nat → Value} (h : Holds w (some ⟨b, off, none⟩) n f) (A : Option Addr) (hA : k < n → A = some ⟨b, off + k, none⟩) : Holds w A (n - k) (fun i => f (k + i)) := fun hn => by
  obtain ⟨b', off', e', hl, hc⟩ := h (by omega)
  injection e' with e'; injection e' with e1 e2 _; subst e1; subst e2
  exact ⟨b, off + k, hA (by omega), hl, fun i hi => by rw [Nat.add_assoc]; exact hc (k + i) (by omega)⟩
theorem Holds.grown {w w' : World} {A : Option Addr} {n : Nat} {f : Nat → Value} {row : Option Nat} (h : Holds w A n f) (hg : w.grownBy w' row) (hne : ∀ ad, A = some ad → some ad.block ≠ row) : Holds w' A n f := fun hn => by
  obtain ⟨b, off, e, hl, hc⟩ := h hn
  exact ⟨b, off, e, Nat.lt_of_lt_of_le hl hg.size, fun i hi => (World.cell?_of_block (a := ⟨b, off + i, none⟩) (hg.block b hl (hne _ e))).trans (hc i hi)⟩
theorem Holds.grown_at {w w' : World} {b off n g : Nat} {f : Nat → Value} (h : Holds w (some ⟨b, off, none⟩) n f) (hg : w.grownBy w' (some g)) (hne : b ≠ g) : Holds w' (some ⟨b, off, none⟩) n f :=
  h.grown hg fun ad e => by injection e with e; subst e; intro k; injection k with k; exact hne k
end Go.Proofs.YtoajommeiocfpaaDoor
