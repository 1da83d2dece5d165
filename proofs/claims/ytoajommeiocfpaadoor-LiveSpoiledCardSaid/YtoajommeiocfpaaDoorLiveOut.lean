/-
  What the program tells of what is asked for behind each instruction: contracts. Conditions: those that each names.
-/
import Derived.Test.YtoajommeiocfpaaDoorLiveFlg
import Derived.Test.YtoajommeiocfpaaDoorMirHead
import Derived.Laws.MakeOwn
namespace Go.Proofs.YtoajommeiocfpaaDoor
open Go Go.RowKit
set_option linter.unusedSimpArgs false
set_option linter.unusedVariables false
set_option maxRecDepth 100000

theorem p_rightV (regs : Int) (A : Option Addr) (n cap : Nat) (q : Nat → Irx) (w : World) (h : IrAt w A n q) : Calls Tryd.prog 20 #[mirV regs A n cap] w fun e w' => e = .returned (.bool (chkE regs q n == 0)) ∧ Below w.heap.size w w' := by
  have HF := Lib.hid (FM.first (regs := regs) (cap := cap) h)
  have HC := Lib.hid (p_ChkM regs A n cap q _ HF.out.1)
  unfold ChkMP at HC
  clear h
  generalize chkE regs q n = E at HC ⊢
  generalize chkP regs q n = P at HC
  go_enter Tryd.func20, Tryd.ntmps20
  go_wp2_with (go_at_call 36; (with_reducible refine HC.out.mono ?_); rintro e w2 ⟨rfl, hB⟩; have HF2 := Lib.hid (onM HF.out.2.1 hB); clear hB)
  go_ret
  exact ⟨rfl, HF2.out⟩
theorem info_bools : (Tryd.prog.info? 38).map (fun i => (i.zero, i.size, i.bytes)) = some (some (.slice none 0 0), 1, 24) := by kernel_rfl
theorem make_boolss (c : Nat) (hc : c ≤ 100000) : ∃ O : Obj, (∀ w : World, (Instr.makeSlice 27 (.int .i64 0) (.int .i64 (c : Int))).run Tryd.prog w = .ok (.slice (some ⟨w.heap.size, 0, none⟩) 0 c) (w.alloc O)) ∧
    ∀ (w : World) (base : Nat), base ≤ w.heap.size → (w.alloc O).ownsRow base 38 1 (.slice (some ⟨w.heap.size, 0, none⟩) 0 c) 0 [] := by
  obtain ⟨i, hi, hz, hs, hb⟩ := info_parts6 info_bools
  have hbb : (i.bytes : Int) * (c : Int) ≤ 281474976710656 := by rw [hb]; omega
  refine ⟨_, fun w => run_make (P := Tryd.prog) w 27 38 i _ Tryd.underlying27 hi hz .i64 .i64 0 c (Int.le_refl _) (by omega) hbb (by omega), fun w base hB => ?_⟩
  obtain ⟨w', hr, ho, _⟩ := run_make_own (P := Tryd.prog) w base 27 38 i _ 1 Tryd.underlying27 hi hz hs .i64 .i64 c (by rw [hb]; omega) (by unfold maxLen; omega) hB
  rw [run_make (P := Tryd.prog) w 27 38 i _ Tryd.underlying27 hi hz .i64 .i64 0 c (Int.le_refl _) (by omega) hbb (by omega)] at hr
  injection hr with h1 h2
  rw [h2]; exact ho
theorem own_addrL {w : World} {B : Nat} {e : TypeId} {sz n c : Nat} {A : Option Addr} {xs : List Value} (h : w.ownsRow B e sz (.slice A n c) n xs) (hn : 0 < n) : ∃ g, A = some ⟨g, 0, none⟩ := by
  rcases h.2 with ⟨e1, e2⟩ | ⟨g', c', cur, e1, hB, hg, hc, hm, hs, ht⟩
  · omega
  · injection e1 with e1 _ e3
    exact ⟨g', e1⟩
/-- So many flags, a row for each. -/
def FlagRows (W : World) (ys : List Value) (k m : Nat) (F : Nat → BitVec 64) : Prop := ∀ j, j < k → ∃ b, ys[j]? = some (.slice (some ⟨b, 0, none⟩) m m) ∧ W.rowIs b 4 m (fun r => .bool ((F j).getLsbD r))
theorem FlagRows.grown {W W' : World} {ys : List Value} {k m : Nat} {F : Nat → BitVec 64} (h : FlagRows W ys k m F) {row : Option Nat} (hg : W.grownBy W' row) (hr : ∀ r c, row = some r → W.heap[r]? ≠ some (.cells c 4 (0, 0))) : FlagRows W' ys k m F := fun j hj => by
  obtain ⟨b, h1, h2⟩ := h j hj
  obtain ⟨c, h3, h4⟩ := h2
  exact ⟨b, h1, c, (hg.block b (Array.getElem?_eq_some_iff.1 h3).1 (fun e => hr b c e.symm h3)).trans h3, h4⟩
theorem FlagRows.snoc {W : World} {ys : List Value} {k m b : Nat} {F : Nat → BitVec 64} (h : FlagRows W ys k m F) (hk : ys.length = k) (hb : W.rowIs b 4 m (fun r => .bool ((F k).getLsbD r))) : FlagRows W (ys ++ [.slice (some ⟨b, 0, none⟩) m m]) (k + 1) m F := fun j hj => by
  rcases Nat.lt_or_ge j k with g | g
  · obtain ⟨b', h1, h2⟩ := h j g
    exact ⟨b', by rw [List.getElem?_append_left (by omega)]; exact h1, h2⟩
  · obtain rfl : j = k := by omega
    exact ⟨b, by rw [List.getElem?_append_right (by omega), hk, Nat.sub_self]; rfl, hb⟩
/-- What stands while the rows are told. -/
structure OuAt (w W : World) (regs : Int) (A : Option Addr) (n cap : Nat) (q : Nat → Irx) (sb k m : Nat) (v : Value) (ys : List Value) : Prop where
  bel : Below w.heap.size w W
  box : W.heap[w.heap.size]? = some (mirO regs A n cap)
  sets : SetsAt W sb n (laterB q n)
  tb : TbD W
  own : W.ownsRow (w.heap.size + 1) 38 1 v k ys
  rows : FlagRows W ys k m (laterB q n)
theorem own_neL {B : Nat} {W : World} {e : TypeId} {sz : Nat} {v : Value} {n : Nat} {ys : List Value} {pb : Nat} {c : Array Value} {T : TypeId} (he : e ≠ T) (h : W.ownsRow B e sz v n ys) (hb : W.heap[pb]? = some (.cells c T)) : v.ownBlock ≠ some pb := by
  obtain ⟨_, h⟩ := h
  rcases h with ⟨rfl, _⟩ | ⟨g, cap, cur, rfl, _, hg, _⟩
  · simp [Value.ownBlock]
  · intro e
    have : g = pb := by simpa [Value.ownBlock] using e
    subst this
    rw [hg] at hb
    injection hb with hb; injection hb with _ hb _; exact absurd hb he
theorem FlagRows.below {W W' : World} {ys : List Value} {k m : Nat} {F : Nat → BitVec 64} (h : FlagRows W ys k m F) (hb : Below W.heap.size W W') : FlagRows W' ys k m F := fun j hj => by
  obtain ⟨b, h1, c, h3, h4⟩ := h j hj
  exact ⟨b, h1, c, (hb.block b (Array.getElem?_eq_some_iff.1 h3).1).trans h3, h4⟩
theorem OuAt.up {w W W' : World} {regs : Int} {A : Option Addr} {n cap : Nat} {q : Nat → Irx} {sb k m : Nat} {v : Value} {ys : List Value} (h : OuAt w W regs A n cap q sb k m v ys) (hb : Below W.heap.size W W') : OuAt w W' regs A n cap q sb k m v ys :=
  ⟨onM h.bel hb, keepM h.box hb, h.sets.below hb, h.tb.below hb, own_below h.own hb, h.rows.below hb⟩
/-- A row more. -/
theorem OuAt.more {w W W' : World} {regs : Int} {A : Option Addr} {n cap : Nat} {q : Nat → Irx} {sb k m fb : Nat} {v v' : Value} {ys : List Value} (h : OuAt w W regs A n cap q sb k m v ys) (hT : 0 < w.heap.size) (hf : W.rowIs fb 4 m (fun r => .bool ((laterB q n k).getLsbD r)))
    (ho : W'.ownsRow (w.heap.size + 1) 38 1 v' (k + 1) (ys ++ [.slice (some ⟨fb, 0, none⟩) m m])) (hg : W.grownBy W' v.ownBlock) : OuAt w W' regs A n cap q sb (k + 1) m v' (ys ++ [.slice (some ⟨fb, 0, none⟩) m m]) := by
  have hlo : ∀ k, v.ownBlock = some k → w.heap.size + 1 ≤ k := fun k e => (h.own.lt k e).1
  have hne : ∀ (pb : Nat) (c : Array Value) (T : TypeId), 38 ≠ T → W.heap[pb]? = some (.cells c T) → some pb ≠ v.ownBlock := fun pb c T he hb e => own_neL he h.own hb e.symm
  have hrl : ∀ (pb n : Nat) (T : TypeId) (f : Nat → Value), 38 ≠ T → W.rowIs pb T n f → W'.rowIs pb T n f := fun pb n T f he hr => by
    obtain ⟨c, h1, h2⟩ := hr
    exact ⟨c, (hg.block pb (Array.getElem?_eq_some_iff.1 h1).1 (hne pb c T he h1)).trans h1, h2⟩
  have hl : ys.length = k := by have := h.own.1; omega
  refine ⟨h.bel.grown hg h.bel.size (fun k e => by have := hlo k e; omega), (hg.block _ (Array.getElem?_eq_some_iff.1 h.box).1 (fun e => by have := hlo _ e.symm; omega)).trans h.box, hrl _ _ _ _ (by decide) h.sets, ⟨Nat.lt_of_lt_of_le h.tb.lt hg.size, fun j hj => (World.cell?_of_block (a := ⟨0, j, none⟩) (hg.block _ h.tb.lt (fun e => by have := hlo 0 e.symm; omega))).trans (h.tb.cell j hj)⟩, ho, ?_⟩
  refine FlagRows.snoc ?_ hl (hrl _ _ _ _ (by decide) hf)
  intro j hj
  obtain ⟨b, h1, h2⟩ := h.rows j hj
  exact ⟨b, h1, hrl _ _ _ _ (by decide) h2⟩
theorem later_in {regs : Int} {q : Nat → Irx} {n : Nat} (h : RightM regs q n) : ∀ (d i : Nat), n - i ≤ d → i < n → (∀ r, regs.toNat ≤ r → (laterB q n i).getLsbD r = false) ∧ (∀ r, regs.toNat ≤ r → (fromB q n i).getLsbD r = false)
  | 0, i, hd, hi => absurd hd (by omega)
  | d + 1, i, hd, hi => by
    have h1 : ∀ r, regs.toNat ≤ r → (laterB q n i).getLsbD r = false := fun r hr => by
      unfold laterB
      rw [orF_bit, List.any_eq_false]
      intro z hz
      have := next_in h hi hz
      rw [(later_in h d z.toNat (by omega) (by omega)).2 r hr]; simp
    refine ⟨h1, fun r hr => ?_⟩
    rw [from_eq h hi, BitVec.getLsbD_or, BitVec.getLsbD_and, h1 r hr, Bool.false_and, Bool.false_or]
    unfold usesB
    rw [orF_bit, List.any_eq_false]
    intro z hz
    have hu := (use_right h hi).1 z hz
    have := h.rg
    rw [only_bit (by omega)]
    simp; omega
set_option maxHeartbeats 8000000 in
theorem p_Out (regs : Int) (A : Option Addr) (n cap : Nat) (q : Nat → Irx) (w : World) (h : IrAt w A n q) (hr : RightM regs q n) (ht : TbD w) :
    Calls Tryd.prog 9 #[mirV regs A n cap] w fun e w' => ∃ g c ys, e = .returned (.tuple #[.slice (some ⟨g, 0, none⟩) n c, .int .i64 0]) ∧ w'.ownsRow (w.heap.size + 1) 38 1 (.slice (some ⟨g, 0, none⟩) n c) n ys ∧ FlagRows w' ys n regs.toNat (laterB q n) ∧ Below w.heap.size w w' := by
  obtain ⟨m, rfl⟩ : ∃ m : Nat, regs = (m : Int) := ⟨regs.toNat, by have := hr.rg; omega⟩
  have hm64 : m ≤ 64 := by have := hr.rg; omega
  have hmax := hr.max
  have hpos := hr.pos
  obtain ⟨O, hmk, hown⟩ := make_boolss n (by omega)
  have HF := Lib.hid (FM.first (regs := (m : Int)) (cap := cap) h)
  have HRt := Lib.hid (fun V (hV : IrAt V A n q) => p_rightV (m : Int) A n cap q V hV)
  rw [chk_is.2 hr] at HRt
  have HBh := Lib.hid (fun V (hV : IrAt V A n q) => p_behind (m : Int) A n cap q V hV hr)
  have HFl := Lib.hid (fun V i (hi : i < n) (hV : TbD V) => p_flags (laterB q n i) m hm64 (fun j hj => (later_in hr (n - i) i (Nat.le_refl _) hi).1 j (by simpa using hj)) V hV)
  have HT := Lib.hid ht
  have HB1 := Lib.hid (lboxM w (mirO (m : Int) A n cap))
  clear h hr ht
  go_enter Tryd.func9, Tryd.ntmps9
  go_wp2_with (first
    | (go_at_call 20; (refine (HRt.out _ HF.out.1).mono ?_); rintro e w1 ⟨rfl, hb⟩; have H1 := Lib.hid (HF.out.up hb); clear hb; have x0 := cellM H1.out.2.2 0 rfl; have x1 := cellM H1.out.2.2 1 rfl; have y0 := cellM (keepM H1.out.2.2 (lboxM w1 O)) 0 rfl; have y1 := cellM (keepM H1.out.2.2 (lboxM w1 O)) 1 rfl)
    | (go_at_call 21; (refine (HBh.out _ (H1.out.1.below (lboxM _ _))).mono ?_); rintro e w2 ⟨sb, rfl, hs, hb, hge⟩; have H2 := Lib.hid (And.intro hs (And.intro hb hge)); clear hs hb hge x0 x1 y0 y1))
  have HO : Hid (OuAt w w2 (m : Int) A n cap q sb 0 m (.slice (some ⟨w1.heap.size, 0, none⟩) 0 n) []) := Lib.hid (by
    have hsz := H1.out.2.1.size
    have hw1 : w.heap.size + 1 ≤ w1.heap.size := (Array.getElem?_eq_some_iff.1 H1.out.2.2).1
    have hb2 := onM (lboxM w1 O) H2.out.2.1
    exact ⟨onM H1.out.2.1 hb2, keepM H1.out.2.2 hb2, H2.out.1, HT.out.below (onM H1.out.2.1 hb2), own_below (hown w1 (w.heap.size + 1) hw1) H2.out.2.1, fun j hj => absurd hj (by omega)⟩)
  clear hmk hown HRt HBh HF H1 H2
  go_loopw [17, 4] (fun i v wr => ∃ (k : Nat) (ys : List Value), k ≤ n ∧ i = .int .i64 (k : Int) ∧ OuAt w wr (m : Int) A n cap q sb k m v ys) (fun i _ _ => n - (intOf i).toNat)
  case atStart => exact ⟨0, [], Nat.zero_le _, rfl, HO.out⟩
  case round =>
    obtain ⟨k, ys, hk, rfl, hO⟩ := hrel
    clear HO
    have HO := Lib.hid hO
    obtain ⟨A4, c4, rfl⟩ := own_formM hO.own
    by_cases hlt : k < n
    · have hlt' : (k : Int) < (n : Int) := by omega
      have cs := (hO.sets.cell hlt).1
      have x0 := cellM hO.box 0 rfl
      have HZ := Lib.hid (HFl.out wr k hlt hO.tb)
      clear hO
      go_wp2_with (first
        | (go_at_call 22; (refine HZ.out.mono ?_); rintro e w3 ⟨fb, rfl, hfr, hb, hge⟩; have H3 := Lib.hid (And.intro hfr (And.intro hb hge)); clear hfr hb hge cs x0)
        | (at_builtin; have hO3 := (HO.out.up H3.out.2.1).up (lboxM w3 (.cells #[.slice (some ⟨fb, 0, none⟩) m m] 38)); have hfr3 := rowL_other H3.out.1 (World.grownBy_alloc w3 (.cells #[.slice (some ⟨fb, 0, none⟩) m m] 38) none) (by simp); refine wpList_append_own _ rfl (.tmp 21) (.tmp 26) 27 rfl 38 (.slice none 0 0) 1 24 Tryd.underlying27 info_bools rfl (by decide) (w.heap.size + 1) (.slice A4 k c4) k ys rfl hO3.own ⟨w3.heap.size, 0, none⟩ 1 1 [.slice (some ⟨fb, 0, none⟩) m m] rfl rfl (int_newM w3 (.slice (some ⟨fb, 0, none⟩) m m) 38) (fun u hu => by rw [List.mem_singleton.1 hu]; rfl) (by unfold maxLen; omega) (by omega) (by have := (Array.getElem?_eq_some_iff.1 hO3.box).1; omega) ?_; intro v' W4 ho hg hv; have H4 := Lib.hid (hO3.more HT.out.lt hfr3 ho hg); clear ho hg hv hO3 hfr3))
      exact ⟨⟨k + 1, _, by omega, by rfl, H4.out⟩, by simp [intOf]; omega⟩
    · obtain rfl : k = n := by omega
      have hn0 := hO.own
      obtain ⟨g, rfl⟩ : ∃ g, A4 = some ⟨g, 0, none⟩ := own_addrL hn0 hpos
      clear hO hn0
      go_wp2
      go_ret2
      exact ⟨g, c4, ys, rfl, HO.out.own, HO.out.rows, HO.out.bel⟩
end Go.Proofs.YtoajommeiocfpaaDoor
