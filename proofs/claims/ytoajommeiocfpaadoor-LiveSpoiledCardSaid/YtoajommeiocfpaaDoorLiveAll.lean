/-
  The members of a set one after another, as the program goes through them: contracts. Conditions: those that each names.
-/
import Derived.Test.YtoajommeiocfpaaDoorLiveBits
import Derived.Test.YtoajommeiocfpaaDoorFwLoops
import Derived.Test.YtoajommeiocfpaaDoorChecked
import Derived.RangeFuncBound
import Derived.Shelf.Abstract
import Derived.Shelf.RegionOpen
import Derived.WalkKit
import Derived.OwnWalkIn
import Derived.TacticsInMore
import Derived.LoopNIn
import Derived.LoopIn
import Derived.Laws.EntriesVeiled
import Derived.Scope
namespace Go.Proofs.YtoajommeiocfpaaDoor
open Go Go.RowKit Go.Shelf
attribute [local go_sem] Oper.semAt_some
set_option linter.unusedSimpArgs false
set_option linter.unusedVariables false

/-- The table lies. -/
structure TbD (w : World) : Prop where
  lt : 0 < w.heap.size
  cell : ∀ j, j < 64 → w.cell? ⟨0, j, none⟩ = some (.int .u8 ((Lib.deBruijn64tab.getD j 0 : Nat) : Int))
theorem TbD.below {w w' : World} (h : TbD w) (hb : Below w.heap.size w w') : TbD w' := ⟨Nat.lt_of_lt_of_le h.lt hb.size, fun j hj => (hb.cell (p := ⟨0, j, none⟩) h.lt).trans (h.cell j hj)⟩
theorem p_tz64_core (x k idx : Nat) (w : World) (hx0 : ((x : Int) == 0) = false)
    (key : IntKind.u64.wrap (bits BinOp.and IntKind.u64 (x : Int) (IntKind.u64.wrap (-(x : Int))) * 285870213051353865) / 288230376151711744 = (idx : Int))
    (hi : idx < 64) (hk : k < 64) (hcell : w.cell? ⟨0, idx, none⟩ = some (.int .u8 k)) :
    Calls Tryd.prog 53 #[.int .u64 x] w fun e w' => e = .returned (.int .i64 k) ∧ w' = w := by
  go_enter Tryd.func53, Tryd.ntmps53
  go_wp2_with (simp only [key])
  go_ret
  exact ⟨rfl, rfl⟩
theorem p_tz64 {s : BitVec 64} (hs : s ≠ 0#64) {t : Nat} (ht : Lib.ctz 64 s.toNat = t) (w : World) (h : TbD w) : Calls Tryd.prog 53 #[.int .u64 (s.toNat : Int)] w fun e w' => e = .returned (.int .i64 (t : Int)) ∧ w' = w := by
  have h0 : s.toNat ≠ 0 := fun e => hs (BitVec.eq_of_toNat_eq (by simpa using e))
  obtain ⟨hlow, hk⟩ := Lib.lowest_bit 64 s.toNat h0 s.isLt
  rw [ht] at hlow hk
  obtain ⟨hi, htab⟩ := Lib.deBruijn64_at _ hk
  have hcell := h.cell _ hi
  rw [htab] at hcell
  exact p_tz64_core s.toNat _ _ w (by simp; omega) (tz64_key s.toNat _ s.isLt h0 hlow) hi hk hcell
/-- What a round keeps: the set's box, the table. -/
def allK (B : Nat) (k : Nat) (o : Obj) : Prop := (k = B ∨ k = 0) ∧ o.isCells = true
abbrev encR (x : Nat) : Array Value := #[.int .i64 (x : Int)]
theorem TbD.keep {B : Nat} {w w' : World} (h : TbD w) (hk : KeepO (allK B) w w') : TbD w' := by
  have hs := hk.size
  have hlt := h.lt
  refine ⟨Nat.lt_of_lt_of_le hlt hs, fun j hj => ?_⟩
  have hc := h.cell j hj
  have hb : ∃ o, w.heap[0]? = some o := ⟨_, Array.getElem?_eq_getElem hlt⟩
  obtain ⟨o, ho⟩ := hb
  have hoc : o.isCells = true := by
    unfold World.cell? at hc
    rw [ho] at hc
    cases o <;> first | rfl | (simp at hc)
  exact (World.cell?_of_block (a := ⟨0, j, none⟩) ((hk.same _ o ho ⟨.inr rfl, hoc⟩).trans ho.symm)).trans hc
set_option maxHeartbeats 4000000 in
theorem all_stops (s : BitVec 64) (B : Nat) (ok : Obj → Bool) (m : Nat) (hm : 1 ≤ m) (w : World) (hw : Boxed w B 63 (.int .u64 (s.toNat : Int))) (ht : TbD w) :
    SeqL ok Fence.wide m Tryd.prog 52 #[.pointer (some ⟨B, 0, none⟩)] encR (KeepO (allK B)) (bitsOf s) w := fun l J W hbw hJ hY hj => by
  have hw0 : Boxed W B 63 (.int .u64 (s.toNat : Int)) := (hbw.block _ hw.lt).trans hw
  have ht0 := ht.below hbw
  have c0 := hw0.cell
  have HI := Lib.hid (And.intro hw0 (And.intro ht0 hj))
  clear hw ht hbw hw0 ht0 hj
  refine callsIn_of_wp Tryd.func52 rfl trivial ?_ rfl
  simp only [Tryd.ntmps52, List.size_toArray, List.length_cons, List.length_nil, Nat.reduceAdd, Nat.reduceSub, Array.replicate_succ, Array.replicate_zero, List.push_toArray, List.append_toArray, List.nil_append, List.cons_append]
  gi_wp2
  gi_loopw [3] (fun v wr => ∃ (k : Nat) (L : BitVec 64), k ≤ 64 ∧ v = .int .u64 (L.toNat : Int) ∧ (∀ i, L.getLsbD i = (s.getLsbD i && decide (k ≤ i))) ∧ Boxed wr B 63 (.int .u64 (s.toNat : Int)) ∧ TbD wr ∧ J (bitsTo s k) wr) (fun v _ => (intOf v).toNat)
  case atStart => exact ⟨0, s, by omega, rfl, fun i => by simp, HI.out.1, HI.out.2.1, HI.out.2.2⟩
  case round =>
    obtain ⟨k, L, hk, rfl, hL, hb, htb, hj⟩ := hrel
    clear HI
    by_cases h0 : L = 0#64
    · have hz : ((L.toNat : Int) != 0) = false := by rw [h0]; rfl
      have e : bitsOf s = bitsTo s k := bitsTo_skip s hk fun i h1 h2 => by
        have := hL i
        rw [h0, decide_eq_true h1, Bool.and_true] at this
        rw [← this]; simp
      have HJ := Lib.hid (e ▸ hj)
      clear hb htb hj hY hL
      gi_wp2
      go_end0
      exact ⟨⟨_, rfl⟩, HJ.out⟩
    · obtain ⟨t, ht64, hct, hbt, hlo, hcl⟩ := low_bit h0
      have hn0 : L.toNat ≠ 0 := fun e => h0 (BitVec.eq_of_toNat_eq (by simpa using e))
      have hz : ((L.toNat : Int) != 0) = true := bne_iff_ne.2 (by omega)
      have hkt : k ≤ t ∧ s.getLsbD t = true := by
        have := hL t
        rw [hbt] at this
        have := Bool.and_eq_true_iff.1 this.symm
        exact ⟨of_decide_eq_true this.2, this.1⟩
      have hsk : bitsTo s t = bitsTo s k := bitsTo_skip s hkt.1 fun i h1 h2 => by
        have := hL i
        rw [hlo i h2, decide_eq_true h1, Bool.and_true] at this
        exact this.symm
      have hup : bitsTo s (t + 1) = bitsTo s k ++ [t] := by rw [bitsTo_hit s hkt.2, hsk]
      have HT := Lib.hid (fun V hV => (callsIn_wide (n := m - 1)).2 (p_tz64 h0 hct V hV))
      obtain ⟨fn, tmps, assign, body, hy, hR⟩ := hY (bitsTo s k) t wr hj (by rw [← hup]; exact bitsTo_pre s (by omega))
      have e1 := wrap_pred L
      have e2 := bits_and L (L - 1#64)
      have HL' : Hid ((∀ i, (L &&& (L - 1#64)).getLsbD i = (s.getLsbD i && decide (t + 1 ≤ i))) ∧ (L &&& (L - 1#64)).toNat < L.toNat) := Lib.hid ⟨fun i => by
        rw [hcl, hL, Bool.and_assoc]
        congr 1
        by_cases g : t < i
        · rw [decide_eq_true g, decide_eq_true (show t + 1 ≤ i by omega), decide_eq_true (show k ≤ i by omega)]; rfl
        · rw [decide_eq_false g, decide_eq_false (show ¬ t + 1 ≤ i by omega), Bool.and_false], by
        rw [BitVec.toNat_and]
        have := Nat.and_le_right (n := L.toNat) (m := (L - 1#64).toNat)
        have e3 : (L - 1#64).toNat = L.toNat - 1 := by
          rw [BitVec.toNat_sub]
          have := L.isLt
          simp; omega
        omega⟩
      have HB := Lib.hid (And.intro hb (And.intro htb hup))
      dsimp only [encR] at hy
      clear hb htb hj hY hL hcl hlo hsk h0
      generalize L &&& (L - 1#64) = L2 at *
      generalize L - 1#64 = L1 at *
      gi_wp2_with (refine ⟨trivial, ?_⟩; gi_at_call 53; refine (HT.out _ HB.out.2.1).mono ?_; rintro e wc ⟨rfl, rfl⟩)
      refine hR.mono ?_
      rintro e W3 ⟨rfl, hJ3, hk3⟩
      have H3 : Hid (Boxed W3 B 63 (.int .u64 (s.toNat : Int)) ∧ TbD W3 ∧ J (bitsTo s (t + 1)) W3) := Lib.hid ⟨hk3.box HB.out.1 ⟨.inl rfl, rfl⟩, HB.out.2.1.keep hk3, HB.out.2.2 ▸ hJ3⟩
      clear hJ3 hk3 hy hR
      gi_wp2
      go_roundw
      case rel => exact ⟨t + 1, L2, by omega, rfl, HL'.out.1, H3.out.1, H3.out.2.1, H3.out.2.2⟩
      case measure => simp [intOf]; exact HL'.out.2
end Go.Proofs.YtoajommeiocfpaaDoor
