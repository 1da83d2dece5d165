/-
  The program's Check and Run of programs of registers, and the statements' own Head of layer 12: contracts. Conditions: those that each names.
-/
import Derived.Test.YtoajommeiocfpaaDoorMirRegs
import Derived.Test.YtoajommeiocfpaaDoorMirFault
import Derived.Test.YtoajommeiocfpaaDoorMirStep
namespace Go.Proofs.YtoajommeiocfpaaDoor
open Go Go.RowKit
set_option linter.unusedSimpArgs false
set_option linter.unusedVariables false

/-- Data that may be run over: 64 bytes, where there are so many. -/
def DatAt (w : World) (da : Option Addr) (dlen : Nat) (z : Nat → Int) : Prop := dlen = 64 → ∃ db doff, da = some ⟨db, doff, none⟩ ∧ Bytes64 w db doff z
theorem DatAt.below {w w' : World} {da : Option Addr} {dlen : Nat} {z : Nat → Int} (h : DatAt w da dlen z) (hb : Below w.heap.size w w') : DatAt w' da dlen z := fun e => by
  obtain ⟨db, doff, rfl, hd⟩ := h e
  exact ⟨db, doff, rfl, hd.below hb hd.1⟩
/-- What a whole run leaves. -/
def RunMP (regs : Int) (q : Nat → Irx) (n dlen : Nat) (z : Nat → Int) (w : World) (e : Ending) (w' : World) : Prop := e = .returned (endV (runR regs q n dlen (wordZ z))) ∧ Below w.heap.size w w'
theorem run_wrong {regs : Int} {q : Nat → Irx} {n dlen : Nat} {word : Nat → BitVec 32} (h : chkE regs q n ≠ 0) : runR regs q n dlen word = ⟨0#32, 0, chkE regs q n, chkP regs q n⟩ := by unfold runR; rw [if_pos h]
theorem run_short {regs : Int} {q : Nat → Irx} {n dlen : Nat} {word : Nat → BitVec 32} (h : chkE regs q n = 0) (hd : dlen ≠ 64) : runR regs q n dlen word = ⟨0#32, 0, 21, 0⟩ := by unfold runR; rw [if_neg (fun g => g h), if_pos hd]
theorem run_right {regs : Int} {q : Nat → Irx} {n : Nat} {word : Nat → BitVec 32} (h : chkE regs q n = 0) : runR regs q n 64 word = atM q n (fun i => i) word 0 zeroR := by unfold runR; rw [if_neg (fun g => g h), if_neg (fun g => g rfl)]
end Go.Proofs.YtoajommeiocfpaaDoor
namespace Go.Proofs.YtoajommeiocfpaaDoor
open Go Go.RowKit
set_option linter.unusedSimpArgs false
set_option linter.unusedVariables false
set_option maxRecDepth 100000

set_option maxHeartbeats 2000000 in
theorem p_ChkM (regs : Int) (A : Option Addr) (n cap : Nat) (q : Nat → Irx) (w : World) (h : IrAt w A n q) : Calls Tryd.prog 36 #[mirV regs A n cap] w (ChkMP regs q n w) := by
  have HF := Lib.hid (FM.first (regs := regs) (cap := cap) h)
  clear h
  unfold ChkMP
  by_cases h1 : regs < 1
  · have HV := Lib.hid (chk_regs regs n q (.inl h1))
    go_enter Tryd.func36, Tryd.ntmps36
    go_wp2
    go_ret2
    exact ⟨by rw [HV.out.1, HV.out.2]; rfl, HF.out.2.1⟩
  by_cases h2 : 64 < regs
  · have HV := Lib.hid (chk_regs regs n q (.inr h2))
    go_enter Tryd.func36, Tryd.ntmps36
    go_wp2
    go_ret2
    exact ⟨by rw [HV.out.1, HV.out.2]; rfl, HF.out.2.1⟩
  by_cases h3 : n = 0
  · subst h3
    have HV := Lib.hid (chk_len regs 0 q (by omega) (.inl rfl))
    go_enter Tryd.func36, Tryd.ntmps36
    go_wp2
    go_ret2
    exact ⟨by rw [HV.out.1, HV.out.2]; rfl, HF.out.2.1⟩
  have h3' : ((n : Int) == 0) = false := beq_false_of_ne (by omega)
  have h3'' : ¬ (n : Int) = 0 := by omega
  by_cases h4 : 65536 < n
  · have HV := Lib.hid (chk_len regs n q (by omega) (.inr h4))
    have h4' : (65536 : Int) < (n : Int) := by omega
    go_enter Tryd.func36, Tryd.ntmps36
    go_wp2
    go_ret2
    exact ⟨by rw [HV.out.1, HV.out.2]; rfl, HF.out.2.1⟩
  have h4' : ¬ (65536 : Int) < (n : Int) := by omega
  have H1 : Hid (∀ V i, i < n → IrAt V A n q → Calls Tryd.prog 47 #[mirV regs A n cap, .int .i64 (i : Int)] V (FaP regs n (q i) i V)) := Lib.hid fun V i hi hV => p_fault regs A n cap q i V hi hV
  unfold FaP at H1
  go_enter Tryd.func36, Tryd.ntmps36
  go_wp2
  go_loopw [28] (fun v wr => ∃ k : Nat, k ≤ n ∧ v = .int .i64 (k : Int) ∧ (∀ j, j < k → oneM regs n (q j) j = 0) ∧ FM w wr regs A n cap q) (fun v _ => n - (intOf v).toNat)
  case atStart => exact ⟨0, by omega, rfl, fun j hj => absurd hj (by omega), HF.out⟩
  case round =>
    obtain ⟨k, hk, rfl, hbad, hF⟩ := hrel
    clear HF
    have HF := Lib.hid hF
    have HBad := Lib.hid hbad
    have b0 := cellM hF.2.2 0 rfl
    have b1 := cellM hF.2.2 1 rfl
    clear hF hbad
    by_cases hlt : k < n
    · have hlt' : (k : Int) < (n : Int) := by omega
      have HC := Lib.hid (H1.out wr k hlt HF.out.1)
      by_cases hE : oneM regs n (q k) k = 0
      · rw [hE] at HC
        have HE := Lib.hid hE
        clear hE
        go_wp2_with (go_at_call 47; (with_reducible refine HC.out.mono ?_); rintro e w2 ⟨rfl, hB⟩; have HF2 := Lib.hid (HF.out.up hB); clear hB HF)
        exact ⟨⟨k + 1, by omega, by go_num, fun j hj => by
          rcases Nat.lt_or_ge j k with g | g
          · exact HBad.out j g
          · rw [show j = k by omega]; exact HE.out, HF2.out⟩, by simp [intOf]; omega⟩
      · have HV := Lib.hid (chk_first regs n q (by omega) (by omega) hlt HBad.out hE)
        have hE' : (oneM regs n (q k) k != 0) = true := bne_iff_ne.2 hE
        generalize oneM regs n (q k) k = E at HC HV hE hE'
        go_wp2_with (go_at_call 47; (with_reducible refine HC.out.mono ?_); rintro e w2 ⟨rfl, hB⟩; have HF2 := Lib.hid (HF.out.up hB); clear hB HF)
        go_ret2
        exact ⟨by rw [HV.out.1, HV.out.2]; rfl, HF2.out.2.1⟩
    · obtain rfl : k = n := by omega
      have HV := Lib.hid (chk_last regs k q (by omega) (by omega) HBad.out)
      obtain ⟨qb, qo, rfl, hl, c0, _⟩ := ir_at HF.out.1 (show k - 1 < k by omega)
      have hw : IntKind.i64.wrap ((k : Int) - 1) = ((k - 1 : Nat) : Int) := by rw [IntWalk.i64_in _ (by have := HF.out.1.1; unfold maxLen at this; omega)]; omega
      have hB := Lib.hid HF.out.2.1
      clear HF
      by_cases hr : (q (k - 1)).op = 19
      · rw [hr] at c0
        rw [if_pos hr, if_pos hr] at HV
        clear hr
        go_wp2
        go_ret2
        exact ⟨by rw [HV.out.1, HV.out.2]; rfl, hB.out⟩
      · rw [if_neg hr, if_neg hr] at HV
        have hr' : ((q (k - 1)).op != 19) = true := bne_iff_ne.2 hr
        generalize (q (k - 1)).op = op at c0 hr hr'
        go_wp2
        go_ret2
        exact ⟨by rw [HV.out.1, HV.out.2]; rfl, hB.out⟩
/-- How far a machine is from its end. -/
def leftM (n b : Nat) (w : World) : Nat :=
  match w.cell? ⟨b, 4, none⟩ with
  | some (.bool true) => 0
  | _ => match w.cell? ⟨b, 2, none⟩ with
    | some (.int _ p) => n + 1 - p.toNat
    | _ => 0
theorem stop_forms {x : Irx} {h : Nat → Nat} {word : Nat → BitVec 32} {p : Nat} {r : Nat → BitVec 32} {e : EndM} (he : stepX x h word p r = .stop e) : ((e.err = 0 ∧ e.at_ = 0) ∨ (e.err = 8 ∧ e.ans = 0#32 ∧ e.at_ = p)) ∧ e.n ≤ 1 := by
  unfold stepX at he
  simp only at he
  by_cases h1 : x.op = 19
  · rw [if_pos h1] at he
    injection he with he
    subst he
    exact ⟨.inl ⟨rfl, rfl⟩, Nat.le_refl _⟩
  · rw [if_neg h1] at he
    by_cases h2 : x.op = 7 ∧ (if bM x.op = true then r (h x.b.toNat) else 0#32) = 0#32
    · rw [if_pos h2] at he
      injection he with he
      subst he
      exact ⟨.inr ⟨rfl, rfl, rfl⟩, Nat.zero_le _⟩
    · rw [if_neg h2] at he; cases he
end Go.Proofs.YtoajommeiocfpaaDoor
namespace Go.Proofs.YtoajommeiocfpaaDoor
open Go Go.RowKit
set_option linter.unusedSimpArgs false
set_option linter.unusedVariables false
set_option maxRecDepth 100000

def headQ : Nat → Irx
  | 0 => ⟨1, 0, 0, 0, 7#32, 0, 0⟩
  | 1 => ⟨4, 1, 0, 0, 0#32, 0, 0⟩
  | _ => ⟨19, 0, 1, 0, 0#32, 0, 0⟩
theorem head_chk : chkE 2 headQ 3 = 0 := by decide
theorem head_run (word : Nat → BitVec 32) : runR 2 headQ 3 64 word = ⟨14#32, 3, 0, 0⟩ := by
  rw [run_right head_chk]
  rfl
abbrev headLO : Obj := .cells #[.int .i64 1, .int .i64 0, .int .i64 0, .int .i64 0, .int .u32 7, .int .i64 0, .int .i64 0, .int .i64 4, .int .i64 1, .int .i64 0, .int .i64 0, .int .u32 0, .int .i64 0, .int .i64 0, .int .i64 19, .int .i64 0, .int .i64 1, .int .i64 0, .int .u32 0, .int .i64 0, .int .i64 0] 59
theorem head_prog (w : World) : IrAt (w.alloc headLO) (some ⟨w.heap.size, 0, none⟩) 3 headQ := ⟨by unfold maxLen; omega, fun _ => ⟨w.heap.size, 0, rfl, by simp, fun i hi j u hj => by
  have hh : (w.alloc headLO).heap[w.heap.size]? = some headLO := World.alloc_heap_new w _
  have hj7 : j < 7 := (List.getElem?_eq_some_iff.1 hj).1
  unfold World.cell?
  rw [hh]
  have hi3 : i = 0 ∨ i = 1 ∨ i = 2 := by omega
  have hj3 : j = 0 ∨ j = 1 ∨ j = 2 ∨ j = 3 ∨ j = 4 ∨ j = 5 ∨ j = 6 := by omega
  rcases hi3 with rfl | rfl | rfl <;> rcases hj3 with rfl | rfl | rfl | rfl | rfl | rfl | rfl <;> exact hj⟩⟩
theorem info_u8M : (Tryd.prog.info? 5).map (fun i => (i.zero, i.size, i.bytes)) = some (some (.int .u8 0), 1, 1) := by kernel_rfl
theorem oper_makeM {P : Program} {w : World} {o : Oper} {a : Act} {K : Act → World → Prop} {Q : Exit → Act → World → Prop} (l c : Operand) (t : TypeId) (hop : o.op = Op.makeSlice t l c)
    (e : TypeId) (z : Value) (sz bytes : Nat) (ht : P.underlying t = some (.slice e)) (hinfo : (P.info? e).map (fun i => (i.zero, i.size, i.bytes)) = some (some z, sz, bytes))
    (v : Value) (hzs : z.cells = (List.replicate sz v).toArray) (hsz : 0 < sz) (kl kc : IntKind) (n : Nat) (hl : a.eval l = .int kl (n : Int)) (hc : a.eval c = .int kc (n : Int)) (hn : bytes * n ≤ 281474976710656) (h63 : n ≤ 9223372036854775807)
    (h : ∀ w', w'.rowIs w.heap.size e (n * sz) (fun _ => v) → Below w.heap.size w w' → w'.heap.size = w.heap.size + 1 → K (a.put o.dst (.slice (some ⟨w.heap.size, 0, none⟩) n n)) w') : Oper.wp P o a w K Q := by
  obtain ⟨i, hi, hz, hsize, hby⟩ := info_own hinfo
  have hb : (i.bytes : Int) * (n : Int) ≤ 281474976710656 := by
    rw [hby]; have : ((bytes * n : Nat) : Int) ≤ 281474976710656 := by omega
    rwa [Int.natCast_mul] at this
  have hrun := run_make (P := P) w t e i z ht hi hz kl kc n n (by omega) (Int.le_refl _) hb (by omega)
  simp only [Int.toNat_natCast, hsize] at hrun
  have hr : (w.alloc (.cells (madeCells z.cells (n * sz)) e)).rowIs w.heap.size e (n * sz) (fun _ => v) := by
    have := World.rowIs_alloc w (madeCells z.cells (n * sz)) e (fun _ => v) (fun j hj => by
      rw [size_madeCells] at hj
      unfold madeCells
      rw [hzs]
      have : j % sz < sz := Nat.mod_lt _ hsz
      simp [hj, this])
    rwa [size_madeCells] at this
  unfold Oper.wp execOp
  simp only [hop, hl, hc, hrun, Sem.run_bind, Sem.run_pure, Result.andThen_ok]
  exact h _ hr (lboxM w _) (by simp)
theorem dat_zero {w : World} {g : Nat} (h : w.rowIs g 5 64 (fun _ => .int .u8 0)) : DatAt w (some ⟨g, 0, none⟩) 64 (fun _ => 0) := fun _ =>
  ⟨g, 0, rfl, h.lt, fun i => by show (0 : Int) ≤ 0 ∧ (0 : Int) < 256; decide, fun i hi => by rw [Nat.zero_add]; exact World.rowIs.cell h hi⟩
end Go.Proofs.YtoajommeiocfpaaDoor
