/-
  The program's Check and Run of programs of registers, and the statements' own Head of layer 12: contracts. Conditions: those that each names.
-/
import Derived.Test.YtoajommeiocfpaaGreatMirRegs
import Derived.Test.YtoajommeiocfpaaGreatMirFault
import Derived.Test.YtoajommeiocfpaaGreatMirStep
namespace Go.Proofs.YtoajommeiocfpaaGreat
open Go Go.RowKit
set_option linter.unusedSimpArgs false
set_option linter.unusedVariables false

/-- Data that may be run over: 64 bytes, where there are so many. -/
def DatAt (w : World) (da : Option Addr) (dlen : Nat) (z : Nat → Int) : Prop := dlen = 64 → ∃ db doff, da = some ⟨db, doff, none⟩ ∧ Bytes64 w db doff z
theorem DatAt.below {w w' : World} {da : Option Addr} {dlen : Nat} {z : Nat → Int} (h : DatAt w da dlen z) (hb : Below w.heap.size w w') : DatAt w' da dlen z := fun e => by
  obtain ⟨db, doff, rfl, hd⟩ := h e
  exact ⟨db, doff, rfl, hd.below hb hd.1⟩
/-- What a whole run leaves. -/
def RunMP (regs : Int) (q : Nat → Irx) (n dlen : Nat) (z : Nat → Int) (w : World) (e : Ending) (w' : World) : Prop := e = .returned (endV (runR regs q n dlen (wordZ z))) ∧ Below w.heap.size w w'
theorem run_wrong {regs : Int} {q : Nat → Irx} {n dlen : Nat} {word : Nat → BitVec 32} (h : chkE regs q n ≠ 0) : runR regs q n dlen word = ⟨0#32, 0, chkE regs q n, chkP regs q n⟩ := by unfold runR; rw [if_pos h]
theorem run_short {regs : Int} {q : Nat → Irx} {n dlen : Nat} {word : Nat → BitVec 32} (h : chkE regs q n = 0) (hd : dlen ≠ 64) : runR regs q n dlen word = ⟨0#32, 0, 21, 0⟩ := by unfold runR; rw [if_neg (fun g => g h), if_pos hd]
theorem run_right {regs : Int} {q : Nat → Irx} {n : Nat} {word : Nat → BitVec 32} (h : chkE regs q n = 0) : runR regs q n 64 word = atM q n (fun i => i) word 0 zeroR := by unfold runR; rw [if_neg (fun g => g h), if_neg (fun g => g rfl)]
end Go.Proofs.YtoajommeiocfpaaGreat
namespace Go.Proofs.YtoajommeiocfpaaGreat
open Go Go.RowKit
set_option linter.unusedSimpArgs false
set_option linter.unusedVariables false
set_option maxRecDepth 100000

set_option maxHeartbeats 2000000 in
theorem p_ChkM (regs : Int) (A : Option Addr) (n cap : Nat) (q : Nat → Irx) (w : World) (h : IrAt w A n q) : Calls Tryz.prog 20 #[mirV regs A n cap] w (ChkMP regs q n w) := by
  have HF := Lib.hid (FM.first (regs := regs) (cap := cap) h)
  clear h
  unfold ChkMP
  by_cases h1 : regs < 1
  · have HV := Lib.hid (chk_regs regs n q (.inl h1))
    go_enter Tryz.func20, Tryz.ntmps20
    go_wp2
    go_ret2
    exact ⟨by rw [HV.out.1, HV.out.2]; rfl, HF.out.2.1⟩
  by_cases h2 : 64 < regs
  · have HV := Lib.hid (chk_regs regs n q (.inr h2))
    go_enter Tryz.func20, Tryz.ntmps20
    go_wp2
    go_ret2
    exact ⟨by rw [HV.out.1, HV.out.2]; rfl, HF.out.2.1⟩
  by_cases h3 : n = 0
  · subst h3
    have HV := Lib.hid (chk_len regs 0 q (by omega) (.inl rfl))
    go_enter Tryz.func20, Tryz.ntmps20
    go_wp2
    go_ret2
    exact ⟨by rw [HV.out.1, HV.out.2]; rfl, HF.out.2.1⟩
  have h3' : ((n : Int) == 0) = false := beq_false_of_ne (by omega)
  have h3'' : ¬ (n : Int) = 0 := by omega
  by_cases h4 : 65536 < n
  · have HV := Lib.hid (chk_len regs n q (by omega) (.inr h4))
    have h4' : (65536 : Int) < (n : Int) := by omega
    go_enter Tryz.func20, Tryz.ntmps20
    go_wp2
    go_ret2
    exact ⟨by rw [HV.out.1, HV.out.2]; rfl, HF.out.2.1⟩
  have h4' : ¬ (65536 : Int) < (n : Int) := by omega
  have H1 : Hid (∀ V i, i < n → IrAt V A n q → Calls Tryz.prog 46 #[mirV regs A n cap, .int .i64 (i : Int)] V (FaP regs n (q i) i V)) := Lib.hid fun V i hi hV => p_fault regs A n cap q i V hi hV
  unfold FaP at H1
  go_enter Tryz.func20, Tryz.ntmps20
  go_wp2
  go_loopw [28] (fun v wr => ∃ k : Nat, k ≤ n ∧ v = .int .i64 (k : Int) ∧ (∀ j, j < k → oneM regs n (q j) j = 0) ∧ FM w wr regs A n cap q) (fun v _ => n - (intOf v).toNat)
  case atStart => exact ⟨0, by omega, rfl, fun j hj => absurd hj (by omega), HF.out⟩
  case round =>
    obtain ⟨k, hk, rfl, hbad, hF⟩ := hrel
    clear HF
    have HF := Lib.hid hF
    have HBad := Lib.hid hbad
    have b0 := cellM hF.2.2 0 rfl
    have b1 := cellM hF.2.2 1 rfl
    clear hF hbad
    by_cases hlt : k < n
    · have hlt' : (k : Int) < (n : Int) := by omega
      have HC := Lib.hid (H1.out wr k hlt HF.out.1)
      by_cases hE : oneM regs n (q k) k = 0
      · rw [hE] at HC
        have HE := Lib.hid hE
        clear hE
        go_wp2_with (go_at_call 46; (with_reducible refine HC.out.mono ?_); rintro e w2 ⟨rfl, hB⟩; have HF2 := Lib.hid (HF.out.up hB); clear hB HF)
        exact ⟨⟨k + 1, by omega, by go_num, fun j hj => by
          rcases Nat.lt_or_ge j k with g | g
          · exact HBad.out j g
          · rw [show j = k by omega]; exact HE.out, HF2.out⟩, by simp [intOf]; omega⟩
      · have HV := Lib.hid (chk_first regs n q (by omega) (by omega) hlt HBad.out hE)
        have hE' : (oneM regs n (q k) k != 0) = true := bne_iff_ne.2 hE
        generalize oneM regs n (q k) k = E at HC HV hE hE'
        go_wp2_with (go_at_call 46; (with_reducible refine HC.out.mono ?_); rintro e w2 ⟨rfl, hB⟩; have HF2 := Lib.hid (HF.out.up hB); clear hB HF)
        go_ret2
        exact ⟨by rw [HV.out.1, HV.out.2]; rfl, HF2.out.2.1⟩
    · obtain rfl : k = n := by omega
      have HV := Lib.hid (chk_last regs k q (by omega) (by omega) HBad.out)
      obtain ⟨qb, qo, rfl, hl, c0, _⟩ := ir_at HF.out.1 (show k - 1 < k by omega)
      have hw : IntKind.i64.wrap ((k : Int) - 1) = ((k - 1 : Nat) : Int) := by rw [IntWalk.i64_in _ (by have := HF.out.1.1; unfold maxLen at this; omega)]; omega
      have hB := Lib.hid HF.out.2.1
      clear HF
      by_cases hr : (q (k - 1)).op = 19
      · rw [hr] at c0
        rw [if_pos hr, if_pos hr] at HV
        clear hr
        go_wp2
        go_ret2
        exact ⟨by rw [HV.out.1, HV.out.2]; rfl, hB.out⟩
      · rw [if_neg hr, if_neg hr] at HV
        have hr' : ((q (k - 1)).op != 19) = true := bne_iff_ne.2 hr
        generalize (q (k - 1)).op = op at c0 hr hr'
        go_wp2
        go_ret2
        exact ⟨by rw [HV.out.1, HV.out.2]; rfl, hB.out⟩
/-- How far a machine is from its end. -/
def leftM (n b : Nat) (w : World) : Nat :=
  match w.cell? ⟨b, 4, none⟩ with
  | some (.bool true) => 0
  | _ => match w.cell? ⟨b, 2, none⟩ with
    | some (.int _ p) => n + 1 - p.toNat
    | _ => 0
theorem leftM_on {w : World} {n b g nr p s : Nat} {dv : Value} {ans : BitVec 32} {err : Int} (h : w.heap[b]? = some (macO dv g nr p s false ans err)) : leftM n b w = n + 1 - p := by
  have h1 : w.cell? ⟨b, 4, none⟩ = some (.bool false) := cellM h 4 rfl
  have h2 : w.cell? ⟨b, 2, none⟩ = some (.int .i64 (p : Int)) := cellM h 2 rfl
  simp [leftM, h1, h2]
theorem leftM_done {w : World} {n b g nr p s : Nat} {dv : Value} {ans : BitVec 32} {err : Int} (h : w.heap[b]? = some (macO dv g nr p s true ans err)) : leftM n b w = 0 := by
  have h1 : w.cell? ⟨b, 4, none⟩ = some (.bool true) := cellM h 4 rfl
  simp [leftM, h1]
theorem p_step {W : World} {mb g nr n db doff dcap : Nat} {z : Nat → Int} {p s : Nat} {x : Irx} {r : Nat → BitVec 32} (hP : PreM W mb g nr n db doff dcap z p s x r) :
    Calls Tryz.prog 21 #[.pointer (some ⟨mb, 0, none⟩), irV x] W fun e w' => e = .returned (.tuple #[]) ∧ Mv W w' mb g ∧ AftM w' mb g nr (.slice (some ⟨db, doff, none⟩) 64 dcap) p s (stepX x (fun i => i) (wordZ z) p r) := by
  obtain ⟨op, d, a, b, k, t, f⟩ := x
  rcases op_kinds hP.one.op with (g1 | g1) | (g1 | g1) | g1 | g1 | g1 | g1
  · exact p_step_c op d a b k t f W mb g nr n db doff dcap z p s r g1 hP
  · exact p_step_l op d a b k t f W mb g nr n db doff dcap z p s r g1 hP
  · exact p_step_m op d a b k t f W mb g nr n db doff dcap z p s r g1 hP
  · exact p_step_n op d a b k t f W mb g nr n db doff dcap z p s r g1 hP
  · exact p_step_w op d a b k t f W mb g nr n db doff dcap z p s r g1 hP
  · exact p_step_j op d a b k t f W mb g nr n db doff dcap z p s r g1 hP
  · exact p_step_i op d a b k t f W mb g nr n db doff dcap z p s r g1 hP
  · exact p_step_r op d a b k t f W mb g nr n db doff dcap z p s r g1 hP
theorem stop_forms {x : Irx} {h : Nat → Nat} {word : Nat → BitVec 32} {p : Nat} {r : Nat → BitVec 32} {e : EndM} (he : stepX x h word p r = .stop e) : ((e.err = 0 ∧ e.at_ = 0) ∨ (e.err = 8 ∧ e.ans = 0#32 ∧ e.at_ = p)) ∧ e.n ≤ 1 := by
  unfold stepX at he
  simp only at he
  by_cases h1 : x.op = 19
  · rw [if_pos h1] at he
    injection he with he
    subst he
    exact ⟨.inl ⟨rfl, rfl⟩, Nat.le_refl _⟩
  · rw [if_neg h1] at he
    by_cases h2 : x.op = 7 ∧ (if bM x.op = true then r (h x.b.toNat) else 0#32) = 0#32
    · rw [if_pos h2] at he
      injection he with he
      subst he
      exact ⟨.inr ⟨rfl, rfl, rfl⟩, Nat.zero_le _⟩
    · rw [if_neg h2] at he; cases he
/-- A machine that is going, or through. -/
def RelM (w V : World) (nr : Nat) (A : Option Addr) (n cap g mb db doff dcap : Nat) (q : Nat → Irx) (z : Nat → Int) (E : EndM) : Prop :=
  (Below w.heap.size w V ∧ V.heap[w.heap.size]? = some (mirO (nr : Int) A n cap)) ∧
  ((∃ (p s : Nat) (r : Nat → BitVec 32), p < n ∧ s ≤ p ∧ V.heap[mb]? = some (macO (.slice (some ⟨db, doff, none⟩) 64 dcap) g nr p s false 0#32 0) ∧ V.rowIs g 33 nr (regF r) ∧ plusM s (atM q n (fun i => i) (wordZ z) p r) = E) ∨
   (∃ (p s : Nat) (ans : BitVec 32) (err : Int), s ≤ 70000 ∧ V.heap[mb]? = some (macO (.slice (some ⟨db, doff, none⟩) 64 dcap) g nr p s true ans err) ∧ E = ⟨ans, s, err, if err = 0 then 0 else p⟩ ∧ (err = 0 ∨ (err = 8 ∧ ans = 0#32))))
set_option maxHeartbeats 16000000 in
theorem p_RunM (regs : Int) (A : Option Addr) (n cap : Nat) (q : Nat → Irx) (da : Option Addr) (dlen dcap : Nat) (z : Nat → Int) (w : World) (h : IrAt w A n q) (hd : DatAt w da dlen z) :
    Calls Tryz.prog 9 #[mirV regs A n cap, .slice da dlen dcap] w (RunMP regs q n dlen z w) := by
  have HF := Lib.hid (FM.first (regs := regs) (cap := cap) h)
  have HD := Lib.hid (hd.below (lboxM w (mirO regs A n cap)))
  have HC := Lib.hid (p_ChkM regs A n cap q _ HF.out.1)
  have HW := Lib.hid (And.intro h hd)
  unfold ChkMP at HC
  unfold RunMP
  clear h hd
  obtain ⟨E, hE⟩ : ∃ E, runR regs q n dlen (wordZ z) = E := ⟨_, rfl⟩
  rw [hE]
  by_cases he : chkE regs q n = 0
  · have HR := Lib.hid (chk_is.1 he)
    have hp0 := chkP_zero HR.out
    rw [he, hp0] at HC
    by_cases hl : dlen = 64
    · subst hl
      have HE := Lib.hid (hE.symm.trans (run_right he))
      clear hE he hp0
      obtain ⟨db, doff, rfl, hdb⟩ := HW.out.2 rfl
      have HDB := Lib.hid hdb
      clear hdb HD
      obtain ⟨nr, hnr, rfl⟩ : ∃ m : Nat, m ≤ 64 ∧ regs = (m : Int) := ⟨regs.toNat, by have := HR.out.rg; omega, by have := HR.out.rg; omega⟩
      obtain ⟨O, hO1, hO2⟩ := make_zeroM 51 33 (.int .u32 0) 4 Tryz.underlying51 info_u32M rfl nr (by omega) (by omega)
      have HO := Lib.hid hO2
      clear hO2
      have hn0 := HR.out.pos
      have hnm := HR.out.max
      go_enter Tryz.func9, Tryz.ntmps9
      go_wp2_with (go_at_call 20; (with_reducible refine HC.out.mono ?_); rintro e X ⟨rfl, hB⟩; have HF2 := Lib.hid (HF.out.up hB); clear hB; have x0 := cellM HF2.out.2.2 0 rfl; have x1 := cellM HF2.out.2.2 1 rfl)
      have hsz : (X.alloc O).heap.size = X.heap.size + 1 := by simp
      have HS : Hid (RelM w ((X.alloc O).alloc (.cells #[.slice (some ⟨db, doff, none⟩) 64 dcap, .slice (some ⟨X.heap.size, 0, none⟩) nr nr, .int .i64 0, .int .i64 0, .bool false, .int .u32 0, .int .i64 0] 53)) nr A n cap X.heap.size (X.heap.size + 1) db doff dcap q z E ∧ w.heap.size < X.heap.size) := by
        refine Lib.hid ⟨⟨⟨onM (onM HF2.out.2.1 (lboxM X O)) (lboxM _ _), keepM (keepM HF2.out.2.2 (lboxM X O)) (lboxM _ _)⟩, .inl ⟨0, 0, zeroR, hn0, Nat.le_refl _, ?_, rowIs_below (HO.out X) (lboxM _ _) (by simp), HE.out.symm⟩⟩, (Array.getElem?_eq_some_iff.1 HF2.out.2.2).1⟩
        rw [← hsz]
        exact World.alloc_heap_new (X.alloc O) _
      clear HF2 x0 x1 hO1 HC HF
      generalize (X.alloc O).alloc (.cells #[.slice (some ⟨db, doff, none⟩) 64 dcap, .slice (some ⟨X.heap.size, 0, none⟩) nr nr, .int .i64 0, .int .i64 0, .bool false, .int .u32 0, .int .i64 0] 53) = V0 at HS ⊢
      obtain ⟨g, hg⟩ : ∃ g, X.heap.size = g := ⟨_, rfl⟩
      rw [hg] at HS
      simp only [hg]
      obtain ⟨mb, hmb⟩ : ∃ mb, g + 1 = mb := ⟨_, rfl⟩
      rw [hmb] at HS
      (try simp only [hmb])
      clear hsz hg HO
      go_loopw [30] (fun t wr => RelM w wr nr A n cap g mb db doff dcap q z E) (fun t wr => leftM n mb wr)
      case atStart => exact HS.out.1
      case round =>
        have hwg := HS.out.2
        obtain ⟨⟨hB, hbx⟩, hgo | hdone⟩ := hrel
        · obtain ⟨p, s, r, hp, hsp, hm, hr, hEq⟩ := hgo
          have hone := HR.out.one hp
          have hP : PreM wr mb g nr n db doff dcap z p s (q p) r := ⟨hm, hr, by omega, hone, HDB.out.below hB HDB.out.1, by omega, by omega⟩
          have HP := Lib.hid (p_step hP)
          have HS2 := Lib.hid (And.intro hB (And.intro hbx (And.intro hEq hm)))
          obtain ⟨qb, qo, rfl, hl, c0, c1, c2, c3, c4, c5, c6⟩ := ir_at (HW.out.1.below hB) hp
          have b0 := cellM hbx 0 rfl
          have b1 := cellM hbx 1 rfl
          have m2 := cellM hm 2 rfl
          have m4 := cellM hm 4 rfl
          have hp' : (p : Int) < (n : Int) := by omega
          have hat : ∀ {e}, stepX (q p) (fun i => i) (wordZ z) p r = .stop e → plusM s e = E := fun {e} he => by rw [← hEq, at_stop hp he]
          have hon : ∀ {p' r'}, stepX (q p) (fun i => i) (wordZ z) p r = .on p' r' → (p < p' ∧ p' < n) ∧ plusM (s + 1) (atM q n (fun i => i) (wordZ z) p' r') = E := fun {p' r'} he => ⟨step_ahead HR.out (fun i => i) (wordZ z) hp r he, by rw [← hEq, at_on HR.out hp he, plus_more]⟩
          have HAT := Lib.hid (And.intro @hat @hon)
          clear hat hon hB hbx hEq hm hr hP hone
          generalize q p = x at HP HAT c0 c1 c2 c3 c4 c5 c6
          generalize hst : stepX x (fun i => i) (wordZ z) p r = st at HP HAT
          obtain ⟨op, d, a, b, k, t, f⟩ := x
          go_wp2_with (go_at_call 21; (with_reducible refine HP.out.mono ?_); rintro e w2 ⟨rfl, hmv, haf⟩; have HM := Lib.hid (And.intro hmv haf); clear hmv haf)
          have hB2 : Below w.heap.size w w2 := HM.out.1.below HS2.out.1 (by omega) (by omega)
          have hbx2 : w2.heap[w.heap.size]? = some (mirO (nr : Int) (some ⟨qb, qo, none⟩) n cap) := (HM.out.1.block _ (Array.getElem?_eq_some_iff.1 HS2.out.2.1).1 (by omega) (by omega)).trans HS2.out.2.1
          have hl0 := leftM_on (n := n) HS2.out.2.2.2
          cases st with
          | stop e =>
            have hE2 := HAT.out.1 rfl
            obtain ⟨hfm, hen⟩ := stop_forms hst
            have haf := HM.out.2
            unfold AftM at haf
            simp only at haf
            refine ⟨⟨⟨hB2, hbx2⟩, .inr ⟨p, s + e.n, e.ans, e.err, ?_, haf, ?_, ?_⟩⟩, ?_⟩
            · omega
            · rw [← hE2]
              unfold plusM
              rcases hfm with ⟨h1, h2⟩ | ⟨h1, h2, h3⟩
              · rw [h1, if_pos rfl, h2]; simp [Nat.add_comm]
              · rw [h1, if_neg (by decide), h3]; simp [Nat.add_comm]
            · rcases hfm with ⟨h1, h2⟩ | ⟨h1, h2, h3⟩
              · exact .inl h1
              · exact .inr ⟨h1, h2⟩
            · rw [hl0, leftM_done haf]; omega
          | on p' r' =>
            have hE2 := HAT.out.2 rfl
            have haf := HM.out.2
            unfold AftM at haf
            simp only at haf
            refine ⟨⟨⟨hB2, hbx2⟩, .inl ⟨p', s + 1, r', hE2.1.2, by omega, haf.1, haf.2, hE2.2⟩⟩, ?_⟩
            rw [hl0, leftM_on haf.1]; omega
        · obtain ⟨p, s, ans, err, hs, hm, hEe, herr⟩ := hdone
          have m2 := cellM hm 2 rfl
          have m3 := cellM hm 3 rfl
          have m4 := cellM hm 4 rfl
          have m5 := cellM hm 5 rfl
          have m6 := cellM hm 6 rfl
          have HB := Lib.hid (And.intro hB hEe)
          clear hB hbx hEe hm
          rcases herr with rfl | ⟨rfl, rfl⟩
          · go_wp2
            go_quiet (fail)
            go_wp2
            (try simp only [Exit.inBlock, Exit.then])
            refine bodyPost_ret (results_tmp4M rfl _ _ _) rfl ?_
            exact ⟨by rw [HB.out.2]; rfl, below_drawn HB.out.1 _⟩
          · go_wp2
            go_quiet (fail)
            go_wp2
            (try simp only [Exit.inBlock, Exit.then])
            refine bodyPost_ret (results_tmp4M rfl _ _ _) rfl ?_
            exact ⟨by rw [HB.out.2]; rfl, below_drawn HB.out.1 _⟩
    · have HE := Lib.hid (hE.symm.trans (run_short he hl))
      have hl' : ¬ (dlen : Int) = 64 := by omega
      have hl2 : ((dlen : Int) != 64) = true := bne_iff_ne.2 hl'
      clear hE he hp0 hl
      go_enter Tryz.func9, Tryz.ntmps9
      go_wp2_with (go_at_call 20; (with_reducible refine HC.out.mono ?_); rintro e w2 ⟨rfl, hB⟩; have HF2 := Lib.hid (HF.out.up hB); clear hB)
      (try simp only [Exit.inBlock, Exit.then])
      refine bodyPost_ret (results_tmp4M rfl _ _ _) rfl ?_
      exact ⟨by rw [HE.out]; rfl, HF2.out.2.1⟩
  · have HE := Lib.hid (hE.symm.trans (run_wrong he))
    have he' : (chkE regs q n != 0) = true := bne_iff_ne.2 he
    clear hE
    generalize chkE regs q n = ee at HC HE he he'
    generalize chkP regs q n = pp at HC HE
    go_enter Tryz.func9, Tryz.ntmps9
    go_wp2_with (go_at_call 20; (with_reducible refine HC.out.mono ?_); rintro e w2 ⟨rfl, hB⟩; have HF2 := Lib.hid (HF.out.up hB); clear hB)
    (try simp only [Exit.inBlock, Exit.then])
    refine bodyPost_ret (results_tmp4M rfl _ _ _) rfl ?_
    exact ⟨by rw [HE.out]; rfl, HF2.out.2.1⟩
end Go.Proofs.YtoajommeiocfpaaGreat
namespace Go.Proofs.YtoajommeiocfpaaGreat
open Go Go.RowKit
set_option linter.unusedSimpArgs false
set_option linter.unusedVariables false
set_option maxRecDepth 100000

def headQ : Nat → Irx
  | 0 => ⟨1, 0, 0, 0, 7#32, 0, 0⟩
  | 1 => ⟨4, 1, 0, 0, 0#32, 0, 0⟩
  | _ => ⟨19, 0, 1, 0, 0#32, 0, 0⟩
theorem head_chk : chkE 2 headQ 3 = 0 := by decide
theorem head_run (word : Nat → BitVec 32) : runR 2 headQ 3 64 word = ⟨14#32, 3, 0, 0⟩ := by
  rw [run_right head_chk]
  rfl
abbrev headLO : Obj := .cells #[.int .i64 1, .int .i64 0, .int .i64 0, .int .i64 0, .int .u32 7, .int .i64 0, .int .i64 0, .int .i64 4, .int .i64 1, .int .i64 0, .int .i64 0, .int .u32 0, .int .i64 0, .int .i64 0, .int .i64 19, .int .i64 0, .int .i64 1, .int .i64 0, .int .u32 0, .int .i64 0, .int .i64 0] 40
theorem head_prog (w : World) : IrAt (w.alloc headLO) (some ⟨w.heap.size, 0, none⟩) 3 headQ := ⟨by unfold maxLen; omega, fun _ => ⟨w.heap.size, 0, rfl, by simp, fun i hi j u hj => by
  have hh : (w.alloc headLO).heap[w.heap.size]? = some headLO := World.alloc_heap_new w _
  have hj7 : j < 7 := (List.getElem?_eq_some_iff.1 hj).1
  unfold World.cell?
  rw [hh]
  have hi3 : i = 0 ∨ i = 1 ∨ i = 2 := by omega
  have hj3 : j = 0 ∨ j = 1 ∨ j = 2 ∨ j = 3 ∨ j = 4 ∨ j = 5 ∨ j = 6 := by omega
  rcases hi3 with rfl | rfl | rfl <;> rcases hj3 with rfl | rfl | rfl | rfl | rfl | rfl | rfl <;> exact hj⟩⟩
theorem info_u8M : (Tryz.prog.info? 5).map (fun i => (i.zero, i.size, i.bytes)) = some (some (.int .u8 0), 1, 1) := by kernel_rfl
theorem oper_makeM {P : Program} {w : World} {o : Oper} {a : Act} {K : Act → World → Prop} {Q : Exit → Act → World → Prop} (l c : Operand) (t : TypeId) (hop : o.op = Op.makeSlice t l c)
    (e : TypeId) (z : Value) (sz bytes : Nat) (ht : P.underlying t = some (.slice e)) (hinfo : (P.info? e).map (fun i => (i.zero, i.size, i.bytes)) = some (some z, sz, bytes))
    (v : Value) (hzs : z.cells = (List.replicate sz v).toArray) (hsz : 0 < sz) (kl kc : IntKind) (n : Nat) (hl : a.eval l = .int kl (n : Int)) (hc : a.eval c = .int kc (n : Int)) (hn : bytes * n ≤ 281474976710656) (h63 : n ≤ 9223372036854775807)
    (h : ∀ w', w'.rowIs w.heap.size e (n * sz) (fun _ => v) → Below w.heap.size w w' → w'.heap.size = w.heap.size + 1 → K (a.put o.dst (.slice (some ⟨w.heap.size, 0, none⟩) n n)) w') : Oper.wp P o a w K Q := by
  obtain ⟨i, hi, hz, hsize, hby⟩ := info_own hinfo
  have hb : (i.bytes : Int) * (n : Int) ≤ 281474976710656 := by
    rw [hby]; have : ((bytes * n : Nat) : Int) ≤ 281474976710656 := by omega
    rwa [Int.natCast_mul] at this
  have hrun := run_make (P := P) w t e i z ht hi hz kl kc n n (by omega) (Int.le_refl _) hb (by omega)
  simp only [Int.toNat_natCast, hsize] at hrun
  have hr : (w.alloc (.cells (madeCells z.cells (n * sz)) e)).rowIs w.heap.size e (n * sz) (fun _ => v) := by
    have := World.rowIs_alloc w (madeCells z.cells (n * sz)) e (fun _ => v) (fun j hj => by
      rw [size_madeCells] at hj
      unfold madeCells
      rw [hzs]
      have : j % sz < sz := Nat.mod_lt _ hsz
      simp [hj, this])
    rwa [size_madeCells] at this
  unfold Oper.wp execOp
  simp only [hop, hl, hc, hrun, Sem.run_bind, Sem.run_pure, Result.andThen_ok]
  exact h _ hr (lboxM w _) (by simp)
theorem dat_zero {w : World} {g : Nat} (h : w.rowIs g 5 64 (fun _ => .int .u8 0)) : DatAt w (some ⟨g, 0, none⟩) 64 (fun _ => 0) := fun _ =>
  ⟨g, 0, rfl, h.lt, fun i => by show (0 : Int) ≤ 0 ∧ (0 : Int) < 256; decide, fun i hi => by rw [Nat.zero_add]; exact World.rowIs.cell h hi⟩
set_option maxHeartbeats 4000000 in
theorem head_M (w : World) : Calls Tryz.prog 4 #[] w fun e w' => e = .returned (.bool true) ∧ Below w.heap.size w w' := by
  obtain ⟨O, hO1, hO2⟩ := make_zeroM 32 5 (.int .u8 0) 1 Tryz.underlying32 info_u8M rfl 64 (by omega) (by omega)
  have HR : Hid (∀ V A cap da dcap, IrAt V A 3 headQ → DatAt V da 64 (fun _ => 0) → Calls Tryz.prog 9 #[mirV 2 A 3 cap, .slice da 64 dcap] V fun e w' => e = .returned (.tuple #[.int .u32 14, .int .i64 3, .int .i64 0, .int .i64 0]) ∧ Below V.heap.size V w') := Lib.hid fun V A cap da dcap h1 h2 => (p_RunM 2 A 3 cap headQ da 64 dcap _ V h1 h2).mono fun e w' h => ⟨by rw [h.1, head_run]; rfl, h.2⟩
  have hX := And.intro (onM (lboxM w headLO) (lboxM (w.alloc headLO) (mirO 2 (some ⟨w.heap.size, 0, none⟩) 3 3))) (And.intro (World.alloc_heap_new (w.alloc headLO) (mirO 2 (some ⟨w.heap.size, 0, none⟩) 3 3)) ((head_prog w).below (lboxM (w.alloc headLO) (mirO 2 (some ⟨w.heap.size, 0, none⟩) 3 3))))
  rw [show (w.alloc headLO).heap.size = w.heap.size + 1 by simp] at hX
  have HX := Lib.hid hX
  have HO := Lib.hid (And.intro hO1 hO2)
  clear hX hO1 hO2
  go_enter Tryz.func4, Tryz.ntmps4
  go_wp2
  generalize (w.alloc (.cells #[.int .i64 1, .int .i64 0, .int .i64 0, .int .i64 0, .int .u32 7, .int .i64 0, .int .i64 0, .int .i64 4, .int .i64 1, .int .i64 0, .int .i64 0, .int .u32 0, .int .i64 0, .int .i64 0, .int .i64 19, .int .i64 0, .int .i64 1, .int .i64 0, .int .u32 0, .int .i64 0, .int .i64 0] 40)).alloc (.cells #[.int .i64 2, .slice (some ⟨w.heap.size, 0, none⟩) 3 3] 28) = X at HX ⊢
  refine wp_region_held_drew (S := fun W' => Below X.heap.size X W') (by kernel_rfl) (Below.refl X.heap.size X).drew (fun hHeld => ?_)
  have HY := Lib.hid ((Below.refl X.heap.size X).drew)
  generalize X.drew = Y at HY hHeld ⊢
  refine wpAnyH_take (i := 0) (v := ?_) rfl (by kernel_rfl) (by kernel_rfl) (by kernel_rfl) (fun _ _ _ h => h) (Or.inl ⟨by rfl, ?_⟩) (by assumption) ?_
  rotate_left
  · intro wS hSw
    (have i1 := keepM HX.out.2.1 hSw; have e0 := cellM i1 0 rfl; have e1 := cellM i1 1 rfl; clear hSw i1)
    go_simp
    all_goals with_reducible rfl
  (try simp only [List.getElem_toArray, List.getElem_cons_zero, List.getElem_cons_succ, Act.put, List.setIfInBounds_toArray, List.set_cons_zero, List.set_cons_succ])
  refine held_one (i := 1) (by kernel_rfl) rfl (fun K hK => ?_)
  rw [if_pos (by kernel_rfl)]
  refine oper_makeM _ _ _ rfl 5 (.int .u8 0) 1 1 Tryz.underlying32 info_u8M (.int .u8 0) rfl (by decide) .i64 .i64 64 rfl rfl (by decide) (by decide) ?_
  intro Z hr hb4 _
  have hb5 := onM HY.out hb4
  refine hK.out _ _ hb5 (fun hH1 => ?_)
  have HZ := Lib.hid (And.intro hb5 (dat_zero hr))
  clear hK K hHeld hr hb4 hb5
  (try simp only [Act.put, List.setIfInBounds_toArray, List.set_cons_zero, List.set_cons_succ, List.getElem_toArray, List.getElem_cons_zero, List.getElem_cons_succ])
  refine held_one (i := 2) (by kernel_rfl) rfl (fun K hK => ?_)
  go_simp
  go_at_call 9
  refine (HR.out _ _ _ _ _ (HX.out.2.2.below HZ.out.1) HZ.out.2).mono ?_
  rintro e w4 ⟨rfl, hb4⟩
  have hb6 := onM HZ.out.1 hb4
  refine hK.out _ _ hb6 (fun hH2 => ?_)
  have HE := Lib.hid (onM HX.out.1 hb6)
  clear hK K hH1 hb4 hb6
  (try simp only [Act.put, List.setIfInBounds_toArray, List.set_cons_zero, List.set_cons_succ, List.getElem_toArray, List.getElem_cons_zero, List.getElem_cons_succ])
  refine wpAnyH_take (i := 3) (v := ?_) rfl (by kernel_rfl) (by kernel_rfl) (by kernel_rfl) (fun _ _ _ h => h) (Or.inl ⟨by rfl, ?_⟩) (by assumption) ?_
  rotate_left
  · intro wS hSw
    (skip)
    go_simp
    all_goals with_reducible rfl
  (try simp only [List.getElem_toArray, List.getElem_cons_zero, List.getElem_cons_succ, Act.put, List.setIfInBounds_toArray, List.set_cons_zero, List.set_cons_succ])
  refine wpAnyH_take (i := 4) (v := ?_) rfl (by kernel_rfl) (by kernel_rfl) (by kernel_rfl) (fun _ _ _ h => h) (Or.inl ⟨by rfl, ?_⟩) (by assumption) ?_
  rotate_left
  · intro wS hSw
    (skip)
    go_simp
    all_goals with_reducible rfl
  (try simp only [List.getElem_toArray, List.getElem_cons_zero, List.getElem_cons_succ, Act.put, List.setIfInBounds_toArray, List.set_cons_zero, List.set_cons_succ])
  refine wpAnyH_take (i := 5) (v := ?_) rfl (by kernel_rfl) (by kernel_rfl) (by kernel_rfl) (fun _ _ _ h => h) (Or.inl ⟨by rfl, ?_⟩) (by assumption) ?_
  rotate_left
  · intro wS hSw
    (skip)
    go_simp
    all_goals with_reducible rfl
  (try simp only [List.getElem_toArray, List.getElem_cons_zero, List.getElem_cons_succ, Act.put, List.setIfInBounds_toArray, List.set_cons_zero, List.set_cons_succ])
  refine wpAnyH_take (i := 6) (v := ?_) rfl (by kernel_rfl) (by kernel_rfl) (by kernel_rfl) (fun _ _ _ h => h) (Or.inl ⟨by rfl, ?_⟩) (by assumption) ?_
  rotate_left
  · intro wS hSw
    (skip)
    go_simp
    all_goals with_reducible rfl
  (try simp only [List.getElem_toArray, List.getElem_cons_zero, List.getElem_cons_succ, Act.put, List.setIfInBounds_toArray, List.set_cons_zero, List.set_cons_succ])
  refine wpAnyH_take (i := 7) (v := ?_) rfl (by kernel_rfl) (by kernel_rfl) (by kernel_rfl) (fun _ _ _ h => h) (Or.inl ⟨by rfl, ?_⟩) (by assumption) ?_
  rotate_left
  · intro wS hSw
    (skip)
    go_simp
    all_goals with_reducible rfl
  (try simp only [List.getElem_toArray, List.getElem_cons_zero, List.getElem_cons_succ, Act.put, List.setIfInBounds_toArray, List.set_cons_zero, List.set_cons_succ])
  refine wpAnyH_take (i := 8) (v := ?_) rfl (by kernel_rfl) (by kernel_rfl) (by kernel_rfl) (fun _ _ _ h => h) (Or.inl ⟨by rfl, ?_⟩) (by assumption) ?_
  rotate_left
  · intro wS hSw
    (skip)
    go_simp
    all_goals with_reducible rfl
  (try simp only [List.getElem_toArray, List.getElem_cons_zero, List.getElem_cons_succ, Act.put, List.setIfInBounds_toArray, List.set_cons_zero, List.set_cons_succ])
  refine wpAnyH_take (i := 9) (v := ?_) rfl (by kernel_rfl) (by kernel_rfl) (by kernel_rfl) (fun _ _ _ h => h) (Or.inl ⟨by rfl, ?_⟩) (by assumption) ?_
  rotate_left
  · intro wS hSw
    (skip)
    go_simp
    all_goals with_reducible rfl
  (try simp only [List.getElem_toArray, List.getElem_cons_zero, List.getElem_cons_succ, Act.put, List.setIfInBounds_toArray, List.set_cons_zero, List.set_cons_succ])
  refine wpAnyH_take (i := 10) (v := ?_) rfl (by kernel_rfl) (by kernel_rfl) (by kernel_rfl) (fun _ _ _ h => h) (Or.inl ⟨by rfl, ?_⟩) (by assumption) ?_
  rotate_left
  · intro wS hSw
    (skip)
    go_simp
    all_goals with_reducible rfl
  (try simp only [List.getElem_toArray, List.getElem_cons_zero, List.getElem_cons_succ, Act.put, List.setIfInBounds_toArray, List.set_cons_zero, List.set_cons_succ])
  refine wpAnyH_take (i := 11) (v := ?_) rfl (by kernel_rfl) (by kernel_rfl) (by kernel_rfl) (fun _ _ _ h => h) (Or.inl ⟨by rfl, ?_⟩) (by assumption) ?_
  rotate_left
  · intro wS hSw
    (skip)
    go_simp
    all_goals with_reducible rfl
  (try simp only [List.getElem_toArray, List.getElem_cons_zero, List.getElem_cons_succ, Act.put, List.setIfInBounds_toArray, List.set_cons_zero, List.set_cons_succ])
  refine wpAnyH_done (by kernel_rfl) ?_ _
  go_wp2
  go_ret
  exact ⟨rfl, HE.out⟩
end Go.Proofs.YtoajommeiocfpaaGreat
