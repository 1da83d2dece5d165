/-
  The document's In, Own and Run of programs of registers: contracts. Conditions: those that each names.
-/
import Derived.Test.YtoajommeiocfpaaGreatMirChk
import Derived.Test.YtoajommeiocfpaaGreatMirRegs
import Derived.Test.YtoajommeiocfpaaGreatSecRefRead
import Derived.Test.YtoajommeiocfpaaGreatMirHead
namespace Go.Proofs.YtoajommeiocfpaaGreat
open Go Go.RowKit
set_option linter.unusedSimpArgs false
set_option linter.unusedVariables false

/-- What stands while a program runs in homes. -/
abbrev InS (w W : World) (regs : Int) (A : Option Addr) (n cap g hn : Nat) (r : Nat → BitVec 32) : Prop :=
  Below w.heap.size w W ∧ W.heap[w.heap.size]? = some (mirO regs A n cap) ∧ W.rowIs g 33 hn (regF r) ∧ w.heap.size < g
theorem InS.box {w W : World} {regs : Int} {A : Option Addr} {n cap g hn : Nat} {r : Nat → BitVec 32} (h : InS w W regs A n cap g hn r) (o : Obj) : InS w (W.alloc o) regs A n cap g hn r :=
  ⟨onM h.1 (lboxM W o), keepM h.2.1 (lboxM W o), rowIs_below h.2.2.1 (lboxM W o) h.2.2.1.lt, h.2.2.2⟩
theorem InS.set {w W : World} {regs : Int} {A : Option Addr} {n cap g hn : Nat} {r : Nat → BitVec 32} (h : InS w W regs A n cap g hn r) (i : Nat) (v : BitVec 32) : InS w (W.setCell ⟨g, i, none⟩ (.int .u32 (v.toNat : Int))) regs A n cap g hn (upd r i v) :=
  ⟨h.1.setCell (p := ⟨g, i, none⟩) (Nat.le_of_lt h.2.2.2) _, (Below.heap_setCell W ⟨g, i, none⟩ _ _ (Nat.ne_of_lt h.2.2.2)).trans h.2.1, reg_set h.2.2.1 i v, h.2.2.2⟩
/-- What a program in homes is run over. -/
structure InP (w : World) (nr : Nat) (A : Option Addr) (n : Nat) (q : Nat → Irx) (ha : Option Addr) (h : Nat → Nat) (hn db doff : Nat) (z : Nat → Int) : Prop where
  prog : IrAt w A n q
  right : RightM (nr : Int) q n
  homes : Holds w ha nr fun i => .int .i64 ((h i : Nat) : Int)
  home : ∀ i, i < nr → h i < hn
  many : hn ≤ 1000000
  data : Bytes64 w db doff z

set_option maxHeartbeats 16000000 in
set_option maxRecDepth 100000 in
theorem r_In (w : World) (nr : Nat) (A : Option Addr) (n cap : Nat) (q : Nat → Irx) (ha : Option Addr) (hcap : Nat) (h : Nat → Nat) (hn db doff dcap : Nat) (z : Nat → Int) (hP : InP w nr A n q ha h hn db doff z) :
    Calls Tryz.prog 18 #[mirV (nr : Int) A n cap, .slice ha nr hcap, .int .i64 (hn : Int), .slice (some ⟨db, doff, none⟩) 64 dcap] w fun e w' => e = .returned (endV (atM q n h (wordZ z) 0 zeroR)) ∧ Below w.heap.size w w' := by
  have HP := Lib.hid hP
  have hnn := hP.right.max
  have hn0 := hP.right.pos
  have hmany := hP.many
  obtain ⟨O, hO1, hO2⟩ := make_zeroM 51 33 (.int .u32 0) 4 Tryz.underlying51 info_u32M rfl hn (by omega) (by omega)
  have HO := Lib.hid (show InS w ((w.alloc (mirO (nr : Int) A n cap)).alloc O) nr A n cap (w.alloc (mirO (nr : Int) A n cap)).heap.size hn zeroR from
    ⟨onM (lboxM w _) (lboxM _ _), kept_allocM (World.alloc_heap_new w _) _, hO2 _, by simp⟩)
  have HN := Lib.hid (fun op W => r_Names op W)
  obtain ⟨E, hE⟩ : ∃ E, atM q n h (wordZ z) 0 zeroR = E := ⟨_, rfl⟩
  rw [hE]
  have HE := Lib.hid (show plusM 0 (atM q n h (wordZ z) 0 zeroR) = E from hE)
  clear hP hO2 hE
  go_enter Tryz.func18, Tryz.ntmps18
  go_wp2
  have hsz : (w.alloc (mirO (nr : Int) A n cap)).heap.size = w.heap.size + 1 := by simp
  rw [hsz] at HO
  generalize hg : w.heap.size + 1 = g at HO ⊢
  generalize (w.alloc (.cells #[.int .i64 (nr : Int), .slice A n cap] 28)).alloc O = V0 at HO ⊢
  clear hg hO1 hsz
  go_loopw [13, 14] (fun at_ st wr => ∃ (p s : Nat) (r : Nat → BitVec 32), p < n ∧ s ≤ p ∧ at_ = .int .i64 (p : Int) ∧ st = .int .i64 (s : Int) ∧ InS w wr nr A n cap g hn r ∧ plusM s (atM q n h (wordZ z) p r) = E) (fun at_ _ _ => n - (intOf at_).toNat)
  case atStart => exact ⟨0, 0, zeroR, hn0, Nat.le_refl _, rfl, rfl, HO.out, HE.out⟩
  case round =>
    obtain ⟨p, s, r, hp, hsp, rfl, rfl, hS, hEq⟩ := hrel
    clear HO HE
    have hp' : (p : Int) < (n : Int) := by omega
    have HS := Lib.hid hS
    have hone := HP.out.right.one hp
    obtain ⟨qb, qo, rfl, hl, c0, c1, c2, c3, c4, c5, c6⟩ := ir_at (HP.out.prog.below hS.1) hp
    have hHo := HP.out.homes.below hS.1
    have b0 := cellM hS.2.1 0 rfl
    have b1 := cellM hS.2.1 1 rfl
    have hgl := hS.2.2.1.lt
    have hat : ∀ {e}, stepX (q p) h (wordZ z) p r = .stop e → plusM s e = E := fun {e} he => by rw [← hEq, at_stop hp he]
    have hon : ∀ {p' r'}, stepX (q p) h (wordZ z) p r = .on p' r' → (p < p' ∧ p' < n) ∧ plusM (s + 1) (atM q n h (wordZ z) p' r') = E := fun {p' r'} he => ⟨step_ahead HP.out.right h (wordZ z) hp r he, by rw [← hEq, at_on HP.out.right hp he, plus_more]⟩
    have HAT := Lib.hid (And.intro @hat @hon)
    have HH := Lib.hid hHo
    clear hat hon hEq hHo hS
    generalize q p = x at HAT hone c0 c1 c2 c3 c4 c5 c6
    obtain ⟨op, d, a, b, k, t, f⟩ := x
    have hkl : (k.toNat : Int) < 4294967296 := by have := k.isLt; omega
    have hop := hone.op
    have HX := Lib.hid (HS.out.box (irO ⟨op, d, a, b, k, t, f⟩))
    have HY : Hid (∀ V : World, Below w.heap.size w V → Bytes64 V db doff z) := Lib.hid fun V hV => HP.out.data.below hV HP.out.data.1
    simp only at hop
    have g1 : 0 ≤ nr := Nat.zero_le _
    rcases op_kinds hop with (hk1 | hk1) | (hk1 | hk1) | hk1 | hk1 | hk1 | hk1

    · subst hk1
      obtain ⟨hd0, hd1⟩ := hone.d (by simp [dM] <;> omega)
      simp only at hd0 hd1
      obtain ⟨dn, rfl⟩ : ∃ m : Nat, d = (m : Int) := ⟨d.toNat, by omega⟩
      have hd2 : dn < nr := by omega
      have hhd := HP.out.home dn hd2
      have hhd' : ((h dn : Nat) : Int) < (hn : Int) := by omega
      obtain ⟨hob, hoo, rfl, hol, hoc⟩ := HH.out (by omega)
      have hod := hoc dn hd2
      have hfz : wr.frozen? ⟨g, h dn, none⟩ = false := World.rowIs.frozen HS.out.2.2.1 _
      obtain ⟨v0, hrd⟩ : ∃ v, wr.cell? ⟨g, h dn, none⟩ = some v := ⟨_, World.rowIs.cell HS.out.2.2.1 hhd⟩
      clear hoc
      have HNa := Lib.hid (fun W => HN.out 1 W)
      rw [show dM 1 = true from rfl] at HNa
      rw [show aM 1 = false from rfl] at HNa
      rw [show bM 1 = false from rfl] at HNa
      rw [show tM 1 = false from rfl] at HNa
      rw [show fM 1 = false from rfl] at HNa
      have HST := Lib.hid (tX_const h (wordZ z) p r (dn : Int) a b k t f)
      simp only [Int.toNat_natCast] at HST
      clear hone hop
      go_wp2_with (go_at_call 42; (with_reducible refine (HNa.out _).mono ?_); rintro e w1 ⟨rfl, rfl⟩)
      have hst := HST.out
      have hend := HAT.out.2 hst
      exact ⟨⟨p + 1, s + 1, _, hend.1.2, by omega, by go_num, by go_num, (HS.out.set (h dn) (k)).box _, hend.2⟩, by simp [intOf]; omega⟩
    · subst hk1
      obtain ⟨hd0, hd1⟩ := hone.d (by simp [dM] <;> omega)
      simp only at hd0 hd1
      obtain ⟨dn, rfl⟩ : ∃ m : Nat, d = (m : Int) := ⟨d.toNat, by omega⟩
      have hd2 : dn < nr := by omega
      have hhd := HP.out.home dn hd2
      have hhd' : ((h dn : Nat) : Int) < (hn : Int) := by omega
      obtain ⟨hob, hoo, rfl, hol, hoc⟩ := HH.out (by omega)
      have hod := hoc dn hd2
      have hfz : wr.frozen? ⟨g, h dn, none⟩ = false := World.rowIs.frozen HS.out.2.2.1 _
      obtain ⟨v0, hrd⟩ : ∃ v, wr.cell? ⟨g, h dn, none⟩ = some v := ⟨_, World.rowIs.cell HS.out.2.2.1 hhd⟩
      clear hoc
      have HNa := Lib.hid (fun W => HN.out 3 W)
      rw [show dM 3 = true from rfl] at HNa
      rw [show aM 3 = false from rfl] at HNa
      rw [show bM 3 = false from rfl] at HNa
      rw [show tM 3 = false from rfl] at HNa
      rw [show fM 3 = false from rfl] at HNa
      have hkk := hone.k rfl
      simp only at hkk
      have HST := Lib.hid (tX_load h (wordZ z) p r (dn : Int) a b k t f)
      simp only [Int.toNat_natCast] at HST
      have HW : Hid (∀ V : World, Below w.heap.size w V → Calls Tryz.prog 43 #[.slice (some ⟨db, doff, none⟩) 64 dcap, .int .i64 (k.toNat : Int)] V fun e w' => e = .returned (.tuple #[.int .u32 ((wordZ z k.toNat).toNat : Int), .int .i64 0]) ∧ V = w') := Lib.hid fun V hV => by
        rw [wordZ_nat HP.out.data.2.1]
        exact ref2_Word db doff dcap z k.toNat hkk.1 hkk.2 V (HY.out V hV)
      clear hone hop hkk
      go_wp2_with (first
        | (go_at_call 42; (with_reducible refine (HNa.out _).mono ?_); rintro e w1 ⟨rfl, rfl⟩)
        | (go_at_call 43; (with_reducible refine (HW.out _ HX.out.1).mono ?_); rintro e w1 ⟨rfl, rfl⟩))
      have hst := HST.out
      have hend := HAT.out.2 hst
      exact ⟨⟨p + 1, s + 1, _, hend.1.2, by omega, by go_num, by go_num, (HS.out.set (h dn) (wordZ z k.toNat)).box _, hend.2⟩, by simp [intOf]; omega⟩
    · subst hk1
      obtain ⟨hd0, hd1⟩ := hone.d (by simp [dM] <;> omega)
      simp only at hd0 hd1
      obtain ⟨dn, rfl⟩ : ∃ m : Nat, d = (m : Int) := ⟨d.toNat, by omega⟩
      have hd2 : dn < nr := by omega
      have hhd := HP.out.home dn hd2
      have hhd' : ((h dn : Nat) : Int) < (hn : Int) := by omega
      obtain ⟨ha0, ha1⟩ := hone.a (by simp [aM] <;> omega)
      simp only at ha0 ha1
      obtain ⟨an, rfl⟩ : ∃ m : Nat, a = (m : Int) := ⟨a.toNat, by omega⟩
      have ha2 : an < nr := by omega
      have hha := HP.out.home an ha2
      have hha' : ((h an : Nat) : Int) < (hn : Int) := by omega
      obtain ⟨hob, hoo, rfl, hol, hoc⟩ := HH.out (by omega)
      have hod := hoc dn hd2
      have hoa := hoc an ha2
      have hfz : wr.frozen? ⟨g, h dn, none⟩ = false := World.rowIs.frozen HS.out.2.2.1 _
      obtain ⟨v0, hrd⟩ : ∃ v, wr.cell? ⟨g, h dn, none⟩ = some v := ⟨_, World.rowIs.cell HS.out.2.2.1 hhd⟩
      have hra : wr.cell? ⟨g, h an, none⟩ = some (.int .u32 ((r (h an)).toNat : Int)) := World.rowIs.cell HS.out.2.2.1 hha
      clear hoc
      have HNa := Lib.hid (fun W => HN.out 2 W)
      rw [show dM 2 = true from rfl] at HNa
      rw [show aM 2 = true from rfl] at HNa
      rw [show bM 2 = false from rfl] at HNa
      rw [show tM 2 = false from rfl] at HNa
      rw [show fM 2 = false from rfl] at HNa
      have HST := Lib.hid (tX_move h (wordZ z) p r (dn : Int) (an : Int) b k t f)
      simp only [Int.toNat_natCast] at HST
      clear hone hop
      go_wp2_with (go_at_call 42; (with_reducible refine (HNa.out _).mono ?_); rintro e w1 ⟨rfl, rfl⟩)
      have hst := HST.out
      have hend := HAT.out.2 hst
      exact ⟨⟨p + 1, s + 1, _, hend.1.2, by omega, by go_num, by go_num, (HS.out.set (h dn) (r (h an))).box _, hend.2⟩, by simp [intOf]; omega⟩
    · subst hk1
      obtain ⟨hd0, hd1⟩ := hone.d (by simp [dM] <;> omega)
      simp only at hd0 hd1
      obtain ⟨dn, rfl⟩ : ∃ m : Nat, d = (m : Int) := ⟨d.toNat, by omega⟩
      have hd2 : dn < nr := by omega
      have hhd := HP.out.home dn hd2
      have hhd' : ((h dn : Nat) : Int) < (hn : Int) := by omega
      obtain ⟨ha0, ha1⟩ := hone.a (by simp [aM] <;> omega)
      simp only at ha0 ha1
      obtain ⟨an, rfl⟩ : ∃ m : Nat, a = (m : Int) := ⟨a.toNat, by omega⟩
      have ha2 : an < nr := by omega
      have hha := HP.out.home an ha2
      have hha' : ((h an : Nat) : Int) < (hn : Int) := by omega
      obtain ⟨hob, hoo, rfl, hol, hoc⟩ := HH.out (by omega)
      have hod := hoc dn hd2
      have hoa := hoc an ha2
      have hfz : wr.frozen? ⟨g, h dn, none⟩ = false := World.rowIs.frozen HS.out.2.2.1 _
      obtain ⟨v0, hrd⟩ : ∃ v, wr.cell? ⟨g, h dn, none⟩ = some v := ⟨_, World.rowIs.cell HS.out.2.2.1 hhd⟩
      have hra : wr.cell? ⟨g, h an, none⟩ = some (.int .u32 ((r (h an)).toNat : Int)) := World.rowIs.cell HS.out.2.2.1 hha
      clear hoc
      have HNa := Lib.hid (fun W => HN.out 13 W)
      rw [show dM 13 = true from rfl] at HNa
      rw [show aM 13 = true from rfl] at HNa
      rw [show bM 13 = false from rfl] at HNa
      rw [show tM 13 = false from rfl] at HNa
      rw [show fM 13 = false from rfl] at HNa
      have HST := Lib.hid (tX_neg h (wordZ z) p r (dn : Int) (an : Int) b k t f)
      simp only [Int.toNat_natCast] at HST
      have hng := neg32 (r (h an))
      clear hone hop
      go_wp2_with (go_at_call 42; (with_reducible refine (HNa.out _).mono ?_); rintro e w1 ⟨rfl, rfl⟩)
      have hst := HST.out
      have hend := HAT.out.2 hst
      exact ⟨⟨p + 1, s + 1, _, hend.1.2, by omega, by go_num, by go_num, (HS.out.set (h dn) (-(r (h an)))).box _, hend.2⟩, by simp [intOf]; omega⟩
    · obtain ⟨hd0, hd1⟩ := hone.d (by simp [dM] <;> omega)
      simp only at hd0 hd1
      obtain ⟨dn, rfl⟩ : ∃ m : Nat, d = (m : Int) := ⟨d.toNat, by omega⟩
      have hd2 : dn < nr := by omega
      have hhd := HP.out.home dn hd2
      have hhd' : ((h dn : Nat) : Int) < (hn : Int) := by omega
      obtain ⟨ha0, ha1⟩ := hone.a (by simp [aM] <;> omega)
      simp only at ha0 ha1
      obtain ⟨an, rfl⟩ : ∃ m : Nat, a = (m : Int) := ⟨a.toNat, by omega⟩
      have ha2 : an < nr := by omega
      have hha := HP.out.home an ha2
      have hha' : ((h an : Nat) : Int) < (hn : Int) := by omega
      obtain ⟨hb0, hb1⟩ := hone.b (by simp [bM] <;> omega)
      simp only at hb0 hb1
      obtain ⟨bn, rfl⟩ : ∃ m : Nat, b = (m : Int) := ⟨b.toNat, by omega⟩
      have hb2 : bn < nr := by omega
      have hhb := HP.out.home bn hb2
      have hhb' : ((h bn : Nat) : Int) < (hn : Int) := by omega
      obtain ⟨hob, hoo, rfl, hol, hoc⟩ := HH.out (by omega)
      have hod := hoc dn hd2
      have hoa := hoc an ha2
      have hob := hoc bn hb2
      have hfz : wr.frozen? ⟨g, h dn, none⟩ = false := World.rowIs.frozen HS.out.2.2.1 _
      obtain ⟨v0, hrd⟩ : ∃ v, wr.cell? ⟨g, h dn, none⟩ = some v := ⟨_, World.rowIs.cell HS.out.2.2.1 hhd⟩
      have hra : wr.cell? ⟨g, h an, none⟩ = some (.int .u32 ((r (h an)).toNat : Int)) := World.rowIs.cell HS.out.2.2.1 hha
      have hrb : wr.cell? ⟨g, h bn, none⟩ = some (.int .u32 ((r (h bn)).toNat : Int)) := World.rowIs.cell HS.out.2.2.1 hhb
      clear hoc
      have HNa := Lib.hid (fun W => HN.out op W)
      rw [show dM op = true by simp [dM]; omega] at HNa
      rw [show aM op = true by simp [aM]; omega] at HNa
      rw [show bM op = true by simp [bM]; omega] at HNa
      rw [show tM op = false by simp [tM]; omega] at HNa
      rw [show fM op = false by simp [fM]; omega] at HNa
      have q19 : (op == 19) = false := beq_false_of_ne (by omega)
      have q1 : (op == 1) = false := beq_false_of_ne (by omega)
      have q3 : (op == 3) = false := beq_false_of_ne (by omega)
      have q13 : (op == 13) = false := beq_false_of_ne (by omega)
      have q4 := hk1.1
      have q12 := hk1.2
      by_cases hdv : op = 7 ∧ r (h bn) = 0#32
      · obtain ⟨rfl, h0⟩ := hdv
        have HST := Lib.hid (HAT.out.1 (tX_div0 h (wordZ z) p r (dn : Int) (an : Int) (bn : Int) k t f (by simpa using h0)))
        rw [h0] at hrb
        clear hone hop h0 q19 q1 q3 q13 q4 q12 hk1
        go_wp2_with (go_at_call 42; (with_reducible refine (HNa.out _).mono ?_); rintro e w1 ⟨rfl, rfl⟩)
        (try simp only [Exit.inBlock, Exit.then])
        refine bodyPost_ret (results_tmp4M rfl _ _ _) rfl ?_
        exact ⟨by rw [← HST.out]; unfold plusM; simp, HX.out.1⟩
      · have HST := Lib.hid (tX_two h (wordZ z) p r (dn : Int) (an : Int) (bn : Int) k t f op hk1 (fun e g => hdv ⟨e, by simpa using g⟩))
        simp only [Int.toNat_natCast] at HST
        have HTW := Lib.hid (fun W => r_TwoM ⟨op, dn, an, bn, k, t, f⟩ (wordZ z) (r (h an)) (r (h bn)) hk1 (fun e g => hdv ⟨e, g⟩) W)
        have hdz : ((op == 7) && (((r (h bn)).toNat : Int) == 0)) = false := by
          rw [Bool.and_eq_false_iff]
          by_cases e : op = 7
          · refine .inr (beq_false_of_ne fun g => hdv ⟨e, ?_⟩)
            exact BitVec.eq_of_toNat_eq (by simpa using g)
          · exact .inl (beq_false_of_ne e)
        generalize hval : valM (wordZ z) ⟨op, dn, an, bn, k, t, f⟩ (r (h an)) (r (h bn)) = v at HST HTW
        clear hval hone hop
        by_cases e7 : op = 7
        · subst e7
          have hb0 : (((r (h bn)).toNat : Int) == 0) = false := by simpa using hdz
          clear hdv hdz q19 q1 q3 q13 q4 q12 hk1
          go_wp2_with (first
            | (go_at_call 42; (with_reducible refine (HNa.out _).mono ?_); rintro e w1 ⟨rfl, rfl⟩)
            | (go_at_call 44; (with_reducible refine (HTW.out _).mono ?_); rintro e w1 ⟨rfl, rfl⟩))
          have hst := HST.out
          have hend := HAT.out.2 hst
          exact ⟨⟨p + 1, s + 1, _, hend.1.2, by omega, by go_num, by go_num, (HS.out.set (h dn) (v)).box _, hend.2⟩, by simp [intOf]; omega⟩
        · have q7 : (op == 7) = false := beq_false_of_ne e7
          clear hdv hdz e7
          go_wp2_with (first
            | (go_at_call 42; (with_reducible refine (HNa.out _).mono ?_); rintro e w1 ⟨rfl, rfl⟩)
            | (go_at_call 44; (with_reducible refine (HTW.out _).mono ?_); rintro e w1 ⟨rfl, rfl⟩))
          have hst := HST.out
          have hend := HAT.out.2 hst
          exact ⟨⟨p + 1, s + 1, _, hend.1.2, by omega, by go_num, by go_num, (HS.out.set (h dn) (v)).box _, hend.2⟩, by simp [intOf]; omega⟩
    · subst hk1
      obtain ⟨ht0, ht1⟩ := hone.t (by simp [tM] <;> omega)
      simp only at ht0 ht1
      obtain ⟨tn, rfl⟩ : ∃ m : Nat, t = (m : Int) := ⟨t.toNat, by omega⟩
      have HNa := Lib.hid (fun W => HN.out 14 W)
      rw [show dM 14 = false from rfl] at HNa
      rw [show aM 14 = false from rfl] at HNa
      rw [show bM 14 = false from rfl] at HNa
      rw [show tM 14 = true from rfl] at HNa
      rw [show fM 14 = false from rfl] at HNa
      have HST := Lib.hid (tX_jump h (wordZ z) p r d a b k (tn : Int) f)
      simp only [Int.toNat_natCast] at HST
      clear hone hop
      go_wp2_with (go_at_call 42; (with_reducible refine (HNa.out _).mono ?_); rintro e w1 ⟨rfl, rfl⟩)
      have hend := HAT.out.2 HST.out
      exact ⟨⟨tn, s + 1, _, hend.1.2, by omega, rfl, by go_num, HX.out, hend.2⟩, by simp [intOf]; omega⟩
    · obtain ⟨ha0, ha1⟩ := hone.a (by simp [aM] <;> omega)
      simp only at ha0 ha1
      obtain ⟨an, rfl⟩ : ∃ m : Nat, a = (m : Int) := ⟨a.toNat, by omega⟩
      have ha2 : an < nr := by omega
      have hha := HP.out.home an ha2
      have hha' : ((h an : Nat) : Int) < (hn : Int) := by omega
      obtain ⟨hb0, hb1⟩ := hone.b (by simp [bM] <;> omega)
      simp only at hb0 hb1
      obtain ⟨bn, rfl⟩ : ∃ m : Nat, b = (m : Int) := ⟨b.toNat, by omega⟩
      have hb2 : bn < nr := by omega
      have hhb := HP.out.home bn hb2
      have hhb' : ((h bn : Nat) : Int) < (hn : Int) := by omega
      obtain ⟨hob, hoo, rfl, hol, hoc⟩ := HH.out (by omega)
      have hoa := hoc an ha2
      have hob := hoc bn hb2
      have hra : wr.cell? ⟨g, h an, none⟩ = some (.int .u32 ((r (h an)).toNat : Int)) := World.rowIs.cell HS.out.2.2.1 hha
      have hrb : wr.cell? ⟨g, h bn, none⟩ = some (.int .u32 ((r (h bn)).toNat : Int)) := World.rowIs.cell HS.out.2.2.1 hhb
      clear hoc
      obtain ⟨ht0, ht1⟩ := hone.t (by simp [tM] <;> omega)
      simp only at ht0 ht1
      obtain ⟨tn, rfl⟩ : ∃ m : Nat, t = (m : Int) := ⟨t.toNat, by omega⟩
      obtain ⟨hf0, hf1⟩ := hone.f (by simp [fM] <;> omega)
      simp only at hf0 hf1
      obtain ⟨fn, rfl⟩ : ∃ m : Nat, f = (m : Int) := ⟨f.toNat, by omega⟩
      have HNa := Lib.hid (fun W => HN.out op W)
      rw [show dM op = false by simp [dM]; omega] at HNa
      rw [show aM op = true by simp [aM]; omega] at HNa
      rw [show bM op = true by simp [bM]; omega] at HNa
      rw [show tM op = true by simp [tM]; omega] at HNa
      rw [show fM op = true by simp [fM]; omega] at HNa
      have HST := Lib.hid (tX_if h (wordZ z) p r d (an : Int) (bn : Int) k (tn : Int) (fn : Int) op hk1)
      simp only [Int.toNat_natCast] at HST
      have HSA := Lib.hid (fun W => r_SaysM op (r (h an)) (r (h bn)) hk1 W)
      generalize saysM op (r (h an)) (r (h bn)) = sy at HST HSA
      clear hone hop
      rcases (show op = 15 ∨ op = 16 ∨ op = 17 ∨ op = 18 by omega) with rfl | rfl | rfl | rfl
      all_goals
        clear hk1
        cases sy with
        | true =>
          simp only [if_true] at HST
          go_wp2_with (first
            | (go_at_call 42; (with_reducible refine (HNa.out _).mono ?_); rintro e w1 ⟨rfl, rfl⟩)
            | (go_at_call 45; (with_reducible refine (HSA.out _).mono ?_); rintro e w1 ⟨rfl, rfl⟩))
          have hend := HAT.out.2 HST.out
          exact ⟨⟨tn, s + 1, _, hend.1.2, by omega, rfl, by go_num, HX.out, hend.2⟩, by simp [intOf]; omega⟩
        | false =>
          simp only [Bool.false_eq_true, if_false] at HST
          go_wp2_with (first
            | (go_at_call 42; (with_reducible refine (HNa.out _).mono ?_); rintro e w1 ⟨rfl, rfl⟩)
            | (go_at_call 45; (with_reducible refine (HSA.out _).mono ?_); rintro e w1 ⟨rfl, rfl⟩))
          have hend := HAT.out.2 HST.out
          exact ⟨⟨fn, s + 1, _, hend.1.2, by omega, rfl, by go_num, HX.out, hend.2⟩, by simp [intOf]; omega⟩
    · subst hk1
      obtain ⟨ha0, ha1⟩ := hone.a (by simp [aM] <;> omega)
      simp only at ha0 ha1
      obtain ⟨an, rfl⟩ : ∃ m : Nat, a = (m : Int) := ⟨a.toNat, by omega⟩
      have ha2 : an < nr := by omega
      have hha := HP.out.home an ha2
      have hha' : ((h an : Nat) : Int) < (hn : Int) := by omega
      obtain ⟨hob, hoo, rfl, hol, hoc⟩ := HH.out (by omega)
      have hoa := hoc an ha2
      have hra : wr.cell? ⟨g, h an, none⟩ = some (.int .u32 ((r (h an)).toNat : Int)) := World.rowIs.cell HS.out.2.2.1 hha
      clear hoc
      have HNa := Lib.hid (fun W => HN.out 19 W)
      rw [show dM 19 = false from rfl] at HNa
      rw [show aM 19 = true from rfl] at HNa
      rw [show bM 19 = false from rfl] at HNa
      rw [show tM 19 = false from rfl] at HNa
      rw [show fM 19 = false from rfl] at HNa
      have HST := Lib.hid (HAT.out.1 (tX_ret h (wordZ z) p r d (an : Int) b k t f))
      simp only [Int.toNat_natCast] at HST
      have hs1 : IntKind.i64.wrap ((s : Int) + 1) = (s : Int) + 1 := IntWalk.i64_in _ (by omega)
      clear hone hop
      go_wp2_with (go_at_call 42; (with_reducible refine (HNa.out _).mono ?_); rintro e w1 ⟨rfl, rfl⟩)
      (try simp only [Exit.inBlock, Exit.then])
      refine bodyPost_ret (results_tmp4M rfl _ _ _) rfl ?_
      exact ⟨by rw [← HST.out]; unfold plusM; simp; omega, HX.out.1⟩
end Go.Proofs.YtoajommeiocfpaaGreat
namespace Go.Proofs.YtoajommeiocfpaaGreat
open Go Go.RowKit
set_option linter.unusedSimpArgs false
set_option linter.unusedVariables false

/-- The first numbers. -/
def upL (n : Nat) : List Int := (List.range n).map fun (i : Nat) => (i : Int)
theorem upL_len (n : Nat) : (upL n).length = n := by unfold upL; rw [List.length_map, List.length_range]
theorem upL_succ (n : Nat) : izL (upL (n + 1)) = izL (upL n) ++ [.int .i64 (n : Int)] := by
  unfold izL upL; rw [List.range_succ, List.map_append, List.map_append]; rfl
theorem upL_get {n i : Nat} (h : i < n) : (upL n).getD i 0 = (i : Int) := by
  unfold upL
  rw [List.getD_eq_getElem?_getD, List.getElem?_map, List.getElem?_range h]; rfl
set_option maxHeartbeats 2000000 in
theorem r_Own (n : Nat) (hn : n ≤ 100000) (w : World) : Calls Tryz.prog 19 #[.int .i64 (n : Int)] w fun e w' => ∃ A c, e = .returned (.slice A n c) ∧ w'.ownsRow w.heap.size 3 1 (.slice A n c) n (izL (upL n)) ∧ Below w.heap.size w w' := by
  go_enter Tryz.func19, Tryz.ntmps19
  go_wp2
  go_loopw [3, 4] (fun v i wr => ∃ k : Nat, k ≤ n ∧ i = .int .i64 (k : Int) ∧ wr.ownsRow w.heap.size 3 1 v k (izL (upL k)) ∧ Below w.heap.size w wr) (fun _ i _ => n - (intOf i).toNat)
  case atStart => exact ⟨0, Nat.zero_le _, rfl, World.ownsRow_nil _ _ _ _, Below.refl _ _⟩
  case round =>
    obtain ⟨k, hk, rfl, ho, hb⟩ := hrel
    obtain ⟨A, c, rfl⟩ := own_formM ho
    have HO := Lib.hid ho
    have HB := Lib.hid hb
    clear ho hb
    by_cases hlt : k < n
    · have hlt' : (k : Int) < (n : Int) := by omega
      have HA := Lib.hid (And.intro (own_below HO.out (lboxM wr (.cells #[.int .i64 (k : Int)] 3))) (And.intro (onM HB.out (lboxM wr (.cells #[.int .i64 (k : Int)] 3))) (int_newM wr (.int .i64 (k : Int)) 3)))
      go_wp2_with (at_builtin; refine wpList_append_own _ rfl (.tmp 10) (.tmp 12) 49 rfl 3 (.int .i64 0) 1 8 Tryz.underlying49 info_intM rfl (by decide) w.heap.size (.slice A k c) k (izL (upL k)) rfl HA.out.1 ⟨wr.heap.size, 0, none⟩ 1 1 [.int .i64 (k : Int)] rfl rfl HA.out.2.2 (int_oneM _ _) (by unfold maxLen; omega) (by omega) HA.out.2.1.size ?_; intro v' w' ho' hg' hv'; have HN := Lib.hid (And.intro ho' (below_own HA.out.2.1 HA.out.1 hg' (Nat.le_refl _))); clear ho' hg' hv')
      exact ⟨⟨k + 1, by omega, by go_num, by rw [upL_succ]; exact HN.out.1, HN.out.2⟩, by simp [intOf]; omega⟩
    · obtain rfl : k = n := by omega
      go_wp2
      go_ret
      exact ⟨A, c, rfl, HO.out, HB.out⟩
set_option maxHeartbeats 8000000 in
set_option maxRecDepth 100000 in
theorem r_RunM (regs : Int) (A : Option Addr) (n cap : Nat) (q : Nat → Irx) (da : Option Addr) (dlen dcap : Nat) (z : Nat → Int) (w : World) (h : IrAt w A n q) (hd : DatAt w da dlen z) :
    Calls Tryz.prog 8 #[mirV regs A n cap, .slice da dlen dcap] w (RunMP regs q n dlen z w) := by
  have HF := Lib.hid (FM.first (regs := regs) (cap := cap) h)
  have HD := Lib.hid (hd.below (lboxM w (mirO regs A n cap)))
  have HC := Lib.hid (r_ChkM regs A n cap q _ HF.out.1)
  unfold ChkMP at HC
  unfold RunMP
  clear h hd
  obtain ⟨E, hE⟩ : ∃ E, runR regs q n dlen (wordZ z) = E := ⟨_, rfl⟩
  rw [hE]
  by_cases he : chkE regs q n = 0
  · have HR := Lib.hid (chk_is.1 he)
    have hp0 := chkP_zero HR.out
    rw [he, hp0] at HC
    by_cases hl : dlen = 64
    · subst hl
      have HE := Lib.hid (hE.symm.trans (run_right he))
      clear hE he hp0
      obtain ⟨db, doff, rfl, hdb⟩ := HD.out rfl
      have HDB := Lib.hid hdb
      clear hdb HD
      obtain ⟨nr, hnr, rfl⟩ : ∃ m : Nat, m ≤ 64 ∧ regs = (m : Int) := ⟨regs.toNat, by have := HR.out.rg; omega, by have := HR.out.rg; omega⟩
      go_enter Tryz.func8, Tryz.ntmps8
      go_wp2_with (go_at_call 17; (with_reducible refine HC.out.mono ?_); rintro e X ⟨rfl, hB⟩; have HF2 := Lib.hid (And.intro (HF.out.up hB) (HDB.out.below hB HDB.out.1)); clear hB)
      refine wp_region_held_drew (S := fun W' => Below X.heap.size X W') (by kernel_rfl) (Below.refl X.heap.size X).drew (fun hHeld => ?_)
      have HY := Lib.hid ((Below.refl X.heap.size X).drew)
      generalize X.drew = Y at HY hHeld ⊢
      refine wpAnyH_take (i := 0) (v := ?_) rfl (by kernel_rfl) (by kernel_rfl) (by kernel_rfl) (fun _ _ _ h => h) (Or.inl ⟨by rfl, ?_⟩) (by assumption) ?_
      rotate_left
      · intro wS hSw
        (have i0 := keepM HF2.out.1.2.2 hSw; have a0 := cellM i0 0 rfl; have a1 := cellM i0 1 rfl; clear hSw i0)
        go_simp
        all_goals with_reducible rfl
      (try simp only [List.getElem_toArray, List.getElem_cons_zero, List.getElem_cons_succ, Act.put, List.setIfInBounds_toArray, List.set_cons_zero, List.set_cons_succ])
      refine wpAnyH_take (i := 1) (v := ?_) rfl (by kernel_rfl) (by kernel_rfl) (by kernel_rfl) (fun _ _ _ h => h) (Or.inl ⟨by rfl, ?_⟩) (by assumption) ?_
      rotate_left
      · intro wS hSw
        (have i0 := keepM HF2.out.1.2.2 hSw; have a0 := cellM i0 0 rfl; have a1 := cellM i0 1 rfl; clear hSw i0)
        go_simp
        all_goals with_reducible rfl
      (try simp only [List.getElem_toArray, List.getElem_cons_zero, List.getElem_cons_succ, Act.put, List.setIfInBounds_toArray, List.set_cons_zero, List.set_cons_succ])
      refine wpAnyH_take (i := 2) (v := ?_) rfl (by kernel_rfl) (by kernel_rfl) (by kernel_rfl) (fun _ _ _ h => h) (Or.inl ⟨by rfl, ?_⟩) (by assumption) ?_
      rotate_left
      · intro wS hSw
        (have i0 := keepM HF2.out.1.2.2 hSw; have a0 := cellM i0 0 rfl; have a1 := cellM i0 1 rfl; clear hSw i0)
        go_simp
        all_goals with_reducible rfl
      (try simp only [List.getElem_toArray, List.getElem_cons_zero, List.getElem_cons_succ, Act.put, List.setIfInBounds_toArray, List.set_cons_zero, List.set_cons_succ])
      refine wpAnyH_take (i := 4) (v := ?_) rfl (by kernel_rfl) (by kernel_rfl) (by kernel_rfl) (fun _ _ _ h => h) (Or.inl ⟨by rfl, ?_⟩) (by assumption) ?_
      rotate_left
      · intro wS hSw
        (have i0 := keepM HF2.out.1.2.2 hSw; have a0 := cellM i0 0 rfl; have a1 := cellM i0 1 rfl; clear hSw i0)
        go_simp
        all_goals with_reducible rfl
      (try simp only [List.getElem_toArray, List.getElem_cons_zero, List.getElem_cons_succ, Act.put, List.setIfInBounds_toArray, List.set_cons_zero, List.set_cons_succ])
      refine wpAnyH_take (i := 5) (v := ?_) rfl (by kernel_rfl) (by kernel_rfl) (by kernel_rfl) (fun _ _ _ h => h) (Or.inl ⟨by rfl, ?_⟩) (by assumption) ?_
      rotate_left
      · intro wS hSw
        (have i0 := keepM HF2.out.1.2.2 hSw; have a0 := cellM i0 0 rfl; have a1 := cellM i0 1 rfl; clear hSw i0)
        go_simp
        all_goals with_reducible rfl
      (try simp only [List.getElem_toArray, List.getElem_cons_zero, List.getElem_cons_succ, Act.put, List.setIfInBounds_toArray, List.set_cons_zero, List.set_cons_succ])
      refine wpAnyH_take (i := 6) (v := ?_) rfl (by kernel_rfl) (by kernel_rfl) (by kernel_rfl) (fun _ _ _ h => h) (Or.inl ⟨by rfl, ?_⟩) (by assumption) ?_
      rotate_left
      · intro wS hSw
        (have i0 := keepM HF2.out.1.2.2 hSw; have a0 := cellM i0 0 rfl; have a1 := cellM i0 1 rfl; clear hSw i0)
        go_simp
        all_goals with_reducible rfl
      (try simp only [List.getElem_toArray, List.getElem_cons_zero, List.getElem_cons_succ, Act.put, List.setIfInBounds_toArray, List.set_cons_zero, List.set_cons_succ])
      refine held_one (i := 3) (by kernel_rfl) rfl (fun K hK => ?_)
      go_simp
      go_at_call 19
      refine (r_Own nr (by omega) _).mono ?_
      rintro e w4 ⟨Ah, ch, rfl, ho, hb4⟩
      have hb5 := onM HY.out hb4
      refine hK.out _ _ hb5 (fun hH1 => ?_)
      have HI : Hid (InP w4 nr A n q Ah (fun i => i) nr db doff z ∧ Below X.heap.size X w4) := Lib.hid ⟨⟨HF2.out.1.1.below hb5, HR.out, own_holdsM ho (fun i hi => by rw [izL_get (by rw [upL_len]; exact hi), upL_get hi]), fun i hi => hi, by omega, HF2.out.2.below hb5 HF2.out.2.1⟩, hb5⟩
      clear hK K hHeld ho hb4 hb5
      (try simp only [Act.put, List.setIfInBounds_toArray, List.set_cons_zero, List.set_cons_succ, List.getElem_toArray, List.getElem_cons_zero, List.getElem_cons_succ])
      refine held_one (i := 7) (by kernel_rfl) rfl (fun K hK => ?_)
      go_simp
      go_at_call 18
      refine (r_In w4 nr A n cap q Ah ch (fun i => i) nr db doff dcap z HI.out.1).mono ?_
      rintro e w5 ⟨rfl, hb6⟩
      have hb7 := onM HI.out.2 hb6
      refine hK.out _ _ hb7 (fun hH2 => ?_)
      have HZ := Lib.hid (onM HF2.out.1.2.1 hb7)
      clear hK K hH1 hb6 hb7
      (try simp only [Act.put, List.setIfInBounds_toArray, List.set_cons_zero, List.set_cons_succ, List.getElem_toArray, List.getElem_cons_zero, List.getElem_cons_succ])
      rw [← HE.out]
      refine wpAnyH_take (i := 8) (v := ?_) rfl (by kernel_rfl) (by kernel_rfl) (by kernel_rfl) (fun _ _ _ h => h) (Or.inl ⟨by rfl, ?_⟩) (by assumption) ?_
      rotate_left
      · intro wS hSw
        (skip)
        go_simp
        all_goals with_reducible rfl
      (try simp only [List.getElem_toArray, List.getElem_cons_zero, List.getElem_cons_succ, Act.put, List.setIfInBounds_toArray, List.set_cons_zero, List.set_cons_succ])
      refine wpAnyH_take (i := 9) (v := ?_) rfl (by kernel_rfl) (by kernel_rfl) (by kernel_rfl) (fun _ _ _ h => h) (Or.inl ⟨by rfl, ?_⟩) (by assumption) ?_
      rotate_left
      · intro wS hSw
        (skip)
        go_simp
        all_goals with_reducible rfl
      (try simp only [List.getElem_toArray, List.getElem_cons_zero, List.getElem_cons_succ, Act.put, List.setIfInBounds_toArray, List.set_cons_zero, List.set_cons_succ])
      refine wpAnyH_take (i := 10) (v := ?_) rfl (by kernel_rfl) (by kernel_rfl) (by kernel_rfl) (fun _ _ _ h => h) (Or.inl ⟨by rfl, ?_⟩) (by assumption) ?_
      rotate_left
      · intro wS hSw
        (skip)
        go_simp
        all_goals with_reducible rfl
      (try simp only [List.getElem_toArray, List.getElem_cons_zero, List.getElem_cons_succ, Act.put, List.setIfInBounds_toArray, List.set_cons_zero, List.set_cons_succ])
      refine wpAnyH_take (i := 11) (v := ?_) rfl (by kernel_rfl) (by kernel_rfl) (by kernel_rfl) (fun _ _ _ h => h) (Or.inl ⟨by rfl, ?_⟩) (by assumption) ?_
      rotate_left
      · intro wS hSw
        (skip)
        go_simp
        all_goals with_reducible rfl
      (try simp only [List.getElem_toArray, List.getElem_cons_zero, List.getElem_cons_succ, Act.put, List.setIfInBounds_toArray, List.set_cons_zero, List.set_cons_succ])
      refine wpAnyH_take (i := 12) (v := ?_) rfl (by kernel_rfl) (by kernel_rfl) (by kernel_rfl) (fun _ _ _ h => h) (Or.inl ⟨by rfl, ?_⟩) (by assumption) ?_
      rotate_left
      · intro wS hSw
        (skip)
        go_simp
        all_goals with_reducible rfl
      (try simp only [List.getElem_toArray, List.getElem_cons_zero, List.getElem_cons_succ, Act.put, List.setIfInBounds_toArray, List.set_cons_zero, List.set_cons_succ])
      refine wpAnyH_take (i := 13) (v := ?_) rfl (by kernel_rfl) (by kernel_rfl) (by kernel_rfl) (fun _ _ _ h => h) (Or.inl ⟨by rfl, ?_⟩) (by assumption) ?_
      rotate_left
      · intro wS hSw
        (skip)
        go_simp
        all_goals with_reducible rfl
      (try simp only [List.getElem_toArray, List.getElem_cons_zero, List.getElem_cons_succ, Act.put, List.setIfInBounds_toArray, List.set_cons_zero, List.set_cons_succ])
      refine wpAnyH_take (i := 14) (v := ?_) rfl (by kernel_rfl) (by kernel_rfl) (by kernel_rfl) (fun _ _ _ h => h) (Or.inl ⟨by rfl, ?_⟩) (by assumption) ?_
      rotate_left
      · intro wS hSw
        (skip)
        go_simp
        all_goals with_reducible rfl
      (try simp only [List.getElem_toArray, List.getElem_cons_zero, List.getElem_cons_succ, Act.put, List.setIfInBounds_toArray, List.set_cons_zero, List.set_cons_succ])
      refine wpAnyH_take (i := 15) (v := ?_) rfl (by kernel_rfl) (by kernel_rfl) (by kernel_rfl) (fun _ _ _ h => h) (Or.inl ⟨by rfl, ?_⟩) (by assumption) ?_
      rotate_left
      · intro wS hSw
        (skip)
        go_simp
        all_goals with_reducible rfl
      (try simp only [List.getElem_toArray, List.getElem_cons_zero, List.getElem_cons_succ, Act.put, List.setIfInBounds_toArray, List.set_cons_zero, List.set_cons_succ])
      refine wpAnyH_done (by kernel_rfl) ?_ _
      go_wp2
      (try simp only [Exit.inBlock, Exit.then])
      refine bodyPost_ret (results_tmp4M rfl _ _ _) rfl ?_
      exact ⟨rfl, HZ.out⟩
    · have HE := Lib.hid (hE.symm.trans (run_short he hl))
      have hl' : ¬ (dlen : Int) = 64 := by omega
      have hl2 : ((dlen : Int) != 64) = true := bne_iff_ne.2 hl'
      clear hE he hp0 hl
      go_enter Tryz.func8, Tryz.ntmps8
      go_wp2_with (go_at_call 17; (with_reducible refine HC.out.mono ?_); rintro e w2 ⟨rfl, hB⟩; have HF2 := Lib.hid (HF.out.up hB); clear hB)
      (try simp only [Exit.inBlock, Exit.then])
      refine bodyPost_ret (results_tmp4M rfl _ _ _) rfl ?_
      exact ⟨by rw [HE.out]; rfl, HF2.out.2.1⟩
  · have HE := Lib.hid (hE.symm.trans (run_wrong he))
    have he' : (chkE regs q n != 0) = true := bne_iff_ne.2 he
    clear hE
    generalize chkE regs q n = ee at HC HE he he'
    generalize chkP regs q n = pp at HC HE
    go_enter Tryz.func8, Tryz.ntmps8
    go_wp2_with (go_at_call 17; (with_reducible refine HC.out.mono ?_); rintro e w2 ⟨rfl, hB⟩; have HF2 := Lib.hid (HF.out.up hB); clear hB)
    (try simp only [Exit.inBlock, Exit.then])
    refine bodyPost_ret (results_tmp4M rfl _ _ _) rfl ?_
    exact ⟨by rw [HE.out]; rfl, HF2.out.2.1⟩
end Go.Proofs.YtoajommeiocfpaaGreat
