/-
  What the document's In and Run of programs of registers answer: contracts. Conditions: those that each names.
-/
import Derived.Test.YtoajommeiocfpaaDoorMirChk
import Derived.Test.YtoajommeiocfpaaDoorMirRegs
import Derived.Test.YtoajommeiocfpaaDoorSecRefRead
namespace Go.Proofs.YtoajommeiocfpaaDoor
open Go Go.RowKit
set_option linter.unusedSimpArgs false
set_option linter.unusedVariables false

/-- What stands while a program runs in homes. -/
abbrev InS (w W : World) (regs : Int) (A : Option Addr) (n cap g hn : Nat) (r : Nat → BitVec 32) : Prop :=
  Below w.heap.size w W ∧ W.heap[w.heap.size]? = some (mirO regs A n cap) ∧ W.rowIs g 48 hn (regF r) ∧ w.heap.size < g
theorem InS.box {w W : World} {regs : Int} {A : Option Addr} {n cap g hn : Nat} {r : Nat → BitVec 32} (h : InS w W regs A n cap g hn r) (o : Obj) : InS w (W.alloc o) regs A n cap g hn r :=
  ⟨onM h.1 (lboxM W o), keepM h.2.1 (lboxM W o), rowIs_below h.2.2.1 (lboxM W o) h.2.2.1.lt, h.2.2.2⟩
theorem InS.set {w W : World} {regs : Int} {A : Option Addr} {n cap g hn : Nat} {r : Nat → BitVec 32} (h : InS w W regs A n cap g hn r) (i : Nat) (v : BitVec 32) : InS w (W.setCell ⟨g, i, none⟩ (.int .u32 (v.toNat : Int))) regs A n cap g hn (upd r i v) :=
  ⟨h.1.setCell (p := ⟨g, i, none⟩) (Nat.le_of_lt h.2.2.2) _, (Below.heap_setCell W ⟨g, i, none⟩ _ _ (Nat.ne_of_lt h.2.2.2)).trans h.2.1, reg_set h.2.2.1 i v, h.2.2.2⟩
/-- What a program in homes is run over. -/
structure InP (w : World) (nr : Nat) (A : Option Addr) (n : Nat) (q : Nat → Irx) (ha : Option Addr) (h : Nat → Nat) (hn db doff : Nat) (z : Nat → Int) : Prop where
  prog : IrAt w A n q
  right : RightM (nr : Int) q n
  homes : Holds w ha nr fun i => .int .i64 ((h i : Nat) : Int)
  home : ∀ i, i < nr → h i < hn
  many : hn ≤ 1000000
  data : Bytes64 w db doff z

set_option maxHeartbeats 16000000 in
set_option maxRecDepth 100000 in
theorem r_In (w : World) (nr : Nat) (A : Option Addr) (n cap : Nat) (q : Nat → Irx) (ha : Option Addr) (hcap : Nat) (h : Nat → Nat) (hn db doff dcap : Nat) (z : Nat → Int) (hP : InP w nr A n q ha h hn db doff z) :
    Calls Tryd.prog 34 #[mirV (nr : Int) A n cap, .slice ha nr hcap, .int .i64 (hn : Int), .slice (some ⟨db, doff, none⟩) 64 dcap] w fun e w' => e = .returned (endV (atM q n h (wordZ z) 0 zeroR)) ∧ Below w.heap.size w w' := by
  have HP := Lib.hid hP
  have hnn := hP.right.max
  have hn0 := hP.right.pos
  have hmany := hP.many
  obtain ⟨O, hO1, hO2⟩ := make_zeroM 74 48 (.int .u32 0) 4 Tryd.underlying74 info_u32M rfl hn (by omega) (by omega)
  have HO := Lib.hid (show InS w ((w.alloc (mirO (nr : Int) A n cap)).alloc O) nr A n cap (w.alloc (mirO (nr : Int) A n cap)).heap.size hn zeroR from
    ⟨onM (lboxM w _) (lboxM _ _), kept_allocM (World.alloc_heap_new w _) _, hO2 _, by simp⟩)
  have HN := Lib.hid (fun op W => r_Names op W)
  obtain ⟨E, hE⟩ : ∃ E, atM q n h (wordZ z) 0 zeroR = E := ⟨_, rfl⟩
  rw [hE]
  have HE := Lib.hid (show plusM 0 (atM q n h (wordZ z) 0 zeroR) = E from hE)
  clear hP hO2 hE
  go_enter Tryd.func34, Tryd.ntmps34
  go_wp2
  have hsz : (w.alloc (mirO (nr : Int) A n cap)).heap.size = w.heap.size + 1 := by simp
  rw [hsz] at HO
  generalize hg : w.heap.size + 1 = g at HO ⊢
  generalize (w.alloc (.cells #[.int .i64 (nr : Int), .slice A n cap] 24)).alloc O = V0 at HO ⊢
  clear hg hO1 hsz
  go_loopw [13, 14] (fun at_ st wr => ∃ (p s : Nat) (r : Nat → BitVec 32), p < n ∧ s ≤ p ∧ at_ = .int .i64 (p : Int) ∧ st = .int .i64 (s : Int) ∧ InS w wr nr A n cap g hn r ∧ plusM s (atM q n h (wordZ z) p r) = E) (fun at_ _ _ => n - (intOf at_).toNat)
  case atStart => exact ⟨0, 0, zeroR, hn0, Nat.le_refl _, rfl, rfl, HO.out, HE.out⟩
  case round =>
    obtain ⟨p, s, r, hp, hsp, rfl, rfl, hS, hEq⟩ := hrel
    clear HO HE
    have hp' : (p : Int) < (n : Int) := by omega
    have HS := Lib.hid hS
    have hone := HP.out.right.one hp
    obtain ⟨qb, qo, rfl, hl, c0, c1, c2, c3, c4, c5, c6⟩ := ir_at (HP.out.prog.below hS.1) hp
    have hHo := HP.out.homes.below hS.1
    have b0 := cellM hS.2.1 0 rfl
    have b1 := cellM hS.2.1 1 rfl
    have hgl := hS.2.2.1.lt
    have hat : ∀ {e}, stepX (q p) h (wordZ z) p r = .stop e → plusM s e = E := fun {e} he => by rw [← hEq, at_stop hp he]
    have hon : ∀ {p' r'}, stepX (q p) h (wordZ z) p r = .on p' r' → (p < p' ∧ p' < n) ∧ plusM (s + 1) (atM q n h (wordZ z) p' r') = E := fun {p' r'} he => ⟨step_ahead HP.out.right h (wordZ z) hp r he, by rw [← hEq, at_on HP.out.right hp he, plus_more]⟩
    have HAT := Lib.hid (And.intro @hat @hon)
    have HH := Lib.hid hHo
    clear hat hon hEq hHo hS
    generalize q p = x at HAT hone c0 c1 c2 c3 c4 c5 c6
    obtain ⟨op, d, a, b, k, t, f⟩ := x
    have hkl : (k.toNat : Int) < 4294967296 := by have := k.isLt; omega
    have hop := hone.op
    have HX := Lib.hid (HS.out.box (irO ⟨op, d, a, b, k, t, f⟩))
    have HY : Hid (∀ V : World, Below w.heap.size w V → Bytes64 V db doff z) := Lib.hid fun V hV => HP.out.data.below hV HP.out.data.1
    simp only at hop
    have g1 : 0 ≤ nr := Nat.zero_le _
    rcases op_kinds hop with (hk1 | hk1) | (hk1 | hk1) | hk1 | hk1 | hk1 | hk1

    · subst hk1
      obtain ⟨hd0, hd1⟩ := hone.d (by simp [dM] <;> omega)
      simp only at hd0 hd1
      obtain ⟨dn, rfl⟩ : ∃ m : Nat, d = (m : Int) := ⟨d.toNat, by omega⟩
      have hd2 : dn < nr := by omega
      have hhd := HP.out.home dn hd2
      have hhd' : ((h dn : Nat) : Int) < (hn : Int) := by omega
      obtain ⟨hob, hoo, rfl, hol, hoc⟩ := HH.out (by omega)
      have hod := hoc dn hd2
      have hfz : wr.frozen? ⟨g, h dn, none⟩ = false := World.rowIs.frozen HS.out.2.2.1 _
      obtain ⟨v0, hrd⟩ : ∃ v, wr.cell? ⟨g, h dn, none⟩ = some v := ⟨_, World.rowIs.cell HS.out.2.2.1 hhd⟩
      clear hoc
      have HNa := Lib.hid (fun W => HN.out 1 W)
      rw [show dM 1 = true from rfl] at HNa
      rw [show aM 1 = false from rfl] at HNa
      rw [show bM 1 = false from rfl] at HNa
      rw [show tM 1 = false from rfl] at HNa
      rw [show fM 1 = false from rfl] at HNa
      have HST := Lib.hid (tX_const h (wordZ z) p r (dn : Int) a b k t f)
      simp only [Int.toNat_natCast] at HST
      clear hone hop
      go_wp2_with (go_at_call 30; (with_reducible refine (HNa.out _).mono ?_); rintro e w1 ⟨rfl, rfl⟩)
      have hst := HST.out
      have hend := HAT.out.2 hst
      exact ⟨⟨p + 1, s + 1, _, hend.1.2, by omega, by go_num, by go_num, (HS.out.set (h dn) (k)).box _, hend.2⟩, by simp [intOf]; omega⟩
    · subst hk1
      obtain ⟨hd0, hd1⟩ := hone.d (by simp [dM] <;> omega)
      simp only at hd0 hd1
      obtain ⟨dn, rfl⟩ : ∃ m : Nat, d = (m : Int) := ⟨d.toNat, by omega⟩
      have hd2 : dn < nr := by omega
      have hhd := HP.out.home dn hd2
      have hhd' : ((h dn : Nat) : Int) < (hn : Int) := by omega
      obtain ⟨hob, hoo, rfl, hol, hoc⟩ := HH.out (by omega)
      have hod := hoc dn hd2
      have hfz : wr.frozen? ⟨g, h dn, none⟩ = false := World.rowIs.frozen HS.out.2.2.1 _
      obtain ⟨v0, hrd⟩ : ∃ v, wr.cell? ⟨g, h dn, none⟩ = some v := ⟨_, World.rowIs.cell HS.out.2.2.1 hhd⟩
      clear hoc
      have HNa := Lib.hid (fun W => HN.out 3 W)
      rw [show dM 3 = true from rfl] at HNa
      rw [show aM 3 = false from rfl] at HNa
      rw [show bM 3 = false from rfl] at HNa
      rw [show tM 3 = false from rfl] at HNa
      rw [show fM 3 = false from rfl] at HNa
      have hkk := hone.k rfl
      simp only at hkk
      have HST := Lib.hid (tX_load h (wordZ z) p r (dn : Int) a b k t f)
      simp only [Int.toNat_natCast] at HST
      have HW : Hid (∀ V : World, Below w.heap.size w V → Calls Tryd.prog 31 #[.slice (some ⟨db, doff, none⟩) 64 dcap, .int .i64 (k.toNat : Int)] V fun e w' => e = .returned (.tuple #[.int .u32 ((wordZ z k.toNat).toNat : Int), .int .i64 0]) ∧ V = w') := Lib.hid fun V hV => by
        rw [wordZ_nat HP.out.data.2.1]
        exact ref2_Word db doff dcap z k.toNat hkk.1 hkk.2 V (HY.out V hV)
      clear hone hop hkk
      go_wp2_with (first
        | (go_at_call 30; (with_reducible refine (HNa.out _).mono ?_); rintro e w1 ⟨rfl, rfl⟩)
        | (go_at_call 31; (with_reducible refine (HW.out _ HX.out.1).mono ?_); rintro e w1 ⟨rfl, rfl⟩))
      have hst := HST.out
      have hend := HAT.out.2 hst
      exact ⟨⟨p + 1, s + 1, _, hend.1.2, by omega, by go_num, by go_num, (HS.out.set (h dn) (wordZ z k.toNat)).box _, hend.2⟩, by simp [intOf]; omega⟩
    · subst hk1
      obtain ⟨hd0, hd1⟩ := hone.d (by simp [dM] <;> omega)
      simp only at hd0 hd1
      obtain ⟨dn, rfl⟩ : ∃ m : Nat, d = (m : Int) := ⟨d.toNat, by omega⟩
      have hd2 : dn < nr := by omega
      have hhd := HP.out.home dn hd2
      have hhd' : ((h dn : Nat) : Int) < (hn : Int) := by omega
      obtain ⟨ha0, ha1⟩ := hone.a (by simp [aM] <;> omega)
      simp only at ha0 ha1
      obtain ⟨an, rfl⟩ : ∃ m : Nat, a = (m : Int) := ⟨a.toNat, by omega⟩
      have ha2 : an < nr := by omega
      have hha := HP.out.home an ha2
      have hha' : ((h an : Nat) : Int) < (hn : Int) := by omega
      obtain ⟨hob, hoo, rfl, hol, hoc⟩ := HH.out (by omega)
      have hod := hoc dn hd2
      have hoa := hoc an ha2
      have hfz : wr.frozen? ⟨g, h dn, none⟩ = false := World.rowIs.frozen HS.out.2.2.1 _
      obtain ⟨v0, hrd⟩ : ∃ v, wr.cell? ⟨g, h dn, none⟩ = some v := ⟨_, World.rowIs.cell HS.out.2.2.1 hhd⟩
      have hra : wr.cell? ⟨g, h an, none⟩ = some (.int .u32 ((r (h an)).toNat : Int)) := World.rowIs.cell HS.out.2.2.1 hha
      clear hoc
      have HNa := Lib.hid (fun W => HN.out 2 W)
      rw [show dM 2 = true from rfl] at HNa
      rw [show aM 2 = true from rfl] at HNa
      rw [show bM 2 = false from rfl] at HNa
      rw [show tM 2 = false from rfl] at HNa
      rw [show fM 2 = false from rfl] at HNa
      have HST := Lib.hid (tX_move h (wordZ z) p r (dn : Int) (an : Int) b k t f)
      simp only [Int.toNat_natCast] at HST
      clear hone hop
      go_wp2_with (go_at_call 30; (with_reducible refine (HNa.out _).mono ?_); rintro e w1 ⟨rfl, rfl⟩)
      have hst := HST.out
      have hend := HAT.out.2 hst
      exact ⟨⟨p + 1, s + 1, _, hend.1.2, by omega, by go_num, by go_num, (HS.out.set (h dn) (r (h an))).box _, hend.2⟩, by simp [intOf]; omega⟩
    · subst hk1
      obtain ⟨hd0, hd1⟩ := hone.d (by simp [dM] <;> omega)
      simp only at hd0 hd1
      obtain ⟨dn, rfl⟩ : ∃ m : Nat, d = (m : Int) := ⟨d.toNat, by omega⟩
      have hd2 : dn < nr := by omega
      have hhd := HP.out.home dn hd2
      have hhd' : ((h dn : Nat) : Int) < (hn : Int) := by omega
      obtain ⟨ha0, ha1⟩ := hone.a (by simp [aM] <;> omega)
      simp only at ha0 ha1
      obtain ⟨an, rfl⟩ : ∃ m : Nat, a = (m : Int) := ⟨a.toNat, by omega⟩
      have ha2 : an < nr := by omega
      have hha := HP.out.home an ha2
      have hha' : ((h an : Nat) : Int) < (hn : Int) := by omega
      obtain ⟨hob, hoo, rfl, hol, hoc⟩ := HH.out (by omega)
      have hod := hoc dn hd2
      have hoa := hoc an ha2
      have hfz : wr.frozen? ⟨g, h dn, none⟩ = false := World.rowIs.frozen HS.out.2.2.1 _
      obtain ⟨v0, hrd⟩ : ∃ v, wr.cell? ⟨g, h dn, none⟩ = some v := ⟨_, World.rowIs.cell HS.out.2.2.1 hhd⟩
      have hra : wr.cell? ⟨g, h an, none⟩ = some (.int .u32 ((r (h an)).toNat : Int)) := World.rowIs.cell HS.out.2.2.1 hha
      clear hoc
      have HNa := Lib.hid (fun W => HN.out 13 W)
      rw [show dM 13 = true from rfl] at HNa
      rw [show aM 13 = true from rfl] at HNa
      rw [show bM 13 = false from rfl] at HNa
      rw [show tM 13 = false from rfl] at HNa
      rw [show fM 13 = false from rfl] at HNa
      have HST := Lib.hid (tX_neg h (wordZ z) p r (dn : Int) (an : Int) b k t f)
      simp only [Int.toNat_natCast] at HST
      have hng := neg32 (r (h an))
      clear hone hop
      go_wp2_with (go_at_call 30; (with_reducible refine (HNa.out _).mono ?_); rintro e w1 ⟨rfl, rfl⟩)
      have hst := HST.out
      have hend := HAT.out.2 hst
      exact ⟨⟨p + 1, s + 1, _, hend.1.2, by omega, by go_num, by go_num, (HS.out.set (h dn) (-(r (h an)))).box _, hend.2⟩, by simp [intOf]; omega⟩
    · obtain ⟨hd0, hd1⟩ := hone.d (by simp [dM] <;> omega)
      simp only at hd0 hd1
      obtain ⟨dn, rfl⟩ : ∃ m : Nat, d = (m : Int) := ⟨d.toNat, by omega⟩
      have hd2 : dn < nr := by omega
      have hhd := HP.out.home dn hd2
      have hhd' : ((h dn : Nat) : Int) < (hn : Int) := by omega
      obtain ⟨ha0, ha1⟩ := hone.a (by simp [aM] <;> omega)
      simp only at ha0 ha1
      obtain ⟨an, rfl⟩ : ∃ m : Nat, a = (m : Int) := ⟨a.toNat, by omega⟩
      have ha2 : an < nr := by omega
      have hha := HP.out.home an ha2
      have hha' : ((h an : Nat) : Int) < (hn : Int) := by omega
      obtain ⟨hb0, hb1⟩ := hone.b (by simp [bM] <;> omega)
      simp only at hb0 hb1
      obtain ⟨bn, rfl⟩ : ∃ m : Nat, b = (m : Int) := ⟨b.toNat, by omega⟩
      have hb2 : bn < nr := by omega
      have hhb := HP.out.home bn hb2
      have hhb' : ((h bn : Nat) : Int) < (hn : Int) := by omega
      obtain ⟨hob, hoo, rfl, hol, hoc⟩ := HH.out (by omega)
      have hod := hoc dn hd2
      have hoa := hoc an ha2
      have hob := hoc bn hb2
      have hfz : wr.frozen? ⟨g, h dn, none⟩ = false := World.rowIs.frozen HS.out.2.2.1 _
      obtain ⟨v0, hrd⟩ : ∃ v, wr.cell? ⟨g, h dn, none⟩ = some v := ⟨_, World.rowIs.cell HS.out.2.2.1 hhd⟩
      have hra : wr.cell? ⟨g, h an, none⟩ = some (.int .u32 ((r (h an)).toNat : Int)) := World.rowIs.cell HS.out.2.2.1 hha
      have hrb : wr.cell? ⟨g, h bn, none⟩ = some (.int .u32 ((r (h bn)).toNat : Int)) := World.rowIs.cell HS.out.2.2.1 hhb
      clear hoc
      have HNa := Lib.hid (fun W => HN.out op W)
      rw [show dM op = true by simp [dM]; omega] at HNa
      rw [show aM op = true by simp [aM]; omega] at HNa
      rw [show bM op = true by simp [bM]; omega] at HNa
      rw [show tM op = false by simp [tM]; omega] at HNa
      rw [show fM op = false by simp [fM]; omega] at HNa
      have q19 : (op == 19) = false := beq_false_of_ne (by omega)
      have q1 : (op == 1) = false := beq_false_of_ne (by omega)
      have q3 : (op == 3) = false := beq_false_of_ne (by omega)
      have q13 : (op == 13) = false := beq_false_of_ne (by omega)
      have q4 := hk1.1
      have q12 := hk1.2
      by_cases hdv : op = 7 ∧ r (h bn) = 0#32
      · obtain ⟨rfl, h0⟩ := hdv
        have HST := Lib.hid (HAT.out.1 (tX_div0 h (wordZ z) p r (dn : Int) (an : Int) (bn : Int) k t f (by simpa using h0)))
        rw [h0] at hrb
        clear hone hop h0 q19 q1 q3 q13 q4 q12 hk1
        go_wp2_with (go_at_call 30; (with_reducible refine (HNa.out _).mono ?_); rintro e w1 ⟨rfl, rfl⟩)
        (try simp only [Exit.inBlock, Exit.then])
        refine bodyPost_ret (results_tmp4M rfl _ _ _) rfl ?_
        exact ⟨by rw [← HST.out]; unfold plusM; simp, HX.out.1⟩
      · have HST := Lib.hid (tX_two h (wordZ z) p r (dn : Int) (an : Int) (bn : Int) k t f op hk1 (fun e g => hdv ⟨e, by simpa using g⟩))
        simp only [Int.toNat_natCast] at HST
        have HTW := Lib.hid (fun W => r_TwoM ⟨op, dn, an, bn, k, t, f⟩ (wordZ z) (r (h an)) (r (h bn)) hk1 (fun e g => hdv ⟨e, g⟩) W)
        have hdz : ((op == 7) && (((r (h bn)).toNat : Int) == 0)) = false := by
          rw [Bool.and_eq_false_iff]
          by_cases e : op = 7
          · refine .inr (beq_false_of_ne fun g => hdv ⟨e, ?_⟩)
            exact BitVec.eq_of_toNat_eq (by simpa using g)
          · exact .inl (beq_false_of_ne e)
        generalize hval : valM (wordZ z) ⟨op, dn, an, bn, k, t, f⟩ (r (h an)) (r (h bn)) = v at HST HTW
        clear hval hone hop
        by_cases e7 : op = 7
        · subst e7
          have hb0 : (((r (h bn)).toNat : Int) == 0) = false := by simpa using hdz
          clear hdv hdz q19 q1 q3 q13 q4 q12 hk1
          go_wp2_with (first
            | (go_at_call 30; (with_reducible refine (HNa.out _).mono ?_); rintro e w1 ⟨rfl, rfl⟩)
            | (go_at_call 32; (with_reducible refine (HTW.out _).mono ?_); rintro e w1 ⟨rfl, rfl⟩))
          have hst := HST.out
          have hend := HAT.out.2 hst
          exact ⟨⟨p + 1, s + 1, _, hend.1.2, by omega, by go_num, by go_num, (HS.out.set (h dn) (v)).box _, hend.2⟩, by simp [intOf]; omega⟩
        · have q7 : (op == 7) = false := beq_false_of_ne e7
          clear hdv hdz e7
          go_wp2_with (first
            | (go_at_call 30; (with_reducible refine (HNa.out _).mono ?_); rintro e w1 ⟨rfl, rfl⟩)
            | (go_at_call 32; (with_reducible refine (HTW.out _).mono ?_); rintro e w1 ⟨rfl, rfl⟩))
          have hst := HST.out
          have hend := HAT.out.2 hst
          exact ⟨⟨p + 1, s + 1, _, hend.1.2, by omega, by go_num, by go_num, (HS.out.set (h dn) (v)).box _, hend.2⟩, by simp [intOf]; omega⟩
    · subst hk1
      obtain ⟨ht0, ht1⟩ := hone.t (by simp [tM] <;> omega)
      simp only at ht0 ht1
      obtain ⟨tn, rfl⟩ : ∃ m : Nat, t = (m : Int) := ⟨t.toNat, by omega⟩
      have HNa := Lib.hid (fun W => HN.out 14 W)
      rw [show dM 14 = false from rfl] at HNa
      rw [show aM 14 = false from rfl] at HNa
      rw [show bM 14 = false from rfl] at HNa
      rw [show tM 14 = true from rfl] at HNa
      rw [show fM 14 = false from rfl] at HNa
      have HST := Lib.hid (tX_jump h (wordZ z) p r d a b k (tn : Int) f)
      simp only [Int.toNat_natCast] at HST
      clear hone hop
      go_wp2_with (go_at_call 30; (with_reducible refine (HNa.out _).mono ?_); rintro e w1 ⟨rfl, rfl⟩)
      have hend := HAT.out.2 HST.out
      exact ⟨⟨tn, s + 1, _, hend.1.2, by omega, rfl, by go_num, HX.out, hend.2⟩, by simp [intOf]; omega⟩
    · obtain ⟨ha0, ha1⟩ := hone.a (by simp [aM] <;> omega)
      simp only at ha0 ha1
      obtain ⟨an, rfl⟩ : ∃ m : Nat, a = (m : Int) := ⟨a.toNat, by omega⟩
      have ha2 : an < nr := by omega
      have hha := HP.out.home an ha2
      have hha' : ((h an : Nat) : Int) < (hn : Int) := by omega
      obtain ⟨hb0, hb1⟩ := hone.b (by simp [bM] <;> omega)
      simp only at hb0 hb1
      obtain ⟨bn, rfl⟩ : ∃ m : Nat, b = (m : Int) := ⟨b.toNat, by omega⟩
      have hb2 : bn < nr := by omega
      have hhb := HP.out.home bn hb2
      have hhb' : ((h bn : Nat) : Int) < (hn : Int) := by omega
      obtain ⟨hob, hoo, rfl, hol, hoc⟩ := HH.out (by omega)
      have hoa := hoc an ha2
      have hob := hoc bn hb2
      have hra : wr.cell? ⟨g, h an, none⟩ = some (.int .u32 ((r (h an)).toNat : Int)) := World.rowIs.cell HS.out.2.2.1 hha
      have hrb : wr.cell? ⟨g, h bn, none⟩ = some (.int .u32 ((r (h bn)).toNat : Int)) := World.rowIs.cell HS.out.2.2.1 hhb
      clear hoc
      obtain ⟨ht0, ht1⟩ := hone.t (by simp [tM] <;> omega)
      simp only at ht0 ht1
      obtain ⟨tn, rfl⟩ : ∃ m : Nat, t = (m : Int) := ⟨t.toNat, by omega⟩
      obtain ⟨hf0, hf1⟩ := hone.f (by simp [fM] <;> omega)
      simp only at hf0 hf1
      obtain ⟨fn, rfl⟩ : ∃ m : Nat, f = (m : Int) := ⟨f.toNat, by omega⟩
      have HNa := Lib.hid (fun W => HN.out op W)
      rw [show dM op = false by simp [dM]; omega] at HNa
      rw [show aM op = true by simp [aM]; omega] at HNa
      rw [show bM op = true by simp [bM]; omega] at HNa
      rw [show tM op = true by simp [tM]; omega] at HNa
      rw [show fM op = true by simp [fM]; omega] at HNa
      have HST := Lib.hid (tX_if h (wordZ z) p r d (an : Int) (bn : Int) k (tn : Int) (fn : Int) op hk1)
      simp only [Int.toNat_natCast] at HST
      have HSA := Lib.hid (fun W => r_SaysM op (r (h an)) (r (h bn)) hk1 W)
      generalize saysM op (r (h an)) (r (h bn)) = sy at HST HSA
      clear hone hop
      rcases (show op = 15 ∨ op = 16 ∨ op = 17 ∨ op = 18 by omega) with rfl | rfl | rfl | rfl
      all_goals
        clear hk1
        cases sy with
        | true =>
          simp only [if_true] at HST
          go_wp2_with (first
            | (go_at_call 30; (with_reducible refine (HNa.out _).mono ?_); rintro e w1 ⟨rfl, rfl⟩)
            | (go_at_call 33; (with_reducible refine (HSA.out _).mono ?_); rintro e w1 ⟨rfl, rfl⟩))
          have hend := HAT.out.2 HST.out
          exact ⟨⟨tn, s + 1, _, hend.1.2, by omega, rfl, by go_num, HX.out, hend.2⟩, by simp [intOf]; omega⟩
        | false =>
          simp only [Bool.false_eq_true, if_false] at HST
          go_wp2_with (first
            | (go_at_call 30; (with_reducible refine (HNa.out _).mono ?_); rintro e w1 ⟨rfl, rfl⟩)
            | (go_at_call 33; (with_reducible refine (HSA.out _).mono ?_); rintro e w1 ⟨rfl, rfl⟩))
          have hend := HAT.out.2 HST.out
          exact ⟨⟨fn, s + 1, _, hend.1.2, by omega, rfl, by go_num, HX.out, hend.2⟩, by simp [intOf]; omega⟩
    · subst hk1
      obtain ⟨ha0, ha1⟩ := hone.a (by simp [aM] <;> omega)
      simp only at ha0 ha1
      obtain ⟨an, rfl⟩ : ∃ m : Nat, a = (m : Int) := ⟨a.toNat, by omega⟩
      have ha2 : an < nr := by omega
      have hha := HP.out.home an ha2
      have hha' : ((h an : Nat) : Int) < (hn : Int) := by omega
      obtain ⟨hob, hoo, rfl, hol, hoc⟩ := HH.out (by omega)
      have hoa := hoc an ha2
      have hra : wr.cell? ⟨g, h an, none⟩ = some (.int .u32 ((r (h an)).toNat : Int)) := World.rowIs.cell HS.out.2.2.1 hha
      clear hoc
      have HNa := Lib.hid (fun W => HN.out 19 W)
      rw [show dM 19 = false from rfl] at HNa
      rw [show aM 19 = true from rfl] at HNa
      rw [show bM 19 = false from rfl] at HNa
      rw [show tM 19 = false from rfl] at HNa
      rw [show fM 19 = false from rfl] at HNa
      have HST := Lib.hid (HAT.out.1 (tX_ret h (wordZ z) p r d (an : Int) b k t f))
      simp only [Int.toNat_natCast] at HST
      have hs1 : IntKind.i64.wrap ((s : Int) + 1) = (s : Int) + 1 := IntWalk.i64_in _ (by omega)
      clear hone hop
      go_wp2_with (go_at_call 30; (with_reducible refine (HNa.out _).mono ?_); rintro e w1 ⟨rfl, rfl⟩)
      (try simp only [Exit.inBlock, Exit.then])
      refine bodyPost_ret (results_tmp4M rfl _ _ _) rfl ?_
      exact ⟨by rw [← HST.out]; unfold plusM; simp; omega, HX.out.1⟩
end Go.Proofs.YtoajommeiocfpaaDoor
