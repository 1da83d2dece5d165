/-
  A run in which whatever nobody asks for is turned, as the law makes it: a contract. Conditions: those that it names.
-/
import Derived.Test.YtoajommeiocfpaaDoorLiveSpl
import Derived.Test.YtoajommeiocfpaaDoorLiveOut
import Derived.Test.YtoajommeiocfpaaDoorMirRun
namespace Go.Proofs.YtoajommeiocfpaaDoor
open Go Go.RowKit
set_option linter.unusedSimpArgs false
set_option linter.unusedVariables false

def mixR (w : BitVec 32) (m : Nat) (L : BitVec 64) (R : Nat → BitVec 32) (j : Nat) : Nat → BitVec 32 := fun i => if i < j then spoilR w m L R i else R i
theorem mix_zero (w : BitVec 32) (m : Nat) (L : BitVec 64) (R : Nat → BitVec 32) : mixR w m L R 0 = R := by funext i; simp [mixR]
theorem mix_all (w : BitVec 32) (m : Nat) (L : BitVec 64) (R : Nat → BitVec 32) : mixR w m L R m = spoilR w m L R := by
  funext i
  unfold mixR
  by_cases h : i < m
  · rw [if_pos h]
  · rw [if_neg h]; unfold spoilR; rw [if_neg (fun g => h g.1)]
theorem mix_at (w : BitVec 32) (m : Nat) (L : BitVec 64) (R : Nat → BitVec 32) (j : Nat) : mixR w m L R j j = R j := by unfold mixR; rw [if_neg (Nat.lt_irrefl _)]
theorem mix_keep (w : BitVec 32) (m : Nat) (L : BitVec 64) (R : Nat → BitVec 32) {j : Nat} (h : L.getLsbD j = true) : mixR w m L R (j + 1) = mixR w m L R j := by
  funext i
  unfold mixR
  by_cases e : i = j
  · subst e
    rw [if_pos (Nat.lt_succ_self _), if_neg (Nat.lt_irrefl _)]
    unfold spoilR; rw [if_neg (by rw [h]; simp)]
  · by_cases g : i < j
    · rw [if_pos g, if_pos (by omega)]
    · rw [if_neg g, if_neg (by omega)]
theorem mix_turn (w : BitVec 32) (m : Nat) (L : BitVec 64) (R : Nat → BitVec 32) {j : Nat} (hj : j < m) (h : L.getLsbD j = false) : mixR w m L R (j + 1) = upd (mixR w m L R j) j (R j * 5#32 + w + BitVec.ofNat 32 j) := by
  funext i
  unfold upd
  by_cases e : i = j
  · subst e
    rw [if_pos rfl]
    unfold mixR
    rw [if_pos (Nat.lt_succ_self _)]
    unfold spoilR; rw [if_pos ⟨hj, h⟩]
  · rw [if_neg e]
    unfold mixR
    by_cases g : i < j
    · rw [if_pos g, if_pos (by omega)]
    · rw [if_neg g, if_neg (by omega)]
/-- What Out has told, as it lies. -/
structure OutAt (w : World) (ob n m : Nat) (F : Nat → BitVec 64) : Prop where
  lt : ob < w.heap.size
  row : ∀ i, i < n → ∃ b, b < w.heap.size ∧ w.cell? ⟨ob, i, none⟩ = some (.slice (some ⟨b, 0, none⟩) m m) ∧ ∀ k, k < m → w.cell? ⟨b, k, none⟩ = some (.bool ((F i).getLsbD k))
theorem turn32 (a v : BitVec 32) (j : Nat) : ((a.toNat : Int) * 5 + (v.toNat : Int) + (j : Int)) % 4294967296 = ((a * 5#32 + v + BitVec.ofNat 32 j).toNat : Int) := by
  have h : (a * 5#32 + v + BitVec.ofNat 32 j).toNat = (a.toNat * 5 + v.toNat + j) % 4294967296 := by
    rw [BitVec.toNat_add, BitVec.toNat_add, BitVec.toNat_mul, BitVec.toNat_ofNat]
    show ((a.toNat * 5 % 4294967296 + v.toNat) % 4294967296 + j % 4294967296) % 4294967296 = _
    omega
  rw [h]
  omega

set_option maxHeartbeats 16000000 in
set_option maxRecDepth 100000 in
theorem l_spoiled (w : World) (nr : Nat) (A : Option Addr) (n cap : Nat) (q : Nat → Irx) (ob oc db doff dcap : Nat) (z : Nat → Int) (wv : BitVec 32) (hq : IrAt w A n q) (hR : RightM (nr : Int) q n) (hZ : Bytes64 w db doff z) (hU : OutAt w ob n nr (laterB q n)) :
    Calls Tryd.prog 17 #[mirV (nr : Int) A n cap, .slice (some ⟨ob, 0, none⟩) n oc, .slice (some ⟨db, doff, none⟩) 64 dcap, .int .u32 (wv.toNat : Int)] w fun e w' => e = .returned (.tuple #[.int .u32 ((atS q n nr wv (wordZ z) 0 zeroR).ans.toNat : Int), .int .i64 (atS q n nr wv (wordZ z) 0 zeroR).err]) ∧ Below w.heap.size w w' := by
  have HP := Lib.hid (And.intro hq (And.intro hR (And.intro hZ hU)))
  have hnn := hR.max
  have hn0 := hR.pos
  have hrg := hR.rg
  obtain ⟨O, hO1, hO2⟩ := make_zeroM 74 48 (.int .u32 0) 4 Tryd.underlying74 info_u32M rfl nr (by omega) (by omega)
  have HO := Lib.hid (show InS w ((w.alloc (mirO (nr : Int) A n cap)).alloc O) nr A n cap (w.alloc (mirO (nr : Int) A n cap)).heap.size nr zeroR from
    ⟨onM (lboxM w _) (lboxM _ _), kept_allocM (World.alloc_heap_new w _) _, hO2 _, by simp⟩)
  have HN := Lib.hid (fun op W => r_Names op W)
  obtain ⟨E1, hE1⟩ : ∃ E, (atS q n nr wv (wordZ z) 0 zeroR).ans = E := ⟨_, rfl⟩
  obtain ⟨E2, hE2⟩ : ∃ E, (atS q n nr wv (wordZ z) 0 zeroR).err = E := ⟨_, rfl⟩
  rw [hE1, hE2]
  have HE := Lib.hid (And.intro hE1 hE2)
  clear hq hR hZ hU hO2 hE1 hE2
  have hrg2 : nr ≤ 64 := by omega
  clear hrg
  go_enter Tryd.func17, Tryd.ntmps17
  go_wp2
  have hsz : (w.alloc (mirO (nr : Int) A n cap)).heap.size = w.heap.size + 1 := by simp
  rw [hsz] at HO
  generalize hg : w.heap.size + 1 = g at HO ⊢
  generalize (w.alloc (.cells #[.int .i64 (nr : Int), .slice A n cap] 24)).alloc O = V0 at HO ⊢
  clear hg hO1 hsz
  go_loopw [11] (fun at_ wr => ∃ (p : Nat) (r : Nat → BitVec 32), p < n ∧ at_ = .int .i64 (p : Int) ∧ InS w wr nr A n cap g nr r ∧ (atS q n nr wv (wordZ z) p r).ans = E1 ∧ (atS q n nr wv (wordZ z) p r).err = E2) (fun at_ _ => n - (intOf at_).toNat)
  case atStart => exact ⟨0, zeroR, hn0, rfl, HO.out, HE.out⟩
  case round =>
    obtain ⟨p, r, hp, rfl, hS, hEq⟩ := hrel
    clear HO HE
    have hp' : (p : Int) < (n : Int) := by omega
    have HS := Lib.hid hS
    have hone := HP.out.2.1.one hp
    obtain ⟨qb, qo, rfl, hl, c0, c1, c2, c3, c4, c5, c6⟩ := ir_at (HP.out.1.below hS.1) hp
    have b0 := cellM hS.2.1 0 rfl
    have b1 := cellM hS.2.1 1 rfl
    have hgl := hS.2.2.1.lt
    obtain ⟨rb, hrb⟩ := HP.out.2.2.2.row p hp
    have HRB := Lib.hid hrb
    have hat : ∀ {e}, stepX (q p) (fun i => i) (wordZ z) p r = .stop e → e.ans = E1 ∧ e.err = E2 := fun {e} he => by rw [← hEq.1, ← hEq.2, atS_stop hp he]; exact ⟨rfl, rfl⟩
    have hon : ∀ {p' r'}, stepX (q p) (fun i => i) (wordZ z) p r = .on p' r' → (p < p' ∧ p' < n) ∧ (atS q n nr wv (wordZ z) p' (spoilR wv nr (laterB q n p) r')).ans = E1 ∧ (atS q n nr wv (wordZ z) p' (spoilR wv nr (laterB q n p) r')).err = E2 := fun {p' r'} he => ⟨step_ahead HP.out.2.1 (fun i => i) (wordZ z) hp r he, by rw [← hEq.1, ← hEq.2, atS_on HP.out.2.1 hp he]; exact ⟨rfl, rfl⟩⟩
    have HAT := Lib.hid (And.intro @hat @hon)
    clear hat hon hEq hS hrb
    generalize laterB q n p = L at HAT HRB
    generalize q p = x at HAT hone c0 c1 c2 c3 c4 c5 c6
    obtain ⟨op, d, a, b, k, t, f⟩ := x
    have hkl : (k.toNat : Int) < 4294967296 := by have := k.isLt; omega
    have hop := hone.op
    have HX := Lib.hid (HS.out.box (irO ⟨op, d, a, b, k, t, f⟩))
    have HY : Hid (∀ V : World, Below w.heap.size w V → Bytes64 V db doff z) := Lib.hid fun V hV => HP.out.2.2.1.below hV HP.out.2.2.1.1
    have HU : Hid (ob < w.heap.size) := Lib.hid HP.out.2.2.2.lt
    simp only at hop
    have g1 : 0 ≤ nr := Nat.zero_le _
    rcases op_kinds hop with (hk1 | hk1) | (hk1 | hk1) | hk1 | hk1 | hk1 | hk1

    · as_aux_lemma =>
        subst hk1
        obtain ⟨hd0, hd1⟩ := hone.d (by simp [dM] <;> omega)
        simp only at hd0 hd1
        obtain ⟨dn, rfl⟩ : ∃ m : Nat, d = (m : Int) := ⟨d.toNat, by omega⟩
        have hd2 : dn < nr := by omega
        have hd3 : (dn : Int) < (nr : Int) := by omega
        have hfz : wr.frozen? ⟨g, dn, none⟩ = false := World.rowIs.frozen HS.out.2.2.1 _
        obtain ⟨v0, hrd⟩ : ∃ v, wr.cell? ⟨g, dn, none⟩ = some v := ⟨_, World.rowIs.cell HS.out.2.2.1 hd2⟩
        have HNa := Lib.hid (fun W => HN.out 1 W)
        rw [show dM 1 = true from rfl] at HNa
        rw [show aM 1 = false from rfl] at HNa
        rw [show bM 1 = false from rfl] at HNa
        rw [show tM 1 = false from rfl] at HNa
        rw [show fM 1 = false from rfl] at HNa
        have HST := Lib.hid (tX_const (fun i => i) (wordZ z) p r (dn : Int) a b k t f)
        simp only [Int.toNat_natCast] at HST
        clear hone hop
        go_wp2_with (go_at_call 30; (with_reducible refine (HNa.out _).mono ?_); rintro e w1 ⟨rfl, rfl⟩)
        have hst := HST.out
        have hend := HAT.out.2 hst
        have HEND := Lib.hid hend
        clear hend
        go_loopw [23] (fun kv wr => ∃ j : Nat, j ≤ nr ∧ kv = .int .i64 (j : Int) ∧ InS w wr nr (some ⟨qb, qo, none⟩) n cap g nr (mixR wv nr L (upd r dn (k)) j)) (fun kv _ => nr - (intOf kv).toNat)
        case atStart =>
          refine ⟨0, Nat.zero_le _, rfl, ?_⟩
          rw [mix_zero]
          exact (HS.out.set dn (k)).box _
        case round =>
          obtain ⟨j, hj, rfl, hI⟩ := hrel
          have HI := Lib.hid hI
          have e0 := cellM hI.2.1 0 rfl
          have e1 := cellM hI.2.1 1 rfl
          clear hI
          by_cases hlt : j < nr
          · have hlt' : (j : Int) < (nr : Int) := by omega
            have j64 : (j : Int) < 64 := by omega
            have o1 := (HI.out.1.cell (p := ⟨ob, p, none⟩) HU.out).trans HRB.out.2.1
            have o2 := (HI.out.1.cell (p := ⟨rb, j, none⟩) HRB.out.1).trans (HRB.out.2.2 j hlt)
            have s1 := World.rowIs.cell HI.out.2.2.1 hlt
            have s2 := World.rowIs.frozen HI.out.2.2.1 j
            have s3 : wr.cell? ⟨g, j, none⟩ = some (.int .u32 (((upd r dn (k)) j).toNat : Int)) := by rw [s1]; unfold regF; rw [mix_at]
            clear s1
            have tv := turn32 ((upd r dn (k)) j) wv j
            have jw : IntKind.u32.wrap (j : Int) = (j : Int) := by simp [IntKind.wrap, IntKind.bits, IntKind.signed]; omega
            by_cases hb : L.getLsbD j = true
            · rw [hb] at o2
              go_wp2
              exact ⟨⟨j + 1, by omega, by go_num, by rw [mix_keep _ _ _ _ hb]; exact HI.out⟩, by simp [intOf]; omega⟩
            · have hb' : L.getLsbD j = false := by simpa using hb
              rw [hb'] at o2
              generalize hvv : (upd r dn (k)) j * 5#32 + wv + BitVec.ofNat 32 j = vv at tv
              generalize hrr : (upd r dn (k)) j = rr at s3 tv
              have TV := Lib.hid tv
              clear tv
              go_wp2
              exact ⟨⟨j + 1, by omega, by go_num, by rw [mix_turn _ _ _ _ hlt hb', hvv, TV.out]; exact HI.out.set j vv⟩, by simp [intOf]; omega⟩
          · obtain rfl : j = nr := by omega
            go_wp2
            refine ⟨⟨p + 1, _, HEND.out.1.2, by go_num, HI.out, ?_⟩, by have := HEND.out.1; simp [intOf]; omega⟩
            rw [mix_all]
            exact HEND.out.2
    · as_aux_lemma =>
        subst hk1
        obtain ⟨hd0, hd1⟩ := hone.d (by simp [dM] <;> omega)
        simp only at hd0 hd1
        obtain ⟨dn, rfl⟩ : ∃ m : Nat, d = (m : Int) := ⟨d.toNat, by omega⟩
        have hd2 : dn < nr := by omega
        have hd3 : (dn : Int) < (nr : Int) := by omega
        have hfz : wr.frozen? ⟨g, dn, none⟩ = false := World.rowIs.frozen HS.out.2.2.1 _
        obtain ⟨v0, hrd⟩ : ∃ v, wr.cell? ⟨g, dn, none⟩ = some v := ⟨_, World.rowIs.cell HS.out.2.2.1 hd2⟩
        have HNa := Lib.hid (fun W => HN.out 3 W)
        rw [show dM 3 = true from rfl] at HNa
        rw [show aM 3 = false from rfl] at HNa
        rw [show bM 3 = false from rfl] at HNa
        rw [show tM 3 = false from rfl] at HNa
        rw [show fM 3 = false from rfl] at HNa
        have hkk := hone.k rfl
        simp only at hkk
        have HST := Lib.hid (tX_load (fun i => i) (wordZ z) p r (dn : Int) a b k t f)
        simp only [Int.toNat_natCast] at HST
        have HW : Hid (∀ V : World, Below w.heap.size w V → Calls Tryd.prog 31 #[.slice (some ⟨db, doff, none⟩) 64 dcap, .int .i64 (k.toNat : Int)] V fun e w' => e = .returned (.tuple #[.int .u32 ((wordZ z k.toNat).toNat : Int), .int .i64 0]) ∧ V = w') := Lib.hid fun V hV => by
          rw [wordZ_nat HP.out.2.2.1.2.1]
          exact ref2_Word db doff dcap z k.toNat hkk.1 hkk.2 V (HY.out V hV)
        clear hone hop hkk
        go_wp2_with (first
          | (go_at_call 30; (with_reducible refine (HNa.out _).mono ?_); rintro e w1 ⟨rfl, rfl⟩)
          | (go_at_call 31; (with_reducible refine (HW.out _ HX.out.1).mono ?_); rintro e w1 ⟨rfl, rfl⟩))
        have hst := HST.out
        have hend := HAT.out.2 hst
        have HEND := Lib.hid hend
        clear hend
        go_loopw [23] (fun kv wr => ∃ j : Nat, j ≤ nr ∧ kv = .int .i64 (j : Int) ∧ InS w wr nr (some ⟨qb, qo, none⟩) n cap g nr (mixR wv nr L (upd r dn (wordZ z k.toNat)) j)) (fun kv _ => nr - (intOf kv).toNat)
        case atStart =>
          refine ⟨0, Nat.zero_le _, rfl, ?_⟩
          rw [mix_zero]
          exact (HS.out.set dn (wordZ z k.toNat)).box _
        case round =>
          obtain ⟨j, hj, rfl, hI⟩ := hrel
          have HI := Lib.hid hI
          have e0 := cellM hI.2.1 0 rfl
          have e1 := cellM hI.2.1 1 rfl
          clear hI
          by_cases hlt : j < nr
          · have hlt' : (j : Int) < (nr : Int) := by omega
            have j64 : (j : Int) < 64 := by omega
            have o1 := (HI.out.1.cell (p := ⟨ob, p, none⟩) HU.out).trans HRB.out.2.1
            have o2 := (HI.out.1.cell (p := ⟨rb, j, none⟩) HRB.out.1).trans (HRB.out.2.2 j hlt)
            have s1 := World.rowIs.cell HI.out.2.2.1 hlt
            have s2 := World.rowIs.frozen HI.out.2.2.1 j
            have s3 : wr.cell? ⟨g, j, none⟩ = some (.int .u32 (((upd r dn (wordZ z k.toNat)) j).toNat : Int)) := by rw [s1]; unfold regF; rw [mix_at]
            clear s1
            have tv := turn32 ((upd r dn (wordZ z k.toNat)) j) wv j
            have jw : IntKind.u32.wrap (j : Int) = (j : Int) := by simp [IntKind.wrap, IntKind.bits, IntKind.signed]; omega
            by_cases hb : L.getLsbD j = true
            · rw [hb] at o2
              go_wp2
              exact ⟨⟨j + 1, by omega, by go_num, by rw [mix_keep _ _ _ _ hb]; exact HI.out⟩, by simp [intOf]; omega⟩
            · have hb' : L.getLsbD j = false := by simpa using hb
              rw [hb'] at o2
              generalize hvv : (upd r dn (wordZ z k.toNat)) j * 5#32 + wv + BitVec.ofNat 32 j = vv at tv
              generalize hrr : (upd r dn (wordZ z k.toNat)) j = rr at s3 tv
              have TV := Lib.hid tv
              clear tv
              go_wp2
              exact ⟨⟨j + 1, by omega, by go_num, by rw [mix_turn _ _ _ _ hlt hb', hvv, TV.out]; exact HI.out.set j vv⟩, by simp [intOf]; omega⟩
          · obtain rfl : j = nr := by omega
            go_wp2
            refine ⟨⟨p + 1, _, HEND.out.1.2, by go_num, HI.out, ?_⟩, by have := HEND.out.1; simp [intOf]; omega⟩
            rw [mix_all]
            exact HEND.out.2
    · as_aux_lemma =>
        subst hk1
        obtain ⟨hd0, hd1⟩ := hone.d (by simp [dM] <;> omega)
        simp only at hd0 hd1
        obtain ⟨dn, rfl⟩ : ∃ m : Nat, d = (m : Int) := ⟨d.toNat, by omega⟩
        have hd2 : dn < nr := by omega
        have hd3 : (dn : Int) < (nr : Int) := by omega
        obtain ⟨ha0, ha1⟩ := hone.a (by simp [aM] <;> omega)
        simp only at ha0 ha1
        obtain ⟨an, rfl⟩ : ∃ m : Nat, a = (m : Int) := ⟨a.toNat, by omega⟩
        have ha2 : an < nr := by omega
        have ha3 : (an : Int) < (nr : Int) := by omega
        have hfz : wr.frozen? ⟨g, dn, none⟩ = false := World.rowIs.frozen HS.out.2.2.1 _
        obtain ⟨v0, hrd⟩ : ∃ v, wr.cell? ⟨g, dn, none⟩ = some v := ⟨_, World.rowIs.cell HS.out.2.2.1 hd2⟩
        have hra : wr.cell? ⟨g, an, none⟩ = some (.int .u32 ((r an).toNat : Int)) := World.rowIs.cell HS.out.2.2.1 ha2
        have HNa := Lib.hid (fun W => HN.out 2 W)
        rw [show dM 2 = true from rfl] at HNa
        rw [show aM 2 = true from rfl] at HNa
        rw [show bM 2 = false from rfl] at HNa
        rw [show tM 2 = false from rfl] at HNa
        rw [show fM 2 = false from rfl] at HNa
        have HST := Lib.hid (tX_move (fun i => i) (wordZ z) p r (dn : Int) (an : Int) b k t f)
        simp only [Int.toNat_natCast] at HST
        clear hone hop
        go_wp2_with (go_at_call 30; (with_reducible refine (HNa.out _).mono ?_); rintro e w1 ⟨rfl, rfl⟩)
        have hst := HST.out
        have hend := HAT.out.2 hst
        have HEND := Lib.hid hend
        clear hend
        go_loopw [23] (fun kv wr => ∃ j : Nat, j ≤ nr ∧ kv = .int .i64 (j : Int) ∧ InS w wr nr (some ⟨qb, qo, none⟩) n cap g nr (mixR wv nr L (upd r dn (r an)) j)) (fun kv _ => nr - (intOf kv).toNat)
        case atStart =>
          refine ⟨0, Nat.zero_le _, rfl, ?_⟩
          rw [mix_zero]
          exact (HS.out.set dn (r an)).box _
        case round =>
          obtain ⟨j, hj, rfl, hI⟩ := hrel
          have HI := Lib.hid hI
          have e0 := cellM hI.2.1 0 rfl
          have e1 := cellM hI.2.1 1 rfl
          clear hI
          by_cases hlt : j < nr
          · have hlt' : (j : Int) < (nr : Int) := by omega
            have j64 : (j : Int) < 64 := by omega
            have o1 := (HI.out.1.cell (p := ⟨ob, p, none⟩) HU.out).trans HRB.out.2.1
            have o2 := (HI.out.1.cell (p := ⟨rb, j, none⟩) HRB.out.1).trans (HRB.out.2.2 j hlt)
            have s1 := World.rowIs.cell HI.out.2.2.1 hlt
            have s2 := World.rowIs.frozen HI.out.2.2.1 j
            have s3 : wr.cell? ⟨g, j, none⟩ = some (.int .u32 (((upd r dn (r an)) j).toNat : Int)) := by rw [s1]; unfold regF; rw [mix_at]
            clear s1
            have tv := turn32 ((upd r dn (r an)) j) wv j
            have jw : IntKind.u32.wrap (j : Int) = (j : Int) := by simp [IntKind.wrap, IntKind.bits, IntKind.signed]; omega
            by_cases hb : L.getLsbD j = true
            · rw [hb] at o2
              go_wp2
              exact ⟨⟨j + 1, by omega, by go_num, by rw [mix_keep _ _ _ _ hb]; exact HI.out⟩, by simp [intOf]; omega⟩
            · have hb' : L.getLsbD j = false := by simpa using hb
              rw [hb'] at o2
              generalize hvv : (upd r dn (r an)) j * 5#32 + wv + BitVec.ofNat 32 j = vv at tv
              generalize hrr : (upd r dn (r an)) j = rr at s3 tv
              have TV := Lib.hid tv
              clear tv
              go_wp2
              exact ⟨⟨j + 1, by omega, by go_num, by rw [mix_turn _ _ _ _ hlt hb', hvv, TV.out]; exact HI.out.set j vv⟩, by simp [intOf]; omega⟩
          · obtain rfl : j = nr := by omega
            go_wp2
            refine ⟨⟨p + 1, _, HEND.out.1.2, by go_num, HI.out, ?_⟩, by have := HEND.out.1; simp [intOf]; omega⟩
            rw [mix_all]
            exact HEND.out.2
    · as_aux_lemma =>
        subst hk1
        obtain ⟨hd0, hd1⟩ := hone.d (by simp [dM] <;> omega)
        simp only at hd0 hd1
        obtain ⟨dn, rfl⟩ : ∃ m : Nat, d = (m : Int) := ⟨d.toNat, by omega⟩
        have hd2 : dn < nr := by omega
        have hd3 : (dn : Int) < (nr : Int) := by omega
        obtain ⟨ha0, ha1⟩ := hone.a (by simp [aM] <;> omega)
        simp only at ha0 ha1
        obtain ⟨an, rfl⟩ : ∃ m : Nat, a = (m : Int) := ⟨a.toNat, by omega⟩
        have ha2 : an < nr := by omega
        have ha3 : (an : Int) < (nr : Int) := by omega
        have hfz : wr.frozen? ⟨g, dn, none⟩ = false := World.rowIs.frozen HS.out.2.2.1 _
        obtain ⟨v0, hrd⟩ : ∃ v, wr.cell? ⟨g, dn, none⟩ = some v := ⟨_, World.rowIs.cell HS.out.2.2.1 hd2⟩
        have hra : wr.cell? ⟨g, an, none⟩ = some (.int .u32 ((r an).toNat : Int)) := World.rowIs.cell HS.out.2.2.1 ha2
        have HNa := Lib.hid (fun W => HN.out 13 W)
        rw [show dM 13 = true from rfl] at HNa
        rw [show aM 13 = true from rfl] at HNa
        rw [show bM 13 = false from rfl] at HNa
        rw [show tM 13 = false from rfl] at HNa
        rw [show fM 13 = false from rfl] at HNa
        have HST := Lib.hid (tX_neg (fun i => i) (wordZ z) p r (dn : Int) (an : Int) b k t f)
        simp only [Int.toNat_natCast] at HST
        have hng := neg32 (r an)
        clear hone hop
        go_wp2_with (go_at_call 30; (with_reducible refine (HNa.out _).mono ?_); rintro e w1 ⟨rfl, rfl⟩)
        have hst := HST.out
        have hend := HAT.out.2 hst
        have HEND := Lib.hid hend
        clear hend
        go_loopw [23] (fun kv wr => ∃ j : Nat, j ≤ nr ∧ kv = .int .i64 (j : Int) ∧ InS w wr nr (some ⟨qb, qo, none⟩) n cap g nr (mixR wv nr L (upd r dn (-(r an))) j)) (fun kv _ => nr - (intOf kv).toNat)
        case atStart =>
          refine ⟨0, Nat.zero_le _, rfl, ?_⟩
          rw [mix_zero]
          exact (HS.out.set dn (-(r an))).box _
        case round =>
          obtain ⟨j, hj, rfl, hI⟩ := hrel
          have HI := Lib.hid hI
          have e0 := cellM hI.2.1 0 rfl
          have e1 := cellM hI.2.1 1 rfl
          clear hI
          by_cases hlt : j < nr
          · have hlt' : (j : Int) < (nr : Int) := by omega
            have j64 : (j : Int) < 64 := by omega
            have o1 := (HI.out.1.cell (p := ⟨ob, p, none⟩) HU.out).trans HRB.out.2.1
            have o2 := (HI.out.1.cell (p := ⟨rb, j, none⟩) HRB.out.1).trans (HRB.out.2.2 j hlt)
            have s1 := World.rowIs.cell HI.out.2.2.1 hlt
            have s2 := World.rowIs.frozen HI.out.2.2.1 j
            have s3 : wr.cell? ⟨g, j, none⟩ = some (.int .u32 (((upd r dn (-(r an))) j).toNat : Int)) := by rw [s1]; unfold regF; rw [mix_at]
            clear s1
            have tv := turn32 ((upd r dn (-(r an))) j) wv j
            have jw : IntKind.u32.wrap (j : Int) = (j : Int) := by simp [IntKind.wrap, IntKind.bits, IntKind.signed]; omega
            by_cases hb : L.getLsbD j = true
            · rw [hb] at o2
              go_wp2
              exact ⟨⟨j + 1, by omega, by go_num, by rw [mix_keep _ _ _ _ hb]; exact HI.out⟩, by simp [intOf]; omega⟩
            · have hb' : L.getLsbD j = false := by simpa using hb
              rw [hb'] at o2
              generalize hvv : (upd r dn (-(r an))) j * 5#32 + wv + BitVec.ofNat 32 j = vv at tv
              generalize hrr : (upd r dn (-(r an))) j = rr at s3 tv
              have TV := Lib.hid tv
              clear tv
              go_wp2
              exact ⟨⟨j + 1, by omega, by go_num, by rw [mix_turn _ _ _ _ hlt hb', hvv, TV.out]; exact HI.out.set j vv⟩, by simp [intOf]; omega⟩
          · obtain rfl : j = nr := by omega
            go_wp2
            refine ⟨⟨p + 1, _, HEND.out.1.2, by go_num, HI.out, ?_⟩, by have := HEND.out.1; simp [intOf]; omega⟩
            rw [mix_all]
            exact HEND.out.2
    · as_aux_lemma =>
        obtain ⟨hd0, hd1⟩ := hone.d (by simp [dM] <;> omega)
        simp only at hd0 hd1
        obtain ⟨dn, rfl⟩ : ∃ m : Nat, d = (m : Int) := ⟨d.toNat, by omega⟩
        have hd2 : dn < nr := by omega
        have hd3 : (dn : Int) < (nr : Int) := by omega
        obtain ⟨ha0, ha1⟩ := hone.a (by simp [aM] <;> omega)
        simp only at ha0 ha1
        obtain ⟨an, rfl⟩ : ∃ m : Nat, a = (m : Int) := ⟨a.toNat, by omega⟩
        have ha2 : an < nr := by omega
        have ha3 : (an : Int) < (nr : Int) := by omega
        obtain ⟨hb0, hb1⟩ := hone.b (by simp [bM] <;> omega)
        simp only at hb0 hb1
        obtain ⟨bn, rfl⟩ : ∃ m : Nat, b = (m : Int) := ⟨b.toNat, by omega⟩
        have hb2 : bn < nr := by omega
        have hb3 : (bn : Int) < (nr : Int) := by omega
        have hfz : wr.frozen? ⟨g, dn, none⟩ = false := World.rowIs.frozen HS.out.2.2.1 _
        obtain ⟨v0, hrd⟩ : ∃ v, wr.cell? ⟨g, dn, none⟩ = some v := ⟨_, World.rowIs.cell HS.out.2.2.1 hd2⟩
        have hra : wr.cell? ⟨g, an, none⟩ = some (.int .u32 ((r an).toNat : Int)) := World.rowIs.cell HS.out.2.2.1 ha2
        have hrb : wr.cell? ⟨g, bn, none⟩ = some (.int .u32 ((r bn).toNat : Int)) := World.rowIs.cell HS.out.2.2.1 hb2
        have HNa := Lib.hid (fun W => HN.out op W)
        rw [show dM op = true by simp [dM]; omega] at HNa
        rw [show aM op = true by simp [aM]; omega] at HNa
        rw [show bM op = true by simp [bM]; omega] at HNa
        rw [show tM op = false by simp [tM]; omega] at HNa
        rw [show fM op = false by simp [fM]; omega] at HNa
        have q19 : (op == 19) = false := beq_false_of_ne (by omega)
        have q1 : (op == 1) = false := beq_false_of_ne (by omega)
        have q3 : (op == 3) = false := beq_false_of_ne (by omega)
        have q13 : (op == 13) = false := beq_false_of_ne (by omega)
        have q4 := hk1.1
        have q12 := hk1.2
        by_cases hdv : op = 7 ∧ r bn = 0#32
        · obtain ⟨rfl, h0⟩ := hdv
          have HST := Lib.hid (HAT.out.1 (tX_div0 (fun i => i) (wordZ z) p r (dn : Int) (an : Int) (bn : Int) k t f (by simpa using h0)))
          rw [h0] at hrb
          clear hone hop h0 q19 q1 q3 q13 q4 q12 hk1
          go_wp2_with (go_at_call 30; (with_reducible refine (HNa.out _).mono ?_); rintro e w1 ⟨rfl, rfl⟩)
          go_ret2
          exact ⟨by rw [← HST.out.1, ← HST.out.2]; rfl, HX.out.1⟩
        · have HST := Lib.hid (tX_two (fun i => i) (wordZ z) p r (dn : Int) (an : Int) (bn : Int) k t f op hk1 (fun e g => hdv ⟨e, by simpa using g⟩))
          simp only [Int.toNat_natCast] at HST
          have HTW := Lib.hid (fun W => r_TwoM ⟨op, dn, an, bn, k, t, f⟩ (wordZ z) (r an) (r bn) hk1 (fun e g => hdv ⟨e, g⟩) W)
          have hdz : ((op == 7) && (((r bn).toNat : Int) == 0)) = false := by
            rw [Bool.and_eq_false_iff]
            by_cases e : op = 7
            · refine .inr (beq_false_of_ne fun g => hdv ⟨e, ?_⟩)
              exact BitVec.eq_of_toNat_eq (by simpa using g)
            · exact .inl (beq_false_of_ne e)
          generalize hval : valM (wordZ z) ⟨op, dn, an, bn, k, t, f⟩ (r an) (r bn) = v at HST HTW
          clear hval hone hop
          by_cases e7 : op = 7
          · as_aux_lemma =>
            subst e7
            have hb0 : (((r bn).toNat : Int) == 0) = false := by simpa using hdz
            clear hdv hdz q19 q1 q3 q13 q4 q12 hk1
            go_wp2_with (first
              | (go_at_call 30; (with_reducible refine (HNa.out _).mono ?_); rintro e w1 ⟨rfl, rfl⟩)
              | (go_at_call 32; (with_reducible refine (HTW.out _).mono ?_); rintro e w1 ⟨rfl, rfl⟩))
            have hst := HST.out
            have hend := HAT.out.2 hst
            have HEND := Lib.hid hend
            clear hend
            go_loopw [23] (fun kv wr => ∃ j : Nat, j ≤ nr ∧ kv = .int .i64 (j : Int) ∧ InS w wr nr (some ⟨qb, qo, none⟩) n cap g nr (mixR wv nr L (upd r dn (v)) j)) (fun kv _ => nr - (intOf kv).toNat)
            case atStart =>
              refine ⟨0, Nat.zero_le _, rfl, ?_⟩
              rw [mix_zero]
              exact (HS.out.set dn (v)).box _
            case round =>
              obtain ⟨j, hj, rfl, hI⟩ := hrel
              have HI := Lib.hid hI
              have e0 := cellM hI.2.1 0 rfl
              have e1 := cellM hI.2.1 1 rfl
              clear hI
              by_cases hlt : j < nr
              · have hlt' : (j : Int) < (nr : Int) := by omega
                have j64 : (j : Int) < 64 := by omega
                have o1 := (HI.out.1.cell (p := ⟨ob, p, none⟩) HU.out).trans HRB.out.2.1
                have o2 := (HI.out.1.cell (p := ⟨rb, j, none⟩) HRB.out.1).trans (HRB.out.2.2 j hlt)
                have s1 := World.rowIs.cell HI.out.2.2.1 hlt
                have s2 := World.rowIs.frozen HI.out.2.2.1 j
                have s3 : wr.cell? ⟨g, j, none⟩ = some (.int .u32 (((upd r dn (v)) j).toNat : Int)) := by rw [s1]; unfold regF; rw [mix_at]
                clear s1
                have tv := turn32 ((upd r dn (v)) j) wv j
                have jw : IntKind.u32.wrap (j : Int) = (j : Int) := by simp [IntKind.wrap, IntKind.bits, IntKind.signed]; omega
                by_cases hb : L.getLsbD j = true
                · rw [hb] at o2
                  go_wp2
                  exact ⟨⟨j + 1, by omega, by go_num, by rw [mix_keep _ _ _ _ hb]; exact HI.out⟩, by simp [intOf]; omega⟩
                · have hb' : L.getLsbD j = false := by simpa using hb
                  rw [hb'] at o2
                  generalize hvv : (upd r dn (v)) j * 5#32 + wv + BitVec.ofNat 32 j = vv at tv
                  generalize hrr : (upd r dn (v)) j = rr at s3 tv
                  have TV := Lib.hid tv
                  clear tv
                  go_wp2
                  exact ⟨⟨j + 1, by omega, by go_num, by rw [mix_turn _ _ _ _ hlt hb', hvv, TV.out]; exact HI.out.set j vv⟩, by simp [intOf]; omega⟩
              · obtain rfl : j = nr := by omega
                go_wp2
                refine ⟨⟨p + 1, _, HEND.out.1.2, by go_num, HI.out, ?_⟩, by have := HEND.out.1; simp [intOf]; omega⟩
                rw [mix_all]
                exact HEND.out.2
          · as_aux_lemma =>
            have q7 : (op == 7) = false := beq_false_of_ne e7
            clear hdv hdz e7
            go_wp2_with (first
              | (go_at_call 30; (with_reducible refine (HNa.out _).mono ?_); rintro e w1 ⟨rfl, rfl⟩)
              | (go_at_call 32; (with_reducible refine (HTW.out _).mono ?_); rintro e w1 ⟨rfl, rfl⟩))
            have hst := HST.out
            have hend := HAT.out.2 hst
            have HEND := Lib.hid hend
            clear hend
            go_loopw [23] (fun kv wr => ∃ j : Nat, j ≤ nr ∧ kv = .int .i64 (j : Int) ∧ InS w wr nr (some ⟨qb, qo, none⟩) n cap g nr (mixR wv nr L (upd r dn (v)) j)) (fun kv _ => nr - (intOf kv).toNat)
            case atStart =>
              refine ⟨0, Nat.zero_le _, rfl, ?_⟩
              rw [mix_zero]
              exact (HS.out.set dn (v)).box _
            case round =>
              obtain ⟨j, hj, rfl, hI⟩ := hrel
              have HI := Lib.hid hI
              have e0 := cellM hI.2.1 0 rfl
              have e1 := cellM hI.2.1 1 rfl
              clear hI
              by_cases hlt : j < nr
              · have hlt' : (j : Int) < (nr : Int) := by omega
                have j64 : (j : Int) < 64 := by omega
                have o1 := (HI.out.1.cell (p := ⟨ob, p, none⟩) HU.out).trans HRB.out.2.1
                have o2 := (HI.out.1.cell (p := ⟨rb, j, none⟩) HRB.out.1).trans (HRB.out.2.2 j hlt)
                have s1 := World.rowIs.cell HI.out.2.2.1 hlt
                have s2 := World.rowIs.frozen HI.out.2.2.1 j
                have s3 : wr.cell? ⟨g, j, none⟩ = some (.int .u32 (((upd r dn (v)) j).toNat : Int)) := by rw [s1]; unfold regF; rw [mix_at]
                clear s1
                have tv := turn32 ((upd r dn (v)) j) wv j
                have jw : IntKind.u32.wrap (j : Int) = (j : Int) := by simp [IntKind.wrap, IntKind.bits, IntKind.signed]; omega
                by_cases hb : L.getLsbD j = true
                · rw [hb] at o2
                  go_wp2
                  exact ⟨⟨j + 1, by omega, by go_num, by rw [mix_keep _ _ _ _ hb]; exact HI.out⟩, by simp [intOf]; omega⟩
                · have hb' : L.getLsbD j = false := by simpa using hb
                  rw [hb'] at o2
                  generalize hvv : (upd r dn (v)) j * 5#32 + wv + BitVec.ofNat 32 j = vv at tv
                  generalize hrr : (upd r dn (v)) j = rr at s3 tv
                  have TV := Lib.hid tv
                  clear tv
                  go_wp2
                  exact ⟨⟨j + 1, by omega, by go_num, by rw [mix_turn _ _ _ _ hlt hb', hvv, TV.out]; exact HI.out.set j vv⟩, by simp [intOf]; omega⟩
              · obtain rfl : j = nr := by omega
                go_wp2
                refine ⟨⟨p + 1, _, HEND.out.1.2, by go_num, HI.out, ?_⟩, by have := HEND.out.1; simp [intOf]; omega⟩
                rw [mix_all]
                exact HEND.out.2
    · as_aux_lemma =>
        subst hk1
        obtain ⟨ht0, ht1⟩ := hone.t (by simp [tM] <;> omega)
        simp only at ht0 ht1
        obtain ⟨tn, rfl⟩ : ∃ m : Nat, t = (m : Int) := ⟨t.toNat, by omega⟩
        have HNa := Lib.hid (fun W => HN.out 14 W)
        rw [show dM 14 = false from rfl] at HNa
        rw [show aM 14 = false from rfl] at HNa
        rw [show bM 14 = false from rfl] at HNa
        rw [show tM 14 = true from rfl] at HNa
        rw [show fM 14 = false from rfl] at HNa
        have HST := Lib.hid (tX_jump (fun i => i) (wordZ z) p r d a b k (tn : Int) f)
        simp only [Int.toNat_natCast] at HST
        clear hone hop
        go_wp2_with (go_at_call 30; (with_reducible refine (HNa.out _).mono ?_); rintro e w1 ⟨rfl, rfl⟩)
        have hend := HAT.out.2 HST.out
        have HEND := Lib.hid hend
        clear hend
        go_loopw [23] (fun kv wr => ∃ j : Nat, j ≤ nr ∧ kv = .int .i64 (j : Int) ∧ InS w wr nr (some ⟨qb, qo, none⟩) n cap g nr (mixR wv nr L (r) j)) (fun kv _ => nr - (intOf kv).toNat)
        case atStart =>
          refine ⟨0, Nat.zero_le _, rfl, ?_⟩
          rw [mix_zero]
          exact HX.out
        case round =>
          obtain ⟨j, hj, rfl, hI⟩ := hrel
          have HI := Lib.hid hI
          have e0 := cellM hI.2.1 0 rfl
          have e1 := cellM hI.2.1 1 rfl
          clear hI
          by_cases hlt : j < nr
          · have hlt' : (j : Int) < (nr : Int) := by omega
            have j64 : (j : Int) < 64 := by omega
            have o1 := (HI.out.1.cell (p := ⟨ob, p, none⟩) HU.out).trans HRB.out.2.1
            have o2 := (HI.out.1.cell (p := ⟨rb, j, none⟩) HRB.out.1).trans (HRB.out.2.2 j hlt)
            have s1 := World.rowIs.cell HI.out.2.2.1 hlt
            have s2 := World.rowIs.frozen HI.out.2.2.1 j
            have s3 : wr.cell? ⟨g, j, none⟩ = some (.int .u32 (((r) j).toNat : Int)) := by rw [s1]; unfold regF; rw [mix_at]
            clear s1
            have tv := turn32 ((r) j) wv j
            have jw : IntKind.u32.wrap (j : Int) = (j : Int) := by simp [IntKind.wrap, IntKind.bits, IntKind.signed]; omega
            by_cases hb : L.getLsbD j = true
            · rw [hb] at o2
              go_wp2
              exact ⟨⟨j + 1, by omega, by go_num, by rw [mix_keep _ _ _ _ hb]; exact HI.out⟩, by simp [intOf]; omega⟩
            · have hb' : L.getLsbD j = false := by simpa using hb
              rw [hb'] at o2
              generalize hvv : (r) j * 5#32 + wv + BitVec.ofNat 32 j = vv at tv
              generalize hrr : (r) j = rr at s3 tv
              have TV := Lib.hid tv
              clear tv
              go_wp2
              exact ⟨⟨j + 1, by omega, by go_num, by rw [mix_turn _ _ _ _ hlt hb', hvv, TV.out]; exact HI.out.set j vv⟩, by simp [intOf]; omega⟩
          · obtain rfl : j = nr := by omega
            go_wp2
            refine ⟨⟨tn, _, HEND.out.1.2, by go_num, HI.out, ?_⟩, by have := HEND.out.1; simp [intOf]; omega⟩
            rw [mix_all]
            exact HEND.out.2
    · as_aux_lemma =>
        obtain ⟨ha0, ha1⟩ := hone.a (by simp [aM] <;> omega)
        simp only at ha0 ha1
        obtain ⟨an, rfl⟩ : ∃ m : Nat, a = (m : Int) := ⟨a.toNat, by omega⟩
        have ha2 : an < nr := by omega
        have ha3 : (an : Int) < (nr : Int) := by omega
        obtain ⟨hb0, hb1⟩ := hone.b (by simp [bM] <;> omega)
        simp only at hb0 hb1
        obtain ⟨bn, rfl⟩ : ∃ m : Nat, b = (m : Int) := ⟨b.toNat, by omega⟩
        have hb2 : bn < nr := by omega
        have hb3 : (bn : Int) < (nr : Int) := by omega
        have hra : wr.cell? ⟨g, an, none⟩ = some (.int .u32 ((r an).toNat : Int)) := World.rowIs.cell HS.out.2.2.1 ha2
        have hrb : wr.cell? ⟨g, bn, none⟩ = some (.int .u32 ((r bn).toNat : Int)) := World.rowIs.cell HS.out.2.2.1 hb2
        obtain ⟨ht0, ht1⟩ := hone.t (by simp [tM] <;> omega)
        simp only at ht0 ht1
        obtain ⟨tn, rfl⟩ : ∃ m : Nat, t = (m : Int) := ⟨t.toNat, by omega⟩
        obtain ⟨hf0, hf1⟩ := hone.f (by simp [fM] <;> omega)
        simp only at hf0 hf1
        obtain ⟨fn, rfl⟩ : ∃ m : Nat, f = (m : Int) := ⟨f.toNat, by omega⟩
        have HNa := Lib.hid (fun W => HN.out op W)
        rw [show dM op = false by simp [dM]; omega] at HNa
        rw [show aM op = true by simp [aM]; omega] at HNa
        rw [show bM op = true by simp [bM]; omega] at HNa
        rw [show tM op = true by simp [tM]; omega] at HNa
        rw [show fM op = true by simp [fM]; omega] at HNa
        have HST := Lib.hid (tX_if (fun i => i) (wordZ z) p r d (an : Int) (bn : Int) k (tn : Int) (fn : Int) op hk1)
        simp only [Int.toNat_natCast] at HST
        have HSA := Lib.hid (fun W => r_SaysM op (r an) (r bn) hk1 W)
        generalize saysM op (r an) (r bn) = sy at HST HSA
        clear hone hop
        rcases (show op = 15 ∨ op = 16 ∨ op = 17 ∨ op = 18 by omega) with rfl | rfl | rfl | rfl
        all_goals
          clear hk1
          cases sy with
          | true =>
            as_aux_lemma =>
            simp only [if_true] at HST
            go_wp2_with (first
              | (go_at_call 30; (with_reducible refine (HNa.out _).mono ?_); rintro e w1 ⟨rfl, rfl⟩)
              | (go_at_call 33; (with_reducible refine (HSA.out _).mono ?_); rintro e w1 ⟨rfl, rfl⟩))
            have hend := HAT.out.2 HST.out
            have HEND := Lib.hid hend
            clear hend
            go_loopw [23] (fun kv wr => ∃ j : Nat, j ≤ nr ∧ kv = .int .i64 (j : Int) ∧ InS w wr nr (some ⟨qb, qo, none⟩) n cap g nr (mixR wv nr L (r) j)) (fun kv _ => nr - (intOf kv).toNat)
            case atStart =>
              refine ⟨0, Nat.zero_le _, rfl, ?_⟩
              rw [mix_zero]
              exact HX.out
            case round =>
              obtain ⟨j, hj, rfl, hI⟩ := hrel
              have HI := Lib.hid hI
              have e0 := cellM hI.2.1 0 rfl
              have e1 := cellM hI.2.1 1 rfl
              clear hI
              by_cases hlt : j < nr
              · have hlt' : (j : Int) < (nr : Int) := by omega
                have j64 : (j : Int) < 64 := by omega
                have o1 := (HI.out.1.cell (p := ⟨ob, p, none⟩) HU.out).trans HRB.out.2.1
                have o2 := (HI.out.1.cell (p := ⟨rb, j, none⟩) HRB.out.1).trans (HRB.out.2.2 j hlt)
                have s1 := World.rowIs.cell HI.out.2.2.1 hlt
                have s2 := World.rowIs.frozen HI.out.2.2.1 j
                have s3 : wr.cell? ⟨g, j, none⟩ = some (.int .u32 (((r) j).toNat : Int)) := by rw [s1]; unfold regF; rw [mix_at]
                clear s1
                have tv := turn32 ((r) j) wv j
                have jw : IntKind.u32.wrap (j : Int) = (j : Int) := by simp [IntKind.wrap, IntKind.bits, IntKind.signed]; omega
                by_cases hb : L.getLsbD j = true
                · rw [hb] at o2
                  go_wp2
                  exact ⟨⟨j + 1, by omega, by go_num, by rw [mix_keep _ _ _ _ hb]; exact HI.out⟩, by simp [intOf]; omega⟩
                · have hb' : L.getLsbD j = false := by simpa using hb
                  rw [hb'] at o2
                  generalize hvv : (r) j * 5#32 + wv + BitVec.ofNat 32 j = vv at tv
                  generalize hrr : (r) j = rr at s3 tv
                  have TV := Lib.hid tv
                  clear tv
                  go_wp2
                  exact ⟨⟨j + 1, by omega, by go_num, by rw [mix_turn _ _ _ _ hlt hb', hvv, TV.out]; exact HI.out.set j vv⟩, by simp [intOf]; omega⟩
              · obtain rfl : j = nr := by omega
                go_wp2
                refine ⟨⟨tn, _, HEND.out.1.2, by go_num, HI.out, ?_⟩, by have := HEND.out.1; simp [intOf]; omega⟩
                rw [mix_all]
                exact HEND.out.2
          | false =>
            as_aux_lemma =>
            simp only [Bool.false_eq_true, if_false] at HST
            go_wp2_with (first
              | (go_at_call 30; (with_reducible refine (HNa.out _).mono ?_); rintro e w1 ⟨rfl, rfl⟩)
              | (go_at_call 33; (with_reducible refine (HSA.out _).mono ?_); rintro e w1 ⟨rfl, rfl⟩))
            have hend := HAT.out.2 HST.out
            have HEND := Lib.hid hend
            clear hend
            go_loopw [23] (fun kv wr => ∃ j : Nat, j ≤ nr ∧ kv = .int .i64 (j : Int) ∧ InS w wr nr (some ⟨qb, qo, none⟩) n cap g nr (mixR wv nr L (r) j)) (fun kv _ => nr - (intOf kv).toNat)
            case atStart =>
              refine ⟨0, Nat.zero_le _, rfl, ?_⟩
              rw [mix_zero]
              exact HX.out
            case round =>
              obtain ⟨j, hj, rfl, hI⟩ := hrel
              have HI := Lib.hid hI
              have e0 := cellM hI.2.1 0 rfl
              have e1 := cellM hI.2.1 1 rfl
              clear hI
              by_cases hlt : j < nr
              · have hlt' : (j : Int) < (nr : Int) := by omega
                have j64 : (j : Int) < 64 := by omega
                have o1 := (HI.out.1.cell (p := ⟨ob, p, none⟩) HU.out).trans HRB.out.2.1
                have o2 := (HI.out.1.cell (p := ⟨rb, j, none⟩) HRB.out.1).trans (HRB.out.2.2 j hlt)
                have s1 := World.rowIs.cell HI.out.2.2.1 hlt
                have s2 := World.rowIs.frozen HI.out.2.2.1 j
                have s3 : wr.cell? ⟨g, j, none⟩ = some (.int .u32 (((r) j).toNat : Int)) := by rw [s1]; unfold regF; rw [mix_at]
                clear s1
                have tv := turn32 ((r) j) wv j
                have jw : IntKind.u32.wrap (j : Int) = (j : Int) := by simp [IntKind.wrap, IntKind.bits, IntKind.signed]; omega
                by_cases hb : L.getLsbD j = true
                · rw [hb] at o2
                  go_wp2
                  exact ⟨⟨j + 1, by omega, by go_num, by rw [mix_keep _ _ _ _ hb]; exact HI.out⟩, by simp [intOf]; omega⟩
                · have hb' : L.getLsbD j = false := by simpa using hb
                  rw [hb'] at o2
                  generalize hvv : (r) j * 5#32 + wv + BitVec.ofNat 32 j = vv at tv
                  generalize hrr : (r) j = rr at s3 tv
                  have TV := Lib.hid tv
                  clear tv
                  go_wp2
                  exact ⟨⟨j + 1, by omega, by go_num, by rw [mix_turn _ _ _ _ hlt hb', hvv, TV.out]; exact HI.out.set j vv⟩, by simp [intOf]; omega⟩
              · obtain rfl : j = nr := by omega
                go_wp2
                refine ⟨⟨fn, _, HEND.out.1.2, by go_num, HI.out, ?_⟩, by have := HEND.out.1; simp [intOf]; omega⟩
                rw [mix_all]
                exact HEND.out.2
    · as_aux_lemma =>
        subst hk1
        obtain ⟨ha0, ha1⟩ := hone.a (by simp [aM] <;> omega)
        simp only at ha0 ha1
        obtain ⟨an, rfl⟩ : ∃ m : Nat, a = (m : Int) := ⟨a.toNat, by omega⟩
        have ha2 : an < nr := by omega
        have ha3 : (an : Int) < (nr : Int) := by omega
        have hra : wr.cell? ⟨g, an, none⟩ = some (.int .u32 ((r an).toNat : Int)) := World.rowIs.cell HS.out.2.2.1 ha2
        have HNa := Lib.hid (fun W => HN.out 19 W)
        rw [show dM 19 = false from rfl] at HNa
        rw [show aM 19 = true from rfl] at HNa
        rw [show bM 19 = false from rfl] at HNa
        rw [show tM 19 = false from rfl] at HNa
        rw [show fM 19 = false from rfl] at HNa
        have HST := Lib.hid (HAT.out.1 (tX_ret (fun i => i) (wordZ z) p r d (an : Int) b k t f))
        simp only [Int.toNat_natCast] at HST
        clear hone hop
        go_wp2_with (go_at_call 30; (with_reducible refine (HNa.out _).mono ?_); rintro e w1 ⟨rfl, rfl⟩)
        go_ret2
        exact ⟨by rw [← HST.out.1, ← HST.out.2]; rfl, HX.out.1⟩
end Go.Proofs.YtoajommeiocfpaaDoor
