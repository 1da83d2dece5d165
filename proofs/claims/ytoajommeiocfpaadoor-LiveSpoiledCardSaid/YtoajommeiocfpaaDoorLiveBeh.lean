/-
  The registers that an instruction names, as sets of bits; those that are asked for behind each instruction: contracts. Conditions: those that each names.
-/
import Derived.Test.YtoajommeiocfpaaDoorLivePure
import Derived.Test.YtoajommeiocfpaaDoorFlowInt
namespace Go.Proofs.YtoajommeiocfpaaDoor
open Go Go.RowKit
set_option linter.unusedSimpArgs false
set_option linter.unusedVariables false
set_option maxRecDepth 100000

theorem p_onlyV (r : Int) (hr : 0 ≤ r ∧ r < 64) (w : World) : Calls Tryd.prog 51 #[.int .i64 r] w fun e w' => e = .returned (.int .u64 ((onlyB r).toNat : Int)) ∧ w' = w := by
  obtain ⟨k, rfl⟩ : ∃ k : Nat, r = (k : Int) := ⟨r.toNat, by omega⟩
  have hs := pow_in (k : Int) (by omega)
  rw [Int.toNat_natCast] at hs
  go_enter Tryd.func51, Tryd.ntmps51
  go_wp2
  go_ret
  refine ⟨?_, rfl⟩
  show Ending.returned (Value.int IntKind.u64 _) = _
  unfold onlyB
  rw [Int.toNat_natCast]
  first | rfl | rw [hs] | (rw [← hs]; rfl)
set_option maxHeartbeats 2000000 in
/-- What is told of an instruction, as sets. -/
theorem p_namedV (x : Irx) (hu : ∀ z ∈ useL x, 0 ≤ z ∧ z < 64) (hd : useD x < 64) (w : World) : Calls Tryd.prog 38 #[irV x] w fun e w' => e = .returned (.tuple #[.int .u64 ((usesB x).toNat : Int), .int .u64 ((setsB x).toNat : Int)]) ∧ Below w.heap.size w w' := by
  have HU := Lib.hid (fun V => p_Uses x V)
  have HO := Lib.hid (fun V r hr => p_onlyV r hr V)
  have HB := Lib.hid (lboxM w (irO x))
  have HL := Lib.hid hu
  have hlen := use_len x
  unfold UsesP UseP at HU
  unfold usesB setsB
  clear hu
  generalize useD x = D at *
  generalize useL x = l at *
  obtain ⟨o', d, a, b, k, t, f⟩ := x
  go_enter Tryd.func38, Tryd.ntmps38
  go_wp2_with (go_at_call 50; (refine (HU.out _).mono ?_); rintro e w1 ⟨A, c, rfl, hi, hb⟩; have H1 := Lib.hid (And.intro hi (onM HB.out hb)); clear hi hb)
  go_loopw [15, 2] (fun v s wr => ∃ k : Nat, k ≤ l.length ∧ v = .int .i64 (k : Int) ∧ s = .int .u64 ((orF onlyB (l.take k)).toNat : Int) ∧ wr = w1) (fun v _ _ => l.length - (intOf v).toNat)
  case atStart => exact ⟨0, by omega, rfl, rfl, rfl⟩
  case round =>
    obtain ⟨k, hk, rfl, rfl, rfl⟩ := hrel
    by_cases hlt : k < l.length
    · have hlt' : (k : Int) < (l.length : Int) := by omega
      obtain ⟨b1, o1, rfl, l1, hc1⟩ := iz_cell H1.out.1 hlt
      have hz := HL.out (l.getD k 0) (by rw [List.getD_eq_getElem?_getD, List.getElem?_eq_getElem hlt]; exact List.getElem_mem hlt)
      have hor := bits_or (orF onlyB (l.take k)) (onlyB (l.getD k 0))
      rw [← orF_take onlyB hlt] at hor
      generalize l.getD k 0 = z at *
      have HZ := Lib.hid (HO.out wr z hz)
      generalize orF onlyB (l.take k) = s0 at *
      generalize hs1 : orF onlyB (l.take (k + 1)) = s1 at *
      go_wp2_with (go_at_call 51; (refine HZ.out.mono ?_); rintro e w2 ⟨rfl, rfl⟩)
      exact ⟨⟨k + 1, by omega, by rfl, by rw [hs1], trivial⟩, by simp [intOf]; omega⟩
    · obtain rfl : k = l.length := by omega
      rw [List.take_length]
      generalize hU : orF onlyB l = U
      by_cases hD : 0 ≤ D
      · have HZ := Lib.hid (HO.out wr D ⟨hD, hd⟩)
        go_wp2_with (go_at_call 51; (refine HZ.out.mono ?_); rintro e w2 ⟨rfl, rfl⟩)
        go_ret2
        exact ⟨by first | rfl | (rw [if_pos hD]; rfl) | (rw [hU, if_pos hD]; rfl) | (rw [hU]; rfl) | (rw [← hU]; rfl) | (rw [← hU, if_pos hD]; rfl), H1.out.2⟩
      · go_wp2
        go_ret2
        exact ⟨by first | rfl | (rw [if_neg hD]; rfl) | (rw [hU, if_neg hD]; rfl) | (rw [hU]; rfl) | (rw [← hU]; rfl) | (rw [← hU, if_neg hD]; rfl), H1.out.2⟩
theorem use_right {regs : Int} {q : Nat → Irx} {n : Nat} (h : RightM regs q n) {i : Nat} (hi : i < n) : (∀ z ∈ useL (q i), 0 ≤ z ∧ z < regs) ∧ useD (q i) < regs := by
  have ho := oneM_ok.1 (h.all i hi)
  have hrg := h.rg
  generalize q i = x at *
  have hd := ho.d
  have ha := ho.a
  have hb := ho.b
  refine ⟨fun z hz => ?_, ?_⟩
  · unfold useL askN at hz
    by_cases g : bM x.op = true
    · rw [if_pos g] at hz
      have ga : aM x.op = true := by unfold bM at g; unfold aM; simp at g ⊢; omega
      rcases List.mem_cons.1 (show z ∈ [x.a, x.b] from hz) with rfl | hz
      · exact ha ga
      · rw [List.mem_singleton.1 hz]; exact hb g
    · rw [if_neg g] at hz
      by_cases ga : aM x.op = true
      · rw [if_pos ga] at hz
        rw [List.mem_singleton.1 (show z ∈ [x.a] from hz)]; exact ha ga
      · rw [if_neg ga] at hz
        exact absurd (show z ∈ ([] : List Int) from hz) (by simp)
  · unfold useD
    by_cases g : dM x.op = true
    · rw [if_pos g]; exact (hd g).2
    · rw [if_neg g]; omega
/-- Sets, one in each cell. -/
def SetsAt (w : World) (b n : Nat) (F : Nat → BitVec 64) : Prop := w.rowIs b 63 n (fun j => .int .u64 ((F j).toNat : Int))
theorem SetsAt.set {w : World} {b n : Nat} {F : Nat → BitVec 64} (h : SetsAt w b n F) (k : Nat) (s : BitVec 64) : SetsAt (w.setCell ⟨b, k, none⟩ (.int .u64 (s.toNat : Int))) b n (fun j => if j = k then s else F j) :=
  (World.rowIs.set h k _).congr fun j hj => by
    by_cases e : j = k
    · simp [e]
    · simp [e]
theorem SetsAt.congr {w : World} {b n : Nat} {F G : Nat → BitVec 64} (h : SetsAt w b n F) (e : ∀ j, j < n → F j = G j) : SetsAt w b n G := World.rowIs.congr h fun j hj => by rw [e j hj]
theorem SetsAt.cell {w : World} {b n : Nat} {F : Nat → BitVec 64} (h : SetsAt w b n F) {j : Nat} (hj : j < n) : w.cell? ⟨b, j, none⟩ = some (.int .u64 ((F j).toNat : Int)) ∧ w.frozen? ⟨b, j, none⟩ = false := ⟨World.rowIs.cell h hj, World.rowIs.frozen h j⟩
theorem SetsAt.below {w w' : World} {b n : Nat} {F : Nat → BitVec 64} (h : SetsAt w b n F) (hb : Below w.heap.size w w') : SetsAt w' b n F := by
  obtain ⟨c, h1, h2⟩ := h
  exact ⟨c, (hb.block b (Array.getElem?_eq_some_iff.1 h1).1).trans h1, h2⟩
theorem SetsAt.other {w : World} {b n g k : Nat} {v : Value} {F : Nat → BitVec 64} (h : SetsAt w b n F) (hne : b ≠ g) : SetsAt (w.setCell ⟨g, k, none⟩ v) b n F := by
  obtain ⟨c, h1, h2⟩ := h
  exact ⟨c, (Below.heap_setCell w ⟨g, k, none⟩ v b hne).trans h1, h2⟩
theorem info_set : (Tryd.prog.info? 63).map (fun i => (i.zero, i.size, i.bytes)) = some (some (.int .u64 0), 1, 8) := by kernel_rfl
theorem SetsAt.drawn {w : World} {b n : Nat} {F : Nat → BitVec 64} (h : SetsAt w b n F) (m : Nat) : SetsAt (w.drewN m) b n F := h
theorem iz_ne {W : World} {b o g n : Nat} {l : List Int} {F : Nat → BitVec 64} (h : IzAt W (some ⟨b, o, none⟩) l) (h0 : 0 < l.length) (hs : SetsAt W g n F) : b ≠ g := fun e => by
  subst e
  obtain ⟨b', o', e', hl, hc⟩ := h h0
  injection e' with e'; injection e' with e1 e2
  subst e1 e2
  have h1 := hc 0 h0
  obtain ⟨c, c1, c2, c3⟩ := hs
  unfold World.cell? at h1
  rw [c1] at h1
  rcases Nat.lt_or_ge (o + 0) n with g | g
  · have h2 : c[o + 0]? = some (Value.int .i64 (l.getD 0 0)) := h1
    rw [c3 _ g] at h2
    injection h2 with h2
    cases h2
  · have h2 : c[o + 0]? = some (Value.int .i64 (l.getD 0 0)) := h1
    rw [Array.getElem?_eq_none (by omega)] at h2
    cases h2
theorem IzAt.other {W : World} {A : Option Addr} {l : List Int} {g n k : Nat} {v : Value} {F : Nat → BitVec 64} (h : IzAt W A l) (hs : SetsAt W g n F) : IzAt (W.setCell ⟨g, k, none⟩ v) A l := fun h0 => by
  obtain ⟨b, o, rfl, hl, hc⟩ := h h0
  have hne := iz_ne (b := b) (o := o) (fun _ => ⟨b, o, rfl, hl, hc⟩) h0 hs
  exact ⟨b, o, rfl, by simpa [World.setCell] using hl, fun i hi => (World.cell?_of_block (a := ⟨b, o + i, none⟩) (Below.heap_setCell W ⟨g, k, none⟩ v b hne)).trans (hc i hi)⟩
/-- What stands while the instructions are gone through, the last first. -/
structure BhAt (w W : World) (regs : Int) (A : Option Addr) (n cap : Nat) (q : Nat → Irx) (F G : Nat → BitVec 64) : Prop where
  bel : Below w.heap.size w W
  prog : IrAt W A n q
  box : W.heap[w.heap.size]? = some (mirO regs A n cap)
  later : SetsAt W (w.heap.size + 1) n F
  from_ : SetsAt W (w.heap.size + 2) n G
section
variable {w W : World} {regs : Int} {A : Option Addr} {n cap : Nat} {q : Nat → Irx} {F G : Nat → BitVec 64}
theorem BhAt.up {W' : World} (h : BhAt w W regs A n cap q F G) (hb : Below W.heap.size W W') : BhAt w W' regs A n cap q F G := ⟨onM h.bel hb, h.prog.below hb, keepM h.box hb, h.later.below hb, h.from_.below hb⟩
theorem BhAt.progSet (h : BhAt w W regs A n cap q F G) (hw : IrAt w A n q) {g k : Nat} {v : Value} (hg : w.heap.size ≤ g) : IrAt (W.setCell ⟨g, k, none⟩ v) A n q := hw.below (h.bel.setCell (p := ⟨g, k, none⟩) hg v)
theorem BhAt.put1 (h : BhAt w W regs A n cap q F G) (hw : IrAt w A n q) (k : Nat) (s : BitVec 64) : BhAt w (W.setCell ⟨w.heap.size + 1, k, none⟩ (.int .u64 (s.toNat : Int))) regs A n cap q (fun j => if j = k then s else F j) G :=
  ⟨h.bel.setCell (p := ⟨w.heap.size + 1, k, none⟩) (Nat.le_succ _) _, h.progSet hw (Nat.le_succ _), (Below.heap_setCell W ⟨w.heap.size + 1, k, none⟩ _ _ (by show w.heap.size ≠ w.heap.size + 1; omega)).trans h.box, h.later.set k s, h.from_.other (by omega)⟩
theorem BhAt.put2 (h : BhAt w W regs A n cap q F G) (hw : IrAt w A n q) (k : Nat) (s : BitVec 64) : BhAt w (W.setCell ⟨w.heap.size + 2, k, none⟩ (.int .u64 (s.toNat : Int))) regs A n cap q F (fun j => if j = k then s else G j) :=
  ⟨h.bel.setCell (p := ⟨w.heap.size + 2, k, none⟩) (by show w.heap.size ≤ w.heap.size + 2; omega) _, h.progSet hw (by omega), (Below.heap_setCell W ⟨w.heap.size + 2, k, none⟩ _ _ (by show w.heap.size ≠ w.heap.size + 2; omega)).trans h.box, h.later.other (by omega), h.from_.set k s⟩
theorem BhAt.congr {F' G' : Nat → BitVec 64} (h : BhAt w W regs A n cap q F G) (e1 : ∀ j, j < n → F j = F' j) (e2 : ∀ j, j < n → G j = G' j) : BhAt w W regs A n cap q F' G' := ⟨h.bel, h.prog, h.box, h.later.congr e1, h.from_.congr e2⟩
end
def tailB (f : Nat → BitVec 64) (m j : Nat) : BitVec 64 := if m ≤ j then f j else 0#64
set_option maxHeartbeats 8000000 in
theorem p_behind (regs : Int) (A : Option Addr) (n cap : Nat) (q : Nat → Irx) (w : World) (h : IrAt w A n q) (hr : RightM regs q n) :
    Calls Tryd.prog 21 #[mirV regs A n cap] w fun e w' => ∃ b, e = .returned (.slice (some ⟨b, 0, none⟩) n n) ∧ SetsAt w' b n (laterB q n) ∧ Below w.heap.size w w' ∧ w.heap.size ≤ b := by
  have hmax := hr.max
  have hpos := hr.pos
  obtain ⟨O, hmk, hO⟩ := make_zero (P := Tryd.prog) 60 63 (.int .u64 0) 8 Tryd.underlying60 info_set rfl n (by omega) (by omega)
  have HR := Lib.hid hr
  have hz : ((w.alloc (mirO regs A n cap)).alloc O).heap.size = w.heap.size + 2 := by simp
  have H0 : Hid (BhAt w (((w.alloc (mirO regs A n cap)).alloc O).alloc O) regs A n cap q (tailB (laterB q n) n) (tailB (fromB q n) n)) := Lib.hid (by
    have r1 : SetsAt ((w.alloc (mirO regs A n cap)).alloc O) (w.heap.size + 1) n (fun _ => 0#64) := by
      have := hO (w.alloc (mirO regs A n cap))
      rwa [show (w.alloc (mirO regs A n cap)).heap.size = w.heap.size + 1 by simp] at this
    have r2 : SetsAt (((w.alloc (mirO regs A n cap)).alloc O).alloc O) (w.heap.size + 2) n (fun _ => 0#64) := by
      have := hO ((w.alloc (mirO regs A n cap)).alloc O)
      rwa [hz] at this
    have b1 := onM (onM (lboxM w (mirO regs A n cap)) (lboxM _ O)) (lboxM _ O)
    exact ⟨b1, h.below b1, kept_allocM (kept_allocM (World.alloc_heap_new w _) _) _, (r1.below (lboxM _ _)).congr fun j hj => by unfold tailB; rw [if_neg (by omega)], r2.congr fun j hj => by unfold tailB; rw [if_neg (by omega)]⟩)
  have HW := Lib.hid h
  have HU := Lib.hid (fun i hi => use_right hr (i := i) hi)
  have HNx := Lib.hid (fun V x (hV : IrAt V A n q) => p_Next regs A n cap q x V hV)
  have HNm := Lib.hid (fun V i (hi : i < n) => p_namedV (q i) (fun z hz => by have := (use_right hr hi).1 z hz; have := hr.rg; omega) (by have := (use_right hr hi).2; have := hr.rg; omega) V)
  unfold NexP at HNx
  clear h hO hr
  go_enter Tryd.func21, Tryd.ntmps21
  go_wp2
  clear hmk
  go_loopw [5] (fun i wr => ∃ m : Nat, m ≤ n ∧ i = .int .i64 ((m : Int) - 1) ∧ BhAt w wr regs A n cap q (tailB (laterB q n) m) (tailB (fromB q n) m)) (fun i _ => (intOf i + 1).toNat)
  case atStart => exact ⟨n, Nat.le_refl _, rfl, H0.out⟩
  case round =>
    obtain ⟨m, hm, rfl, hX⟩ := hrel
    clear H0
    have HX := Lib.hid hX
    clear hX
    cases m with
    | zero =>
      have hneg : ((0 : Nat) : Int) - 1 = -1 := by omega
      rw [hneg]
      go_wp2
      go_ret
      exact ⟨w.heap.size + 1, rfl, HX.out.later.congr fun j hj => by unfold tailB; rw [if_pos (Nat.zero_le _)], HX.out.bel, Nat.le_succ _⟩
    | succ x =>
      have hx1 : ((x + 1 : Nat) : Int) - 1 = (x : Int) := by omega
      rw [hx1]
      have hge : (0 : Int) ≤ (x : Int) := by omega
      have hxn : (x : Int) < (n : Int) := by omega
      have x0 := cellM HX.out.box 0 rfl
      have x1 := cellM HX.out.box 1 rfl
      go_wp2_with (go_at_call 37; (refine (HNx.out _ _ HX.out.prog).mono ?_); rintro e w2 ⟨A2, c2, rfl, hi2, hb⟩; have H2 := Lib.hid (And.intro (HX.out.up hb) hi2); clear hb hi2 HX x0 x1)
      have hnl := next_len n q (x : Int)
      have HNI := Lib.hid (fun z hz => next_in HR.out (i := x) (by omega) (z := z) hz)
      have HLB := Lib.hid (show laterB q n x = orF (fun k => fromB q n k.toNat) (nextM n q (x : Int)) from rfl)
      generalize nextM n q (x : Int) = L at *
      go_loopw [30] (fun i wr => ∃ k : Nat, k ≤ L.length ∧ i = .int .i64 (k : Int) ∧ BhAt w wr regs A n cap q (fun j => if j = x then orF (fun z => fromB q n z.toNat) (L.take k) else tailB (laterB q n) (x + 1) j) (tailB (fromB q n) (x + 1)) ∧ IzAt wr A2 L) (fun i _ => L.length - (intOf i).toNat)
      case atStart => exact ⟨0, Nat.zero_le _, rfl, H2.out.1.congr (fun j hj => by
        by_cases e : j = x
        · rw [if_pos e, e]; unfold tailB; rw [if_neg (by omega)]; rfl
        · rw [if_neg e]) (fun j hj => rfl), H2.out.2⟩
      case round =>
        obtain ⟨k, hk, rfl, hX, hi⟩ := hrel
        have HX := Lib.hid (And.intro hX hi)
        clear H2
        by_cases hlt : k < L.length
        · have hlt' : (k : Int) < (L.length : Int) := by omega
          obtain ⟨b1, o1, rfl, l1, hc1⟩ := iz_cell hi hlt
          have hzm : L.getD k 0 ∈ L := by rw [List.getD_eq_getElem?_getD, List.getElem?_eq_getElem hlt]; exact List.getElem_mem hlt
          have hz := HNI.out _ hzm
          have htk := orF_take (fun z => fromB q n z.toNat) hlt
          obtain ⟨zn, hzn⟩ : ∃ zn : Nat, L.getD k 0 = (zn : Int) := ⟨(L.getD k 0).toNat, by omega⟩
          rw [hzn] at hc1 hz htk
          have cl := hX.later.cell (j := x) (by omega)
          have cf := hX.from_.cell (j := zn) (by omega)
          rw [if_pos rfl] at cl
          have hF : tailB (fromB q n) (x + 1) zn = fromB q n zn := by unfold tailB; rw [if_pos (by omega)]
          rw [hF] at cf
          obtain ⟨cl1, cl2⟩ := cl
          obtain ⟨cf1, cf2⟩ := cf
          have hor := bits_or (orF (fun z => fromB q n z.toNat) (L.take k)) (fromB q n zn)
          have htk' : orF (fun z => fromB q n z.toNat) (L.take (k + 1)) = orF (fun z => fromB q n z.toNat) (L.take k) ||| fromB q n zn := by rw [htk]; rfl
          have HE : Hid (BhAt w (wr.setCell ⟨w.heap.size + 1, x, none⟩ (.int .u64 ((orF (fun z => fromB q n z.toNat) (L.take (k + 1))).toNat : Int))) regs A n cap q (fun j => if j = x then orF (fun z => fromB q n z.toNat) (L.take (k + 1)) else tailB (laterB q n) (x + 1) j) (tailB (fromB q n) (x + 1)) ∧ IzAt (wr.setCell ⟨w.heap.size + 1, x, none⟩ (.int .u64 ((orF (fun z => fromB q n z.toNat) (L.take (k + 1))).toNat : Int))) (some ⟨b1, o1, none⟩) L) := Lib.hid
            ⟨(hX.put1 HW.out x _).congr (fun j hj => by
              by_cases e : j = x
              · rw [if_pos e, if_pos e]
              · rw [if_neg e, if_neg e, if_neg e]) (fun j hj => rfl), hi.other hX.later⟩
          rw [← htk'] at hor
          have hzn' : (zn : Int) < (n : Int) := by omega
          clear hX hi hz hzm htk htk' hF hzn HNI HLB
          generalize orF (fun z => fromB q n z.toNat) (L.take k) = s0 at *
          generalize hs1 : orF (fun z => fromB q n z.toNat) (L.take (k + 1)) = s1 at *
          generalize fromB q n zn = s2 at *
          go_wp2
          go_region
          all_goals go_wp2
          all_goals exact ⟨⟨k + 1, by omega, by rfl, by rw [hs1]; exact HE.out.1.up (below_drawn (Below.refl _ _) 1), Holds.below HE.out.2 (below_drawn (Below.refl _ _) 1)⟩, by simp [intOf]; omega⟩
        · obtain rfl : k = L.length := by omega
          rw [List.take_length, ← HLB.out] at HX
          have x1 := cellM hX.box 1 (v := .slice A n cap) rfl
          obtain ⟨ib, io, rfl, hil, c0, c1, c2', c3, c4, c5, c6⟩ := ir_at hX.prog (i := x) (by omega)
          have HZ := Lib.hid (HNm.out wr x (by omega))
          clear hX hi HNI HLB
          have HX := Lib.hid HX.out.1
          have hfe := from_eq HR.out (i := x) (by omega)
          generalize hq : q x = y at *
          obtain ⟨yo, yd, ya, yb, yk, yt, yf⟩ := y
          generalize usesB (⟨yo, yd, ya, yb, yk, yt, yf⟩ : Irx) = U at *
          generalize setsB (⟨yo, yd, ya, yb, yk, yt, yf⟩ : Irx) = T at *
          have e1 := bits_andNot (laterB q n x) T
          have e2 := bits_or (laterB q n x &&& ~~~T) U
          rw [← hfe] at e2
          have HE : Hid (∀ V, BhAt w V regs (some ⟨ib, io, none⟩) n cap q (fun j => if j = x then laterB q n x else tailB (laterB q n) (x + 1) j) (tailB (fromB q n) (x + 1)) → BhAt w (V.setCell ⟨w.heap.size + 2, x, none⟩ (.int .u64 ((fromB q n x).toNat : Int))) regs (some ⟨ib, io, none⟩) n cap q (tailB (laterB q n) x) (tailB (fromB q n) x)) := Lib.hid fun V hV => (hV.put2 HW.out x _).congr (fun j hj => by
            by_cases e : j = x
            · rw [if_pos e, e]; unfold tailB; rw [if_pos (Nat.le_refl _)]
            · rw [if_neg e]; unfold tailB
              by_cases g : x ≤ j
              · rw [if_pos g, if_pos (by omega)]
              · rw [if_neg g, if_neg (by omega)]) (fun j hj => by
            by_cases e : j = x
            · rw [if_pos e, e]; unfold tailB; rw [if_pos (Nat.le_refl _)]
            · rw [if_neg e]; unfold tailB
              by_cases g : x ≤ j
              · rw [if_pos g, if_pos (by omega)]
              · rw [if_neg g, if_neg (by omega)])
          clear hfe
          generalize laterB q n x &&& ~~~T = T2 at *
          generalize laterB q n x = s0 at *
          generalize fromB q n x = s1 at *
          go_wp2_with (go_at_call 38; (refine HZ.out.mono ?_); rintro e w3 ⟨rfl, hb⟩; have H3 := Lib.hid (HX.out.up hb); clear hb x1 c0 c1 c2' c3 c4 c5 c6; have cl := H3.out.later.cell (j := x) (by omega); rw [if_pos rfl] at cl; have cl1 := cl.1; have cf := H3.out.from_.cell (j := x) (by omega); have cf1 := cf.1; have cf2 := cf.2; clear cl cf)
          exact ⟨⟨x, by omega, rfl, HE.out _ H3.out⟩, by simp [intOf]⟩
end Go.Proofs.YtoajommeiocfpaaDoor
