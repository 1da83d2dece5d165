/-
  'FlowParts': for every program, the law of layer 10 on its blocks returns true, and leaves memory as it was. No condition.
-/
import Derived.Test.YtaphbcjehcnggaaFlowProg
import Derived.Test.YtaphbcjehcnggaaRowsSized
import Derived.Test.YtaphbcjehcnggaaCbpfArgs
namespace Go.Proofs.Ytaphbcjehcnggaa.flowParts
open Go Go.ChangeShapes Go.WideShapes Go.ChangeAt Go.RowKit
set_option linter.unusedSimpArgs false
set_option linter.unusedVariables false

/-- In how many of the first b blocks an instruction is; and of the next one up to a place. -/
def inF (q : Nat → Ins) (n b : Nat) (k : Nat) : Nat := if reachF q n k = true ∧ numF q n k < b then 1 else 0
def inG (q : Nat → Ins) (n b kk : Nat) (k : Nat) : Nat := inF q n b k + (if fromB q n b ≤ k ∧ k < kk then 1 else 0)
theorem inG_start (q : Nat → Ins) (n b k : Nat) : inG q n b (fromB q n b) k = inF q n b k := by
  unfold inG; rw [if_neg (by omega)]; rfl
theorem inG_on {q : Nat → Ins} {n b kk : Nat} (h : fromB q n b ≤ kk) (k : Nat) : (if k = kk then inG q n b kk kk + 1 else inG q n b kk k) = inG q n b (kk + 1) k := by
  unfold inG
  by_cases e : k = kk
  · subst e; rw [if_pos rfl, if_neg (by omega), if_pos (by omega)]
  · rw [if_neg e]
    congr 1
    by_cases g : fromB q n b ≤ k ∧ k < kk
    · rw [if_pos g, if_pos (by omega)]
    · rw [if_neg g, if_neg (by omega)]
theorem inG_end {q : Nat → Ins} {n b : Nat} (hb : b < (blkF q n).length) {k : Nat} (hk : k < n) : inG q n b (toB q n b) k = inF q n (b + 1) k := by
  have B := blk_all (q := q) (n := n)
  unfold inG inF
  by_cases g : fromB q n b ≤ k ∧ k < toB q n b
  · have hbk := B.back b k hb g.1 g.2
    rw [if_pos g, if_neg (by omega), if_pos ⟨hbk.1, by omega⟩]
  · rw [if_neg g, Nat.add_zero]
    by_cases r : reachF q n k = true ∧ numF q n k < b
    · rw [if_pos r, if_pos ⟨r.1, by omega⟩]
    · rw [if_neg r, if_neg]
      rintro ⟨r1, r2⟩
      have : numF q n k = b := by
        have : ¬ numF q n k < b := fun e => r ⟨r1, e⟩
        omega
      have hc := B.come k hk r1
      rw [this] at hc
      exact g hc.2
theorem inF_all {q : Nat → Ins} {n k : Nat} (hk : k < n) : inF q n (blkF q n).length k = if reachF q n k = true then 1 else 0 := by
  have B := blk_all (q := q) (n := n)
  unfold inF
  by_cases r : reachF q n k = true
  · rw [if_pos r, if_pos ⟨r, (B.come k hk r).1⟩]
  · rw [if_neg r, if_neg fun h => r h.1]
theorem inF_le (q : Nat → Ins) (n b k : Nat) : inF q n b k ≤ 1 := by unfold inF; split <;> omega
theorem inG_le (q : Nat → Ins) (n b kk k : Nat) : inG q n b kk k ≤ 2 := by
  unfold inG
  have := inF_le q n b k
  split <;> omega
/-- The last block's end. -/
def lastOf (q : Nat → Ins) (n b : Nat) : Nat := if b = 0 then 0 else toB q n (b - 1)
theorem last_le {q : Nat → Ins} {n b : Nat} (hb : b < (blkF q n).length) : lastOf q n b ≤ fromB q n b ∧ fromB q n b < toB q n b ∧ toB q n b ≤ n := by
  have B := blk_all (q := q) (n := n)
  have h := B.each b hb
  refine ⟨?_, h.1, h.2⟩
  unfold lastOf
  split
  · exact Nat.zero_le _
  · exact blk_rise hb (by omega)
theorem last_succ (q : Nat → Ins) (n b : Nat) : lastOf q n (b + 1) = toB q n b := by unfold lastOf; rw [if_neg (by omega)]; rfl
/-- What is at hand: what came, ahead of the row of counts. -/
structure PrtAt (w wB W : World) (q : Nat → Ins) (n : Nat) (R Bk : Option Addr) (f : Nat → Nat) : Prop where
  reach : Holds wB R n fun i => .bool (reachF q n i)
  blks : BlksAt wB Bk (blkF q n) (leadF q n)
  row : NumsAt W wB.heap.size n f
  bel : Below wB.heap.size wB W
  top : Below w.heap.size w wB
theorem PrtAt.congr {w wB W : World} {q : Nat → Ins} {n : Nat} {R Bk : Option Addr} {f g : Nat → Nat} (h : PrtAt w wB W q n R Bk f) (e : ∀ i, i < n → f i = g i) : PrtAt w wB W q n R Bk g := ⟨h.reach, h.blks, h.row.congr e, h.bel, h.top⟩
theorem PrtAt.set {w wB W : World} {q : Nat → Ins} {n : Nat} {R Bk : Option Addr} {f : Nat → Nat} (h : PrtAt w wB W q n R Bk f) (k x : Nat) : PrtAt w wB (W.setCell ⟨wB.heap.size, k, none⟩ (.int .i64 ((x : Nat) : Int))) q n R Bk (fun j => if j = k then x else f j) :=
  ⟨h.reach, h.blks, h.row.set k x, h.bel.setCell (p := ⟨wB.heap.size, k, none⟩) (Nat.le_refl _) _, h.top⟩
theorem PrtAt.drawn {w wB W : World} {q : Nat → Ins} {n : Nat} {R Bk : Option Addr} {f : Nat → Nat} (h : PrtAt w wB W q n R Bk f) (k : Nat) : PrtAt w wB (W.drewN k) q n R Bk f := ⟨h.reach, h.blks, h.row.drawn k, below_drawn h.bel k, h.top⟩
set_option maxHeartbeats 4000000 in
set_option maxRecDepth 100000 in
theorem walk (a0 : Option Addr) (len0 cap0 : Nat) (w : World) (w0 : RowsOf [.u16, .u8, .u8, .u32] w a0 len0) (s0 : len0 * 8 ≤ 140737488351232) :
    Calls Try.prog 6 #[.slice a0 len0 cap0] w fun e w' => e = .returned (.bool true) ∧ Below w.heap.size w w' := by
  obtain ⟨q, hp, ho⟩ := prog_of_rows w0
  clear w0
  have hn : len0 ≤ 17592186044416 := by omega
  have HP := Lib.hid hp
  have HACC := Lib.hid (fun V (hV : ProgAt V a0 len0 q) => r_Accepted cap0 hV ho)
  by_cases hE : checkE q len0 = 0
  · have HE := Lib.hid hE
    have hpos := (check_is.1 hE).pos
    have hmax := (check_is.1 hE).max
    have hd : decide (checkE q len0 = 0) = true := decide_eq_true hE
    rw [hd] at HACC
    have HR : Hid (∀ V, ProgAt V a0 len0 q → Calls Try.prog 14 #[.slice a0 len0 cap0] V fun e w' => ∃ A' c, e = .returned (.tuple #[.slice A' len0 c, .int .i64 0]) ∧ (Holds w' A' len0 fun i => .bool (reachF q len0 i)) ∧ Below V.heap.size V w') := Lib.hid (fun V hV => by
      refine (p_Reach10 cap0 hV ho hn).mono ?_
      rintro e w' ⟨A', m, c, E, rfl, (⟨_, rfl, rfl, hh⟩ | ⟨h0, _⟩), hb⟩
      · exact ⟨A', c, rfl, hh, hb⟩
      · exact absurd hE h0)
    have HB : Hid (∀ V, ProgAt V a0 len0 q → Calls Try.prog 15 #[.slice a0 len0 cap0] V fun e w' => ∃ A' c, e = .returned (.tuple #[.slice A' (blkF q len0).length c, .int .i64 0]) ∧ BlksAt w' A' (blkF q len0) (leadF q len0) ∧ Below V.heap.size V w') := Lib.hid (fun V hV => by
      refine (p_Blocks10 cap0 hV ho hn).mono ?_
      rintro e w' ⟨A', m, c, E, rfl, (⟨_, rfl, rfl, hh⟩ | ⟨h0, _⟩), hb⟩
      · exact ⟨A', c, rfl, hh, hb⟩
      · exact absurd hE h0)
    have hNle := blk_len (q := q) (n := len0) len0
    obtain ⟨N, hN⟩ : ∃ N, N = (blkF q len0).length := ⟨_, rfl⟩
    have hNle : N ≤ len0 := by rw [hN]; exact hNle
    have HNN := Lib.hid hN
    rw [← hN] at HB
    obtain ⟨O, hmk, hO⟩ := make_zero 23 3 (.int .i64 0) 8 Try.underlying23 info_int10 rfl len0 (by omega) (by omega)
    have HOO := Lib.hid hO
    clear hp ho hd hE hN hO
    go_enter Try.func6, Try.ntmps6
    go_wp2_with (first
      | (go_at_call 15; (with_reducible refine (HB.out _ H3.out.2.1).mono ?_); rintro e w4 ⟨A4, c4, rfl, hh, hb⟩; have H4 := Lib.hid (And.intro (H3.out.1.below hb) (And.intro hh (H3.out.2.2.trans (hb.mono H3.out.2.2.size)))); clear hh hb)
      | (go_at_call 14; (with_reducible refine (HR.out _ H2.out.1).mono ?_); rintro e w3 ⟨A3, c3, rfl, hh, hb⟩; have H3 := Lib.hid (And.intro hh (And.intro (H2.out.1.below hb) (H2.out.2.trans (hb.mono H2.out.2.size)))); clear hh hb)
      | (go_at_call 18; (with_reducible refine (HACC.out _ H1.out.1).mono ?_); rintro e w2 ⟨rfl, hb⟩; have H2 := Lib.hid (And.intro (H1.out.1.below hb) (H1.out.2.trans (hb.mono H1.out.2.size))); clear hb)
      | (go_at_call 8; (with_reducible refine (l_head10 _).mono ?_); rintro e w1 ⟨rfl, hb⟩; have H1 := Lib.hid (And.intro (HP.out.below hb) hb); clear hb))
    have HS : Hid (PrtAt w w4 (w4.alloc O) q len0 A3 A4 (inF q len0 0)) := Lib.hid (by
      have h1 : NumsAt (w4.alloc O) w4.heap.size len0 (fun _ => 0) := HOO.out w4
      exact ⟨H4.out.1, H4.out.2.1, h1.congr fun i _ => by unfold inF; rw [if_neg (by omega)], lbox10 _ _, H4.out.2.2⟩)
    clear H4 H3 H2 H1 HB HR HACC HOO HP
    go_loopw [10, 11] (fun la i wr => ∃ b : Nat, b ≤ N ∧ i = .int .i64 (b : Int) ∧ la = .int .i64 ((lastOf q len0 b : Nat) : Int) ∧ PrtAt w w4 wr q len0 A3 A4 (inF q len0 b)) (fun _ i _ => N - (intOf i).toNat)
    case atStart => exact ⟨0, by omega, rfl, rfl, HS.out⟩
    case round =>
      obtain ⟨b, hb, rfl, rfl, hR⟩ := hrel
      have HR := Lib.hid hR
      clear HS
      by_cases hlt : b < N
      · have hlt' : (b : Int) < (N : Int) := by omega
        have hw1 : IntKind.i64.wrap ((b : Int) + 1) = ((b + 1 : Nat) : Int) := by rw [IntWalk.i64_in _ (by omega)]; omega
        have HM : Hid (b < (blkF q len0).length) := Lib.hid (HNN.out ▸ hlt)
        obtain ⟨g, o, rfl, hgl, hgc⟩ := hR.blks
        obtain ⟨x0, x1, _⟩ := hgc b HM.out
        obtain ⟨l1, l2, l3⟩ := last_le HM.out
        have y0 := (hR.bel.cell (p := ⟨g, o + b * 3, none⟩) hgl).trans x0
        have y1 := (hR.bel.cell (p := ⟨g, o + b * 3 + 1, none⟩) hgl).trans x1
        clear hR hgc x0 x1
        have HT : Hid (lastOf q len0 (b + 1) = toB q len0 b) := Lib.hid (last_succ q len0 b)
        obtain ⟨F, hF⟩ : ∃ F, F = fromB q len0 b := ⟨_, rfl⟩
        obtain ⟨T, hT⟩ : ∃ T, T = toB q len0 b := ⟨_, rfl⟩
        obtain ⟨L, hL⟩ : ∃ L, L = lastOf q len0 b := ⟨_, rfl⟩
        have HFT := Lib.hid (And.intro hF hT)
        have y0' : wr.cell? ⟨g, o + b * 3, none⟩ = some (.int .i64 (F : Int)) := by rw [hF]; exact y0
        have y1' : wr.cell? ⟨g, o + b * 3 + 1, none⟩ = some (.int .i64 (T : Int)) := by rw [hT]; exact y1
        rw [← hL, ← hF] at l1
        rw [← hF, ← hT] at l2
        rw [← hT] at l3
        rw [← hL]
        clear y0 y1 hF hT hL
        have f1 : ¬ (F : Int) < (L : Int) := by omega
        have f2 : ¬ (T : Int) ≤ (F : Int) := by omega
        have f3 : ¬ (len0 : Int) < (T : Int) := by omega
        have HY := Lib.hid (And.intro y0' y1')
        go_wp2
        go_quiet (fail)
        have HR2 := Lib.hid (HR.out.drawn nq)
        have z0 : (wr.drewN nq).cell? ⟨g, o + b * 3, none⟩ = some (.int .i64 (F : Int)) := HY.out.1
        have z1 : (wr.drewN nq).cell? ⟨g, o + b * 3 + 1, none⟩ = some (.int .i64 (T : Int)) := HY.out.2
        clear y0' y1' HR
        generalize wr.drewN nq = V at HR2 z0 z1 ⊢
        go_wp2
        have HZ := Lib.hid z1
        clear z0 z1
        go_loopw [12] (fun k wr => ∃ kk : Nat, F ≤ kk ∧ kk ≤ T ∧ k = .int .i64 (kk : Int) ∧ wr.cell? ⟨g, o + b * 3 + 1, none⟩ = some (.int .i64 (T : Int)) ∧ PrtAt w w4 wr q len0 A3 (some ⟨g, o, none⟩) (inG q len0 b kk)) (fun k _ => T - (intOf k).toNat)
        case atStart => exact ⟨F, by omega, by omega, rfl, HZ.out, HR2.out.congr fun i _ => by rw [HFT.out.1]; exact (inG_start q len0 b i).symm⟩
        case round =>
          obtain ⟨kk, hk1, hk2, rfl, z1, hP⟩ := hrel
          have HP := Lib.hid hP
          have HZZ := Lib.hid z1
          by_cases hl : kk < T
          · have hl' : (kk : Int) < (T : Int) := by omega
            have hw2 : IntKind.i64.wrap ((kk : Int) + 1) = ((kk + 1 : Nat) : Int) := by rw [IntWalk.i64_in _ (by omega)]; omega
            have hkn : kk < len0 := by omega
            have hkn' : (kk : Int) < (len0 : Int) := by omega
            have c0 := hP.row.cell hkn
            have c1 := hP.row.free kk
            have hle := inG_le q len0 b kk kk
            clear hP
            generalize hu : inG q len0 b kk kk = u at c0 hle
            have HU := Lib.hid hu
            clear hu
            have hw3 : IntKind.i64.wrap ((u : Int) + 1) = ((u + 1 : Nat) : Int) := by rw [IntWalk.i64_in _ (by omega)]; omega
            go_wp2
            refine ⟨⟨kk + 1, by omega, by omega, by go_num, ?_, (HP.out.set kk (u + 1)).congr fun j _ => by rw [← inG_on (q := q) (n := len0) (b := b) (by rw [← HFT.out.1]; omega), HU.out]⟩, by simp [intOf]; omega⟩
            rw [World.cell?_setCell_far _ _ _ _ (by show w4.heap.size ≠ g; omega)]; exact HZZ.out
          · have hl' : ¬ (kk : Int) < (T : Int) := by omega
            obtain rfl : T = kk := by omega
            clear hP
            go_wp2
            exact ⟨⟨b + 1, by omega, by go_num, by rw [HT.out, ← HFT.out.2], HP.out.congr fun j hj => by rw [HFT.out.2]; exact inG_end HM.out hj⟩, by simp [intOf]; omega⟩
      · obtain rfl : N = b := by omega
        have HR2 : Hid (PrtAt w w4 wr q len0 A3 A4 (fun k => if reachF q len0 k = true then 1 else 0)) := Lib.hid (HR.out.congr fun i hi => by rw [HNN.out]; exact inF_all hi)
        clear hR HR
        have hne : ((len0 : Int) != (len0 : Int)) = false := bne_self_eq_false _
        go_wp2
        go_loopw [13] (fun i wr => ∃ k : Nat, k ≤ len0 ∧ i = .int .i64 (k : Int) ∧ PrtAt w w4 wr q len0 A3 A4 (fun k => if reachF q len0 k = true then 1 else 0)) (fun i _ => len0 - (intOf i).toNat)
        case atStart => exact ⟨0, by omega, rfl, HR2.out⟩
        case round =>
          obtain ⟨k, hk, rfl, hP⟩ := hrel
          have HP := Lib.hid hP
          clear HR2
          by_cases hl : k < len0
          · have hl' : (k : Int) < (len0 : Int) := by omega
            have hw2 : IntKind.i64.wrap ((k : Int) + 1) = ((k + 1 : Nat) : Int) := by rw [IntWalk.i64_in _ (by omega)]; omega
            obtain ⟨rb, ro, rfl, hrl, hrc⟩ := hP.reach (by omega)
            have c0 := hP.row.cell hl
            have c1 : wr.cell? ⟨rb, ro + k, none⟩ = some (.bool (reachF q len0 k)) := (hP.bel.cell (p := ⟨rb, ro + k, none⟩) hrl).trans (hrc k hl)
            clear hP hrc
            cases hr : reachF q len0 k with
            | true =>
              rw [hr] at c0 c1
              clear hr
              simp only [if_true] at c0
              go_wp2
              go_quiet (fail)
              go_wp2
              exact ⟨⟨k + 1, by omega, by go_num, HP.out.drawn _⟩, by simp [intOf]; omega⟩
            | false =>
              rw [hr] at c0 c1
              clear hr
              simp only [Bool.false_eq_true, if_false] at c0
              go_wp2
              go_quiet (fail)
              go_wp2
              exact ⟨⟨k + 1, by omega, by go_num, HP.out.drawn _⟩, by simp [intOf]; omega⟩
          · obtain rfl : len0 = k := by omega
            clear hP
            go_wp2
            go_ret
            exact ⟨rfl, HP.out.top.trans (HP.out.bel.mono HP.out.top.size)⟩
  · have hd : decide (checkE q len0 = 0) = false := decide_eq_false hE
    rw [hd] at HACC
    clear hp ho hE hd
    go_enter Try.func6, Try.ntmps6
    go_wp2_with (first
      | (go_at_call 18; (with_reducible refine (HACC.out _ H1.out.1).mono ?_); rintro e w2 ⟨rfl, hb⟩; have H2 := Lib.hid (H1.out.2.trans (hb.mono H1.out.2.size)); clear hb)
      | (go_at_call 8; (with_reducible refine (l_head10 _).mono ?_); rintro e w1 ⟨rfl, hb⟩; have H1 := Lib.hid (And.intro (HP.out.below hb) hb); clear hb))
    go_ret
    exact ⟨rfl, H2.out⟩

/-! ### The row's step and the statement -/
set_option maxRecDepth 100000 in
theorem lifted (os : Os) (started : os.Started) (H : Type) (enc : TypeId × Value → H) :
    ReturnsInHanded {} Try.checked os 6 .any (Rows.flowPartsSpec.pre6 enc Try.prog Try.f6 Rows.flowPartsRow.domain false) (Rows.flowPartsSpec.post enc Try.prog Try.f6 false true false false) := by
  refine returnsInHanded_of_change_sized (C := Try.checked) own started (by kernel_rfl) Try.func6
    (ChangeSpec.witness6 (enc := enc) (C := Try.checked) false ⟨#[], #[.slice none 0 0], []⟩ 8 (by kernel_rfl) (by kernel_rfl) (by kernel_rfl) (by kernel_rfl)) ?_
  intro W base args ds gs before hval0 hW hcnd hsz0 _
  have hsz : (DataW.weightsEach Try.prog (Try.f6.params.toList ++ Rows.flowPartsSpec.plain.varTypes Try.prog) (ds ++ gs)).all (· ≤ reachBytes) = true := hsz0
  clear hsz0
  have hval : ∀ (j : Nat) t v, Try.f6.params[j]? = some t → args[j]? = some v → Value.okWide Try.prog W .any base t v := hval0
  have hW' := hW
  obtain ⟨p, q, hA0, hV, rfl, hfz, hnd⟩ := hW
  have hA : DataW.TrodAll enc Try.prog W 0 (fun _ => true) true Try.f6.params.toList args.toList ds p := hA0
  rw [Try.params6] at hA hval hsz
  obtain ⟨v0, vs0, d0, ds0, p0, q0, hargs, rfl, rfl, h0, r0⟩ := trodAll_cons hA
  obtain ⟨rfl, rfl, rfl⟩ := trodAll_nil r0
  obtain rfl : args = #[v0] := by cases args; simp_all
  obtain ⟨rfl, rfl⟩ := trodVars_none hV
  obtain ⟨a0, len0, cap0, rfl⟩ := okWide_slice Try.underlying22 (hval 0 22 v0 rfl rfl)
  have k0 := h0
  have lt0 : ∀ x ∈ p0, x.block < W.heap.size := by obtain ⟨m, hm⟩ := k0; exact DataW.trod_lt m _ _ _ hm
  have w0 : RowsOf [.u16, .u8, .u8, .u32] W a0 len0 := by
    obtain ⟨fuel, hf⟩ := h0
    rcases rows_fields Try.underlying22 Try.underlying56 (by kernel_rfl) (by kernel_rfl) hf with hcs | ⟨x, l, c, hcs, hl, hm, hi⟩
    · simp [Value.cells] at hcs
      obtain ⟨rfl, rfl, rfl⟩ := hcs
      exact .inl ⟨rfl, rfl⟩
    · simp [Value.cells] at hcs
      obtain ⟨rfl, rfl, rfl⟩ := hcs
      refine .inr ⟨_, rfl, Nat.le_trans hl hm, fun i hil j K hK => ?_⟩
      match j, hK with
      | 0, hK =>
        obtain ⟨v, y, n, hc, ht⟩ := hi i hil 0 _ rfl
        obtain ⟨z, e, _, wz⟩ := DataW.trod_int Try.underlying53 ht
        simp only [List.cons.injEq, and_true] at e; subst e
        obtain rfl := Option.some.inj hK
        exact ⟨z, hc, wz⟩
      | 1, hK =>
        obtain ⟨v, y, n, hc, ht⟩ := hi i hil 1 _ rfl
        obtain ⟨z, e, _, wz⟩ := DataW.trod_int Try.underlying5 ht
        simp only [List.cons.injEq, and_true] at e; subst e
        obtain rfl := Option.some.inj hK
        exact ⟨z, hc, wz⟩
      | 2, hK =>
        obtain ⟨v, y, n, hc, ht⟩ := hi i hil 2 _ rfl
        obtain ⟨z, e, _, wz⟩ := DataW.trod_int Try.underlying5 ht
        simp only [List.cons.injEq, and_true] at e; subst e
        obtain rfl := Option.some.inj hK
        exact ⟨z, hc, wz⟩
      | 3, hK =>
        obtain ⟨v, y, n, hc, ht⟩ := hi i hil 3 _ rfl
        obtain ⟨z, e, _, wz⟩ := DataW.trod_int Try.underlying54 ht
        simp only [List.cons.injEq, and_true] at e; subst e
        obtain rfl := Option.some.inj hK
        exact ⟨z, hc, wz⟩
      | _ + 4, hK => exact absurd hK (by simp)
  have s0 : len0 * 8 ≤ 140737488351232 := by
    obtain ⟨fuel, hf⟩ := h0
    rcases rows_sized Try.underlying22 hf with hcs | ⟨x, l, c, elems, rest, hcs, hd, hle⟩
    · simp [Value.cells] at hcs
      obtain ⟨rfl, rfl, rfl⟩ := hcs
      omega
    · simp [Value.cells] at hcs
      obtain ⟨rfl, rfl, rfl⟩ := hcs
      have hr := sized_slice hsz (j := 0) (t := 22) (e := 56) rfl (congrArg some hd) Try.underlying22
      rw [show Try.prog.bytesOf 56 = 8 by kernel_rfl] at hr
      simp only [reachBytes] at hr
      have := Nat.mul_le_mul_right 8 hle
      omega
  clear hA0 hval0
  refine (walk a0 len0 cap0 W w0 s0).mono fun e W' ⟨he, bel⟩ => ?_
  subst he
  exact ⟨_, rfl, _, _, _, [], _, [], hW', trodAll_mk1 (shut_bool Try.underlying4 _), (trodAll_cons_mk (Below.trod laidOut (by kernel_rfl) (of_decide_eq_true (by kernel_rfl)) k0 bel lt0) trodAll_mk0), rfl, bel.frame _, fun h => by cases h⟩

theorem over : Rows.flowPartsRow.holds Try.pinned (OpenSpec.ofChange Rows.flowPartsSpec) :=
  OpenClaim.holds_of_wide 6 Try.f6 rfl rfl rfl rfl rfl rfl rfl ⟨rfl, rfl, rfl, rfl, rfl⟩ rfl rfl rfl rfl rfl (by kernel_rfl) Try.func6 (by kernel_rfl)
    (of_decide_eq_true (by kernel_rfl)) (by unfold Func.isWrapper; first | (rw [if_pos (by decide +kernel)]; kernel_rfl) | (rw [if_neg (by decide +kernel)]; exact ⟨rfl, rfl⟩))
    (fun os started H enc _ => lifted os started H enc)

/-- The statement. -/
theorem proved : Rows.FlowPartsSaid := over
end Go.Proofs.Ytaphbcjehcnggaa.flowParts
