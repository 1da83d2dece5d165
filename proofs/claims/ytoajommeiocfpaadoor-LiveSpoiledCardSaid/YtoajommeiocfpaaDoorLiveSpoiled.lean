/-
  'LiveSpoiled': for every program of registers, all bytes and every word, the law of layer 13 on what nobody asks for returns true, and leaves memory as it was. Condition: the library's table reads as its text lays it (the card ties it).
-/
import Derived.Test.YtoajommeiocfpaaDoorLiveTold
import Derived.Test.YtoajommeiocfpaaDoorLiveSpd
import Derived.Test.YtoajommeiocfpaaDoorMirLaw
import Derived.Test.YtoajommeiocfpaaDoorCards
import Derived.Test.YtoajommeiocfpaaDoorTie
import Derived.SevenTiedAt
namespace Go.Proofs.YtoajommeiocfpaaDoor.liveSpoiled
open Go Go.ChangeShapes Go.WideShapes Go.ChangeAt Go.RowKit
set_option linter.unusedSimpArgs false
set_option linter.unusedVariables false

theorem out_at {W : World} {base g c n m : Nat} {ys : List Value} {F : Nat → BitVec 64} (hn : 0 < n) (ho : W.ownsRow base 38 1 (.slice (some ⟨g, 0, none⟩) n c) n ys) (hf : FlagRows W ys n m F) : OutAt W g n m F :=
  ⟨(ho.lt g rfl).2, fun i hi => by
    obtain ⟨b, h1, h2⟩ := hf i hi
    refine ⟨b, h2.lt, ?_, fun k hk => World.rowIs.cell h2 hk⟩
    rw [ho.cellAt i (by omega), h1]⟩
theorem out_below {w w' : World} {ob n m : Nat} {F : Nat → BitVec 64} (h : OutAt w ob n m F) (hb : Below w.heap.size w w') : OutAt w' ob n m F :=
  ⟨Nat.lt_of_lt_of_le h.lt hb.size, fun i hi => by
    obtain ⟨b, h1, h2, h3⟩ := h.row i hi
    exact ⟨b, Nat.lt_of_lt_of_le h1 hb.size, (hb.cell (p := ⟨ob, i, none⟩) h.lt).trans h2, fun k hk => (hb.cell (p := ⟨b, k, none⟩) h1).trans (h3 k hk)⟩⟩
set_option maxHeartbeats 4000000 in
set_option maxRecDepth 100000 in
theorem walk (g0 : Int) (a0 : Option Addr) (len0 cap0 : Nat) (q : Nat → Irx) (a1 : Option Addr) (len1 cap1 : Nat) (z1 : List Int) (a2 : Int) (w : World) (w0 : IrAt w a0 len0 q) (s0 : len0 * 56 ≤ 140737488351232) (w1 : IsRow .u8 w a1 len1 cap1 z1 ∧ cap1 * 1 ≤ 140737488351232) (w2 : (Lit.int .u32 a2).wf = true) (ht : TbD w) :
    Calls Tryd.prog 4 #[mirV g0 a0 len0 cap0, .slice a1 len1 cap1, .int .u32 a2] w fun e w' => e = .returned (.bool true) ∧ Below w.heap.size w w' := by
  have hl1 : len1 ≤ 140737488351232 := by have := isRow_len w1.1; omega
  have hb0 : 0 ≤ a2 ∧ a2 ≤ 4294967295 := by simpa [Lit.wf, IntKind.min, IntKind.max, IntKind.bits, IntKind.signed] using w2
  obtain ⟨wv, rfl⟩ : ∃ wv : BitVec 32, a2 = (wv.toNat : Int) := ⟨BitVec.ofNat 32 a2.toNat, by rw [BitVec.toNat_ofNat]; omega⟩
  obtain ⟨z, HD⟩ : ∃ z : Nat → Int, Hid (DatAt w a1 len1 z) := ⟨fun i => z1.getD i 0, Lib.hid (dat_of_holds (holds_of_isRow w1.1) (isRow_byte w1.1))⟩
  have H0 := Lib.hid (FM.first (regs := g0) (cap := cap0) w0)
  have HT := Lib.hid (ht.below (lboxM w (mirO g0 a0 len0 cap0)))
  have HRt := Lib.hid (fun V A cap (hV : IrAt V A len0 q) => r_RightM g0 A len0 cap q V hV)
  clear w0 w1 w2 hb0 ht
  by_cases he : chkE g0 q len0 = 0
  · by_cases hl : len1 = 64
    · subst hl
      have HR := Lib.hid (chk_is.1 he)
      have hn0 := HR.out.pos
      have hmx := HR.out.max
      rw [he] at HRt
      obtain ⟨m, rfl⟩ : ∃ m : Nat, g0 = (m : Int) := ⟨g0.toNat, by have := HR.out.rg; omega⟩
      have HOu := Lib.hid (fun V A cap (hV : IrAt V A len0 q) (hT : TbD V) => p_Out (m : Int) A len0 cap q V hV HR.out hT)
      simp only [Int.toNat_natCast] at HOu
      obtain ⟨db, doff, rfl, hdb⟩ := HD.out rfl
      have HDB := Lib.hid hdb
      have HDW : Hid (∀ V : World, Below w.heap.size w V → Bytes64 V db doff z) := Lib.hid fun V hV => HDB.out.below hV HDB.out.1
      have HSp := Lib.hid (fun V A cap ob oc (hV : IrAt V A len0 q) (hZ : Bytes64 V db doff z) (hU : OutAt V ob len0 m (laterB q len0)) => l_spoiled V m A len0 cap q ob oc db doff cap1 z wv hV HR.out hZ hU)
      have HRu := Lib.hid (fun V A cap (hV : IrAt V A len0 q) (hd : DatAt V (some ⟨db, doff, none⟩) 64 z) => r_RunM (m : Int) A len0 cap q (some ⟨db, doff, none⟩) 64 cap1 z V hV hd)
      unfold RunMP at HRu
      rw [run_right he] at HRu
      rw [spoiled_same HR.out] at HSp
      generalize atM q len0 (fun i => i) (wordZ z) 0 zeroR = E at HSp HRu
      obtain ⟨ea, en, ee, ep⟩ := E
      clear hdb he
      go_enter Tryd.func4, Tryd.ntmps4
      go_wp2_with (first
        | (go_at_call 7; (with_reducible refine (l_headL _ HT.out).mono ?_); rintro e w1 ⟨rfl, hb⟩; have H1 := Lib.hid (And.intro (H0.out.up hb) (HT.out.below hb)); clear hb; have p0 := cellM H1.out.1.2.2 0 rfl; have p1 := cellM H1.out.1.2.2 1 rfl)
        | (go_at_call 13; (with_reducible refine (HRt.out _ _ _ H1.out.1.1).mono ?_); rintro e w2 ⟨rfl, hb⟩; have H2 := Lib.hid (And.intro (H1.out.1.up hb) (H1.out.2.below hb)); clear hb p0 p1; have p0 := cellM H2.out.1.2.2 0 rfl; have p1 := cellM H2.out.1.2.2 1 rfl)
        | (go_at_call 9; (with_reducible refine (HOu.out _ _ _ H2.out.1.1 H2.out.2).mono ?_); rintro e w3 ⟨ob, oc, ys, rfl, ho, hf, hb⟩; have H3 := Lib.hid (And.intro (H2.out.1.up hb) (out_at hn0 ho hf)); clear ho hf hb p0 p1; have p0 := cellM H3.out.1.2.2 0 rfl; have p1 := cellM H3.out.1.2.2 1 rfl))
      have h30 := H3.out.1.2.1
      clear p0 p1
      go_loopw [11] (fun v wr => ∃ k : Nat, k ≤ len0 ∧ v = .int .i64 (k : Int) ∧ Below w3.heap.size w3 wr) (fun v _ => len0 - (intOf v).toNat)
      case atStart => exact ⟨0, by omega, rfl, Below.refl _ _⟩
      case round =>
        obtain ⟨k, hk, rfl, hb⟩ := hrel
        have HB := Lib.hid (And.intro hb (H3.out.1.up hb))
        have p0 := cellM HB.out.2.2.2 0 rfl
        have p1 := cellM HB.out.2.2.2 1 rfl
        by_cases hlt : k < len0
        · have hlt' : (k : Int) < (len0 : Int) := by omega
          obtain ⟨rb, hrb1, hrb2, _⟩ := (out_below H3.out.2 hb).row k hlt
          have hmm : ((m : Int) != (m : Int)) = false := by simp
          clear hb
          go_wp2
          go_quiet (fail)
          go_wp2
          exact ⟨⟨k + 1, by omega, by go_num, below_drawn HB.out.1 _⟩, by simp [intOf]; omega⟩
        · have HU := Lib.hid (out_below H3.out.2 hb)
          have HDA := Lib.hid (show DatAt w (some ⟨db, doff, none⟩) 64 z from fun _ => ⟨db, doff, rfl, HDB.out⟩)
          clear hb
          go_wp2_with (first
            | (go_at_call 17; (with_reducible refine (HSp.out _ _ _ _ _ HB.out.2.1 (HDW.out _ HB.out.2.2.1) HU.out).mono ?_); rintro e w4 ⟨rfl, hb⟩; have H4 := Lib.hid (HB.out.2.up hb); clear hb p0 p1; have p0 := cellM H4.out.2.2 0 rfl; have p1 := cellM H4.out.2.2 1 rfl)
            | (go_at_call 18; (with_reducible refine (HRu.out _ _ _ H4.out.1 (HDA.out.below H4.out.2.1)).mono ?_); rintro e w5 ⟨rfl, hb⟩; have H5 := Lib.hid (onM H4.out.2.1 hb); clear hb p0 p1))
          go_ret
          exact ⟨rfl, H5.out⟩
    · have hl' : ((len1 : Int) != 64) = true := bne_iff_ne.2 (by omega)
      rw [he] at HRt
      go_enter Tryd.func4, Tryd.ntmps4
      go_wp2_with (first
        | (go_at_call 7; (with_reducible refine (l_headL _ HT.out).mono ?_); rintro e w1 ⟨rfl, hb⟩; have H1 := Lib.hid (H0.out.up hb); clear hb; have p0 := cellM H1.out.2.2 0 rfl; have p1 := cellM H1.out.2.2 1 rfl)
        | (go_at_call 13; (with_reducible refine (HRt.out _ _ _ H1.out.1).mono ?_); rintro e w2 ⟨rfl, hb⟩; have H2 := Lib.hid (onM H1.out.2.1 hb); clear hb p0 p1))
      go_ret
      exact ⟨rfl, H2.out⟩
  · have he2 : (chkE g0 q len0 == 0) = false := beq_false_of_ne he
    rw [he2] at HRt
    go_enter Tryd.func4, Tryd.ntmps4
    go_wp2_with (first
      | (go_at_call 7; (with_reducible refine (l_headL _ HT.out).mono ?_); rintro e w1 ⟨rfl, hb⟩; have H1 := Lib.hid (H0.out.up hb); clear hb; have p0 := cellM H1.out.2.2 0 rfl; have p1 := cellM H1.out.2.2 1 rfl)
      | (go_at_call 13; (with_reducible refine (HRt.out _ _ _ H1.out.1).mono ?_); rintro e w2 ⟨rfl, hb⟩; have H2 := Lib.hid (onM H1.out.2.1 hb); clear hb p0 p1))
    go_ret
    exact ⟨rfl, H2.out⟩

/-! ### The row's step, the statement, and the card -/
theorem door_met (os : Os) (args : Array Value) : laidMetH Tryd.prog [("math/bits.deBruijn64tab", Rows.laid_math_bits_deBruijn64tab)] ((World.doorLaid Tryd.prog 400 os).forCall (fun _ _ => 0) ⟨#[], args, []⟩).memory :=
  laidMetH_of_parts3 (fuel := 8) (laidMet_of_run' 8 (by kernel_rfl) (by kernel_rfl)) (by kernel_rfl) (by kernel_rfl)

set_option maxRecDepth 100000 in
theorem lifted (os : Os) (started : os.Started) (H : Type) (enc : TypeId × Value → H) :
    ReturnsInHanded {} Tryd.checked os 4 .any (fun w args => (Rows.liveSpoiledSpec.pre enc Tryd.prog Tryd.f4 [] false w args ∧ laidMetH Tryd.prog [("math/bits.deBruijn64tab", Rows.laid_math_bits_deBruijn64tab)] w) ∧ sizedMet enc Tryd.prog Tryd.f4 (OpenSpec.ofChange Rows.liveSpoiledSpec) false w args)
      (Rows.liveSpoiledSpec.post enc Tryd.prog Tryd.f4 false true false false) := by
  refine returnsInHanded_of_change_and (C := Tryd.checked) (X := fun w _ => laidMetH Tryd.prog [("math/bits.deBruijn64tab", Rows.laid_math_bits_deBruijn64tab)] w) (fun _ _ _ hh h => h.of_heap hh) own started (by kernel_rfl) Tryd.func4
    (ChangeSpec.witness_shaped (enc := enc) (C := Tryd.checked) (os := os) (X := fun w _ => laidMetH Tryd.prog [("math/bits.deBruijn64tab", Rows.laid_math_bits_deBruijn64tab)] w) false (World.doorLaid Tryd.prog 400 os) #[.agg #[.int .i64 0, .slice none 0 0], .slice none 0 0, .int .u32 0] 8 rfl (World.shaped_of_RefB (by kernel_rfl) (by kernel_rfl)) (by kernel_rfl) (by kernel_rfl) (by kernel_rfl) (door_met os _)) ?_
  intro W base args ds gs before hval0 hW _ hsz0 hL _
  have hsz : (DataW.weightsEach Tryd.prog (Tryd.f4.params.toList ++ Rows.liveSpoiledSpec.plain.varTypes Tryd.prog) (ds ++ gs)).all (· ≤ reachBytes) = true := hsz0
  clear hsz0
  have hval : ∀ (j : Nat) t v, Tryd.f4.params[j]? = some t → args[j]? = some v → Value.okWide Tryd.prog W .any base t v := hval0
  have hW' := hW
  obtain ⟨p, q, hA0, hV, rfl, hfz, hnd⟩ := hW
  have hA : DataW.TrodAll enc Tryd.prog W 0 (fun _ => true) true Tryd.f4.params.toList args.toList ds p := hA0
  rw [Tryd.params4] at hA hval hsz
  obtain ⟨v0, vs0, d0, ds0, p0, q0, hargs, rfl, rfl, h0, r0⟩ := trodAll_cons hA
  obtain ⟨v1, vs1, d1, ds1, p1, q1, rfl, rfl, rfl, h1, r1⟩ := trodAll_cons r0
  obtain ⟨v2, vs2, d2, ds2, p2, q2, rfl, rfl, rfl, h2, r2⟩ := trodAll_cons r1
  obtain ⟨rfl, rfl, rfl⟩ := trodAll_nil r2
  obtain rfl : args = #[v0, v1, v2] := by cases args; simp_all
  obtain ⟨rfl, rfl⟩ := trodVars_none hV
  have k0 := h0
  have lt0 : ∀ x ∈ p0, x.block < W.heap.size := by obtain ⟨m, hm⟩ := k0; exact DataW.trod_lt m _ _ _ hm
  obtain ⟨g0, a0, len0, cap0, q0, rfl, w0, ww0⟩ := open_mir (hval 0 24 v0 rfl rfl) h0
  have s0 := ww0 _ _ 0 hsz rfl rfl
  obtain ⟨a1, len1, cap1, rfl⟩ := okWide_slice Tryd.underlying47 (hval 1 47 v1 rfl rfl)
  have k1 := h1
  have lt1 : ∀ x ∈ p1, x.block < W.heap.size := by obtain ⟨m, hm⟩ := k1; exact DataW.trod_lt m _ _ _ hm
  obtain ⟨z1, w1⟩ : ∃ zs, IsRow .u8 W a1 len1 cap1 zs ∧ cap1 * 1 ≤ 140737488351232 := by
    obtain ⟨fuel, hf⟩ := h1
    rcases open_ints Tryd.underlying47 Tryd.underlying5 (by kernel_rfl) hf with ⟨hcs, _⟩ | ⟨x, l, c, zs, hcs, _, hl, hm, hz, hx, hcell, hwz⟩
    · simp [Value.cells] at hcs
      obtain ⟨rfl, rfl, rfl⟩ := hcs
      exact ⟨[], ⟨.inl ⟨rfl, rfl, rfl, rfl⟩, by omega⟩⟩
    · simp [Value.cells] at hcs
      obtain ⟨rfl, rfl, rfl⟩ := hcs
      have hd : d1 = _ := congrArg Prod.fst hx
      have hr := sized_slice hsz (j := 1) (t := 47) (e := 5) rfl (congrArg some hd) Tryd.underlying47
      rw [show Tryd.prog.bytesOf 5 = 1 by kernel_rfl] at hr
      simp only [lits, List.length_map, List.length_take, List.length_drop, reachBytes] at hr
      have hzl : zs.length = _ := hz
      simp only [if_true] at hzl
      exact ⟨zs, ⟨.inr ⟨_, rfl, hl, hm, by simpa using hz, hcell, hwz⟩, by omega⟩⟩
  obtain ⟨a2, rfl, rfl, rfl, w2⟩ := open_int Tryd.underlying48 (hval 2 48 v2 rfl rfl) h2
  clear hA0 hval0
  refine (walk g0 a0 len0 cap0 q0 a1 len1 cap1 z1 a2 W w0 s0 w1 w2 (tab_of_laid hL)).mono fun e W' ⟨he, bel⟩ => ?_
  subst he
  exact ⟨_, rfl, _, _, _, [], _, [], hW', trodAll_mk1 (shut_bool Tryd.underlying4 _), (trodAll_cons_mk (Below.trod laidOut (by kernel_rfl) (of_decide_eq_true (by kernel_rfl)) k0 bel lt0) (trodAll_cons_mk (Below.trod laidOut (by kernel_rfl) (of_decide_eq_true (by kernel_rfl)) k1 bel lt1) (trodAll_cons_mk (shut_int Tryd.underlying48 w2) trodAll_mk0))), rfl, bel.frame _, fun h => by cases h⟩

theorem over : Rows.liveSpoiledRow.holds Tryd.pinned (OpenSpec.ofChange Rows.liveSpoiledSpec) :=
  OpenClaim.holds_of_wide 4 Tryd.f4 rfl rfl rfl rfl rfl rfl rfl ⟨rfl, rfl, rfl, rfl, rfl⟩ rfl rfl rfl rfl rfl (by kernel_rfl) Tryd.func4 (by kernel_rfl)
    (of_decide_eq_true (by kernel_rfl)) (by unfold Func.isWrapper; first | (rw [if_pos (by decide +kernel)]; kernel_rfl) | (rw [if_neg (by decide +kernel)]; exact ⟨rfl, rfl⟩))
    (fun os started H enc _ => lifted os started H enc)

/-- The statement: the row's card, what it lists tied to the program's text. -/
theorem proved : Rows.LiveSpoiledCardSaid :=
  Claim7.holds_tied_plain_at .later [] [.data] true Rows.liveSpoiledCard.stood.harness Rows.liveSpoiledCard.stood.looks
    over (fun _ h => by cases h) (by kernel_rfl) (fun _ h => by cases h) liveSpoiled_row_tie rfl ⟨rfl, rfl⟩ (by kernel_rfl) rfl
    (fun f fn hf hfn => by
      obtain rfl : f = 4 := Option.some.inj ((show Tryd.prog.funcNamed "ravelin/ravelinlaw13.LiveSpoiled" = some 4 by kernel_rfl).symm.trans hf) |>.symm
      obtain rfl : fn = Tryd.f4 := (Option.some.inj (Tryd.func4.symm.trans hfn)).symm
      exact ⟨by kernel_rfl, fun j t ht => by
        have hm : t ∈ Tryd.f4.params.toList := by
          have := Array.mem_of_getElem? ht
          simpa using this
        have hall : (Tryd.f4.params.toList.all fun u => !Tryd.prog.wantsStandIn u) = true := by kernel_rfl
        exact (show Tryd.prog.wantsStandIn t = false by simpa using List.all_eq_true.1 hall t hm)⟩)
    (by kernel_rfl)
end Go.Proofs.YtoajommeiocfpaaDoor.liveSpoiled
