/-
  'SemTables': for any texts and verdicts, the law of layer 7 that architectures, names, numbers and actions are the document's returns true, and leaves memory as it was. Condition: the table of the kinds reads as the program's text lays it (the card ties it).
-/
import Derived.Test.YthdmlbgejbpalaaDoorGSemEnd
import Derived.Test.YthdmlbgejbpalaaDoorSemNam
import Derived.Test.YthdmlbgejbpalaaDoorStrRows
import Derived.Test.YthdmlbgejbpalaaDoorCards
import Derived.SevenTiedAt
import Derived.ChangeMaps5
namespace Go.Proofs.YthdmlbgejbpalaaDoor.semTables
open Go Go.ChangeShapes Go.WideShapes Go.ChangeAt Go.RowKit
set_option linter.unusedSimpArgs false
set_option linter.unusedVariables false

/-- Verdicts in a row. -/
def VdRow (w : World) (a : Option Addr) (len : Nat) : Prop := len = 0 ∨ ∃ b o, a = some ⟨b, o, none⟩ ∧ b < w.heap.size ∧ len ≤ maxLen ∧ ∀ i, i < len → ∃ (z : Int) (v : Nat), w.cell? ⟨b, o + i * 2, none⟩ = some (.int .i64 z) ∧ w.cell? ⟨b, o + i * 2 + 1, none⟩ = some (.int .u64 (v : Int))
theorem vd_row {w : World} {a : Option Addr} {len : Nat} (h : RowsOf [.i64, .u64] w a len) : VdRow w a len := by
  rcases h with ⟨_, h0⟩ | ⟨x, rfl, hm, hc⟩
  · exact .inl h0
  · rcases Nat.eq_zero_or_pos len with h0 | h0
    · exact .inl h0
    · obtain ⟨b, o, spot⟩ := x
      obtain ⟨z0, c0, _⟩ := hc 0 h0 0 _ rfl
      have hspot : spot = none := by simpa [Addr.add] using World.cell?_spot c0
      subst hspot
      have hb : b < w.heap.size := by rw [addr_add] at c0; exact cell_lt c0
      refine .inr ⟨b, o, rfl, hb, hm, fun i hi => ?_⟩
      obtain ⟨z, c1, _⟩ := hc i hi 0 _ rfl
      obtain ⟨v, c2, wv⟩ := hc i hi 1 _ rfl
      have hv : 0 ≤ v := by
        simp [Lit.wf, IntKind.has, IntKind.min, IntKind.max, IntKind.bits, IntKind.signed] at wv
        omega
      rw [addr_add] at c1 c2
      refine ⟨z, v.toNat, by simpa using c1, ?_⟩
      rw [Int.toNat_of_nonneg hv, Nat.add_assoc]
      exact c2
theorem VdRow.below {w w' : World} {a : Option Addr} {len : Nat} (h : VdRow w a len) (hb : Below w.heap.size w w') : VdRow w' a len := by
  rcases h with h | ⟨b, o, hA, ht, hm, hc⟩
  · exact .inl h
  · refine .inr ⟨b, o, hA, Nat.lt_of_lt_of_le ht hb.size, hm, fun i hi => ?_⟩
    obtain ⟨z, v, c1, c2⟩ := hc i hi
    exact ⟨z, v, (hb.cell (p := ⟨b, o + i * 2, none⟩) ht).trans c1, (hb.cell (p := ⟨b, o + i * 2 + 1, none⟩) ht).trans c2⟩
theorem VdRow.len {w : World} {a : Option Addr} {len : Nat} (h : VdRow w a len) : len ≤ 9223372036854775807 := by
  rcases h with h | ⟨_, _, _, _, hm, _⟩
  · omega
  · exact hm
theorem StrRow.below {w w' : World} {a : Option Addr} {len : Nat} {f : Nat → ByteArray} (h : StrRow w a len f) (hb : Below w.heap.size w w') : StrRow w' a len f := by
  rcases h with h | ⟨b, o, hA, ht, hm, hc⟩
  · exact .inl h
  · exact .inr ⟨b, o, hA, Nat.lt_of_lt_of_le ht hb.size, hm, fun i hi => ⟨(hb.cell (p := ⟨b, o + i, none⟩) ht).trans (hc i hi).1, (hc i hi).2⟩⟩
theorem StrRow.len {w : World} {a : Option Addr} {len : Nat} {f : Nat → ByteArray} (h : StrRow w a len f) : len ≤ 9223372036854775807 := by
  rcases h with h | ⟨_, _, _, _, hm, _⟩
  · omega
  · exact hm
/-- What is at hand. -/
structure TbAt (w W : World) (t : List (ByteArray × Nat)) (A B : Option Addr) (az : Option Addr) (len : Nat) (f : Nat → ByteArray) (av : Option Addr) (lenv : Nat) : Prop where
  below : Below w.heap.size w W
  pn : NamesL W t A
  rn : NamesL W t B
  strs : StrRow W az len f
  rows : VdRow W av lenv
  tab : Tab W
theorem TbAt.up {w W W' : World} {t : List (ByteArray × Nat)} {A B az : Option Addr} {len : Nat} {f : Nat → ByteArray} {av : Option Addr} {lenv : Nat} (h : TbAt w W t A B az len f av lenv) (hb : Below W.heap.size W W') : TbAt w W' t A B az len f av lenv :=
  ⟨on7 h.below hb, h.pn.below hb, h.rn.below hb, StrRow.below h.strs hb, VdRow.below h.rows hb, h.tab.up hb⟩
theorem names_at {W : World} {l : List (ByteArray × Nat)} {tb : Nat} (h : NamesL W l (some ⟨tb, 0, none⟩)) (k : Nat) (hk : k < l.length) : W.cell? ⟨tb, k, none⟩ = some (.string (l.getD k (⟨#[]⟩, 0)).1) := by
  obtain ⟨tb', hA, _, hc⟩ := h.2 k hk
  injection hA with hA; injection hA with e; subst e
  exact hc
set_option maxRecDepth 100000 in
set_option maxHeartbeats 16000000 in
theorem walk (s : ByteArray) (az : Option Addr) (len cap : Nat) (f : Nat → ByteArray) (av : Option Addr) (lenv capv : Nat) (w : World) (ws : s.size ≤ maxLen) (hs : StrRow w az len f) (hv : RowsOf [.i64, .u64] w av lenv) (hTab : Tab w) :
    Calls Tryd.prog 4 #[.string s, .slice az len cap, .slice av lenv capv] w fun e w' => e = .returned (.bool true) ∧ Below w.heap.size w w' := by
  have HL := Lib.hid (fun V hV => lives7 V hV)
  have HA := Lib.hid (fun V => p_Arch s V)
  have HB := Lib.hid (fun V => ref_Arch s V)
  have HN := Lib.hid (fun V => p_Names7 s V)
  have HM := Lib.hid (fun V => ref_Names7 s V)
  have HNR := Lib.hid (fun n V => p_Number7 s n V)
  have HMR := Lib.hid (fun n V => ref_Number7 s n V)
  have H0 := Lib.hid (And.intro hs (And.intro (vd_row hv) hTab))
  have hln := StrRow.len hs
  have hlv := (vd_row hv).len
  clear hs hv hTab
  generalize sysF s = g at HA HB HN HM HNR HMR
  obtain ⟨wd, t, b⟩ := g
  simp only at HA HB HN HM HNR HMR
  go_enter Tryd.func4, Tryd.ntmps4
  go_wp2_with (first
    | (go_at_call 10; (with_reducible refine (HL.out _ H0.out.2.2).mono ?_); rintro e w1 ⟨rfl, hb1⟩; have HB1 := Lib.hid hb1; clear hb1)
    | (go_at_call 16; (with_reducible refine (HA.out _).mono ?_); rintro e w2 ⟨rfl, hb2⟩; have HB2 := Lib.hid (on7 HB1.out hb2); clear hb2)
    | (go_at_call 17; (with_reducible refine (HB.out _).mono ?_); rintro e w3 ⟨rfl, rfl⟩; have HB3 := HB2)
    | (go_at_call 18; (with_reducible refine (HN.out _).mono ?_); rintro e w4 ⟨A, capA, rfl, hn, hb4⟩; have HB4 := Lib.hid (And.intro (on7 HB3.out hb4) hn); clear hb4 hn)
    | (go_at_call 19; (with_reducible refine (HM.out _).mono ?_); rintro e w5 ⟨B, capB, rfl, hn, hb5⟩; have HB5 := Lib.hid (show TbAt w w5 t A B az len f av lenv from ⟨on7 HB4.out.1 hb5, HB4.out.2.below hb5, hn, StrRow.below H0.out.1 (on7 HB4.out.1 hb5), VdRow.below H0.out.2.1 (on7 HB4.out.1 hb5), H0.out.2.2.up (on7 HB4.out.1 hb5)⟩); clear hb5 hn))
  go_loopw [14] (fun v wr => ∃ k : Nat, k ≤ t.length ∧ v = .int .i64 (k : Int) ∧ TbAt w wr t A B az len f av lenv) (fun v _ => t.length - (intOf v).toNat)
  case atStart => exact ⟨0, Nat.zero_le _, rfl, HB5.out⟩
  case round =>
    obtain ⟨k, hk, rfl, hT⟩ := hrel
    have hll : t.length ≤ 100 := hT.pn.1
    clear HB1 HB2 HB3 HB4 HB5
    by_cases hlt : k < t.length
    · have hlt' : (k : Int) < (t.length : Int) := by omega
      have hw : IntKind.i64.wrap ((k : Int) + 1) = ((k + 1 : Nat) : Int) := by rw [IntWalk.i64_in _ (by omega)]; omega
      obtain ⟨ta, rfl, -, -⟩ := hT.pn.2 k hlt
      obtain ⟨tb, rfl, -, -⟩ := hT.rn.2 k hlt
      have HCA := Lib.hid (fun W (hW : NamesL W t (some ⟨ta, 0, none⟩)) => names_at hW k hlt)
      have HCB := Lib.hid (fun W (hW : NamesL W t (some ⟨tb, 0, none⟩)) => names_at hW k hlt)
      have HNX := Lib.hid (fun V => HNR.out (t.getD k (⟨#[]⟩, 0)).1 V)
      have HMX := Lib.hid (fun V => HMR.out (t.getD k (⟨#[]⟩, 0)).1 V)
      have HV := Lib.hid hT
      clear hT
      generalize t.getD k (⟨#[]⟩, 0) = xp at HCA HCB HNX HMX
      obtain ⟨x, xn⟩ := xp
      simp only at HCA HCB HNX HMX
      obtain ⟨⟨m, ok⟩, hm⟩ : ∃ m, findF t x = m := ⟨_, rfl⟩
      rw [hm] at HNX HMX
      clear hm
      have a0 := HCA.out _ HV.out.pn
      have qx : (x.toList != x.toList) = false := by simp
      go_wp2_with (first
        | (go_at_call 20; (with_reducible refine (HNX.out _).mono ?_); rintro e w6 ⟨rfl, hb⟩; have HV6 := Lib.hid (TbAt.up HV.out hb); clear hb; have b0 := HCB.out _ HV6.out.rn)
        | (go_at_call 21; (with_reducible refine (HMX.out _).mono ?_); rintro e w7 ⟨rfl, hb⟩; have HV7 := Lib.hid (TbAt.up HV6.out hb); clear hb; have c0 := HCA.out _ HV7.out.pn; have d0 := HCB.out _ HV7.out.rn))
      go_quiet (fail)
      go_wp2
      exact ⟨⟨k + 1, by omega, by go_num, TbAt.up HV7.out (below_drawn (Below.refl _ _) _)⟩, by simp [intOf]; omega⟩
    · have hlt' : ¬ (k : Int) < (t.length : Int) := by omega
      have HV := Lib.hid hT
      clear hT
      go_wp2
      go_loopw [19] (fun v wr => ∃ k : Nat, k ≤ len ∧ v = .int .i64 (k : Int) ∧ TbAt w wr t A B az len f av lenv) (fun v _ => len - (intOf v).toNat)
      case atStart => exact ⟨0, Nat.zero_le _, rfl, HV.out⟩
      case round =>
        obtain ⟨i, hi, rfl, hT⟩ := hrel
        by_cases hil : i < len
        · have hil' : (i : Int) < (len : Int) := by omega
          have hw : IntKind.i64.wrap ((i : Int) + 1) = ((i + 1 : Nat) : Int) := by rw [IntWalk.i64_in _ (by omega)]; omega
          have HC : Hid (∃ tb o, az = some ⟨tb, o, none⟩ ∧ ∀ W, StrRow W az len f → W.cell? ⟨tb, o + i, none⟩ = some (.string (f i))) := Lib.hid (by
            rcases hT.strs with h | ⟨tb, o, hA, _⟩
            · omega
            · refine ⟨tb, o, hA, fun W hW => ?_⟩
              rcases hW with h | ⟨tb', o', hA', _, _, hc⟩
              · omega
              · rw [hA] at hA'; injection hA' with e; injection e with e1 e2; subst e1; subst e2
                exact (hc i hil).1)
          obtain ⟨tb, o, rfl, hc⟩ := HC.out
          have HC2 := Lib.hid hc
          have HNX := Lib.hid (fun V => HNR.out (f i) V)
          have HMX := Lib.hid (fun V => HMR.out (f i) V)
          have HV2 := Lib.hid hT
          clear hT hc HC
          generalize f i = x at HC2 HNX HMX
          obtain ⟨⟨m, ok⟩, hm⟩ : ∃ m, findF t x = m := ⟨_, rfl⟩
          rw [hm] at HNX HMX
          clear hm
          have a0 := HC2.out _ HV2.out.strs
          go_wp2_with (first
            | (go_at_call 20; (with_reducible refine (HNX.out _).mono ?_); rintro e w6 ⟨rfl, hb⟩; have HV6 := Lib.hid (TbAt.up HV2.out hb); clear hb; have b0 := HC2.out _ HV6.out.strs)
            | (go_at_call 21; (with_reducible refine (HMX.out _).mono ?_); rintro e w7 ⟨rfl, hb⟩; have HV7 := Lib.hid (TbAt.up HV6.out hb); clear hb))
          exact ⟨⟨i + 1, by omega, by go_num, HV7.out⟩, by simp [intOf]; omega⟩
        · have hil' : ¬ (i : Int) < (len : Int) := by omega
          have HV2 := Lib.hid hT
          clear hT
          go_wp2
          go_loopw [24] (fun v wr => ∃ k : Nat, k ≤ lenv ∧ v = .int .i64 (k : Int) ∧ TbAt w wr t A B az len f av lenv) (fun v _ => lenv - (intOf v).toNat)
          case atStart => exact ⟨0, Nat.zero_le _, rfl, HV2.out⟩
          case round =>
            obtain ⟨j, hj, rfl, hT⟩ := hrel
            by_cases hjl : j < lenv
            · have hjl' : (j : Int) < (lenv : Int) := by omega
              have hw : IntKind.i64.wrap ((j : Int) + 1) = ((j + 1 : Nat) : Int) := by rw [IntWalk.i64_in _ (by omega)]; omega
              obtain ⟨tb, o, rfl, htl, z, v, c0, c1⟩ : ∃ tb o, av = some ⟨tb, o, none⟩ ∧ tb < wr.heap.size ∧ ∃ (z : Int) (v : Nat), wr.cell? ⟨tb, o + j * 2, none⟩ = some (.int .i64 z) ∧ wr.cell? ⟨tb, o + j * 2 + 1, none⟩ = some (.int .u64 (v : Int)) := by
                rcases hT.rows with h | ⟨tb, o, hA, htl, _, hc⟩
                · omega
                · obtain ⟨z, v, h1, h2⟩ := hc j hjl
                  exact ⟨tb, o, hA, htl, z, v, h1, h2⟩
              have HP : Hid (∀ V, Tab V → Calls Tryd.prog 22 #[.agg #[.int .i64 z, .int .u64 (v : Int)]] V fun e w' => e = .returned (.tuple #[.int .u32 ((actF (z, v)).1 : Int), .bool (actF (z, v)).2]) ∧ Below V.heap.size V w') := Lib.hid (fun V hV => p_ActF (z, v) V hV)
              have HR : Hid (∀ V, Calls Tryd.prog 23 #[.agg #[.int .i64 z, .int .u64 (v : Int)]] V fun e w' => e = .returned (.tuple #[.int .u32 ((actF (z, v)).1 : Int), .bool (actF (z, v)).2]) ∧ Below V.heap.size V w') := Lib.hid (fun V => ref_ActF (z, v) V)
              have HV3 := Lib.hid (And.intro hT htl)
              have HC0 := Lib.hid (And.intro c0 c1)
              clear hT htl
              obtain ⟨⟨m, ok⟩, hm⟩ : ∃ m, actF (z, v) = m := ⟨_, rfl⟩
              rw [hm] at HP HR
              clear hm
              go_wp2_with (first
                | (go_at_call 22; (with_reducible refine (HP.out _ HV3.out.1.tab).mono ?_); rintro e w6 ⟨rfl, hb⟩; have HV6 := Lib.hid (TbAt.up HV3.out.1 hb); have d0 := (hb.cell (p := ⟨tb, o + j * 2, none⟩) HV3.out.2).trans HC0.out.1; have d1 := (hb.cell (p := ⟨tb, o + j * 2 + 1, none⟩) HV3.out.2).trans HC0.out.2; clear hb)
                | (go_at_call 23; (with_reducible refine (HR.out _).mono ?_); rintro e w7 ⟨rfl, hb⟩; have HV7 := Lib.hid (TbAt.up HV6.out hb); clear hb))
              exact ⟨⟨j + 1, by omega, by go_num, HV7.out⟩, by simp [intOf]; omega⟩
            · have hjl' : ¬ (j : Int) < (lenv : Int) := by omega
              have HV3 := Lib.hid hT.below
              clear hT
              go_wp2
              go_ret
              exact ⟨rfl, HV3.out⟩

/-! ### The row's step, the statement, and the card -/
theorem door_met (os : Os) (args : Array Value) : laidMetH Tryd.prog [("ravelin/secdata.rows", Rows.laid_ravelin_secdata_rows)] ((World.doorLaid Tryd.prog 400 os).forCall (fun _ _ => 0) ⟨#[], args, []⟩).memory :=
  laidMetH_of_parts3 (fuel := 8) (laidMet_of_run' 8 (by kernel_rfl) (by kernel_rfl)) (by kernel_rfl) (by kernel_rfl)

set_option maxRecDepth 100000 in
theorem lifted (os : Os) (started : os.Started) (H : Type) (enc : TypeId × Value → H) :
    ReturnsInHanded {} Tryd.checked os 4 .any (fun w args => (Rows.semTablesSpec.pre enc Tryd.prog Tryd.f4 [] false w args ∧ laidMetH Tryd.prog [("ravelin/secdata.rows", Rows.laid_ravelin_secdata_rows)] w) ∧ sizedMet enc Tryd.prog Tryd.f4 (OpenSpec.ofChange Rows.semTablesSpec) false w args)
      (Rows.semTablesSpec.post enc Tryd.prog Tryd.f4 false true false false) := by
  refine returnsInHanded_of_change_and (C := Tryd.checked) (X := fun w _ => laidMetH Tryd.prog [("ravelin/secdata.rows", Rows.laid_ravelin_secdata_rows)] w) (fun _ _ _ hh h => h.of_heap hh) own started (by kernel_rfl) Tryd.func4
    (ChangeSpec.witness_shaped (enc := enc) (C := Tryd.checked) (os := os) (X := fun w _ => laidMetH Tryd.prog [("ravelin/secdata.rows", Rows.laid_ravelin_secdata_rows)] w) false (World.doorLaid Tryd.prog 400 os) #[.string ⟨#[]⟩, .slice none 0 0, .slice none 0 0] 8 rfl (World.shaped_of_RefB (by kernel_rfl) (by kernel_rfl)) (by kernel_rfl) (by kernel_rfl) (by kernel_rfl) (door_met os _)) ?_
  intro W base args ds gs before hval0 hW _ _ hL _
  have hval : ∀ (j : Nat) t v, Tryd.f4.params[j]? = some t → args[j]? = some v → Value.okWide Tryd.prog W .any base t v := hval0
  have hW' := hW
  obtain ⟨p, q, hA0, hV, rfl, hfz, hnd⟩ := hW
  have hA : DataW.TrodAll enc Tryd.prog W 0 (fun _ => true) true Tryd.f4.params.toList args.toList ds p := hA0
  rw [Tryd.params4] at hA hval
  obtain ⟨v0, vs0, d0, ds0, p0, q0, hargs, rfl, rfl, h0, r0⟩ := trodAll_cons hA
  obtain ⟨v1, vs1, d1, ds1, p1, q1, rfl, rfl, rfl, h1, r1⟩ := trodAll_cons r0
  obtain ⟨v2, vs2, d2, ds2, p2, q2, rfl, rfl, rfl, h2, r2⟩ := trodAll_cons r1
  obtain ⟨rfl, rfl, rfl⟩ := trodAll_nil r2
  obtain rfl : args = #[v0, v1, v2] := by cases args; simp_all
  obtain ⟨rfl, rfl⟩ := trodVars_none hV
  obtain ⟨s0, rfl, rfl, rfl, w0⟩ := Go.ChangeMaps.open_string Tryd.underlying9 (hval 0 9 v0 rfl rfl) h0
  obtain ⟨a1, len1, cap1, rfl⟩ := okWide_slice Tryd.underlying36 (hval 1 36 v1 rfl rfl)
  have k1 := h1
  have lt1 : ∀ x ∈ p1, x.block < W.heap.size := by obtain ⟨m, hm⟩ := k1; exact DataW.trod_lt m _ _ _ hm
  obtain ⟨f1, w1⟩ : ∃ f, StrRow W a1 len1 f := by
    obtain ⟨fuel, hf⟩ := h1
    rcases open_strings Tryd.underlying36 Tryd.underlying9 (by kernel_rfl) hf with ⟨hcs, _⟩ | ⟨x, l, c, ss, hcs, _, hl, hm, hlen, _, hcell, hw⟩
    · simp [Value.cells] at hcs
      obtain ⟨rfl, rfl, rfl⟩ := hcs
      exact ⟨fun _ => ⟨#[]⟩, .inl rfl⟩
    · simp [Value.cells] at hcs
      obtain ⟨rfl, rfl, rfl⟩ := hcs
      exact ⟨_, str_row hl hm (by rw [hlen]; split <;> omega) hcell hw⟩
  obtain ⟨a2, len2, cap2, rfl⟩ := okWide_slice Tryd.underlying49 (hval 2 49 v2 rfl rfl)
  have k2 := h2
  have lt2 : ∀ x ∈ p2, x.block < W.heap.size := by obtain ⟨m, hm⟩ := k2; exact DataW.trod_lt m _ _ _ hm
  have w2 : RowsOf [.i64, .u64] W a2 len2 := by
    obtain ⟨fuel, hf⟩ := h2
    rcases rows_fields Tryd.underlying49 Tryd.underlying26 (by kernel_rfl) (by kernel_rfl) hf with hcs | ⟨x, l, c, hcs, hl, hm, hi⟩
    · simp [Value.cells] at hcs
      obtain ⟨rfl, rfl, rfl⟩ := hcs
      exact .inl ⟨rfl, rfl⟩
    · simp [Value.cells] at hcs
      obtain ⟨rfl, rfl, rfl⟩ := hcs
      refine .inr ⟨_, rfl, Nat.le_trans hl hm, fun i hil j K hK => ?_⟩
      match j, hK with
      | 0, hK =>
        obtain ⟨v, y, n, hc, ht⟩ := hi i hil 0 _ rfl
        obtain ⟨z, e, _, wz⟩ := DataW.trod_int Tryd.underlying23 ht
        simp only [List.cons.injEq, and_true] at e; subst e
        obtain rfl := Option.some.inj hK
        exact ⟨z, hc, wz⟩
      | 1, hK =>
        obtain ⟨v, y, n, hc, ht⟩ := hi i hil 1 _ rfl
        obtain ⟨z, e, _, wz⟩ := DataW.trod_int Tryd.underlying24 ht
        simp only [List.cons.injEq, and_true] at e; subst e
        obtain rfl := Option.some.inj hK
        exact ⟨z, hc, wz⟩
      | _ + 2, hK => exact absurd hK (by simp)
  clear hA0 hval0
  refine (walk s0 a1 len1 cap1 f1 a2 len2 cap2 W w0 w1 w2 (tab_of_laid hL)).mono fun e W' ⟨he, bel⟩ => ?_
  subst he
  exact ⟨_, rfl, _, _, _, [], _, [], hW', trodAll_mk1 (shut_bool Tryd.underlying4 _), (trodAll_cons_mk (Go.ChangeMaps.shut_string Tryd.underlying9 w0) (trodAll_cons_mk (Below.trod laidOut (by kernel_rfl) (of_decide_eq_true (by kernel_rfl)) k1 bel lt1) (trodAll_cons_mk (Below.trod laidOut (by kernel_rfl) (of_decide_eq_true (by kernel_rfl)) k2 bel lt2) trodAll_mk0))), rfl, bel.frame _, fun h => by cases h⟩

theorem over : Rows.semTablesRow.holds Tryd.pinned (OpenSpec.ofChange Rows.semTablesSpec) :=
  OpenClaim.holds_of_wide 4 Tryd.f4 rfl rfl rfl rfl rfl rfl rfl ⟨rfl, rfl, rfl, rfl, rfl⟩ rfl rfl rfl rfl rfl (by kernel_rfl) Tryd.func4 (by kernel_rfl)
    (of_decide_eq_true (by kernel_rfl)) (by unfold Func.isWrapper; first | (rw [if_pos (by decide +kernel)]; kernel_rfl) | (rw [if_neg (by decide +kernel)]; exact ⟨rfl, rfl⟩))
    (fun os started H enc _ => lifted os started H enc)

/-- The statement: the row's card, what it lists tied to the program's text. -/
theorem proved : Rows.SemTablesCardSaid :=
  Claim7.holds_tied_plain_at .later [] [.data] true Rows.semTablesCard.stood.harness Rows.semTablesCard.stood.looks
    over (fun _ h => by cases h) (by kernel_rfl) (fun _ h => by cases h) semTables_row_tie rfl ⟨rfl, rfl⟩ (by kernel_rfl) rfl
    (fun f fn hf hfn => by
      obtain rfl : f = 4 := Option.some.inj ((show Tryd.prog.funcNamed "ravelin/ravelinlaw07.SemTables" = some 4 by kernel_rfl).symm.trans hf) |>.symm
      obtain rfl : fn = Tryd.f4 := (Option.some.inj (Tryd.func4.symm.trans hfn)).symm
      exact ⟨by kernel_rfl, fun j t ht => by
        have hm : t ∈ Tryd.f4.params.toList := by
          have := Array.mem_of_getElem? ht
          simpa using this
        have hall : (Tryd.f4.params.toList.all fun u => !Tryd.prog.wantsStandIn u) = true := by kernel_rfl
        exact (show Tryd.prog.wantsStandIn t = false by simpa using List.all_eq_true.1 hall t hm)⟩)
    (by kernel_rfl)
end Go.Proofs.YthdmlbgejbpalaaDoor.semTables
