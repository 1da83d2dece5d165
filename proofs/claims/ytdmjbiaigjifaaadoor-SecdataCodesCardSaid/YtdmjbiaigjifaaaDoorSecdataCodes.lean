/-
  'SecdataCodes': for every list of actions, the law of layer 2 on Code and Action returns true, and leaves memory as it was. Condition: the table of the kinds reads as the program's text lays it (the card ties it).
-/
import Derived.Test.YtdmjbiaigjifaaaDoorSecHead
import Derived.Test.YtdmjbiaigjifaaaDoorSecAct
import Derived.Test.YtdmjbiaigjifaaaDoorCards
import Derived.SevenTiedAt
namespace Go.Proofs.YtdmjbiaigjifaaaDoor.secdataCodes
open Go Go.ChangeShapes Go.WideShapes Go.ChangeAt Go.RowKit
set_option linter.unusedSimpArgs false
set_option linter.unusedVariables false

theorem rowW_inj : ∀ j, j < 8 → ∀ k, k < 8 → rowW j = rowW k → j = k := by decide
theorem top_lt (k : Nat) (d : Int) (h8 : k < 8) (hd' : d < 65536) : rowW k + d < 4294967296 := by
  have : ∀ k, k < 8 → rowW k ≤ 4294901760 := by decide
  have := this k h8
  omega
theorem act_of_code {kind d : Int} (h : codeOK kind d) (hd : 0 ≤ d) (hd' : d < 65536) : actK (codeW kind d) = kind ∧ actD (codeW kind d) = d ∧ actE (codeW kind d) = 0 ∧ 0 ≤ codeW kind d ∧ codeW kind d < 4294967296 := by
  obtain ⟨k, rfl⟩ : ∃ k : Nat, kind = (k : Int) + 1 := ⟨(kind - 1).toNat, by have := h.1; omega⟩
  have ht : ((k : Int) + 1 - 1).toNat = k := by omega
  have h8 : k < 8 := by have := h.2.1; omega
  have hm := rowW_lt k
  have hr : rowIsW k (rowW k + d) := ⟨by omega, by rcases h.2.2 with a | a
                                                   · exact .inl (by rwa [ht] at a)
                                                   · exact .inr (by omega)⟩
  have ha : actRow (rowW k + d) = k := actRow_at h8 hr fun j hj hjr => by
    have := rowW_inj j (by omega) k h8 (by have := hjr.1; have := hr.1; omega)
    omega
  rw [codeW, if_pos h, ht, actK, actD, actE, ha, if_pos h8, if_pos h8, if_pos h8]
  exact ⟨rfl, by omega, rfl, by omega, top_lt k d h8 hd'⟩
theorem action_back (kind d : Int) (h : codeOK kind d) (hd : 0 ≤ d) (hd' : d < 65536) (w : World) (hT : Tab w) :
    Calls Tryd.prog 21 #[.int .u32 (codeW kind d)] w fun e w' => e = .returned (.tuple #[.agg #[.int .i64 kind, .int .u16 d], .int .i64 0]) ∧ Below w.heap.size w w' := by
  obtain ⟨h1, h2, h3, h4, h5⟩ := act_of_code h hd hd'
  refine (secdata_Action _ h4 h5 w hT).mono ?_
  rintro e w' ⟨rfl, hb⟩
  exact ⟨by rw [h1, h2, h3], hb⟩
theorem code_at (kind d E : Int) (hE : codeE kind d = E) (hd : 0 ≤ d) (hd' : d < 65536) (w : World) (hT : Tab w) :
    Calls Tryd.prog 19 #[.agg #[.int .i64 kind, .int .u16 d]] w fun e w' => e = .returned (.tuple #[.int .u32 (codeW kind d), .int .i64 E]) ∧ Below w.heap.size w w' :=
  (secdata_Code kind d hd hd' w hT).mono fun e w' h => ⟨by rw [h.1, hE], h.2⟩
theorem rcode_at (kind d E : Int) (hE : codeE kind d = E) (hd : 0 ≤ d) (hd' : d < 65536) (w : World) :
    Calls Tryd.prog 20 #[.agg #[.int .i64 kind, .int .u16 d]] w fun e w' => e = .returned (.tuple #[.int .u32 (codeW kind d), .int .i64 E]) ∧ Below w.heap.size w w' :=
  (ref_Code kind d hd hd' w).mono fun e w' h => ⟨by rw [h.1, hE], h.2⟩

/-- What a round knows: the element's two cells, the table, and that nothing that was there is written. -/
def St (w W : World) (b o : Nat) (kind d : Int) : Prop := W.cell? ⟨b, o, none⟩ = some (.int .i64 kind) ∧ W.cell? ⟨b, o + 1, none⟩ = some (.int .u16 d) ∧ Tab W ∧ Below w.heap.size w W
theorem St.below {w W W' : World} {b o : Nat} {kind d : Int} (h : St w W b o kind d) (hb : Below W.heap.size W W') (hlt : b < w.heap.size) : St w W' b o kind d :=
  have hl : b < W.heap.size := Nat.lt_of_lt_of_le hlt h.2.2.2.size
  ⟨(hb.cell (p := ⟨b, o, none⟩) hl).trans h.1, (hb.cell (p := ⟨b, o + 1, none⟩) hl).trans h.2.1, h.2.2.1.below hb h.2.2.1.1, h.2.2.2.trans (hb.mono h.2.2.2.size)⟩

set_option maxHeartbeats 1000000 in
theorem walk_some (b off len cap : Nat) (w : World) (hm : len ≤ maxLen) (hb : b < w.heap.size) (hT : Tab w)
    (hc : ∀ i, i < len → ∃ (kind d : Int), 0 ≤ d ∧ d < 65536 ∧ w.cell? ⟨b, off + i * 2, none⟩ = some (.int .i64 kind) ∧ w.cell? ⟨b, off + i * 2 + 1, none⟩ = some (.int .u16 d)) :
    Calls Tryd.prog 6 #[.slice (some ⟨b, off, none⟩) len cap] w fun e w' => e = .returned (.bool true) ∧ Below w.heap.size w w' := by
  unfold maxLen at hm
  have HT := Lib.hid hT
  clear hT
  go_enter Tryd.func6, Tryd.ntmps6
  go_wp2_with (go_at_call 10; refine (head_true _ HT.out).mono ?_; rintro e w' ⟨rfl, hbel⟩; have HB0 := Lib.hid hbel; clear hbel)
  go_loopw [4] (fun i wr => ∃ k : Nat, k ≤ len ∧ i = .int .i64 (k : Int) ∧ Below w.heap.size w wr) (fun i _ => len - (intOf i).toNat)
  case atStart => exact ⟨0, by omega, rfl, HB0.out⟩
  case round =>
    obtain ⟨k, hk, rfl, hbr⟩ := hrel
    clear HB0
    by_cases hlt : k < len
    · obtain ⟨kind, d, hd, hd', c0, c1⟩ := hc k hlt
      have s0 : St w wr b (off + k * 2) kind d := ⟨(hbr.cell (p := ⟨b, off + k * 2, none⟩) hb).trans c0, (hbr.cell (p := ⟨b, off + k * 2 + 1, none⟩) hb).trans c1, HT.out.below hbr HT.out.1, hbr⟩
      have S0 := Lib.hid s0
      obtain ⟨d0, d1, t0, _⟩ := s0
      have T0 := Lib.hid t0
      clear hc c0 c1 t0 hbr
      by_cases hok : codeOK kind d
      · have hE : codeE kind d = 0 := by rw [codeE, if_pos hok]
        have HE := Lib.hid hE
        have HK := Lib.hid hok
        clear hE hok
        go_wp2_with (first
          | (go_at_call 19; (with_reducible refine (code_at kind d 0 HE.out hd hd' _ T0.out).mono ?_); rintro e w1 ⟨rfl, hb1⟩; have s1 := S0.out.below hb1 hb; have S1 := Lib.hid s1; obtain ⟨e0, e1, _, _⟩ := s1; clear d0 d1 hb1 S0)
          | (go_at_call 20; (with_reducible refine (rcode_at kind d 0 HE.out hd hd' _).mono ?_); rintro e w2 ⟨rfl, hb2⟩; have s2 := S1.out.below hb2 hb; have S2 := Lib.hid s2; obtain ⟨f0, f1, t2, _⟩ := s2; have T2 := Lib.hid t2; clear e0 e1 hb2 S1 t2)
          | (go_at_call 21; (with_reducible refine (action_back kind d HK.out hd hd' _ T2.out).mono ?_); rintro e w3 ⟨rfl, hb3⟩; have s3 := S2.out.below hb3 hb; have S3 := Lib.hid s3; obtain ⟨g0, g1, _, _⟩ := s3; have hs3 := Nat.lt_of_lt_of_le hb S3.out.2.2.2.size; clear f0 f1 hb3 S2))
        clear T2
        go_quiet (fail)
        go_wp2
        exact ⟨⟨k + 1, by omega, by go_num, below_drawn (S3.out.2.2.2.alloc S3.out.2.2.2.size _) _⟩, by simp [intOf]; omega⟩
      · have hE : codeE kind d = 23 := by rw [codeE, if_neg hok]
        have HE := Lib.hid hE
        clear hE hok
        go_wp2_with (first
          | (go_at_call 19; (with_reducible refine (code_at kind d 23 HE.out hd hd' _ T0.out).mono ?_); rintro e w1 ⟨rfl, hb1⟩; have s1 := S0.out.below hb1 hb; have S1 := Lib.hid s1; obtain ⟨e0, e1, _, _⟩ := s1; clear d0 d1 hb1 S0)
          | (go_at_call 20; (with_reducible refine (rcode_at kind d 23 HE.out hd hd' _).mono ?_); rintro e w2 ⟨rfl, hb2⟩; have s2 := S1.out.below hb2 hb; have S2 := Lib.hid s2; clear e0 e1 hb2 S1 s2))
        exact ⟨⟨k + 1, by omega, by go_num, S2.out.2.2.2⟩, by simp [intOf]; omega⟩
    · go_wp2
      go_ret
      exact ⟨rfl, hbr⟩

set_option maxHeartbeats 400000 in
theorem walk_none (a : Option Addr) (cap : Nat) (w : World) (hT : Tab w) :
    Calls Tryd.prog 6 #[.slice a 0 cap] w fun e w' => e = .returned (.bool true) ∧ Below w.heap.size w w' := by
  have HT := Lib.hid hT
  clear hT
  go_enter Tryd.func6, Tryd.ntmps6
  go_wp2_with (go_at_call 10; refine (head_true _ HT.out).mono ?_; rintro e w' ⟨rfl, hbel⟩; have HB0 := Lib.hid hbel; clear hbel)
  go_loopw [4] (fun i wr => i = .int .i64 0 ∧ Below w.heap.size w wr) (fun i _ => 0)
  case atStart => exact ⟨rfl, HB0.out⟩
  case round =>
    obtain ⟨rfl, hbr⟩ := hrel
    go_wp2
    go_ret
    exact ⟨rfl, hbr⟩

theorem walk (a0 : Option Addr) (len0 cap0 : Nat) (w : World) (w0 : RowsOf [.i64, .u16] w a0 len0) (hT : Tab w) :
    Calls Tryd.prog 6 #[.slice a0 len0 cap0] w fun e w' => e = .returned (.bool true) ∧ Below w.heap.size w w' := by
  by_cases h0 : len0 = 0
  · subst h0; exact walk_none a0 cap0 w hT
  · rcases w0 with ⟨_, h⟩ | ⟨x, rfl, hl, hc⟩
    · exact absurd h h0
    · obtain ⟨b, off, spot⟩ := x
      obtain ⟨_, hc0, _⟩ := hc 0 (by omega) 0 _ rfl
      have hspot : spot = none := by simpa [Addr.add] using World.cell?_spot hc0
      subst hspot
      rw [addr_add] at hc0
      refine walk_some b off len0 cap0 w hl (cell_lt hc0) hT (fun i hi => ?_)
      obtain ⟨z0, c0, f0⟩ := hc i hi 0 _ rfl
      obtain ⟨z1, c1, f1⟩ := hc i hi 1 _ rfl
      rw [addr_add] at c0 c1
      have hb : 0 ≤ z1 ∧ z1 ≤ 65535 := by simpa [Lit.wf, IntKind.min, IntKind.max, IntKind.bits, IntKind.signed] using f1
      exact ⟨z0, z1, hb.1, by omega, c0, c1⟩

/-! ### The row's step, the statement, and the card -/
theorem door_met (os : Os) (args : Array Value) : laidMetH Tryd.prog [("ravelin/secdata.rows", Rows.laid_ravelin_secdata_rows)] ((World.doorLaid Tryd.prog 400 os).forCall (fun _ _ => 0) ⟨#[], args, []⟩).memory :=
  laidMetH_of_parts3 (fuel := 8) (laidMet_of_run' 8 (by kernel_rfl) (by kernel_rfl)) (by kernel_rfl) (by kernel_rfl)

set_option maxRecDepth 100000 in
theorem lifted (os : Os) (started : os.Started) (H : Type) (enc : TypeId × Value → H) :
    ReturnsInHanded {} Tryd.checked os 6 .any (fun w args => (Rows.secdataCodesSpec.pre enc Tryd.prog Tryd.f6 [] false w args ∧ laidMetH Tryd.prog [("ravelin/secdata.rows", Rows.laid_ravelin_secdata_rows)] w) ∧ sizedMet enc Tryd.prog Tryd.f6 (OpenSpec.ofChange Rows.secdataCodesSpec) false w args)
      (Rows.secdataCodesSpec.post enc Tryd.prog Tryd.f6 false true false false) := by
  refine returnsInHanded_of_change_and (C := Tryd.checked) (X := fun w _ => laidMetH Tryd.prog [("ravelin/secdata.rows", Rows.laid_ravelin_secdata_rows)] w) (fun _ _ _ hh h => h.of_heap hh) own started (by kernel_rfl) Tryd.func6
    (ChangeSpec.witness_shaped (enc := enc) (C := Tryd.checked) (os := os) (X := fun w _ => laidMetH Tryd.prog [("ravelin/secdata.rows", Rows.laid_ravelin_secdata_rows)] w) false (World.doorLaid Tryd.prog 400 os) #[.slice none 0 0] 8 rfl (World.shaped_of_RefB (by kernel_rfl) (by kernel_rfl)) (by kernel_rfl) (by kernel_rfl) (by kernel_rfl) (door_met os _)) ?_
  intro W base args ds gs before hval0 hW _ _ hL _
  have hval : ∀ (j : Nat) t v, Tryd.f6.params[j]? = some t → args[j]? = some v → Value.okWide Tryd.prog W .any base t v := hval0
  have hW' := hW
  obtain ⟨p, q, hA0, hV, rfl, hfz, hnd⟩ := hW
  have hA : DataW.TrodAll enc Tryd.prog W 0 (fun _ => true) true Tryd.f6.params.toList args.toList ds p := hA0
  rw [Tryd.params6] at hA hval
  obtain ⟨v0, vs0, d0, ds0, p0, q0, hargs, rfl, rfl, h0, r0⟩ := trodAll_cons hA
  obtain ⟨rfl, rfl, rfl⟩ := trodAll_nil r0
  obtain rfl : args = #[v0] := by cases args; simp_all
  obtain ⟨rfl, rfl⟩ := trodVars_none hV
  obtain ⟨a0, len0, cap0, rfl⟩ := okWide_slice Tryd.underlying42 (hval 0 42 v0 rfl rfl)
  have k0 := h0
  have lt0 : ∀ x ∈ p0, x.block < W.heap.size := by obtain ⟨m, hm⟩ := k0; exact DataW.trod_lt m _ _ _ hm
  have w0 : RowsOf [.i64, .u16] W a0 len0 := by
    obtain ⟨fuel, hf⟩ := h0
    rcases rows_fields Tryd.underlying42 Tryd.underlying47 (by kernel_rfl) (by kernel_rfl) hf with hcs | ⟨x, l, c, hcs, hl, hm, hi⟩
    · simp [Value.cells] at hcs
      obtain ⟨rfl, rfl, rfl⟩ := hcs
      exact .inl ⟨rfl, rfl⟩
    · simp [Value.cells] at hcs
      obtain ⟨rfl, rfl, rfl⟩ := hcs
      refine .inr ⟨_, rfl, Nat.le_trans hl hm, fun i hil j K hK => ?_⟩
      match j, hK with
      | 0, hK =>
        obtain ⟨v, y, n, hc, ht⟩ := hi i hil 0 _ rfl
        obtain ⟨z, e, _, wz⟩ := DataW.trod_int Tryd.underlying44 ht
        simp only [List.cons.injEq, and_true] at e; subst e
        obtain rfl := Option.some.inj hK
        exact ⟨z, hc, wz⟩
      | 1, hK =>
        obtain ⟨v, y, n, hc, ht⟩ := hi i hil 1 _ rfl
        obtain ⟨z, e, _, wz⟩ := DataW.trod_int Tryd.underlying45 ht
        simp only [List.cons.injEq, and_true] at e; subst e
        obtain rfl := Option.some.inj hK
        exact ⟨z, hc, wz⟩
      | _ + 2, hK => exact absurd hK (by simp)
  clear hA0 hval0
  refine (walk a0 len0 cap0 W w0 (tab_of_laid hL)).mono fun e W' ⟨he, bel⟩ => ?_
  subst he
  exact ⟨_, rfl, _, _, _, [], _, [], hW', trodAll_mk1 (shut_bool Tryd.underlying4 _), (trodAll_cons_mk (Below.trod laidOut (by kernel_rfl) (of_decide_eq_true (by kernel_rfl)) k0 bel lt0) trodAll_mk0), rfl, bel.frame _, fun h => by cases h⟩

theorem over : Rows.secdataCodesRow.holds Tryd.pinned (OpenSpec.ofChange Rows.secdataCodesSpec) :=
  OpenClaim.holds_of_wide 6 Tryd.f6 rfl rfl rfl rfl rfl rfl rfl ⟨rfl, rfl, rfl, rfl, rfl⟩ rfl rfl rfl rfl rfl (by kernel_rfl) Tryd.func6 (by kernel_rfl)
    (of_decide_eq_true (by kernel_rfl)) (by unfold Func.isWrapper; first | (rw [if_pos (by decide +kernel)]; kernel_rfl) | (rw [if_neg (by decide +kernel)]; exact ⟨rfl, rfl⟩))
    (fun os started H enc _ => lifted os started H enc)

/-- The statement: the row's card, what it lists tied to the program's text. -/
theorem proved : Rows.SecdataCodesCardSaid :=
  Claim7.holds_tied_plain_at .later [] [.data] true Rows.secdataCodesCard.stood.harness Rows.secdataCodesCard.stood.looks
    over (fun _ h => by cases h) (by kernel_rfl) (fun _ h => by cases h) secdataCodes_row_tie rfl ⟨rfl, rfl⟩ (by kernel_rfl) rfl
    (fun f fn hf hfn => by
      obtain rfl : f = 6 := Option.some.inj ((show Tryd.prog.funcNamed "ravelin/ravelinlaw02.SecdataCodes" = some 6 by kernel_rfl).symm.trans hf) |>.symm
      obtain rfl : fn = Tryd.f6 := (Option.some.inj (Tryd.func6.symm.trans hfn)).symm
      exact ⟨by kernel_rfl, fun j t ht => by
        have hm : t ∈ Tryd.f6.params.toList := by
          have := Array.mem_of_getElem? ht
          simpa using this
        have hall : (Tryd.f6.params.toList.all fun u => !Tryd.prog.wantsStandIn u) = true := by kernel_rfl
        exact (show Tryd.prog.wantsStandIn t = false by simpa using List.all_eq_true.1 hall t hm)⟩)
    (by kernel_rfl)
end Go.Proofs.YtdmjbiaigjifaaaDoor.secdataCodes
