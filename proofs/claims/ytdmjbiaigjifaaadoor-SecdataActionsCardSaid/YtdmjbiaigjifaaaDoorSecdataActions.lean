/-
  'SecdataActions': for every list of words, the law of layer 2 on Action and Code returns true, and leaves memory as it was. Condition: the table of the kinds reads as the program's text lays it (the card ties it).
-/
import Derived.Test.YtdmjbiaigjifaaaDoorSecHead
import Derived.Test.YtdmjbiaigjifaaaDoorSecAct
import Derived.Test.YtdmjbiaigjifaaaDoorMemory
import Derived.Test.YtdmjbiaigjifaaaDoorCards
import Derived.SevenTiedAt
namespace Go.Proofs.YtdmjbiaigjifaaaDoor.secdataActions
open Go Go.ChangeShapes Go.WideShapes Go.ChangeAt Go.RowKit
set_option linter.unusedSimpArgs false
set_option linter.unusedVariables false

theorem actRow_spec {x : Int} (h : actRow x < 8) : rowIsW (actRow x) x := by
  unfold actRow at h ⊢
  split <;> first | assumption | skip
  split <;> first | assumption | skip
  split <;> first | assumption | skip
  split <;> first | assumption | skip
  split <;> first | assumption | skip
  split <;> first | assumption | skip
  split <;> first | assumption | skip
  split <;> first | assumption | skip
  simp_all
theorem code_back (x : Int) (h8 : actRow x < 8) (hx : 0 ≤ x) (w : World) (hT : Tab w) :
    Calls Tryd.prog 19 #[.agg #[.int .i64 (actK x), .int .u16 (actD x)]] w fun e w' => e = .returned (.tuple #[.int .u32 x, .int .i64 0]) ∧ Below w.heap.size w w' := by
  have hr := actRow_spec h8
  rw [actK, actD, if_pos h8, if_pos h8]
  generalize actRow x = k at hr h8
  have ht : ((k : Int) + 1 - 1).toNat = k := by omega
  have hm := rowW_lt k
  have hok : codeOK ((k : Int) + 1) (x % 65536) := ⟨by omega, by omega, by rw [ht]; exact hr.2⟩
  refine (secdata_Code ((k : Int) + 1) (x % 65536) (by omega) (by omega) w hT).mono ?_
  rintro e w' ⟨rfl, hb⟩
  exact ⟨by rw [codeW, codeE, if_pos hok, if_pos hok, ht, hr.1, show x - x % 65536 + x % 65536 = x by omega], hb⟩
theorem act_at (x E : Int) (hE : actE x = E) (hx : 0 ≤ x) (hx' : x < 4294967296) (w : World) (hT : Tab w) :
    Calls Tryd.prog 21 #[.int .u32 x] w fun e w' => e = .returned (.tuple #[.agg #[.int .i64 (actK x), .int .u16 (actD x)], .int .i64 E]) ∧ Below w.heap.size w w' :=
  (secdata_Action x hx hx' w hT).mono fun e w' h => ⟨by rw [h.1, hE], h.2⟩
theorem ract_at (x E : Int) (hE : actE x = E) (hx : 0 ≤ x) (hx' : x < 4294967296) (w : World) :
    Calls Tryd.prog 22 #[.int .u32 x] w fun e w' => e = .returned (.tuple #[.agg #[.int .i64 (actK x), .int .u16 (actD x)], .int .i64 E]) ∧ Below w.heap.size w w' :=
  (ref_Action x hx hx' w).mono fun e w' h => ⟨by rw [h.1, hE], h.2⟩

/-- What a round knows: the element's cell, the table, and that nothing that was there is written. -/
def St (w W : World) (b o : Nat) (x : Int) : Prop := W.cell? ⟨b, o, none⟩ = some (.int .u32 x) ∧ Tab W ∧ Below w.heap.size w W
theorem St.below {w W W' : World} {b o : Nat} {x : Int} (h : St w W b o x) (hb : Below W.heap.size W W') (hlt : b < w.heap.size) : St w W' b o x :=
  have hl : b < W.heap.size := Nat.lt_of_lt_of_le hlt h.2.2.size
  ⟨(hb.cell (p := ⟨b, o, none⟩) hl).trans h.1, h.2.1.below hb h.2.1.1, h.2.2.trans (hb.mono h.2.2.size)⟩
theorem after {w W1 W2 : World} {b o : Nat} {x : Int} {u v : Value} {t : TypeId} (h : St w W1 b o x) (hlt : b < w.heap.size) (hb : Below (W1.alloc (.cells #[u, v] t)).heap.size (W1.alloc (.cells #[u, v] t)) W2) :
    St w W2 b o x ∧ W2.cell? ⟨W1.heap.size, 0, none⟩ = some u ∧ W2.cell? ⟨W1.heap.size, 1, none⟩ = some v ∧ W1.heap.size < W2.heap.size ∧ b < W2.heap.size := by
  have hs : W1.heap.size + 1 ≤ W2.heap.size := by have := hb.size; simpa using this
  have hw := h.2.2.size
  exact ⟨(h.below (below_box W1 _) hlt).below hb hlt, (hb.cell (p := ⟨W1.heap.size, 0, none⟩) (by simp)).trans (by simp), (hb.cell (p := ⟨W1.heap.size, 1, none⟩) (by simp)).trans (by simp), by omega, by omega⟩

set_option maxHeartbeats 1000000 in
theorem walk_some (b off len cap : Nat) (w : World) (hm : len ≤ maxLen) (hb : b < w.heap.size) (hT : Tab w)
    (hc : ∀ i, i < len → ∃ (x : Int), 0 ≤ x ∧ x < 4294967296 ∧ w.cell? ⟨b, off + i, none⟩ = some (.int .u32 x)) :
    Calls Tryd.prog 7 #[.slice (some ⟨b, off, none⟩) len cap] w fun e w' => e = .returned (.bool true) ∧ Below w.heap.size w w' := by
  unfold maxLen at hm
  have HT := Lib.hid hT
  clear hT
  go_enter Tryd.func7, Tryd.ntmps7
  go_wp2_with (go_at_call 10; refine (head_true _ HT.out).mono ?_; rintro e w' ⟨rfl, hbel⟩; have HB0 := Lib.hid hbel; clear hbel)
  go_loopw [4] (fun i wr => ∃ k : Nat, k ≤ len ∧ i = .int .i64 (k : Int) ∧ Below w.heap.size w wr) (fun i _ => len - (intOf i).toNat)
  case atStart => exact ⟨0, by omega, rfl, HB0.out⟩
  case round =>
    obtain ⟨k, hk, rfl, hbr⟩ := hrel
    clear HB0
    by_cases hlt : k < len
    · obtain ⟨x, hx, hx', c0⟩ := hc k hlt
      have s0 : St w wr b (off + k) x := ⟨(hbr.cell (p := ⟨b, off + k, none⟩) hb).trans c0, HT.out.below hbr HT.out.1, hbr⟩
      have S0 := Lib.hid s0
      have d0 := s0.1
      have T0 := Lib.hid s0.2.1
      clear hc c0 hbr s0
      by_cases hok : actRow x < 8
      · have hE : actE x = 0 := by rw [actE, if_pos hok]
        have HE := Lib.hid hE
        have HK := Lib.hid hok
        clear hE hok
        go_wp2_with (first
          | (go_at_call 21; (with_reducible refine (act_at x 0 HE.out hx hx' _ T0.out).mono ?_); rintro e w1 ⟨rfl, hb1⟩; have s1 := S0.out.below hb1 hb; have S1 := Lib.hid s1; have d1 := s1.1; have z1 := Nat.lt_of_lt_of_le hb s1.2.2.size; clear d0 hb1 S0 s1)
          | (go_at_call 22; (with_reducible refine (ract_at x 0 HE.out hx hx' _).mono ?_); rintro e w2 ⟨rfl, hb2⟩; obtain ⟨s2, q0, q1, z2, z3⟩ := after S1.out hb hb2; have S2 := Lib.hid s2; have T2 := Lib.hid (s2.below (below_box w2 (.cells #[.int .i64 (actK x), .int .u16 (actD x)] 47)) hb).2.1; clear d1 hb2 S1 s2 z1)
          | (go_at_call 19; (with_reducible refine (code_back x HK.out hx _ T2.out).mono ?_); rintro e w3 ⟨rfl, hb3⟩; obtain ⟨s3, _, _, _, _⟩ := after S2.out hb hb3; have S3 := Lib.hid s3; have d3 := s3.1; clear hb3 s3 q0 q1 z2 z3 S2))
        exact ⟨⟨k + 1, by omega, by go_num, S3.out.2.2⟩, by simp [intOf]; omega⟩
      · have hE : actE x = 23 := by rw [actE, if_neg hok]
        have HE := Lib.hid hE
        clear hE hok
        go_wp2_with (first
          | (go_at_call 21; (with_reducible refine (act_at x 23 HE.out hx hx' _ T0.out).mono ?_); rintro e w1 ⟨rfl, hb1⟩; have s1 := S0.out.below hb1 hb; have S1 := Lib.hid s1; have d1 := s1.1; have z1 := Nat.lt_of_lt_of_le hb s1.2.2.size; clear d0 hb1 S0 s1)
          | (go_at_call 22; (with_reducible refine (ract_at x 23 HE.out hx hx' _).mono ?_); rintro e w2 ⟨rfl, hb2⟩; obtain ⟨s2, q0, q1, z2, z3⟩ := after S1.out hb hb2; have S2 := Lib.hid s2; clear d1 hb2 S1 s2 z1))
        exact ⟨⟨k + 1, by omega, by go_num, S2.out.2.2.alloc S2.out.2.2.size _⟩, by simp [intOf]; omega⟩
    · go_wp2
      go_ret
      exact ⟨rfl, hbr⟩

set_option maxHeartbeats 400000 in
theorem walk_none (a : Option Addr) (cap : Nat) (w : World) (hT : Tab w) :
    Calls Tryd.prog 7 #[.slice a 0 cap] w fun e w' => e = .returned (.bool true) ∧ Below w.heap.size w w' := by
  have HT := Lib.hid hT
  clear hT
  go_enter Tryd.func7, Tryd.ntmps7
  go_wp2_with (go_at_call 10; refine (head_true _ HT.out).mono ?_; rintro e w' ⟨rfl, hbel⟩; have HB0 := Lib.hid hbel; clear hbel)
  go_loopw [4] (fun i wr => i = .int .i64 0 ∧ Below w.heap.size w wr) (fun i _ => 0)
  case atStart => exact ⟨rfl, HB0.out⟩
  case round =>
    obtain ⟨rfl, hbr⟩ := hrel
    go_wp2
    go_ret
    exact ⟨rfl, hbr⟩

theorem isRow_u32 {w : World} {a : Option Addr} {len cap : Nat} {zs : List Int} (h : IsRow .u32 w a len cap zs) (i : Nat) : 0 ≤ zs.getD i 0 ∧ zs.getD i 0 < 4294967296 := by
  rcases h with ⟨_, _, _, rfl⟩ | ⟨x, rfl, hl, _, hz, hcell, hw⟩
  · simp
  · rcases Nat.lt_or_ge i zs.length with g | g
    · have := hw (zs.getD i 0) (by rw [List.getD_eq_getElem?_getD, List.getElem?_eq_getElem g]; exact List.getElem_mem g)
      have hb : 0 ≤ zs.getD i 0 ∧ zs.getD i 0 ≤ 4294967295 := by simpa [Lit.wf, IntKind.min, IntKind.max, IntKind.bits, IntKind.signed] using this
      omega
    · rw [List.getD_eq_getElem?_getD, List.getElem?_eq_none g]; simp
theorem isRow_max {k : IntKind} {w : World} {a : Option Addr} {len cap : Nat} {zs : List Int} (h : IsRow k w a len cap zs) : len ≤ maxLen := by
  rcases h with ⟨_, rfl, _, _⟩ | ⟨x, rfl, hl, hm, _⟩
  · exact Nat.zero_le _
  · exact Nat.le_trans hl hm

theorem walk (a0 : Option Addr) (len0 cap0 : Nat) (z0 : List Int) (w : World) (w0 : IsRow .u32 w a0 len0 cap0 z0) (hT : Tab w) :
    Calls Tryd.prog 7 #[.slice a0 len0 cap0] w fun e w' => e = .returned (.bool true) ∧ Below w.heap.size w w' := by
  by_cases h0 : len0 = 0
  · subst h0; exact walk_none a0 cap0 w hT
  · have hs := holds_of_isRow w0
    obtain ⟨b, off, rfl, hbl, hc⟩ := hs (by omega)
    exact walk_some b off len0 cap0 w (isRow_max w0) hbl hT (fun i hi => ⟨_, (isRow_u32 w0 i).1, (isRow_u32 w0 i).2, hc i hi⟩)

/-! ### The row's step, the statement, and the card -/
theorem door_met (os : Os) (args : Array Value) : laidMetH Tryd.prog [("ravelin/secdata.rows", Rows.laid_ravelin_secdata_rows)] ((World.doorLaid Tryd.prog 400 os).forCall (fun _ _ => 0) ⟨#[], args, []⟩).memory :=
  laidMetH_of_parts3 (fuel := 8) (laidMet_of_run' 8 (by kernel_rfl) (by kernel_rfl)) (by kernel_rfl) (by kernel_rfl)

set_option maxRecDepth 100000 in
theorem lifted (os : Os) (started : os.Started) (H : Type) (enc : TypeId × Value → H) :
    ReturnsInHanded {} Tryd.checked os 7 .any (fun w args => (Rows.secdataActionsSpec.pre enc Tryd.prog Tryd.f7 [] false w args ∧ laidMetH Tryd.prog [("ravelin/secdata.rows", Rows.laid_ravelin_secdata_rows)] w) ∧ sizedMet enc Tryd.prog Tryd.f7 (OpenSpec.ofChange Rows.secdataActionsSpec) false w args)
      (Rows.secdataActionsSpec.post enc Tryd.prog Tryd.f7 false true false false) := by
  refine returnsInHanded_of_change_and (C := Tryd.checked) (X := fun w _ => laidMetH Tryd.prog [("ravelin/secdata.rows", Rows.laid_ravelin_secdata_rows)] w) (fun _ _ _ hh h => h.of_heap hh) own started (by kernel_rfl) Tryd.func7
    (ChangeSpec.witness_shaped (enc := enc) (C := Tryd.checked) (os := os) (X := fun w _ => laidMetH Tryd.prog [("ravelin/secdata.rows", Rows.laid_ravelin_secdata_rows)] w) false (World.doorLaid Tryd.prog 400 os) #[.slice none 0 0] 8 rfl (World.shaped_of_RefB (by kernel_rfl) (by kernel_rfl)) (by kernel_rfl) (by kernel_rfl) (by kernel_rfl) (door_met os _)) ?_
  intro W base args ds gs before hval0 hW _ _ hL _
  have hval : ∀ (j : Nat) t v, Tryd.f7.params[j]? = some t → args[j]? = some v → Value.okWide Tryd.prog W .any base t v := hval0
  have hW' := hW
  obtain ⟨p, q, hA0, hV, rfl, hfz, hnd⟩ := hW
  have hA : DataW.TrodAll enc Tryd.prog W 0 (fun _ => true) true Tryd.f7.params.toList args.toList ds p := hA0
  rw [Tryd.params7] at hA hval
  obtain ⟨v0, vs0, d0, ds0, p0, q0, hargs, rfl, rfl, h0, r0⟩ := trodAll_cons hA
  obtain ⟨rfl, rfl, rfl⟩ := trodAll_nil r0
  obtain rfl : args = #[v0] := by cases args; simp_all
  obtain ⟨rfl, rfl⟩ := trodVars_none hV
  obtain ⟨a0, len0, cap0, rfl⟩ := okWide_slice Tryd.underlying51 (hval 0 51 v0 rfl rfl)
  have k0 := h0
  have lt0 : ∀ x ∈ p0, x.block < W.heap.size := by obtain ⟨m, hm⟩ := k0; exact DataW.trod_lt m _ _ _ hm
  obtain ⟨z0, w0⟩ : ∃ zs, IsRow .u32 W a0 len0 cap0 zs := by
    obtain ⟨fuel, hf⟩ := h0
    rcases open_ints Tryd.underlying51 Tryd.underlying22 (by kernel_rfl) hf with ⟨hcs, _⟩ | ⟨x, l, c, zs, hcs, _, hl, hm, hz, hx, hcell, hwz⟩
    · simp [Value.cells] at hcs
      obtain ⟨rfl, rfl, rfl⟩ := hcs
      exact ⟨[], .inl ⟨rfl, rfl, rfl, rfl⟩⟩
    · simp [Value.cells] at hcs
      obtain ⟨rfl, rfl, rfl⟩ := hcs
      exact ⟨zs, .inr ⟨_, rfl, hl, hm, by simpa using hz, hcell, hwz⟩⟩
  clear hA0 hval0
  refine (walk a0 len0 cap0 z0 W w0 (tab_of_laid hL)).mono fun e W' ⟨he, bel⟩ => ?_
  subst he
  exact ⟨_, rfl, _, _, _, [], _, [], hW', trodAll_mk1 (shut_bool Tryd.underlying4 _), (trodAll_cons_mk (Below.trod laidOut (by kernel_rfl) (of_decide_eq_true (by kernel_rfl)) k0 bel lt0) trodAll_mk0), rfl, bel.frame _, fun h => by cases h⟩

theorem over : Rows.secdataActionsRow.holds Tryd.pinned (OpenSpec.ofChange Rows.secdataActionsSpec) :=
  OpenClaim.holds_of_wide 7 Tryd.f7 rfl rfl rfl rfl rfl rfl rfl ⟨rfl, rfl, rfl, rfl, rfl⟩ rfl rfl rfl rfl rfl (by kernel_rfl) Tryd.func7 (by kernel_rfl)
    (of_decide_eq_true (by kernel_rfl)) (by unfold Func.isWrapper; first | (rw [if_pos (by decide +kernel)]; kernel_rfl) | (rw [if_neg (by decide +kernel)]; exact ⟨rfl, rfl⟩))
    (fun os started H enc _ => lifted os started H enc)

/-- The statement: the row's card, what it lists tied to the program's text. -/
theorem proved : Rows.SecdataActionsCardSaid :=
  Claim7.holds_tied_plain_at .later [] [.data] true Rows.secdataActionsCard.stood.harness Rows.secdataActionsCard.stood.looks
    over (fun _ h => by cases h) (by kernel_rfl) (fun _ h => by cases h) secdataActions_row_tie rfl ⟨rfl, rfl⟩ (by kernel_rfl) rfl
    (fun f fn hf hfn => by
      obtain rfl : f = 7 := Option.some.inj ((show Tryd.prog.funcNamed "ravelin/ravelinlaw02.SecdataActions" = some 7 by kernel_rfl).symm.trans hf) |>.symm
      obtain rfl : fn = Tryd.f7 := (Option.some.inj (Tryd.func7.symm.trans hfn)).symm
      exact ⟨by kernel_rfl, fun j t ht => by
        have hm : t ∈ Tryd.f7.params.toList := by
          have := Array.mem_of_getElem? ht
          simpa using this
        have hall : (Tryd.f7.params.toList.all fun u => !Tryd.prog.wantsStandIn u) = true := by kernel_rfl
        exact (show Tryd.prog.wantsStandIn t = false by simpa using List.all_eq_true.1 hall t hm)⟩)
    (by kernel_rfl)
end Go.Proofs.YtdmjbiaigjifaaaDoor.secdataActions
