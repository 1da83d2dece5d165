/-
  'PolicyNames': the law of layer 6 that the examples of the chapter are read and written as it says, and its errors by their numbers, returns true, and leaves memory as it was. Condition: the library's tables of powers and of bits read as its text lays them (the card ties them).
-/
import Derived.Test.YtgeapkjegemkeaaGreatDoorZNm
import Derived.Test.YtgeapkjegemkeaaGreatDoorPolRep
import Derived.Test.YtgeapkjegemkeaaGreatDoorPolBkP
import Derived.Test.YtgeapkjegemkeaaGreatDoorCards
import Derived.Test.YtgeapkjegemkeaaGreatDoorTie
import Derived.ChangeMaps5
import Derived.SevenTiedAt
import Derived.Deep.Cut
namespace Go.Proofs.YtgeapkjegemkeaaGreatDoor.policyNames
open Go Go.ChangeShapes Go.WideShapes Go.ChangeAt Go.RowKit
set_option linter.unusedSimpArgs false
set_option linter.unusedVariables false

set_option maxRecDepth 100000 in
theorem some_says (w : World) : Calls Tryz.prog 8 #[] w fun e w' => e = .returned (.string someT) ∧ w' = w := by
  go_enter Tryz.func8, Tryz.ntmps8
  go_wp2
  go_ret
  exact ⟨by rfl, rfl⟩
theorem read_some (W : World) : Calls Tryz.prog 7 #[.string someT] W fun e w' => ∃ R, e = .returned (.tuple #[poV someP.arch someP.foreign_.1 (someP.foreign_.2 : Int) someP.default_.1 (someP.default_.2 : Int) R, .int .i64 0, .int .i64 0]) ∧ RulesP W.heap.size someP.rules R w' ∧ Below W.heap.size W w' := by
  have h := u_po (p_Parse someT W); rw [some_read] at h; exact h
theorem read_arch (W : World) : Calls Tryz.prog 7 #[.string archT] W fun e w' => ∃ R, e = .returned (.tuple #[poV zeroPo.arch zeroPo.foreign_.1 (zeroPo.foreign_.2 : Int) zeroPo.default_.1 (zeroPo.default_.2 : Int) R, .int .i64 61, .int .i64 7]) ∧ RulesP W.heap.size zeroPo.rules R w' ∧ Below W.heap.size W w' := by
  have h := u_po (p_Parse archT W); rw [arch_read] at h; exact h
theorem read_many : ∃ p : Nat, ∀ W : World, Calls Tryz.prog 7 #[.string manyT] W fun e w' => ∃ R, e = .returned (.tuple #[poV zeroPo.arch zeroPo.foreign_.1 (zeroPo.foreign_.2 : Int) zeroPo.default_.1 (zeroPo.default_.2 : Int) R, .int .i64 63, .int .i64 (p : Int)]) ∧ RulesP W.heap.size zeroPo.rules R w' ∧ Below W.heap.size W w' := by
  obtain ⟨p, hp⟩ := many_read
  exact ⟨p, fun W => by have h := u_po (p_Parse manyT W); rw [hp] at h; exact h⟩
theorem read_nip (W : World) : Calls Tryz.prog 10 #[.string nipT] W fun e w' => ∃ A c, e = .returned (.tuple #[exV nipE A c, .int .i64 0, .int .i64 0]) ∧ ExIn w' (fun k => W.heap.size ≤ k) nipE A c ∧ Below W.heap.size W w' := by
  have h := u_ex (p_ParseExpr nipT W); rw [nip_read] at h; exact h
theorem read_deep (W : World) : Calls Tryz.prog 10 #[.string deepT] W fun e w' => ∃ A c, e = .returned (.tuple #[exV .zero A c, .int .i64 62, .int .i64 64]) ∧ ExIn w' (fun k => W.heap.size ≤ k) .zero A c ∧ Below W.heap.size W w' := by
  have h := u_ex (p_ParseExpr deepT W); rw [deep_read] at h; exact h
theorem read_true (W : World) : Calls Tryz.prog 10 #[.string trueT] W fun e w' => ∃ A c, e = .returned (.tuple #[exV (.plain 1) A c, .int .i64 0, .int .i64 0]) ∧ ExIn w' (fun k => W.heap.size ≤ k) (.plain 1) A c ∧ Below W.heap.size W w' := by
  have h := u_ex (p_ParseExpr trueT W); rw [true_read] at h; exact h
theorem some_good : (GPo someP ∧ ∀ r ∈ someP.rules, wtE r.when_ ≤ 140000) ∧ SmPo someP := by
  have h := good_resPo someT
  have k := sm_resPo someT
  rw [some_read] at h k
  exact ⟨h rfl, k⟩
theorem nip_good : (GEx nipE ∧ wtE nipE ≤ 140000) ∧ SmEx nipE := by
  have h := good_resEx nipT
  have k := sm_resEx nipT
  rw [nip_read] at h k
  exact ⟨h rfl, k⟩
theorem true_small : SmEx (.plain 1) := by
  have k := sm_resEx trueT
  rw [true_read] at k
  exact k
abbrev a40 : ByteArray := ⟨#[40]⟩
abbrev a41 : ByteArray := ⟨#[41]⟩
abbrev aTrue : ByteArray := ⟨#[116, 114, 117, 101]⟩
abbrev aLog : ByteArray := ⟨#[111, 110, 32, 97, 32, 100, 111, 32, 108, 111, 103, 59]⟩
abbrev aHead : ByteArray := ⟨#[97, 114, 99, 104, 32, 120, 59, 32, 102, 111, 114, 101, 105, 103, 110, 32, 108, 111, 103, 59, 32, 100, 101, 102, 97, 117, 108, 116, 32, 108, 111, 103, 59]⟩
theorem deep_is : (⟨(Lib.repeatL a40.data.toList 65).toArray⟩ : ByteArray) = deepT := by kernel_rfl
theorem true_is : (⟨(Lib.repeatL a40.data.toList 64).toArray⟩ : ByteArray) ++ aTrue ++ (⟨(Lib.repeatL a41.data.toList 64).toArray⟩ : ByteArray) = trueT := by kernel_rfl
theorem many_is : aHead ++ (⟨(Lib.repeatL aLog.data.toList 513).toArray⟩ : ByteArray) = manyT := strL_append headT (Lib.repeatL logL 513)
set_option maxRecDepth 100000 in
set_option maxHeartbeats 16000000 in
theorem walk (w : World) (hT : Tbl w) :
    Calls Tryz.prog 3 #[] w fun e w' => e = .returned (.bool true) ∧ Below w.heap.size w w' := by
  have HL := Lib.hid (fun W => lives_is6 W)
  have hS := fun W => some_says W
  have hSP := some_good.2
  have h1 := fun W => read_some W
  have hpr : ∀ W A cap, Tbl W → RulesL W someP.rules A → Calls Tryz.prog 9 #[poV9 someP A cap] W fun e w' => e = .returned (.string someT) ∧ Below W.heap.size W w' := fun W A cap hT hr => by
    have h := p_Print some_good.1.1 some_good.1.2 W A cap hT hr
    rw [show strL (polL someP) = someT from some_said] at h; exact h
  have h2 := fun W => read_nip W
  have hpe : ∀ W A cap, Tbl W → ExL W nipE A cap → Calls Tryz.prog 12 #[exV nipE A cap] W fun e w' => e = .returned (.string nipS) ∧ Below W.heap.size W w' := fun W A cap hT hx => by
    have h := p_PrintExpr nip_good.1.1 nip_good.1.2 W A cap hT hx
    rw [show strL (exL nipE) = nipS from nip_said] at h; exact h
  have hde : ∀ W A cap, ExL W nipE A cap → Calls Tryz.prog 13 #[exV nipE A cap] W fun e w' => e = .returned (.int .i64 1) ∧ Below W.heap.size W w' := fun W A cap hx => by
    have h := p_Depth _ nipE (Nat.lt_succ_self _) nip_good.1.1 nip_good.1.2 W A cap hx
    rw [nip_deep] at h; exact h
  have hSX := nip_good.2
  have h3 := fun W => read_arch W
  have r4 : ∀ W, Calls Tryz.prog 11 #[.string a40, .int .i64 65] W fun e w' => e = .returned (.string deepT) ∧ Below W.heap.size W w' := fun W => by
    have h := p_Repeat a40 65 W (by decide) (by decide) (by decide) (by decide)
    rw [deep_is] at h; exact h
  have h4 := fun W => read_deep W
  have r5 : ∀ W, Calls Tryz.prog 11 #[.string a40, .int .i64 64] W fun e w' => e = .returned (.string (⟨(Lib.repeatL a40.data.toList 64).toArray⟩ : ByteArray)) ∧ Below W.heap.size W w' := fun W => p_Repeat a40 64 W (by decide) (by decide) (by decide) (by decide)
  have r6 : ∀ W, Calls Tryz.prog 11 #[.string a41, .int .i64 64] W fun e w' => e = .returned (.string (⟨(Lib.repeatL a41.data.toList 64).toArray⟩ : ByteArray)) ∧ Below W.heap.size W w' := fun W => p_Repeat a41 64 W (by decide) (by decide) (by decide) (by decide)
  have h5 : ∀ W, Calls Tryz.prog 10 #[.string ((⟨(Lib.repeatL a40.data.toList 64).toArray⟩ : ByteArray) ++ aTrue ++ (⟨(Lib.repeatL a41.data.toList 64).toArray⟩ : ByteArray))] W fun e w' => ∃ A c, e = .returned (.tuple #[exV (.plain 1) A c, .int .i64 0, .int .i64 0]) ∧ ExIn w' (fun k => W.heap.size ≤ k) (.plain 1) A c ∧ Below W.heap.size W w' := fun W => by
    rw [true_is]; exact read_true W
  have z5 : (⟨(Lib.repeatL a40.data.toList 64).toArray⟩ : ByteArray).size = 64 := by decide
  have z6 : (⟨(Lib.repeatL a41.data.toList 64).toArray⟩ : ByteArray).size = 64 := by decide
  have hSY := true_small
  have r7 : ∀ W, Calls Tryz.prog 11 #[.string aLog, .int .i64 513] W fun e w' => e = .returned (.string (⟨(Lib.repeatL aLog.data.toList 513).toArray⟩ : ByteArray)) ∧ Below W.heap.size W w' := fun W => p_Repeat aLog 513 W (by decide) (by decide) (by decide) (by decide)
  have z7 : (⟨(Lib.repeatL aLog.data.toList 513).toArray⟩ : ByteArray).size = 6156 := by
    show (Lib.repeatL aLog.data.toList 513).length = 6156
    rw [Lib.repeatL_length]; rfl
  obtain ⟨pm, h6'⟩ := read_many
  have h6 := h6'
  rw [← many_is] at h6
  clear h6'
  have hn2 : ((someP.rules.length : Int) == 2) = true := rfl
  have hy1 : ((Ex.plain 1).op == 1) = true := rfl
  generalize (⟨(Lib.repeatL a40.data.toList 64).toArray⟩ : ByteArray) = t5 at r5 h5 z5
  generalize (⟨(Lib.repeatL a41.data.toList 64).toArray⟩ : ByteArray) = t6 at r6 h5 z6
  generalize (⟨(Lib.repeatL aLog.data.toList 513).toArray⟩ : ByteArray) = t7 at r7 h6 z7
  generalize deepT = t4 at r4 h4
  generalize someT = ts at hS h1 hpr
  generalize someP = p at h1 hpr hn2 hSP
  generalize nipE = x at h2 hpe hde hSX
  generalize Ex.plain 1 = y at h5 hy1 hSY
  have hts : (ts.toList == ts.toList) = true := beq_self_eq_true _
  have HS := Lib.hid hS
  have HSP := Lib.hid hSP
  have H1 := Lib.hid h1
  have HPR := Lib.hid hpr
  have H2 := Lib.hid h2
  have HPE := Lib.hid hpe
  have HDE := Lib.hid hde
  have HSX := Lib.hid hSX
  have H3 := Lib.hid h3
  have R4 := Lib.hid r4
  have H4 := Lib.hid h4
  have R5 := Lib.hid r5
  have R6 := Lib.hid r6
  have H5 := Lib.hid h5
  have HSY := Lib.hid hSY
  have R7 := Lib.hid r7
  have H6 := Lib.hid h6
  have HT := Lib.hid hT
  have HAT : Aside (t5.size = 64 ∧ t6.size = 64) := ⟨z5, z6⟩
  have g1 : t5.size + aTrue.size ≤ 9223372036854775807 := by rw [z5]; decide
  have g2 : (t5 ++ aTrue).size + t6.size ≤ 9223372036854775807 := by rw [ByteArray.size_append, z5, z6]; decide
  have g3 : aHead.size + t7.size ≤ 9223372036854775807 := by rw [z7]; decide
  clear hS hSP h1 hpr h2 hpe hde hSX h3 r4 h4 r5 r6 h5 hSY r7 h6 hT
  go_enter Tryz.func3, Tryz.ntmps3
  go_upto_region 9 with (first
    | (go_at_call 6; (with_reducible refine (HL.out _).mono ?_); rintro e wa ⟨rfl, hb⟩; have K0 := Lib.hid hb; clear hb)
    | (go_at_call 8; (with_reducible refine (HS.out _).mono ?_); rintro e ws ⟨rfl, rfl⟩)
    | (go_at_call 7; (with_reducible refine (H1.out _).mono ?_); rintro e w1 ⟨R1, rfl, hr, hb⟩; obtain ⟨A1, c1, rfl, hR⟩ := rulesL_of HSP.out hr; have K1 : Hid (BkP w (w1.alloc (poO9 p A1 c1)) w1.heap.size p A1 c1 ws.heap.size) := Lib.hid ⟨up9b (up9b K0.out hb) (lbox w1 _), HT.out.up (up9b (up9b K0.out hb) (lbox w1 _)), World.alloc_heap_new w1 _, rules_below hr (lbox w1 _), hR.below (lbox w1 _)⟩; obtain ⟨k0, k1, k2, k3, k4, k5⟩ := po9_cells K1.out.box; clear hr hb hR K0)
    | (go_at_call 9; (with_reducible refine (HPR.out _ A1 c1 K1.out.tbl K1.out.rl).mono ?_); rintro e w2 ⟨rfl, hb⟩; have K2 := Lib.hid (K1.out.up hb); clear hb K1)
    | (go_at_call 10; (with_reducible refine (H2.out _).mono ?_); rintro e v1 ⟨A2, c2, rfl, hr, hb⟩; have hX := exL_of HSX.out hr; have K3 : Hid (BkP w (v1.alloc (exCells x A2 c2)) w1.heap.size p A1 c1 ws.heap.size ∧ BkE w (v1.alloc (exCells x A2 c2)) v1.heap.size x A2 c2 w2.heap.size) := Lib.hid ⟨(K2.out.up hb).up (lbox v1 _), up9b (up9b K2.out.below hb) (lbox v1 _), K2.out.tbl.up (up9b hb (lbox v1 _)), World.alloc_heap_new v1 _, ex_below hr (lbox v1 _), hX.below (lbox v1 _)⟩; clear hr hb hX K2)
    | (go_at_call 7; (with_reducible refine (H3.out _).mono ?_); rintro e w3 ⟨R3, rfl, hr, hb⟩; obtain ⟨A3, c3, rfl, hR⟩ := rulesL_of sm_zeroPo hr; have K4 := Lib.hid (And.intro ((K3.out.1.up hb).up (lbox w3 (poO9 zeroPo A3 c3))) ((K3.out.2.up hb).up (lbox w3 (poO9 zeroPo A3 c3)))); clear hr hb hR K3)
    | (go_at_call 11; (with_reducible refine (R4.out _).mono ?_); rintro e w4 ⟨rfl, hb⟩; have K5 := Lib.hid (And.intro (K4.out.1.up hb) (K4.out.2.up hb)); clear hb K4)
    | (go_at_call 10; (with_reducible refine (H4.out _).mono ?_); rintro e w5 ⟨A5, c5, rfl, hr, hb⟩; have K6 := Lib.hid (And.intro ((K5.out.1.up hb).up (lbox w5 (exCells .zero A5 c5))) ((K5.out.2.up hb).up (lbox w5 (exCells .zero A5 c5)))); clear hr hb K5)
    | (go_at_call 11; (with_reducible refine (R5.out _).mono ?_); rintro e w6 ⟨rfl, hb⟩; have K7 := Lib.hid (And.intro (K6.out.1.up hb) (K6.out.2.up hb)); clear hb K6)
    | (go_at_call 11; (with_reducible refine (R6.out _).mono ?_); rintro e w7 ⟨rfl, hb⟩; have K8 := Lib.hid (And.intro (K7.out.1.up hb) (K7.out.2.up hb)); clear hb K7)
    | (go_at_call 10; (with_reducible refine (H5.out _).mono ?_); rintro e v2 ⟨A4, c4, rfl, hr, hb⟩; have hX := exL_of HSY.out hr; have K9 : Hid (BkP w (v2.alloc (exCells y A4 c4)) w1.heap.size p A1 c1 ws.heap.size ∧ BkE w (v2.alloc (exCells y A4 c4)) v1.heap.size x A2 c2 w2.heap.size ∧ BkE w (v2.alloc (exCells y A4 c4)) v2.heap.size y A4 c4 w7.heap.size) := Lib.hid ⟨(K8.out.1.up hb).up (lbox v2 _), (K8.out.2.up hb).up (lbox v2 _), up9b (up9b K8.out.1.below hb) (lbox v2 _), K8.out.1.tbl.up (up9b hb (lbox v2 _)), World.alloc_heap_new v2 _, ex_below hr (lbox v2 _), hX.below (lbox v2 _)⟩; clear hr hb hX K8)
    | (go_at_call 11; (with_reducible refine (R7.out _).mono ?_); rintro e w8 ⟨rfl, hb⟩; have K10 := Lib.hid (And.intro (K9.out.1.up hb) (And.intro (K9.out.2.1.up hb) (K9.out.2.2.up hb))); clear hb K9)
    | (go_at_call 7; (with_reducible refine (H6.out _).mono ?_); rintro e w9 ⟨R9, rfl, hr, hb⟩; obtain ⟨A9, c9, rfl, hR⟩ := rulesL_of sm_zeroPo hr; have K11 := Lib.hid (And.intro ((K10.out.1.up hb).up (lbox w9 (poO9 zeroPo A9 c9))) (And.intro ((K10.out.2.1.up hb).up (lbox w9 (poO9 zeroPo A9 c9))) ((K10.out.2.2.up hb).up (lbox w9 (poO9 zeroPo A9 c9))))); clear hr hb hR K10))
  generalize hb1 : w1.heap.size = b1 at K11 ⊢
  generalize hb2 : v1.heap.size = b2 at K11 ⊢
  generalize hb3 : v2.heap.size = b3 at K11 ⊢
  clear hb1 hb2 hb3
  generalize w9.alloc (poO9 zeroPo A9 c9) = Y at K11 ⊢
  obtain ⟨k0, k1, k2, k3, k4, k5⟩ := po9_cells K11.out.1.box
  obtain ⟨m0, m1, m2, m3, m4, m5⟩ := exW_cells K11.out.2.1.box
  go_wp2_with (first
    | (go_at_call 8; (with_reducible refine (HS.out _).mono ?_); rintro e ws ⟨rfl, rfl⟩)
    | (go_at_call 12; (with_reducible refine (HPE.out _ A2 c2 K11.out.2.1.tbl K11.out.2.1.exl).mono ?_); rintro e Y2 ⟨rfl, hb⟩; have K12 := Lib.hid (And.intro (K11.out.2.1.up hb) (K11.out.2.2.up hb)); obtain ⟨m0, m1, m2, m3, m4, m5⟩ := exW_cells K12.out.1.box; clear hb K11)
    | (go_at_call 13; (with_reducible refine (HDE.out _ A2 c2 K12.out.1.exl).mono ?_); rintro e Y3 ⟨rfl, hb⟩; have K13 := Lib.hid (K12.out.2.up hb); obtain ⟨n0, n1, n2, n3, n4, n5⟩ := exW_cells K13.out.box; clear hb K12))
  go_ret
  exact ⟨rfl, K13.out.below⟩

/-! ### The row's step, the statement, and the card -/
theorem door_met (os : Os) (args : Array Value) : laidMetH Tryz.prog [("math/bits.deBruijn32tab", Rows.laid_math_bits_deBruijn32tab), ("math/bits.deBruijn64tab", Rows.laid_math_bits_deBruijn64tab), ("internal/strconv.uint64pow10", Rows.laid_internal_strconv_uint64pow10)] ((World.doorLaid Tryz.prog 400 os).forCall (fun _ _ => 0) ⟨#[], args, []⟩).memory :=
  laidMetH_of_parts3 (fuel := 8) (laidMet_of_run' 8 (by kernel_rfl) (by kernel_rfl)) (by kernel_rfl) (by kernel_rfl)

set_option maxRecDepth 100000 in
theorem lifted (os : Os) (started : os.Started) (H : Type) (enc : TypeId × Value → H) :
    ReturnsInHanded {} Tryz.checked os 3 .any (fun w args => (Rows.policyNamesSpec.pre enc Tryz.prog Tryz.f3 [] false w args ∧ laidMetH Tryz.prog [("math/bits.deBruijn32tab", Rows.laid_math_bits_deBruijn32tab), ("math/bits.deBruijn64tab", Rows.laid_math_bits_deBruijn64tab), ("internal/strconv.uint64pow10", Rows.laid_internal_strconv_uint64pow10)] w) ∧ sizedMet enc Tryz.prog Tryz.f3 (OpenSpec.ofChange Rows.policyNamesSpec) false w args)
      (Rows.policyNamesSpec.post enc Tryz.prog Tryz.f3 false true false false) := by
  refine returnsInHanded_of_change_and (C := Tryz.checked) (X := fun w _ => laidMetH Tryz.prog [("math/bits.deBruijn32tab", Rows.laid_math_bits_deBruijn32tab), ("math/bits.deBruijn64tab", Rows.laid_math_bits_deBruijn64tab), ("internal/strconv.uint64pow10", Rows.laid_internal_strconv_uint64pow10)] w) (fun _ _ _ hh h => h.of_heap hh) own started (by kernel_rfl) Tryz.func3
    (ChangeSpec.witness_shaped (enc := enc) (C := Tryz.checked) (os := os) (X := fun w _ => laidMetH Tryz.prog [("math/bits.deBruijn32tab", Rows.laid_math_bits_deBruijn32tab), ("math/bits.deBruijn64tab", Rows.laid_math_bits_deBruijn64tab), ("internal/strconv.uint64pow10", Rows.laid_internal_strconv_uint64pow10)] w) false (World.doorLaid Tryz.prog 400 os) #[] 8 rfl (World.shaped_of_RefB (by kernel_rfl) (by kernel_rfl)) (by kernel_rfl) (by kernel_rfl) (by kernel_rfl) (door_met os _)) ?_
  intro W base args ds gs before hval0 hW _ _ hL _
  have hval : ∀ (j : Nat) t v, Tryz.f3.params[j]? = some t → args[j]? = some v → Value.okWide Tryz.prog W .any base t v := hval0
  have hW' := hW
  obtain ⟨p, q, hA0, hV, rfl, hfz, hnd⟩ := hW
  have hA : DataW.TrodAll enc Tryz.prog W 0 (fun _ => true) true Tryz.f3.params.toList args.toList ds p := hA0
  rw [Tryz.params3] at hA hval
  obtain ⟨hargs, rfl, rfl⟩ := trodAll_nil hA
  obtain rfl : args = #[] := by cases args; simp_all
  obtain ⟨rfl, rfl⟩ := trodVars_none hV
  clear hA0 hval0
  refine (walk  W  (tab_of_laid hL)).mono fun e W' ⟨he, bel⟩ => ?_
  subst he
  exact ⟨_, rfl, _, _, _, [], _, [], hW', trodAll_mk1 (shut_bool Tryz.underlying4 _), trodAll_mk0, rfl, bel.frame _, fun h => by cases h⟩

theorem over : Rows.policyNamesRow.holds Tryz.pinned (OpenSpec.ofChange Rows.policyNamesSpec) :=
  OpenClaim.holds_of_wide 3 Tryz.f3 rfl rfl rfl rfl rfl rfl rfl ⟨rfl, rfl, rfl, rfl, rfl⟩ rfl rfl rfl rfl rfl (by kernel_rfl) Tryz.func3 (by kernel_rfl)
    (of_decide_eq_true (by kernel_rfl)) (by unfold Func.isWrapper; first | (rw [if_pos (by decide +kernel)]; kernel_rfl) | (rw [if_neg (by decide +kernel)]; exact ⟨rfl, rfl⟩))
    (fun os started H enc _ => lifted os started H enc)

/-- The statement: the row's card, what it lists tied to the program's text. -/
theorem proved : Rows.PolicyNamesCardSaid :=
  Claim7.holds_tied_plain_at .later [] [.data, .data, .data] true Rows.policyNamesCard.stood.harness Rows.policyNamesCard.stood.looks
    over (fun _ h => by cases h) (by kernel_rfl) (fun _ h => by cases h) policyNames_row_tie rfl ⟨rfl, rfl⟩ (by kernel_rfl) rfl
    (fun f fn hf hfn => by
      obtain rfl : f = 3 := Option.some.inj ((show Tryz.prog.funcNamed "ravelin/ravelinlaw06.PolicyNames" = some 3 by kernel_rfl).symm.trans hf) |>.symm
      obtain rfl : fn = Tryz.f3 := (Option.some.inj (Tryz.func3.symm.trans hfn)).symm
      exact ⟨by kernel_rfl, fun j t ht => by
        have hm : t ∈ Tryz.f3.params.toList := by
          have := Array.mem_of_getElem? ht
          simp at this
        have hall : (Tryz.f3.params.toList.all fun u => !Tryz.prog.wantsStandIn u) = true := by kernel_rfl
        exact (show Tryz.prog.wantsStandIn t = false by simpa using List.all_eq_true.1 hall t hm)⟩)
    (by kernel_rfl)
end Go.Proofs.YtgeapkjegemkeaaGreatDoor.policyNames
