/-
  The walk of 'PolicyBack' for texts that are no policy. Conditions: the library's tables as laid.
-/
import Derived.Test.YtgeapkjegemkeaaGreatDoorPolBkP
namespace Go.Proofs.YtgeapkjegemkeaaGreatDoor
open Go Go.RowKit
set_option linter.unusedSimpArgs false
set_option linter.unusedVariables false

set_option maxRecDepth 100000 in
set_option maxHeartbeats 16000000 in
theorem back_bad (s0 : ByteArray) (w : World) (w0 : s0.size ≤ maxLen) (hT : Tbl w) (he : (resPo (policyF s0)).2.1 ≠ 0) :
    Calls Tryz.prog 5 #[.string s0] w fun e w' => e = .returned (.bool true) ∧ Below w.heap.size w w' := by
  have HL := Lib.hid (fun W => lives_is6 W)
  have h1 := fun W => u_po (p_Parse s0 W)
  have hp := sm_resPo s0
  have hgp := good_resPo s0
  have hdp := dp_resPo s0
  have h3 := fun W => u_ex (p_ParseExpr s0 W)
  have hx := sm_resEx s0
  have hgx := good_resEx s0
  have hdx := dp_resEx s0
  generalize resPo (policyF s0) = g at h1 hp hgp hdp he
  generalize resEx (exprF s0) = k at h3 hx hgx hdx
  obtain ⟨p, er, pl⟩ := g
  obtain ⟨x, ex, px⟩ := k
  simp only at h1 h3 hp hx hgp hgx hdp hdx he
  have h5 := fun W => u_ex (p_ParseExpr (strL (exL x)) W)
  have hpe : ex = 0 → ∀ W A cap, Tbl W → ExL W x A cap → Calls Tryz.prog 12 #[exV x A cap] W fun e w' => e = .returned (.string (strL (exL x))) ∧ Below W.heap.size W w' := fun h W A cap hT hx => p_PrintExpr (hgx h).1 (hgx h).2 W A cap hT hx
  have hde : ex = 0 → ∀ W A cap, ExL W x A cap → Calls Tryz.prog 13 #[exV x A cap] W fun e w' => e = .returned (.int .i64 (deepN x : Int)) ∧ Below W.heap.size W w' := fun h W A cap hx => p_Depth _ x (Nat.lt_succ_self _) (hgx h).1 (hgx h).2 W A cap hx
  have hbx : ex = 0 → ((strL (exL x)).size ≤ 65536 → resEx (exprF (strL (exL x))) = (x, 0, 0)) ∧ (¬ (strL (exL x)).size ≤ 65536 → (resEx (exprF (strL (exL x)))).1 = .zero) := fun h => ⟨fun hl => back_resEx (hgx h).1 (hdx h) (by rw [strL_size] at hl; exact hl), fun hl => long_resEx (by omega)⟩
  have hnz : ex = 0 → x.op ≠ Ex.zero.op := fun h => gex_ne (hgx h).1
  generalize strL (exL x) = tx at h5 hpe hbx
  generalize resEx (exprF tx) = k2 at h5 hbx
  obtain ⟨y, ey, py⟩ := k2
  simp only at h5 hbx
  have H1 := Lib.hid h1
  have HSP := Lib.hid hp
  have H3 := Lib.hid h3
  have H5 := Lib.hid h5
  have HSX := Lib.hid hx
  have HPE := Lib.hid hpe
  have HDE := Lib.hid hde
  have HBX := Lib.hid hbx
  have HNZ := Lib.hid hnz
  have HDX := Lib.hid hdx
  have HT := Lib.hid hT
  have qe : (er == 0) = false := beq_false_of_ne he
  clear he
  clear h1 h3 h5 hp hgp hdp hx hgx hdx hpe hde hbx hnz hT
  go_enter Tryz.func5, Tryz.ntmps5
  go_upto_region 10 with (first
    | (go_at_call 6; (with_reducible refine (HL.out _).mono ?_); rintro e wa ⟨rfl, hb⟩; have K0 := Lib.hid hb; clear hb)
    | (go_at_call 7; (with_reducible refine (H1.out _).mono ?_); rintro e w1 ⟨R1, rfl, hr, hb⟩; obtain ⟨A1, c1, rfl, hR⟩ := rulesL_of HSP.out hr; have K1 : Hid (BkP w (w1.alloc (poO9 p A1 c1)) w1.heap.size p A1 c1 wa.heap.size) := Lib.hid ⟨up9b (up9b K0.out hb) (lbox w1 _), HT.out.up (up9b (up9b K0.out hb) (lbox w1 _)), World.alloc_heap_new w1 _, rules_below hr (lbox w1 _), hR.below (lbox w1 _)⟩; clear hr hb hR K0)
    | (go_at_call 10; (with_reducible refine (H3.out _).mono ?_); rintro e v1 ⟨A3, c3, rfl, hr, hb⟩; have hX := exL_of HSX.out hr; have E1 : Hid (BkE w (v1.alloc (exCells x A3 c3)) v1.heap.size x A3 c3 (w1.alloc (poO9 p A1 c1)).heap.size) := Lib.hid ⟨up9b (up9b K1.out.below hb) (lbox v1 _), HT.out.up (up9b (up9b K1.out.below hb) (lbox v1 _)), World.alloc_heap_new v1 _, ex_below hr (lbox v1 _), hX.below (lbox v1 _)⟩; clear hr hb hX K1))
  by_cases hx0 : ex = 0
  · subst hx0
    have hpe := HPE.out rfl
    have hde := HDE.out rfl
    have hbx := HBX.out rfl
    have hnz := HNZ.out rfl
    have hdx : deepN x ≤ 64 := HDX.out rfl
    have HPX := Lib.hid hpe
    have HDP := Lib.hid hde
    clear hpe hde HPE HDE HBX HNZ HDX
    obtain ⟨c0, c1_, c2_, c3_, c4_, c5_⟩ := exW_cells E1.out.box
    by_cases hl2 : tx.size ≤ 65536
    · have hy := hbx.1 hl2
      obtain ⟨rfl, rfl⟩ : y = x ∧ ey = 0 := ⟨congrArg (fun z => z.1) hy, congrArg (fun z => z.2.1) hy⟩
      clear hy hbx hnz
      have HSE := Lib.hid (fun (W : World) (A : Option Addr) (c : Nat) (A' : Option Addr) (c' : Nat) (F F' : Nat → Prop) h h' => ref_SameExpr (A := A) (cap := c) (A' := A') (cap' := c') (F := F) (F' := F') (W := W) HSX.out h h')
      go_upto_region 15 with (first
        | (go_at_call 12; (with_reducible refine (HPX.out _ A3 c3 E1.out.tbl E1.out.exl).mono ?_); rintro e v2 ⟨rfl, hb⟩; have E2 := Lib.hid (E1.out.up hb); clear hb E1)
        | (go_at_call 10; (with_reducible refine (H5.out _).mono ?_); rintro e v3 ⟨A4, c4, rfl, hr, hb⟩; have hX := exL_of HSX.out hr; have E3 : Hid (BkE w (v3.alloc (exCells y A4 c4)) v1.heap.size y A3 c3 (w1.alloc (poO9 p A1 c1)).heap.size ∧ BkE w (v3.alloc (exCells y A4 c4)) v3.heap.size y A4 c4 v2.heap.size) := Lib.hid ⟨(E2.out.up hb).up (lbox v3 _), up9b (up9b E2.out.below hb) (lbox v3 _), E2.out.tbl.up (up9b hb (lbox v3 _)), World.alloc_heap_new v3 _, ex_below hr (lbox v3 _), hX.below (lbox v3 _)⟩; obtain ⟨d0, d1, d2, d3, d4, d5⟩ := exW_cells E3.out.1.box; obtain ⟨e0, e1, e2, e3, e4, e5⟩ := exW_cells E3.out.2.box; clear hr hb hX E2)
        | (go_at_call 20; (with_reducible refine (HSE.out _ _ _ _ _ _ _ E3.out.1.ein E3.out.2.ein).mono ?_); rintro e v4 ⟨rfl, hb⟩; have E4 := Lib.hid (And.intro (E3.out.1.up hb) (E3.out.2.up hb)); obtain ⟨d0, d1, d2, d3, d4, d5⟩ := exW_cells E4.out.1.box; obtain ⟨e0, e1, e2, e3, e4, e5⟩ := exW_cells E4.out.2.box; clear hb E3)
        | (go_at_call 13; (with_reducible refine (HDP.out _ A3 c3 E4.out.1.exl).mono ?_); rintro e v5 ⟨rfl, hb⟩; have E5 := Lib.hid (And.intro (E4.out.1.up hb) (E4.out.2.up hb)); clear hb E4))
      obtain ⟨d, hdd⟩ : ∃ d : Int, (deepN y : Int) = d := ⟨_, rfl⟩
      rw [hdd]
      have hd0 : ¬ d < 0 := by omega
      have hd1 : ¬ 64 < d := by omega
      clear hdd
      have hsz : (tx.size : Int) ≤ 65536 := by omega
      have hself : (tx.toList == tx.toList) = true := beq_self_eq_true _
      obtain ⟨f0, f1, f2, f3, f4, f5⟩ := exW_cells E5.out.2.box
      go_wp2_with (go_at_call 12; (with_reducible refine (HPX.out _ A4 c4 E5.out.2.tbl E5.out.2.exl).mono ?_); rintro e v6 ⟨rfl, hb⟩; have E6 := Lib.hid (E5.out.1.up hb); clear hb E5)
      go_ret
      exact ⟨rfl, E6.out.below⟩
    · have hy : y = .zero := hbx.2 hl2
      subst hy
      clear hbx
      go_upto_region 15 with (first
        | (go_at_call 12; (with_reducible refine (HPX.out _ A3 c3 E1.out.tbl E1.out.exl).mono ?_); rintro e v2 ⟨rfl, hb⟩; have E2 := Lib.hid (E1.out.up hb); clear hb E1)
        | (go_at_call 10; (with_reducible refine (H5.out _).mono ?_); rintro e v3 ⟨A4, c4, rfl, hr, hb⟩; have hX := exL_of sm_zero hr; have E3 : Hid (BkE w (v3.alloc (exCells .zero A4 c4)) v1.heap.size x A3 c3 (w1.alloc (poO9 p A1 c1)).heap.size ∧ BkE w (v3.alloc (exCells .zero A4 c4)) v3.heap.size .zero A4 c4 v2.heap.size) := Lib.hid ⟨(E2.out.up hb).up (lbox v3 _), up9b (up9b E2.out.below hb) (lbox v3 _), E2.out.tbl.up (up9b hb (lbox v3 _)), World.alloc_heap_new v3 _, ex_below hr (lbox v3 _), hX.below (lbox v3 _)⟩; obtain ⟨d0, d1, d2, d3, d4, d5⟩ := exW_cells E3.out.1.box; obtain ⟨e0, e1, e2, e3, e4, e5⟩ := exW_cells E3.out.2.box; clear hr hb hX E2)
        | (go_at_call 20; (with_reducible refine (ref_SameE0 (o := x.op) (o' := Ex.zero.op) hnz _ _ _ _ _ _ _ _ _ _ _).mono ?_); rintro e v4 ⟨rfl, hb⟩; have E4 := Lib.hid (And.intro (E3.out.1.up hb) (E3.out.2.up hb)); obtain ⟨d0, d1, d2, d3, d4, d5⟩ := exW_cells E4.out.1.box; obtain ⟨e0, e1, e2, e3, e4, e5⟩ := exW_cells E4.out.2.box; clear hb E3)
        | (go_at_call 13; (with_reducible refine (HDP.out _ A3 c3 E4.out.1.exl).mono ?_); rintro e v5 ⟨rfl, hb⟩; have E5 := Lib.hid (And.intro (E4.out.1.up hb) (E4.out.2.up hb)); clear hb E4))
      obtain ⟨d, hdd⟩ : ∃ d : Int, (deepN x : Int) = d := ⟨_, rfl⟩
      rw [hdd]
      have hd0 : ¬ d < 0 := by omega
      have hd1 : ¬ 64 < d := by omega
      clear hdd
      have hsz : ¬ (tx.size : Int) ≤ 65536 := by omega
      go_wp2
      go_ret
      exact ⟨rfl, E5.out.1.below⟩
  · have qx : (ex == 0) = false := beq_false_of_ne hx0
    clear hx0
    go_wp2
    go_ret
    exact ⟨rfl, E1.out.below⟩
end Go.Proofs.YtgeapkjegemkeaaGreatDoor
