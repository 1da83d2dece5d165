/-
  'SecdataOne': for all data, every place of an argument and every number, the law of layer 2 on another argument returns true, and leaves memory as it was. Condition: the table of the kinds reads as the program's text lays it (the card ties it).
-/
import Derived.Test.YtdmjbiaigjifaaaDoorSecHead
import Derived.Test.YtdmjbiaigjifaaaDoorSecFacts
import Derived.Test.YtdmjbiaigjifaaaDoorDataArg
import Derived.Test.YtdmjbiaigjifaaaDoorCards
import Derived.SevenTiedAt
namespace Go.Proofs.YtdmjbiaigjifaaaDoor.secdataOne
open Go Go.ChangeShapes Go.WideShapes Go.ChangeAt Go.RowKit
set_option linter.unusedSimpArgs false
set_option linter.unusedVariables false

theorem bytes64_made {w w' : World} {v : Value} {z : Nat → Int} (hz : ∀ i, 0 ≤ z i ∧ z i < 256) (h : Made w w' v 64 (fun k => .int .u8 (z k))) :
    ∃ g cap, v = .slice (some ⟨g, 0, none⟩) 64 cap ∧ Bytes64 w' g 0 z ∧ Below w.heap.size w w' ∧ w.heap.size ≤ g := by
  obtain ⟨g, cap, F, rfl, hr, hc, hm, hF, hb, hg⟩ := h
  exact ⟨g, cap, rfl, ⟨hr.lt, hz, fun i hi => by rw [Nat.zero_add, hr.cell (by omega), hF i hi]⟩, hb, hg⟩

set_option maxHeartbeats 400000 in
theorem walk_out (nr arch ip : Int) (a : Nat → Int) (i v : Int) (w : World) (hi : ¬ (0 ≤ i ∧ i ≤ 5)) (hT : Tab w) :
    Calls Tryd.prog 9 #[.agg #[.int .u32 nr, .int .u32 arch, .int .u64 ip, .int .u64 (a 0), .int .u64 (a 1), .int .u64 (a 2), .int .u64 (a 3), .int .u64 (a 4), .int .u64 (a 5)], .int .i64 i, .int .u64 v] w fun e w' => e = .returned (.bool true) ∧ Below w.heap.size w w' := by
  have hT' := hT.below (below_box w (.cells #[.int .u32 nr, .int .u32 arch, .int .u64 ip, .int .u64 (a 0), .int .u64 (a 1), .int .u64 (a 2), .int .u64 (a 3), .int .u64 (a 4), .int .u64 (a 5)] 26)) hT.1
  have HT := Lib.hid hT'
  clear hT hT'
  rcases Int.lt_or_le i 0 with h | h
  · clear hi
    go_enter Tryd.func9, Tryd.ntmps9
    go_wp2_with (go_at_call 10; (with_reducible refine (head_true _ HT.out).mono ?_); rintro e w' ⟨rfl, hbel⟩; have HB0 := Lib.hid ((below_box w _).trans (hbel.mono (below_box w _).size)); clear hbel)
    go_ret
    exact ⟨rfl, HB0.out⟩
  · have h5 : 5 < i := by omega
    clear hi
    go_enter Tryd.func9, Tryd.ntmps9
    go_wp2_with (go_at_call 10; (with_reducible refine (head_true _ HT.out).mono ?_); rintro e w' ⟨rfl, hbel⟩; have HB0 := Lib.hid ((below_box w _).trans (hbel.mono (below_box w _).size)); clear hbel)
    go_ret
    exact ⟨rfl, HB0.out⟩

/-- Behind the live question: the data's cells. -/
theorem after_head {w w' : World} {nr arch ip : Int} {a : Nat → Int} {t : TypeId}
    (hb : Below (w.alloc (.cells #[.int .u32 nr, .int .u32 arch, .int .u64 ip, .int .u64 (a 0), .int .u64 (a 1), .int .u64 (a 2), .int .u64 (a 3), .int .u64 (a 4), .int .u64 (a 5)] t)).heap.size (w.alloc (.cells #[.int .u32 nr, .int .u32 arch, .int .u64 ip, .int .u64 (a 0), .int .u64 (a 1), .int .u64 (a 2), .int .u64 (a 3), .int .u64 (a 4), .int .u64 (a 5)] t)) w') :
    Box w' w.heap.size nr arch ip a ∧ Below w.heap.size w w' ∧ w.heap.size < w'.heap.size :=
  ⟨(Box.new w t nr arch ip a).below hb (by simp), (below_box w _).trans (hb.mono (by simp)), by have := hb.size; simp at this; omega⟩

/-- The arguments with another one at place k. -/
def setA (a : Nat → Int) (k : Nat) (v : Int) : Nat → Int := fun i => if i = k then v else a i
theorem dval_arg (nr arch ip : Int) (a : Nat → Int) (k : Nat) : dval nr arch ip a (3 + k) = .int .u64 (a k) := by rw [Nat.add_comm]; rfl
/-- The copy: its row, and that row with the other argument. -/
theorem copy_row (w : World) (t : TypeId) (nr arch ip : Int) (a : Nat → Int) :
    (w.alloc (.cells #[.int .u32 nr, .int .u32 arch, .int .u64 ip, .int .u64 (a 0), .int .u64 (a 1), .int .u64 (a 2), .int .u64 (a 3), .int .u64 (a 4), .int .u64 (a 5)] t)).rowIs w.heap.size t 9 (dval nr arch ip a) :=
  cells9 w t _ _ _ _ _ _ _ _ _ (dval nr arch ip a) rfl rfl rfl rfl rfl rfl rfl rfl rfl
theorem box_of_row {w : World} {b : Nat} {t : TypeId} {nr arch ip : Int} {a : Nat → Int} (h : w.rowIs b t 9 (dval nr arch ip a)) : Box w b nr arch ip a :=
  ⟨h.lt, h.cell (by decide), h.cell (by decide), h.cell (by decide), fun i hi => (h.cell (by omega)).trans (by rw [dval_arg])⟩
theorem box_set (w : World) (t : TypeId) (nr arch ip v : Int) (a : Nat → Int) (k : Nat) (hk : k < 6) :
    Box (w.alloc (.cells ([.int .u32 nr, .int .u32 arch, .int .u64 ip, .int .u64 (a 0), .int .u64 (a 1), .int .u64 (a 2), .int .u64 (a 3), .int .u64 (a 4), .int .u64 (a 5)].set (3 + k) (.int .u64 v)).toArray t)) w.heap.size nr arch ip (setA a k v) := by
  have hr : (w.alloc (.cells ([.int .u32 nr, .int .u32 arch, .int .u64 ip, .int .u64 (a 0), .int .u64 (a 1), .int .u64 (a 2), .int .u64 (a 3), .int .u64 (a 4), .int .u64 (a 5)].set (3 + k) (.int .u64 v)).toArray t)).rowIs w.heap.size t 9 (dval nr arch ip (setA a k v)) := by
    have := World.rowIs_alloc w ([.int .u32 nr, .int .u32 arch, .int .u64 ip, .int .u64 (a 0), .int .u64 (a 1), .int .u64 (a 2), .int .u64 (a 3), .int .u64 (a 4), .int .u64 (a 5)].set (3 + k) (.int .u64 v)).toArray t (dval nr arch ip (setA a k v)) (fun i hi => by
      rw [List.getElem?_toArray, List.getElem?_set]
      match i, hi with
      | 0, _ => rw [if_neg (by omega)]; rfl
      | 1, _ => rw [if_neg (by omega)]; rfl
      | 2, _ => rw [if_neg (by omega)]; rfl
      | j + 3, hi =>
        have hj : j < 6 := by simp at hi; omega
        by_cases e : j = k
        · subst e; rw [if_pos (by omega), if_pos (by simp; omega)]; show _ = some (Value.int .u64 (setA a j v j)); rw [setA, if_pos rfl]
        · rw [if_neg (by omega)]
          have hg : some (Value.int .u64 (a j)) = some (dval nr arch ip (setA a k v) (j + 3)) := by show _ = some (Value.int .u64 (setA a k v j)); rw [setA, if_neg e]
          rw [← hg]
          match j, hj with
          | 0, _ => rfl
          | 1, _ => rfl
          | 2, _ => rfl
          | 3, _ => rfl
          | 4, _ => rfl
          | 5, _ => rfl)
    simpa using this
  exact box_of_row hr

/-- What the loop knows: two rows of bytes. -/
def St (w W : World) (g1 g2 : Nat) (nr arch ip : Int) (a : Nat → Int) (k : Nat) (v : Int) : Prop :=
  Bytes64 W g1 0 (dbyte nr arch ip a) ∧ Bytes64 W g2 0 (dbyte nr arch ip (setA a k v)) ∧ Below w.heap.size w W

set_option maxHeartbeats 1000000 in
theorem walk_in (nr arch ip : Int) (a : Nat → Int) (k : Nat) (v : Int) (w : World) (hk : k < 6) (hD : DataOK nr arch ip a) (hv : 0 ≤ v ∧ v < 18446744073709551616) (hT : Tab w) :
    Calls Tryd.prog 9 #[.agg #[.int .u32 nr, .int .u32 arch, .int .u64 ip, .int .u64 (a 0), .int .u64 (a 1), .int .u64 (a 2), .int .u64 (a 3), .int .u64 (a 4), .int .u64 (a 5)], .int .i64 (k : Int), .int .u64 v] w fun e w' => e = .returned (.bool true) ∧ Below w.heap.size w w' := by
  have hT' := hT.below (below_box w (.cells #[.int .u32 nr, .int .u32 arch, .int .u64 ip, .int .u64 (a 0), .int .u64 (a 1), .int .u64 (a 2), .int .u64 (a 3), .int .u64 (a 4), .int .u64 (a 5)] 26)) hT.1
  have HT := Lib.hid hT'
  have HD := Lib.hid hD
  have HV := Lib.hid hv
  have hA' : ∀ i, 0 ≤ setA a k v i ∧ setA a k v i < 18446744073709551616 := fun i => by
    unfold setA; split
    · exact hv
    · exact hD.2.2.2 i
  have HA' := Lib.hid hA'
  have HB1 := Lib.hid (fun w => secdata_Bytes nr arch ip a hD.1 hD.2.1 hD.2.2.1 hD.2.2.2 w)
  have HB2 := Lib.hid (fun w => secdata_Bytes nr arch ip (setA a k v) hD.1 hD.2.1 hD.2.2.1 hA' w)
  have HG1 : Hid (∀ w, Calls Tryd.prog 17 #[.int .i64 (k : Int), .bool false] w fun e w' => e = .returned (.tuple #[.int .i64 (16 + (k : Int) * 8), .int .i64 0]) ∧ w = w') := Lib.hid fun w => by
    have g := secdata_Arg (k : Int) false w
    have hc : 0 ≤ (k : Int) ∧ (k : Int) ≤ 5 := by omega
    rw [argA, argE, if_pos hc, if_pos hc] at g
    simpa using g
  have HG2 : Hid (∀ w, Calls Tryd.prog 17 #[.int .i64 (k : Int), .bool true] w fun e w' => e = .returned (.tuple #[.int .i64 (16 + (k : Int) * 8 + 4), .int .i64 0]) ∧ w = w') := Lib.hid fun w => by
    have g := secdata_Arg (k : Int) true w
    have hc : 0 ≤ (k : Int) ∧ (k : Int) ≤ 5 := by omega
    rw [argA, argE, if_pos hc, if_pos hc] at g
    simpa using g
  have hk5 : ¬ 5 < k := by omega
  have hk6 : (k : Int) < 6 := by omega
  clear hT hT' hD hA' hv
  go_enter Tryd.func9, Tryd.ntmps9
  go_wp2_with (first
    | (go_at_call 10; (with_reducible refine (head_true _ HT.out).mono ?_); rintro e w' ⟨rfl, hbel⟩; obtain ⟨hbox, hb0, hs0⟩ := after_head hbel; obtain ⟨_, c0, c1, c2, ca⟩ := hbox; have a0 := ca 0 (by decide); have a1 := ca 1 (by decide); have a2 := ca 2 (by decide); have a3 := ca 3 (by decide); have a4 := ca 4 (by decide); have a5 := ca 5 (by decide); have HB0 := Lib.hid hb0;
        have hrow := copy_row w' 26 nr arch ip a; have cx := (hrow.cell (i := 3 + k) (by omega)).trans (congrArg some (dval_arg nr arch ip a k)); have fx := hrow.frozen (3 + k); have HBX := Lib.hid (box_set w' 26 nr arch ip v a k hk); have HBC := Lib.hid (hb0.alloc hb0.size (.cells ([.int .u32 nr, .int .u32 arch, .int .u64 ip, .int .u64 (a 0), .int .u64 (a 1), .int .u64 (a 2), .int .u64 (a 3), .int .u64 (a 4), .int .u64 (a 5)].set (3 + k) (.int .u64 v)).toArray 26)); clear hbel hb0 ca hrow)
    | (go_at_call 11; (with_reducible refine (HB1.out _).mono ?_); rintro e w3 ⟨va, rfl, hm1⟩; obtain ⟨g1, cap1, rfl, hz1, hb1, hg1⟩ := bytes64_made (dbyte_bd nr arch ip a) hm1; have HZ1 := Lib.hid hz1; have hx := HBX.out.below hb1 HBX.out.1; obtain ⟨_, d0, d1, d2, da⟩ := hx; have b0 := da 0 (by decide); have b1 := da 1 (by decide); have b2 := da 2 (by decide); have b3 := da 3 (by decide); have b4 := da 4 (by decide); have b5 := da 5 (by decide); have HC3 := Lib.hid (HBC.out.trans (hb1.mono HBC.out.size)); clear c0 c1 c2 a0 a1 a2 a3 a4 a5 cx fx hm1 hz1 hb1 hg1 da HBX HBC HB0 HB1)
    | (go_at_call 11; (with_reducible refine (HB2.out _).mono ?_); rintro e wb ⟨vb, rfl, hm2⟩; obtain ⟨g2, cap2, rfl, hz2, hb2, hg2⟩ := bytes64_made (dbyte_bd nr arch ip (setA a k v)) hm2; have HS := Lib.hid (⟨HZ1.out.below hb2 HZ1.out.1, hz2, HC3.out.trans (hb2.mono HC3.out.size)⟩ : St w wb g1 g2 nr arch ip a k v); clear d0 d1 d2 b0 b1 b2 b3 b4 b5 hm2 hz2 hb2 hg2 HZ1 HC3 HB2)
    | (go_at_call 17; (with_reducible refine (HG1.out _).mono ?_); rintro e w5 ⟨rfl, rfl⟩)
    | (go_at_call 17; (with_reducible refine (HG2.out _).mono ?_); rintro e w6 ⟨rfl, rfl⟩))
  have q1 : IntKind.u32.wrap v = v % 4294967296 := by rw [IntKind.wrap_u32]
  have q2 : IntKind.u32.wrap (v / 4294967296) = v / 4294967296 % 4294967296 := by rw [IntKind.wrap_u32]
  go_loopw [15] (fun i wr => ∃ p : Nat, p ≤ 64 ∧ p % 4 = 0 ∧ i = .int .i64 (p : Int) ∧ St w wr g1 g2 nr arch ip a k v) (fun i _ => 64 - (intOf i).toNat)
  case atStart => exact ⟨0, by omega, rfl, rfl, HS.out⟩
  case round =>
    obtain ⟨p, hp, hp4, rfl, hst⟩ := hrel
    have HX := Lib.hid hst
    have H4 := Lib.hid hp4
    have Z1 := Lib.hid hst.1
    have Z2 := Lib.hid hst.2.1
    clear hst hp4 HS
    by_cases hlt : p < 64
    · have hlt' : (p : Int) < 64 := by omega
      have W1 := Lib.hid (secdata_Word g1 0 cap1 (dbyte nr arch ip a) p (by have := H4.out; omega) H4.out _ Z1.out)
      have W2 := Lib.hid (secdata_Word g2 0 cap2 (dbyte nr arch ip (setA a k v)) p (by have := H4.out; omega) H4.out _ Z2.out)
      by_cases hl : p = 16 + k * 8
      · have t1 : ((p : Int) == 16 + (k : Int) * 8) = true := by rw [beq_iff_eq]; omega
        have t2 : ((p : Int) == 16 + (k : Int) * 8 + 4) = false := by rw [beq_eq_false_iff_ne]; omega
        have r2 : w4 (dbyte nr arch ip (setA a k v)) p = v % 4294967296 := by rw [hl, w4_low, setA, if_pos rfl]
        clear hl
        go_wp2_with (first
          | (go_at_call 15; (with_reducible refine W1.out.mono ?_); rintro e w7 ⟨rfl, rfl⟩)
          | (go_at_call 15; (with_reducible refine W2.out.mono ?_); rintro e w8 ⟨rfl, rfl⟩))
        exact ⟨⟨p + 4, by have := H4.out; omega, by have := H4.out; omega, by go_num, HX.out⟩, by simp [intOf]; omega⟩
      · by_cases hh : p = 16 + k * 8 + 4
        · have t1 : ((p : Int) == 16 + (k : Int) * 8) = false := by rw [beq_eq_false_iff_ne]; omega
          have t2 : ((p : Int) == 16 + (k : Int) * 8 + 4) = true := by rw [beq_iff_eq]; omega
          have r2 : w4 (dbyte nr arch ip (setA a k v)) p = v / 4294967296 % 4294967296 := by rw [hh, w4_high, setA, if_pos rfl]
          clear hl hh
          go_wp2_with (first
            | (go_at_call 15; (with_reducible refine W1.out.mono ?_); rintro e w7 ⟨rfl, rfl⟩)
            | (go_at_call 15; (with_reducible refine W2.out.mono ?_); rintro e w8 ⟨rfl, rfl⟩))
          exact ⟨⟨p + 4, by have := H4.out; omega, by have := H4.out; omega, by go_num, HX.out⟩, by simp [intOf]; omega⟩
        · have t1 : ((p : Int) == 16 + (k : Int) * 8) = false := by rw [beq_eq_false_iff_ne]; omega
          have t2 : ((p : Int) == 16 + (k : Int) * 8 + 4) = false := by rw [beq_eq_false_iff_ne]; omega
          have r2 : w4 (dbyte nr arch ip (setA a k v)) p = w4 (dbyte nr arch ip a) p := w4_other nr arch ip a k v p H4.out hl hh
          clear hl hh
          go_wp2_with (first
            | (go_at_call 15; (with_reducible refine W1.out.mono ?_); rintro e w7 ⟨rfl, rfl⟩)
            | (go_at_call 15; (with_reducible refine W2.out.mono ?_); rintro e w8 ⟨rfl, rfl⟩))
          exact ⟨⟨p + 4, by have := H4.out; omega, by have := H4.out; omega, by go_num, HX.out⟩, by simp [intOf]; omega⟩
    · go_wp2
      go_ret
      exact ⟨rfl, HX.out.2.2⟩

theorem walk (nr arch ip : Int) (a : Nat → Int) (i v : Int) (w : World) (hD : DataOK nr arch ip a) (hi : (Lit.int .i64 i).wf = true) (hv : (Lit.int .u64 v).wf = true) (hT : Tab w) :
    Calls Tryd.prog 9 #[.agg #[.int .u32 nr, .int .u32 arch, .int .u64 ip, .int .u64 (a 0), .int .u64 (a 1), .int .u64 (a 2), .int .u64 (a 3), .int .u64 (a 4), .int .u64 (a 5)], .int .i64 i, .int .u64 v] w fun e w' => e = .returned (.bool true) ∧ Below w.heap.size w w' := by
  by_cases h : 0 ≤ i ∧ i ≤ 5
  · obtain ⟨k, rfl⟩ := Int.eq_ofNat_of_zero_le h.1
    exact walk_in nr arch ip a k v w (by omega) hD (u64_of hv) hT
  · exact walk_out nr arch ip a i v w h hT

/-! ### The row's step, the statement, and the card -/
theorem door_met (os : Os) (args : Array Value) : laidMetH Tryd.prog [("ravelin/secdata.rows", Rows.laid_ravelin_secdata_rows)] ((World.doorLaid Tryd.prog 400 os).forCall (fun _ _ => 0) ⟨#[], args, []⟩).memory :=
  laidMetH_of_parts3 (fuel := 8) (laidMet_of_run' 8 (by kernel_rfl) (by kernel_rfl)) (by kernel_rfl) (by kernel_rfl)

set_option maxRecDepth 100000 in
theorem lifted (os : Os) (started : os.Started) (H : Type) (enc : TypeId × Value → H) :
    ReturnsInHanded {} Tryd.checked os 9 .any (fun w args => (Rows.secdataOneSpec.pre enc Tryd.prog Tryd.f9 [] false w args ∧ laidMetH Tryd.prog [("ravelin/secdata.rows", Rows.laid_ravelin_secdata_rows)] w) ∧ sizedMet enc Tryd.prog Tryd.f9 (OpenSpec.ofChange Rows.secdataOneSpec) false w args)
      (Rows.secdataOneSpec.post enc Tryd.prog Tryd.f9 false true false false) := by
  refine returnsInHanded_of_change_and (C := Tryd.checked) (X := fun w _ => laidMetH Tryd.prog [("ravelin/secdata.rows", Rows.laid_ravelin_secdata_rows)] w) (fun _ _ _ hh h => h.of_heap hh) own started (by kernel_rfl) Tryd.func9
    (ChangeSpec.witness_shaped (enc := enc) (C := Tryd.checked) (os := os) (X := fun w _ => laidMetH Tryd.prog [("ravelin/secdata.rows", Rows.laid_ravelin_secdata_rows)] w) false (World.doorLaid Tryd.prog 400 os) #[.agg #[.int .u32 0, .int .u32 0, .int .u64 0, .int .u64 0, .int .u64 0, .int .u64 0, .int .u64 0, .int .u64 0, .int .u64 0], .int .i64 0, .int .u64 0] 8 rfl (World.shaped_of_RefB (by kernel_rfl) (by kernel_rfl)) (by kernel_rfl) (by kernel_rfl) (by kernel_rfl) (door_met os _)) ?_
  intro W base args ds gs before hval0 hW _ _ hL _
  have hval : ∀ (j : Nat) t v, Tryd.f9.params[j]? = some t → args[j]? = some v → Value.okWide Tryd.prog W .any base t v := hval0
  have hW' := hW
  obtain ⟨p, q, hA0, hV, rfl, hfz, hnd⟩ := hW
  have hA : DataW.TrodAll enc Tryd.prog W 0 (fun _ => true) true Tryd.f9.params.toList args.toList ds p := hA0
  rw [Tryd.params9] at hA hval
  obtain ⟨v0, vs0, d0, ds0, p0, q0, hargs, rfl, rfl, h0, r0⟩ := trodAll_cons hA
  obtain ⟨v1, vs1, d1, ds1, p1, q1, rfl, rfl, rfl, h1, r1⟩ := trodAll_cons r0
  obtain ⟨v2, vs2, d2, ds2, p2, q2, rfl, rfl, rfl, h2, r2⟩ := trodAll_cons r1
  obtain ⟨rfl, rfl, rfl⟩ := trodAll_nil r2
  obtain rfl : args = #[v0, v1, v2] := by cases args; simp_all
  obtain ⟨rfl, rfl⟩ := trodVars_none hV
  have k0 := h0
  have lt0 : ∀ x ∈ p0, x.block < W.heap.size := by obtain ⟨m, hm⟩ := k0; exact DataW.trod_lt m _ _ _ hm
  obtain ⟨n0, c0, i0, z0, rfl, w0⟩ := open_data (hval 0 26 v0 rfl rfl) h0
  obtain ⟨a1, rfl, rfl, rfl, w1⟩ := open_int Tryd.underlying3 (hval 1 3 v1 rfl rfl) h1
  obtain ⟨a2, rfl, rfl, rfl, w2⟩ := open_int Tryd.underlying23 (hval 2 23 v2 rfl rfl) h2
  clear hA0 hval0
  refine (walk n0 c0 i0 z0 a1 a2 W w0 w1 w2 (tab_of_laid hL)).mono fun e W' ⟨he, bel⟩ => ?_
  subst he
  exact ⟨_, rfl, _, _, _, [], _, [], hW', trodAll_mk1 (shut_bool Tryd.underlying4 _), (trodAll_cons_mk (Below.trod laidOut (by kernel_rfl) (of_decide_eq_true (by kernel_rfl)) k0 bel lt0) (trodAll_cons_mk (shut_int Tryd.underlying3 w1) (trodAll_cons_mk (shut_int Tryd.underlying23 w2) trodAll_mk0))), rfl, bel.frame _, fun h => by cases h⟩

theorem over : Rows.secdataOneRow.holds Tryd.pinned (OpenSpec.ofChange Rows.secdataOneSpec) :=
  OpenClaim.holds_of_wide 9 Tryd.f9 rfl rfl rfl rfl rfl rfl rfl ⟨rfl, rfl, rfl, rfl, rfl⟩ rfl rfl rfl rfl rfl (by kernel_rfl) Tryd.func9 (by kernel_rfl)
    (of_decide_eq_true (by kernel_rfl)) (by unfold Func.isWrapper; first | (rw [if_pos (by decide +kernel)]; kernel_rfl) | (rw [if_neg (by decide +kernel)]; exact ⟨rfl, rfl⟩))
    (fun os started H enc _ => lifted os started H enc)

/-- The statement: the row's card, what it lists tied to the program's text. -/
theorem proved : Rows.SecdataOneCardSaid :=
  Claim7.holds_tied_plain_at .later [] [.data] true Rows.secdataOneCard.stood.harness Rows.secdataOneCard.stood.looks
    over (fun _ h => by cases h) (by kernel_rfl) (fun _ h => by cases h) secdataOne_row_tie rfl ⟨rfl, rfl⟩ (by kernel_rfl) rfl
    (fun f fn hf hfn => by
      obtain rfl : f = 9 := Option.some.inj ((show Tryd.prog.funcNamed "ravelin/ravelinlaw02.SecdataOne" = some 9 by kernel_rfl).symm.trans hf) |>.symm
      obtain rfl : fn = Tryd.f9 := (Option.some.inj (Tryd.func9.symm.trans hfn)).symm
      exact ⟨by kernel_rfl, fun j t ht => by
        have hm : t ∈ Tryd.f9.params.toList := by
          have := Array.mem_of_getElem? ht
          simpa using this
        have hall : (Tryd.f9.params.toList.all fun u => !Tryd.prog.wantsStandIn u) = true := by kernel_rfl
        exact (show Tryd.prog.wantsStandIn t = false by simpa using List.all_eq_true.1 hall t hm)⟩)
    (by kernel_rfl)
end Go.Proofs.YtdmjbiaigjifaaaDoor.secdataOne
