/-
  'WordStored': for every list of bytes and every place, the law of layer 1 on Load of what Store stored returns true, and leaves memory as it was. No condition.
-/
import Derived.Test.YtchddecnglcemaaWordStore
namespace Go.Proofs.Ytchddecnglcemaa.wordStored
open Go Go.ChangeShapes Go.WideShapes Go.ChangeAt Go.RowKit
set_option linter.unusedSimpArgs false
set_option linter.unusedVariables false

theorem start (e0 e1 e2 : Int) (w w' : World) (hbel : Below (w.alloc (.cells #[.int .i64 e0, .int .i64 e1, .int .u64 e2] 41)).heap.size (w.alloc (.cells #[.int .i64 e0, .int .i64 e1, .int .u64 e2] 41)) w') :
    w'.cell? ⟨w.heap.size, 0, none⟩ = some (.int .i64 e0) ∧ w'.cell? ⟨w.heap.size, 1, none⟩ = some (.int .i64 e1) ∧ w'.cell? ⟨w.heap.size, 2, none⟩ = some (.int .u64 e2) ∧ Below w.heap.size w w' ∧ w.heap.size < w'.heap.size :=
  ⟨(hbel.cell (p := ⟨w.heap.size, 0, none⟩) (by simp)).trans (by simp), (hbel.cell (p := ⟨w.heap.size, 1, none⟩) (by simp)).trans (by simp), (hbel.cell (p := ⟨w.heap.size, 2, none⟩) (by simp)).trans (by simp),
    ((Below.refl _ _).alloc (Nat.le_refl _) _).trans (hbel.mono (by simp)), by have := hbel.size; simp at this; omega⟩

theorem behind {w w' w1 w2 : World} {g' : Nat} {v0 v1 v2 : Value} (hlt0 : w.heap.size < w'.heap.size) (hge : w'.heap.size ≤ g') (d0 : w1.cell? ⟨w.heap.size, 0, none⟩ = some v0) (d1 : w1.cell? ⟨w.heap.size, 1, none⟩ = some v1)
    (d2 : w1.cell? ⟨w.heap.size, 2, none⟩ = some v2) (hg2 : w1.grownBy w2 (some g')) (hb0 : Below w.heap.size w w') (hb1 : Below w'.heap.size w' w1) :
    w2.cell? ⟨w.heap.size, 0, none⟩ = some v0 ∧ w2.cell? ⟨w.heap.size, 1, none⟩ = some v1 ∧ w2.cell? ⟨w.heap.size, 2, none⟩ = some v2 ∧ Below w.heap.size w w2 :=
  have hne : some w.heap.size ≠ some g' := fun e => by injection e with e; omega
  ⟨hg2.cell d0 hne, hg2.cell d1 hne, hg2.cell d2 hne, (hb0.trans (hb1.mono hb0.size)).trans ((below_of_grown hg2 (by omega) (Nat.le_trans hb0.size hb1.size)))⟩

set_option maxHeartbeats 1000000 in
theorem walk_no (A : Option Addr) (len cap : Nat) (z : Nat → Int) (p n x : Int) (w : World) (hl : len ≤ 140737488351232) (h : ¬ (1 ≤ n ∧ n ≤ 8 ∧ 0 ≤ p ∧ p + n ≤ len)) (hs : Holds w A len (fun i => .int .u8 (z i))) :
    Calls Try.prog 8 #[.slice A len cap, .agg #[.int .i64 p, .int .i64 n, .int .u64 x]] w fun e w' => e = .returned (.bool true) ∧ Below w.heap.size w w' := by
  have HH := Lib.hid h
  clear h
  go_enter Try.func8, Try.ntmps8
  go_wp2_with (first | (go_at_call 10; refine (head_true _).mono ?_; rintro e w' ⟨rfl, hbel⟩; obtain ⟨c0, c1, c2, hb0, hlt0⟩ := start _ _ _ _ _ hbel; clear hbel) | (at_builtin; refine wpList_append_row _ rfl (.tmp 11) (.tmp 12) 35 rfl 5 (.int .u8 0) 1 Try.underlying35 info_u8 rfl w'.heap.size 0 0 (fun _ => undef) rfl (World.rowIs_alloc w' #[] 5 (fun _ => undef) (fun i hi => absurd hi (by simp))) (Nat.le_refl _) (by decide) A len cap (fun i => .int .u8 (z i)) rfl (hs.below (hb0.alloc hb0.size _)) (fun _ => rfl) (by unfold maxLen; omega) (by omega) ?_; intro g' cap' F' w1 hr1 hc1 hm1 _ hF1 hg1 hgg; simp only [Nat.zero_add] at hc1 hF1; obtain ⟨hb1, hge⟩ := append_new_below hg1 hgg; clear hg1 hgg; have d0 := (hb1.cell (p := ⟨w.heap.size, 0, none⟩) hlt0).trans c0; have d1 := (hb1.cell (p := ⟨w.heap.size, 1, none⟩) hlt0).trans c1; have d2 := (hb1.cell (p := ⟨w.heap.size, 2, none⟩) hlt0).trans c2; have k1 := run_string_of (P := Try.prog) w1 35 9 5 Try.underlying35 Try.underlying5 Try.underlying9 _ len cap' z ((holds_of_row hr1 hc1).congr hF1); have k2 := run_string_of (P := Try.prog) w1 35 9 5 Try.underlying35 Try.underlying5 Try.underlying9 _ len cap z ((hs.below hb0).below hb1); have HF := Lib.hid hF1; clear c0 c1 c2 hr1 hF1 hs) | (go_at_call 23; refine (word_Store_no _ _ _ _ _ _ _ (by unfold maxLen; omega) HH.out).mono ?_; rintro e w'' ⟨rfl, rfl⟩))
  go_ret
  exact ⟨rfl, hb0.trans (hb1.mono hb0.size)⟩

set_option maxHeartbeats 1000000 in
theorem walk_yes (b off len cap : Nat) (z : Nat → Int) (p n : Nat) (x : BitVec 64) (w : World) (hl : len ≤ 140737488351232) (h1 : 1 ≤ n) (h8 : n ≤ 8) (hp : p + n ≤ len) (hlc : len ≤ cap) (hbl : b < w.heap.size) (hs : Holds w (some ⟨b, off, none⟩) len (fun i => .int .u8 (z i))) :
    Calls Try.prog 8 #[.slice (some ⟨b, off, none⟩) len cap, .agg #[.int .i64 (p : Int), .int .i64 (n : Int), .int .u64 (x.toNat : Int)]] w fun e w' => e = .returned (.bool true) ∧ Below w.heap.size w w' := by
  go_enter Try.func8, Try.ntmps8
  go_wp2_with (first | (go_at_call 10; refine (head_true _).mono ?_; rintro e w' ⟨rfl, hbel⟩; obtain ⟨c0, c1, c2, hb0, hlt0⟩ := start _ _ _ _ _ hbel; clear hbel) | (at_builtin; refine wpList_append_row _ rfl (.tmp 11) (.tmp 12) 35 rfl 5 (.int .u8 0) 1 Try.underlying35 info_u8 rfl w'.heap.size 0 0 (fun _ => undef) rfl (World.rowIs_alloc w' #[] 5 (fun _ => undef) (fun i hi => absurd hi (by simp))) (Nat.le_refl _) (by decide) _ len cap (fun i => .int .u8 (z i)) rfl (hs.below (hb0.alloc hb0.size _)) (fun _ => rfl) (by unfold maxLen; omega) (by omega) ?_; intro g' cap' F' w1 hr1 hc1 hm1 _ hF1 hg1 hgg; simp only [Nat.zero_add] at hc1 hF1; obtain ⟨hb1, hge⟩ := append_new_below hg1 hgg; clear hg1 hgg; have d0 := (hb1.cell (p := ⟨w.heap.size, 0, none⟩) hlt0).trans c0; have d1 := (hb1.cell (p := ⟨w.heap.size, 1, none⟩) hlt0).trans c1; have d2 := (hb1.cell (p := ⟨w.heap.size, 2, none⟩) hlt0).trans c2) | (go_at_call 23; refine (word_Store _ _ _ _ _ _ _ _ _ (by unfold maxLen; omega) h1 h8 hp hc1 hr1).mono ?_; go_must (rintro e w2 ⟨rfl, hr2, hg2⟩); have HF := Lib.hid hF1; obtain ⟨q0, q1, q2, hb2⟩ := behind hlt0 hge d0 d1 d2 hg2 hb0 hb1; have hs2 := Lib.hid (((hs.below hb0).below hb1).grown_at hg2 (by omega)); have hr3 := Lib.hid hr2; have HC := Lib.hid hc1; clear hr1 hF1 hs d0 d1 d2 c0 c1 c2 hg2 hr2) | (go_at_call 21; go_must (refine (word_Load g' 0 len cap' (byteI x.toNat) p n _ (by unfold maxLen; omega) h1 h8 hp (fun i hi => wrote_cell hr3.out (by omega) hi) (byteI_bd _)).mono ?_); rintro e w3 ⟨rfl, rfl⟩))
  have hq : (leB (byteI (x.toNat : Int)) n == ((zext x (8 * (n : Int))).toNat : Int)) = true := by rw [leB_bytes, Int.natCast_mul]; simp
  have s1 : Holds w2 (some ⟨g', 0, none⟩) p (fun i => .int .u8 (z i)) := (holds_of_row hr3.out (by omega)).congr fun i hi => by rw [wrote, if_neg (by omega)]; exact HF.out i (by omega)
  have s2 : Holds w2 (some ⟨b, off, none⟩) p (fun i => .int .u8 (z i)) := hs2.out.upto (by omega)
  have k1 := fun k => run_string_of (P := Try.prog) (w2.drewN k) 35 9 5 Try.underlying35 Try.underlying5 Try.underlying9 _ p cap' z (s1.drawn k)
  have k2 := fun k => run_string_of (P := Try.prog) (w2.drewN k) 35 9 5 Try.underlying35 Try.underlying5 Try.underlying9 _ p cap z (s2.drawn k)
  have s3 : Holds w2 (if cap' = p + n then some ⟨g', 0, none⟩ else some ⟨g', p + n, none⟩) (len - (p + n)) (fun i => .int .u8 (z (p + n + i))) :=
    ((holds_of_row hr3.out HC.out).from_ (k := p + n) _ (fun h => by rw [if_neg (by have := HC.out; omega), Nat.zero_add])).congr fun i hi => by rw [wrote, if_neg (by omega)]; exact HF.out _ (by omega)
  have s4 : Holds w2 (if cap = p + n then some ⟨b, off, none⟩ else some ⟨b, off + (p + n), none⟩) (len - (p + n)) (fun i => .int .u8 (z (p + n + i))) :=
    hs2.out.from_ (k := p + n) _ (fun h => by rw [if_neg (by omega)])
  have k3 := fun k => run_string_of (P := Try.prog) (w2.drewN k) 35 9 5 Try.underlying35 Try.underlying5 Try.underlying9 _ (len - (p + n)) (cap' - (p + n)) (fun i => z (p + n + i)) (s3.drawn k)
  have k4 := fun k => run_string_of (P := Try.prog) (w2.drewN k) 35 9 5 Try.underlying35 Try.underlying5 Try.underlying9 _ (len - (p + n)) (cap - (p + n)) (fun i => z (p + n + i)) (s4.drawn k)
  clear s1 s2 s3 s4
  have b1 : (p : Int) ≤ (cap' : Int) := by have := HC.out; omega
  have b2 : (p : Int) ≤ (cap : Int) := by omega
  have b3 : (p : Int) + (n : Int) ≤ (len : Int) := by omega
  have b4 : (p : Int) + (n : Int) ≤ (cap' : Int) := by have := HC.out; omega
  have b5 : (p : Int) + (n : Int) ≤ (cap : Int) := by omega
  have b6 : (len : Int) ≤ (cap' : Int) := by have := HC.out; omega
  have b7 : (len : Int) ≤ (cap : Int) := by omega
  have e1 : IntKind.i64.wrap (8 * (n : Int)) = 8 * (n : Int) := IntWalk.i64_in _ (by omega)
  have e2 : IntKind.i64.wrap ((p : Int) + (n : Int)) = (p : Int) + (n : Int) := IntWalk.i64_in _ (by omega)
  have e3 : (0 : Int) ≤ (p : Int) + (n : Int) := by omega
  have e4 : ((p : Int) + (n : Int)).toNat = p + n := by omega
  go_quiet ((go_at_call 11; exact quietL (word_Zext _ _ _)))
  go_wp2
  all_goals
    go_ret
    exact ⟨rfl, below_drawn hb2 _⟩

theorem walk (a : Option Addr) (len cap : Nat) (z0 : List Int) (e0 e1 e2 : Int) (w : World) (w0 : IsRow .u8 w a len cap z0 ∧ cap * 1 ≤ 140737488351232) (w1 : (Lit.int .i64 e0).wf = true) (w2 : (Lit.int .i64 e1).wf = true) (w3 : (Lit.int .u64 e2).wf = true) :
    Calls Try.prog 8 #[.slice a len cap, .agg #[.int .i64 e0, .int .i64 e1, .int .u64 e2]] w fun e w' => e = .returned (.bool true) ∧ Below w.heap.size w w' := by
  obtain ⟨w0, hcap⟩ := w0
  obtain ⟨x, rfl⟩ := word_of w3
  have hlc := isRow_len w0
  have hs := holds_of_isRow w0
  by_cases h : 1 ≤ e1 ∧ e1 ≤ 8 ∧ 0 ≤ e0 ∧ e0 + e1 ≤ len
  · obtain ⟨p, rfl⟩ := Int.eq_ofNat_of_zero_le (show 0 ≤ e0 by omega)
    obtain ⟨n, rfl⟩ := Int.eq_ofNat_of_zero_le (show 0 ≤ e1 by omega)
    obtain ⟨b, off, rfl, hbl, _⟩ := hs (by omega)
    exact walk_yes b off len cap _ p n x w (by omega) (by omega) (by omega) (by omega) hlc hbl hs
  · exact walk_no a len cap _ e0 e1 _ w (by omega) h hs

/-! ### The row's step and the statement -/
set_option maxRecDepth 100000 in
theorem lifted (os : Os) (started : os.Started) (H : Type) (enc : TypeId × Value → H) :
    ReturnsInHanded {} Try.checked os 8 .any (Rows.wordStoredSpec.pre6 enc Try.prog Try.f8 Rows.wordStoredRow.domain false) (Rows.wordStoredSpec.post enc Try.prog Try.f8 false true false false) := by
  refine returnsInHanded_of_change_sized (C := Try.checked) own started (by kernel_rfl) Try.func8
    (ChangeSpec.witness6 (enc := enc) (C := Try.checked) false ⟨#[], #[.slice none 0 0, .agg #[.int .i64 0, .int .i64 0, .int .u64 0]], []⟩ 8 (by kernel_rfl) (by kernel_rfl) (by kernel_rfl) (by kernel_rfl)) ?_
  intro W base args ds gs before hval0 hW hcnd hsz0 _
  have hsz : (DataW.weightsEach Try.prog (Try.f8.params.toList ++ Rows.wordStoredSpec.plain.varTypes Try.prog) (ds ++ gs)).all (· ≤ reachBytes) = true := hsz0
  clear hsz0
  have hval : ∀ (j : Nat) t v, Try.f8.params[j]? = some t → args[j]? = some v → Value.okWide Try.prog W .any base t v := hval0
  have hW' := hW
  obtain ⟨p, q, hA0, hV, rfl, hfz, hnd⟩ := hW
  have hA : DataW.TrodAll enc Try.prog W 0 (fun _ => true) true Try.f8.params.toList args.toList ds p := hA0
  rw [Try.params8] at hA hval hsz
  obtain ⟨v0, vs0, d0, ds0, p0, q0, hargs, rfl, rfl, h0, r0⟩ := trodAll_cons hA
  obtain ⟨v1, vs1, d1, ds1, p1, q1, rfl, rfl, rfl, h1, r1⟩ := trodAll_cons r0
  obtain ⟨rfl, rfl, rfl⟩ := trodAll_nil r1
  obtain rfl : args = #[v0, v1] := by cases args; simp_all
  obtain ⟨rfl, rfl⟩ := trodVars_none hV
  obtain ⟨a0, len0, cap0, rfl⟩ := okWide_slice Try.underlying35 (hval 0 35 v0 rfl rfl)
  have k0 := h0
  have lt0 : ∀ x ∈ p0, x.block < W.heap.size := by obtain ⟨m, hm⟩ := k0; exact DataW.trod_lt m _ _ _ hm
  obtain ⟨z0, w0⟩ : ∃ zs, IsRow .u8 W a0 len0 cap0 zs ∧ cap0 * 1 ≤ 140737488351232 := by
    obtain ⟨fuel, hf⟩ := h0
    rcases open_ints Try.underlying35 Try.underlying5 (by kernel_rfl) hf with ⟨hcs, _⟩ | ⟨x, l, c, zs, hcs, _, hl, hm, hz, hx, hcell, hwz⟩
    · simp [Value.cells] at hcs
      obtain ⟨rfl, rfl, rfl⟩ := hcs
      exact ⟨[], ⟨.inl ⟨rfl, rfl, rfl, rfl⟩, by omega⟩⟩
    · simp [Value.cells] at hcs
      obtain ⟨rfl, rfl, rfl⟩ := hcs
      have hd : d0 = _ := congrArg Prod.fst hx
      have hr := sized_slice hsz (j := 0) (t := 35) (e := 5) rfl (congrArg some hd) Try.underlying35
      rw [show Try.prog.bytesOf 5 = 1 by kernel_rfl] at hr
      simp only [lits, List.length_map, List.length_take, List.length_drop, reachBytes] at hr
      have hzl : zs.length = _ := hz
      simp only [if_true] at hzl
      exact ⟨zs, ⟨.inr ⟨_, rfl, hl, hm, by simpa using hz, hcell, hwz⟩, by omega⟩⟩
  have k1 := h1
  have lt1 : ∀ x ∈ p1, x.block < W.heap.size := by obtain ⟨m, hm⟩ := k1; exact DataW.trod_lt m _ _ _ hm
  obtain ⟨c1_0, c1_1, c1_2, y1_0, y1_1, y1_2, m1, rfl, hd1, hp1, hy1_0, hy1_1, hy1_2⟩ := Joins.open_agg3 Try.underlying41 (by kernel_rfl) (by kernel_rfl : Try.prog.cellsOf 41 = 3) (hval 1 41 v1 rfl rfl) h1
  obtain ⟨e1_0, f1_0, _, w1_0⟩ := DataW.trod_int Try.underlying3 hy1_0
  simp only [List.cons.injEq, and_true] at f1_0; subst f1_0
  obtain ⟨e1_1, f1_1, _, w1_1⟩ := DataW.trod_int Try.underlying3 hy1_1
  simp only [List.cons.injEq, and_true] at f1_1; subst f1_1
  obtain ⟨e1_2, f1_2, _, w1_2⟩ := DataW.trod_int Try.underlying24 hy1_2
  simp only [List.cons.injEq, and_true] at f1_2; subst f1_2
  clear hA0 hval0
  refine (walk a0 len0 cap0 z0 e1_0 e1_1 e1_2 W w0 w1_0 w1_1 w1_2).mono fun e W' ⟨he, bel⟩ => ?_
  subst he
  exact ⟨_, rfl, _, _, _, [], _, [], hW', trodAll_mk1 (shut_bool Try.underlying4 _), (trodAll_cons_mk (Below.trod laidOut (by kernel_rfl) (of_decide_eq_true (by kernel_rfl)) k0 bel lt0) (trodAll_cons_mk (Below.trod laidOut (by kernel_rfl) (of_decide_eq_true (by kernel_rfl)) k1 bel lt1) trodAll_mk0)), rfl, bel.frame _, fun h => by cases h⟩

theorem over : Rows.wordStoredRow.holds Try.pinned (OpenSpec.ofChange Rows.wordStoredSpec) :=
  OpenClaim.holds_of_wide 8 Try.f8 rfl rfl rfl rfl rfl rfl rfl ⟨rfl, rfl, rfl, rfl, rfl⟩ rfl rfl rfl rfl rfl (by kernel_rfl) Try.func8 (by kernel_rfl)
    (of_decide_eq_true (by kernel_rfl)) (by unfold Func.isWrapper; first | (rw [if_pos (by decide +kernel)]; kernel_rfl) | (rw [if_neg (by decide +kernel)]; exact ⟨rfl, rfl⟩))
    (fun os started H enc _ => lifted os started H enc)

/-- The statement. -/
theorem proved : Rows.WordStoredSaid := over
end Go.Proofs.Ytchddecnglcemaa.wordStored
