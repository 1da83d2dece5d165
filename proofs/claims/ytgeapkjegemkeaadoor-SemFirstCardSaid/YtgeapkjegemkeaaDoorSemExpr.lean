/-
  Which expressions may be: contracts on both sides. Conditions: those that each names.
-/
import Derived.Test.YtgeapkjegemkeaaDoorGSemSys
namespace Go.Proofs.YtgeapkjegemkeaaDoor
open Go Go.RowKit
set_option linter.unusedSimpArgs false
set_option linter.unusedVariables false

theorem ofInt_nat7 (n : Nat) : BitVec.ofInt 64 (n : Int) = BitVec.ofNat 64 n := BitVec.ofInt_natCast 64 n
theorem wrapU7 (a : BitVec 64) : IntKind.u64.wrap (a.toNat : Int) = a.toNat := by
  rw [IntKind.wrap_u64]; have := a.isLt; omega
theorem bits_clear7 (v m : Nat) : bits .andNot .u64 (v : Int) (m : Int) = (clearN v m : Int) := by
  show IntKind.u64.wrap ((BitVec.ofInt 64 (v : Int) &&& ~~~BitVec.ofInt 64 (m : Int)).toNat : Int) = _
  rw [ofInt_nat7, ofInt_nat7, wrapU7]; rfl
theorem bits_mask7 (v m : Nat) : bits .and .u64 (v : Int) (m : Int) = (maskN v m : Int) := by
  show IntKind.u64.wrap ((BitVec.ofInt 64 (v : Int) &&& BitVec.ofInt 64 (m : Int)).toNat : Int) = _
  rw [ofInt_nat7, ofInt_nat7, wrapU7]; rfl
set_option maxRecDepth 100000 in
theorem p_isField (f : Int) (w : World) : Calls Tryd.prog 54 #[.int .i64 f] w fun e w' => e = .returned (.bool (decide (0 ≤ f ∧ f ≤ 6))) ∧ w = w' := by
  by_cases h0 : 0 ≤ f
  · have e : decide (0 ≤ f ∧ f ≤ 6) = decide (f ≤ 6) := by simp [h0]
    rw [e]
    clear e
    go_enter Tryd.func54, Tryd.ntmps54
    go_wp2
    go_ret
    exact ⟨rfl, rfl⟩
  · have e : decide (0 ≤ f ∧ f ≤ 6) = false := by simp [h0]
    have q : decide (0 ≤ f) = false := by simp [h0]
    rw [e]
    clear e
    go_enter Tryd.func54, Tryd.ntmps54
    go_wp2
    go_ret
    exact ⟨rfl, rfl⟩
set_option maxRecDepth 100000 in
theorem p_isRel (f : Int) (w : World) : Calls Tryd.prog 55 #[.int .i64 f] w fun e w' => e = .returned (.bool (decide (1 ≤ f ∧ f ≤ 6))) ∧ w = w' := by
  by_cases h0 : 1 ≤ f
  · have e : decide (1 ≤ f ∧ f ≤ 6) = decide (f ≤ 6) := by simp [h0]
    rw [e]
    clear e
    go_enter Tryd.func55, Tryd.ntmps55
    go_wp2
    go_ret
    exact ⟨rfl, rfl⟩
  · have e : decide (1 ≤ f ∧ f ≤ 6) = false := by simp [h0]
    have q : decide (1 ≤ f) = false := by simp [h0]
    rw [e]
    clear e
    go_enter Tryd.func55, Tryd.ntmps55
    go_wp2
    go_ret
    exact ⟨rfl, rfl⟩
abbrev exB (o : Int) (A : Option Addr) (n cap : Nat) (f : Int) (m : Nat) (r : Int) (v : Nat) : Obj := .cells #[.int .i64 o, .slice A n cap, .int .i64 f, .int .u64 (m : Int), .int .i64 r, .int .u64 (v : Int)] 44
abbrev exA (o : Int) (A : Option Addr) (n cap : Nat) (f : Int) (m : Nat) (r : Int) (v : Nat) : Value := .agg #[.int .i64 o, .slice A n cap, .int .i64 f, .int .u64 (m : Int), .int .i64 r, .int .u64 (v : Int)]
set_option maxRecDepth 100000 in
set_option maxHeartbeats 4000000 in
theorem p_shaped (o : Int) (A : Option Addr) (n cap : Nat) (f : Int) (m : Nat) (r : Int) (v : Nat) (w : World) :
    Calls Tryd.prog 44 #[exA o A n cap f m r v] w fun e w' => e = .returned (.bool (shapeB o n f r)) ∧ Below w.heap.size w w' := by
  have HB := Lib.hid (lbox w (exB o A n cap f m r v))
  by_cases h1 : o = 1
  · have q1 : (o == 1) = true := beq_iff_eq.2 h1
    have hE : shapeB o n f r = decide (n = 0) := by unfold shapeB; subst h1; simp
    have HE := Lib.hid hE
    have hc : (((n : Int) == 0)) = decide (n = 0) := by
      by_cases hn : n = 0
      · rw [decide_eq_true hn]; exact beq_iff_eq.2 (by omega)
      · rw [decide_eq_false hn]; exact beq_false_of_ne (by omega)
    have HC := Lib.hid hc
    clear h1 hE hc
    go_enter Tryd.func44, Tryd.ntmps44
    go_wp2
    go_ret
    exact ⟨by rw [HE.out, ← HC.out]; rfl, HB.out⟩
  have q1 : (o == 1) = false := beq_false_of_ne h1
  by_cases h2 : o = 2
  · have q2 : (o == 2) = true := beq_iff_eq.2 h2
    have hE : shapeB o n f r = decide (n = 0) := by unfold shapeB; subst h2; simp
    have HE := Lib.hid hE
    have hc : (((n : Int) == 0)) = decide (n = 0) := by
      by_cases hn : n = 0
      · rw [decide_eq_true hn]; exact beq_iff_eq.2 (by omega)
      · rw [decide_eq_false hn]; exact beq_false_of_ne (by omega)
    have HC := Lib.hid hc
    clear h2 hE hc
    go_enter Tryd.func44, Tryd.ntmps44
    go_wp2
    go_ret
    exact ⟨by rw [HE.out, ← HC.out]; rfl, HB.out⟩
  have q2 : (o == 2) = false := beq_false_of_ne h2
  by_cases h3 : o = 3
  · have q3 : (o == 3) = true := beq_iff_eq.2 h3
    have hE : shapeB o n f r = decide (n = 1) := by unfold shapeB; subst h3; simp
    have HE := Lib.hid hE
    have hc : (((n : Int) == 1)) = decide (n = 1) := by
      by_cases hn : n = 1
      · rw [decide_eq_true hn]; exact beq_iff_eq.2 (by omega)
      · rw [decide_eq_false hn]; exact beq_false_of_ne (by omega)
    have HC := Lib.hid hc
    clear h3 hE hc
    go_enter Tryd.func44, Tryd.ntmps44
    go_wp2
    go_ret
    exact ⟨by rw [HE.out, ← HC.out]; rfl, HB.out⟩
  have q3 : (o == 3) = false := beq_false_of_ne h3
  by_cases h4 : o = 4
  · have q4 : (o == 4) = true := beq_iff_eq.2 h4
    have hE : shapeB o n f r = decide (2 ≤ n) := by unfold shapeB; subst h4; simp
    have HE := Lib.hid hE
    have hc : (decide ((2 : Int) ≤ (n : Int))) = decide (2 ≤ n) := by
      by_cases hn : 2 ≤ n
      · rw [decide_eq_true hn]; exact decide_eq_true (by omega)
      · rw [decide_eq_false hn]; exact decide_eq_false (by omega)
    have HC := Lib.hid hc
    clear h4 hE hc
    go_enter Tryd.func44, Tryd.ntmps44
    go_wp2
    go_ret
    exact ⟨by rw [HE.out, ← HC.out]; rfl, HB.out⟩
  have q4 : (o == 4) = false := beq_false_of_ne h4
  by_cases h5 : o = 5
  · have q5 : (o == 5) = true := beq_iff_eq.2 h5
    have hE : shapeB o n f r = decide (2 ≤ n) := by unfold shapeB; subst h5; simp
    have HE := Lib.hid hE
    have hc : (decide ((2 : Int) ≤ (n : Int))) = decide (2 ≤ n) := by
      by_cases hn : 2 ≤ n
      · rw [decide_eq_true hn]; exact decide_eq_true (by omega)
      · rw [decide_eq_false hn]; exact decide_eq_false (by omega)
    have HC := Lib.hid hc
    clear h5 hE hc
    go_enter Tryd.func44, Tryd.ntmps44
    go_wp2
    go_ret
    exact ⟨by rw [HE.out, ← HC.out]; rfl, HB.out⟩
  have q5 : (o == 5) = false := beq_false_of_ne h5
  by_cases h6 : o = 6
  · have q6 : (o == 6) = true := beq_iff_eq.2 h6
    have hE : shapeB o n f r = decide (n = 0 ∧ 0 ≤ f ∧ f ≤ 6 ∧ 1 ≤ r ∧ r ≤ 6) := by unfold shapeB; subst h6; simp
    rw [hE]
    clear hE h1 h2 h3 h4 h5 h6
    by_cases hn : n = 0
    · have qn : ((n : Int) == 0) = true := beq_iff_eq.2 (by omega)
      have qn2 : (n == 0) = true := beq_iff_eq.2 hn
      have hE : decide (n = 0 ∧ 0 ≤ f ∧ f ≤ 6 ∧ 1 ≤ r ∧ r ≤ 6) = (decide (0 ≤ f ∧ f ≤ 6) && decide (1 ≤ r ∧ r ≤ 6)) := by
        simp only [hn, true_and, Bool.decide_and, Bool.and_assoc]
      rw [hE]
      clear hE hn
      have HF := Lib.hid (fun W => p_isField f W)
      have HR := Lib.hid (fun W => p_isRel r W)
      generalize decide (0 ≤ f ∧ f ≤ 6) = b1 at HF ⊢
      generalize decide (1 ≤ r ∧ r ≤ 6) = b2 at HR ⊢
      cases b1 with
      | false =>
        go_enter Tryd.func44, Tryd.ntmps44
        go_wp2_with (first
          | (go_at_call 54; (with_reducible refine (HF.out _).mono ?_); rintro e w1 ⟨rfl, rfl⟩))
        go_ret
        exact ⟨rfl, HB.out⟩
      | true =>
        go_enter Tryd.func44, Tryd.ntmps44
        go_wp2_with (first
          | (go_at_call 54; (with_reducible refine (HF.out _).mono ?_); rintro e w1 ⟨rfl, rfl⟩)
          | (go_at_call 55; (with_reducible refine (HR.out _).mono ?_); rintro e w1 ⟨rfl, rfl⟩))
        go_ret
        exact ⟨rfl, HB.out⟩
    · have qn : ((n : Int) == 0) = false := beq_false_of_ne (by omega)
      have qn2 : (n == 0) = false := beq_false_of_ne hn
      have hE : decide (n = 0 ∧ 0 ≤ f ∧ f ≤ 6 ∧ 1 ≤ r ∧ r ≤ 6) = false := decide_eq_false (fun g => hn g.1)
      rw [hE]
      clear hE hn
      go_enter Tryd.func44, Tryd.ntmps44
      go_wp2
      go_ret
      exact ⟨rfl, HB.out⟩
  have q6 : (o == 6) = false := beq_false_of_ne h6
  have hE : shapeB o n f r = false := by unfold shapeB; rw [if_neg (fun g => g.elim h1 h2), if_neg h3, if_neg (fun g => g.elim h4 h5), if_neg h6]
  rw [hE]
  clear hE h1 h2 h3 h4 h5 h6
  go_enter Tryd.func44, Tryd.ntmps44
  go_wp2
  go_ret
  exact ⟨rfl, HB.out⟩
theorem exs_at (d : Nat) (l : List Ex) (k : Nat) (hk : k < l.length) : exsF d (l.drop k) = if exF d (l.getD k .zero) ≠ 0 then exF d (l.getD k .zero) else exsF d (l.drop (k + 1)) := by
  rw [List.drop_eq_getElem_cons hk]
  have : l.getD k .zero = l[k] := by rw [List.getD_eq_getElem?_getD, List.getElem?_eq_getElem hk]; rfl
  rw [this, exsF]
theorem exs_end (d : Nat) (l : List Ex) (k : Nat) (hk : l.length ≤ k) : exsF d (l.drop k) = 0 := by
  rw [List.drop_of_length_le hk, exsF]
/-- The loop's part of the contract's premises: what the arguments answer. -/
def IHE (FNN : Nat) (d : Nat) (l : List Ex) : Prop := ∀ k, k < l.length → ∀ (V : World) (A1 : Option Addr) (cap1 : Nat), ExL V (l.getD k .zero) A1 cap1 → Calls Tryd.prog FNN #[exV (l.getD k .zero) A1 cap1, .int .i64 ((d + 1 : Nat) : Int)] V fun e w' => e = .returned (.int .i64 (exF (d + 1) (l.getD k .zero))) ∧ Below V.heap.size V w'
theorem ex_is (o : Int) (l : List Ex) (f : Int) (m : Nat) (r : Int) (v : Nat) (d : Nat) : exF d (.mk o l f m r v) = if 200 < d ∨ shapeB o l.length f r = false then 76 else if o = 6 ∧ (m = 0 ∨ clearN v m ≠ 0) then 75 else exsF (d + 1) l := by rw [exF]
set_option maxRecDepth 100000 in
set_option maxHeartbeats 4000000 in
theorem p_fault_deep (o : Int) (l : List Ex) (f : Int) (m : Nat) (r : Int) (v : Nat) (d : Nat) (A : Option Addr) (cap : Nat) (W : World) (h : ExL W (.mk o l f m r v) A cap) (hd : d ≤ 201) (h2 : 200 < d) :
    Calls Tryd.prog 35 #[exA o A l.length cap f m r v, .int .i64 (d : Int)] W fun e w' => e = .returned (.int .i64 76) ∧ Below W.heap.size W w' := by
  have HB := Lib.hid (lbox W (exB o A l.length cap f m r v))
  have q : (200 : Int) < (d : Int) := by omega
  clear h h2
  go_enter Tryd.func35, Tryd.ntmps35
  go_wp2
  go_ret
  exact ⟨rfl, HB.out⟩
set_option maxRecDepth 100000 in
set_option maxHeartbeats 4000000 in
theorem p_fault_shape (o : Int) (l : List Ex) (f : Int) (m : Nat) (r : Int) (v : Nat) (d : Nat) (A : Option Addr) (cap : Nat) (W : World) (h : ExL W (.mk o l f m r v) A cap) (hd : d ≤ 201) (h2 : ¬ 200 < d) (hs : shapeB o l.length f r = false) :
    Calls Tryd.prog 35 #[exA o A l.length cap f m r v, .int .i64 (d : Int)] W fun e w' => e = .returned (.int .i64 76) ∧ Below W.heap.size W w' := by
  have HB := Lib.hid (lbox W (exB o A l.length cap f m r v))
  have HX := Lib.hid (World.alloc_heap_new W (exB o A l.length cap f m r v))
  have HSHP := Lib.hid (fun V => p_shaped o A l.length cap f m r v V)
  rw [hs] at HSHP
  have q : ¬ (200 : Int) < (d : Int) := by omega
  have q2 : decide ((200 : Int) < (d : Int)) = false := decide_eq_false q
  clear h h2 hs
  go_enter Tryd.func35, Tryd.ntmps35
  go_wp2_with (go_at_call 44; (with_reducible refine (HSHP.out _).mono ?_); rintro e w1 ⟨rfl, hb1⟩; have HB1 := Lib.hid (HB.out.trans (hb1.mono HB.out.size)); have hbx := (hb1.block W.heap.size (by simp)).trans HX.out; have HX1 := Lib.hid hbx; have x0 := cell6 hbx 0 rfl; have x1 := cell6 hbx 1 rfl; have x3 := cell6 hbx 3 rfl; have x5 := cell6 hbx 5 rfl; clear hb1 hbx)
  go_ret
  exact ⟨rfl, HB1.out⟩
set_option maxRecDepth 100000 in
set_option maxHeartbeats 4000000 in
theorem p_fault_mask (o : Int) (l : List Ex) (f : Int) (m : Nat) (r : Int) (v : Nat) (d : Nat) (A : Option Addr) (cap : Nat) (W : World) (h : ExL W (.mk o l f m r v) A cap) (hd : d ≤ 201) (h2 : ¬ 200 < d) (hs : shapeB o l.length f r = true) (h6 : o = 6) (hm : m = 0 ∨ clearN v m ≠ 0) :
    Calls Tryd.prog 35 #[exA o A l.length cap f m r v, .int .i64 (d : Int)] W fun e w' => e = .returned (.int .i64 75) ∧ Below W.heap.size W w' := by
  have HB := Lib.hid (lbox W (exB o A l.length cap f m r v))
  have HX := Lib.hid (World.alloc_heap_new W (exB o A l.length cap f m r v))
  have HSHP := Lib.hid (fun V => p_shaped o A l.length cap f m r v V)
  rw [hs] at HSHP
  have q : ¬ (200 : Int) < (d : Int) := by omega
  have q2 : decide ((200 : Int) < (d : Int)) = false := decide_eq_false q
  have q6 : (o == 6) = true := beq_iff_eq.2 h6
  have hcl := bits_clear7 v m
  by_cases hm0 : m = 0
  · have qm : ((m : Int) == 0) = true := beq_iff_eq.2 (by omega)
    have qm2 : (m == 0) = true := beq_iff_eq.2 hm0
    clear h h2 hs h6 hm hm0
    go_enter Tryd.func35, Tryd.ntmps35
    go_wp2_with (go_at_call 44; (with_reducible refine (HSHP.out _).mono ?_); rintro e w1 ⟨rfl, hb1⟩; have HB1 := Lib.hid (HB.out.trans (hb1.mono HB.out.size)); have hbx := (hb1.block W.heap.size (by simp)).trans HX.out; have HX1 := Lib.hid hbx; have x0 := cell6 hbx 0 rfl; have x1 := cell6 hbx 1 rfl; have x3 := cell6 hbx 3 rfl; have x5 := cell6 hbx 5 rfl; clear hb1 hbx)
    go_ret
    exact ⟨rfl, HB1.out⟩
  · have qm : ((m : Int) == 0) = false := beq_false_of_ne (by omega)
    have qm2 : (m == 0) = false := beq_false_of_ne hm0
    have hc : clearN v m ≠ 0 := hm.resolve_left hm0
    have qc : ((clearN v m : Int) != 0) = true := bne_iff_ne.2 (by omega)
    have qc2 : (clearN v m != 0) = true := bne_iff_ne.2 hc
    clear h h2 hs h6 hm hm0 hc
    generalize clearN v m = cl at hcl qc qc2
    go_enter Tryd.func35, Tryd.ntmps35
    go_wp2_with (go_at_call 44; (with_reducible refine (HSHP.out _).mono ?_); rintro e w1 ⟨rfl, hb1⟩; have HB1 := Lib.hid (HB.out.trans (hb1.mono HB.out.size)); have hbx := (hb1.block W.heap.size (by simp)).trans HX.out; have HX1 := Lib.hid hbx; have x0 := cell6 hbx 0 rfl; have x1 := cell6 hbx 1 rfl; have x3 := cell6 hbx 3 rfl; have x5 := cell6 hbx 5 rfl; clear hb1 hbx)
    go_ret
    exact ⟨rfl, HB1.out⟩
set_option maxRecDepth 100000 in
set_option maxHeartbeats 4000000 in
theorem p_fault_on (o : Int) (l : List Ex) (f : Int) (m : Nat) (r : Int) (v : Nat) (d : Nat) (A : Option Addr) (cap : Nat) (W : World) (h : ExL W (.mk o l f m r v) A cap) (hd : d ≤ 201) (h2 : ¬ 200 < d) (hs : shapeB o l.length f r = true) (hq : ¬ (o = 6 ∧ (m = 0 ∨ clearN v m ≠ 0))) (ih : IHE 35 d l) :
    Calls Tryd.prog 35 #[exA o A l.length cap f m r v, .int .i64 (d : Int)] W fun e w' => e = .returned (.int .i64 (exsF (d + 1) l)) ∧ Below W.heap.size W w' := by
  have q : ¬ (200 : Int) < (d : Int) := by omega
  have q2 : decide ((200 : Int) < (d : Int)) = false := decide_eq_false q
  have hcl := bits_clear7 v m
  have HEX := Lib.hid h
  have hlen : l.length ≤ maxLen := h.1
  unfold maxLen at hlen
  have HIH := Lib.hid ih
  have HSHP := Lib.hid (fun V => p_shaped o A l.length cap f m r v V)
  rw [hs] at HSHP
  have HX := Lib.hid (World.alloc_heap_new W (exB o A l.length cap f m r v))
  have HB := Lib.hid (lbox W (exB o A l.length cap f m r v))
  obtain ⟨g, hg⟩ : ∃ g, g = exsF (d + 1) l := ⟨_, rfl⟩
  rw [← hg]
  have HG : Hid (g = exsF (d + 1) (l.drop 0)) := Lib.hid hg
  obtain ⟨n, hn⟩ : ∃ n, n = l.length := ⟨_, rfl⟩
  rw [← hn] at HX HB HSHP hlen ⊢
  have HN := Lib.hid hn
  unfold IHE at HIH
  clear hn hg ih h hs
  by_cases h6 : o = 6
  · have q6 : (o == 6) = true := beq_iff_eq.2 h6
    have hm0 : ¬ m = 0 := fun g => hq ⟨h6, .inl g⟩
    have hc : clearN v m = 0 := Decidable.byContradiction fun g => hq ⟨h6, .inr g⟩
    have qm : ((m : Int) == 0) = false := beq_false_of_ne (by omega)
    have qm2 : (m == 0) = false := beq_false_of_ne hm0
    have qc : ((clearN v m : Int) != 0) = false := by rw [hc]; rfl
    have qc2 : (clearN v m != 0) = false := by rw [hc]; rfl
    clear h6 hm0 hq hc
    generalize clearN v m = cl at hcl qc qc2
    go_enter Tryd.func35, Tryd.ntmps35
    go_wp2_with (go_at_call 44; (with_reducible refine (HSHP.out _).mono ?_); rintro e w1 ⟨rfl, hb1⟩; have HB1 := Lib.hid (HB.out.trans (hb1.mono HB.out.size)); have hbx := (hb1.block W.heap.size (by simp)).trans HX.out; have HX1 := Lib.hid hbx; have x0 := cell6 hbx 0 rfl; have x1 := cell6 hbx 1 rfl; have x3 := cell6 hbx 3 rfl; have x5 := cell6 hbx 5 rfl; clear hb1 hbx)
    have HB := HB1
    have HX := HX1
    clear HB1 HX1 x0 x1 x3 x5
    go_loopw [34] (fun i wr => ∃ k : Nat, k ≤ n ∧ i = .int .i64 (k : Int) ∧ g = exsF (d + 1) (l.drop k) ∧ Below W.heap.size W wr ∧ wr.heap[W.heap.size]? = some (exB o A n cap f m r v)) (fun i _ => n - (intOf i).toNat)
    case atStart => exact ⟨0, Nat.zero_le _, rfl, HG.out, HB.out, HX.out⟩
    case round =>
      obtain ⟨k, hk, rfl, hgk, hbw, hbx⟩ := hrel
      have c1 : wr.cell? ⟨W.heap.size, 1, none⟩ = some (.slice A n cap) := cell6 hbx 1 rfl
      have hlW : W.heap.size < wr.heap.size := (Array.getElem?_eq_some_iff.1 hbx).1
      have hwd : IntKind.i64.wrap ((d : Int) + 1) = (d : Int) + 1 := IntWalk.i64_in _ (by omega)
      by_cases hlt : k < n
      · have hlt' : (k : Int) < (n : Int) := by omega
        have hw : IntKind.i64.wrap ((k : Int) + 1) = ((k + 1 : Nat) : Int) := by rw [IntWalk.i64_in _ (by omega)]; omega
        have hkl : k < l.length := by have := HN.out; omega
        rw [exs_at (d + 1) l k hkl] at hgk
        obtain ⟨tb, ob, rfl, htl, A1, cap1, hx1, hc1⟩ := exL_arg (x := .mk o l f m r v) HEX.out k hkl
        have ih2 := HIH.out k hkl
        change ExL W (l.getD k .zero) A1 cap1 at hx1
        change ∀ j u, (exC (l.getD k .zero) A1 cap1)[j]? = some u → W.cell? ⟨tb, ob + k * 6 + j, none⟩ = some u at hc1
        generalize l.getD k .zero = y at hx1 hc1 ih2 hgk
        have e0 := (hbw.cell (p := ⟨tb, ob + k * 6, none⟩) htl).trans (hc1 0 _ rfl)
        have e1 := (hbw.cell (p := ⟨tb, ob + k * 6 + 1, none⟩) htl).trans (hc1 1 _ rfl)
        have e2 := (hbw.cell (p := ⟨tb, ob + k * 6 + 2, none⟩) htl).trans (hc1 2 _ rfl)
        have e3 := (hbw.cell (p := ⟨tb, ob + k * 6 + 3, none⟩) htl).trans (hc1 3 _ rfl)
        have e4 := (hbw.cell (p := ⟨tb, ob + k * 6 + 4, none⟩) htl).trans (hc1 4 _ rfl)
        have e5 := (hbw.cell (p := ⟨tb, ob + k * 6 + 5, none⟩) htl).trans (hc1 5 _ rfl)
        have hz : tb < wr.heap.size := Nat.lt_of_lt_of_le htl hbw.size
        have HIY : Hid (∀ V, ExL V y A1 cap1 → Calls Tryd.prog 35 #[exV y A1 cap1, .int .i64 ((d : Int) + 1)] V fun e w' => e = .returned (.int .i64 (exF (d + 1) y)) ∧ Below V.heap.size V w') := Lib.hid (fun V hV => ih2 V A1 cap1 hV)
        have HY : Hid (ExL wr y A1 cap1) := Lib.hid (hx1.below hbw)
        have HBW := Lib.hid (And.intro hbw hbx)
        clear hx1 hc1 hbw hbx ih2
        by_cases he : exF (d + 1) y = 0
        · rw [if_neg (fun g => g he)] at hgk
          rw [he] at HIY
          have HGK := Lib.hid hgk
          clear he hgk
          go_wp2_with (go_at_call 35; (with_reducible refine (HIY.out _ (HY.out.below (lbox wr (exCell y A1 cap1)))).mono ?_); rintro e w2 ⟨rfl, hb2⟩; have HB2 := Lib.hid (And.intro (HBW.out.1.trans (((lbox wr (exCell y A1 cap1)).trans (hb2.mono (by simp))).mono HBW.out.1.size)) ((hb2.block W.heap.size (by simp; omega)).trans (kept_alloc HBW.out.2 (exCell y A1 cap1)))); clear hb2)
          exact ⟨⟨k + 1, by omega, by go_num, HGK.out, HB2.out.1, HB2.out.2⟩, by simp [intOf]; omega⟩
        · rw [if_pos he] at hgk
          have hne : (exF (d + 1) y != 0) = true := bne_iff_ne.2 he
          generalize exF (d + 1) y = er at HIY hgk hne
          have HGK := Lib.hid hgk
          clear he hgk
          go_wp2_with (go_at_call 35; (with_reducible refine (HIY.out _ (HY.out.below (lbox wr (exCell y A1 cap1)))).mono ?_); rintro e w2 ⟨rfl, hb2⟩; have HB2 := Lib.hid (And.intro (HBW.out.1.trans (((lbox wr (exCell y A1 cap1)).trans (hb2.mono (by simp))).mono HBW.out.1.size)) ((hb2.block W.heap.size (by simp; omega)).trans (kept_alloc HBW.out.2 (exCell y A1 cap1)))); clear hb2)
          go_ret
          exact ⟨by rw [HGK.out]; rfl, HB2.out.1⟩
      · have hlt' : ¬ (k : Int) < (n : Int) := by omega
        rw [exs_end (d + 1) l k (by have := HN.out; omega)] at hgk
        have HGK := Lib.hid hgk
        have HBW := Lib.hid hbw
        clear hgk hbw hbx
        go_wp2
        go_ret
        exact ⟨by rw [HGK.out]; rfl, HBW.out⟩
  · have q6 : (o == 6) = false := beq_false_of_ne h6
    clear h6 hq
    go_enter Tryd.func35, Tryd.ntmps35
    go_wp2_with (go_at_call 44; (with_reducible refine (HSHP.out _).mono ?_); rintro e w1 ⟨rfl, hb1⟩; have HB1 := Lib.hid (HB.out.trans (hb1.mono HB.out.size)); have hbx := (hb1.block W.heap.size (by simp)).trans HX.out; have HX1 := Lib.hid hbx; have x0 := cell6 hbx 0 rfl; have x1 := cell6 hbx 1 rfl; have x3 := cell6 hbx 3 rfl; have x5 := cell6 hbx 5 rfl; clear hb1 hbx)
    have HB := HB1
    have HX := HX1
    clear HB1 HX1 x0 x1 x3 x5
    go_loopw [34] (fun i wr => ∃ k : Nat, k ≤ n ∧ i = .int .i64 (k : Int) ∧ g = exsF (d + 1) (l.drop k) ∧ Below W.heap.size W wr ∧ wr.heap[W.heap.size]? = some (exB o A n cap f m r v)) (fun i _ => n - (intOf i).toNat)
    case atStart => exact ⟨0, Nat.zero_le _, rfl, HG.out, HB.out, HX.out⟩
    case round =>
      obtain ⟨k, hk, rfl, hgk, hbw, hbx⟩ := hrel
      have c1 : wr.cell? ⟨W.heap.size, 1, none⟩ = some (.slice A n cap) := cell6 hbx 1 rfl
      have hlW : W.heap.size < wr.heap.size := (Array.getElem?_eq_some_iff.1 hbx).1
      have hwd : IntKind.i64.wrap ((d : Int) + 1) = (d : Int) + 1 := IntWalk.i64_in _ (by omega)
      by_cases hlt : k < n
      · have hlt' : (k : Int) < (n : Int) := by omega
        have hw : IntKind.i64.wrap ((k : Int) + 1) = ((k + 1 : Nat) : Int) := by rw [IntWalk.i64_in _ (by omega)]; omega
        have hkl : k < l.length := by have := HN.out; omega
        rw [exs_at (d + 1) l k hkl] at hgk
        obtain ⟨tb, ob, rfl, htl, A1, cap1, hx1, hc1⟩ := exL_arg (x := .mk o l f m r v) HEX.out k hkl
        have ih2 := HIH.out k hkl
        change ExL W (l.getD k .zero) A1 cap1 at hx1
        change ∀ j u, (exC (l.getD k .zero) A1 cap1)[j]? = some u → W.cell? ⟨tb, ob + k * 6 + j, none⟩ = some u at hc1
        generalize l.getD k .zero = y at hx1 hc1 ih2 hgk
        have e0 := (hbw.cell (p := ⟨tb, ob + k * 6, none⟩) htl).trans (hc1 0 _ rfl)
        have e1 := (hbw.cell (p := ⟨tb, ob + k * 6 + 1, none⟩) htl).trans (hc1 1 _ rfl)
        have e2 := (hbw.cell (p := ⟨tb, ob + k * 6 + 2, none⟩) htl).trans (hc1 2 _ rfl)
        have e3 := (hbw.cell (p := ⟨tb, ob + k * 6 + 3, none⟩) htl).trans (hc1 3 _ rfl)
        have e4 := (hbw.cell (p := ⟨tb, ob + k * 6 + 4, none⟩) htl).trans (hc1 4 _ rfl)
        have e5 := (hbw.cell (p := ⟨tb, ob + k * 6 + 5, none⟩) htl).trans (hc1 5 _ rfl)
        have hz : tb < wr.heap.size := Nat.lt_of_lt_of_le htl hbw.size
        have HIY : Hid (∀ V, ExL V y A1 cap1 → Calls Tryd.prog 35 #[exV y A1 cap1, .int .i64 ((d : Int) + 1)] V fun e w' => e = .returned (.int .i64 (exF (d + 1) y)) ∧ Below V.heap.size V w') := Lib.hid (fun V hV => ih2 V A1 cap1 hV)
        have HY : Hid (ExL wr y A1 cap1) := Lib.hid (hx1.below hbw)
        have HBW := Lib.hid (And.intro hbw hbx)
        clear hx1 hc1 hbw hbx ih2
        by_cases he : exF (d + 1) y = 0
        · rw [if_neg (fun g => g he)] at hgk
          rw [he] at HIY
          have HGK := Lib.hid hgk
          clear he hgk
          go_wp2_with (go_at_call 35; (with_reducible refine (HIY.out _ (HY.out.below (lbox wr (exCell y A1 cap1)))).mono ?_); rintro e w2 ⟨rfl, hb2⟩; have HB2 := Lib.hid (And.intro (HBW.out.1.trans (((lbox wr (exCell y A1 cap1)).trans (hb2.mono (by simp))).mono HBW.out.1.size)) ((hb2.block W.heap.size (by simp; omega)).trans (kept_alloc HBW.out.2 (exCell y A1 cap1)))); clear hb2)
          exact ⟨⟨k + 1, by omega, by go_num, HGK.out, HB2.out.1, HB2.out.2⟩, by simp [intOf]; omega⟩
        · rw [if_pos he] at hgk
          have hne : (exF (d + 1) y != 0) = true := bne_iff_ne.2 he
          generalize exF (d + 1) y = er at HIY hgk hne
          have HGK := Lib.hid hgk
          clear he hgk
          go_wp2_with (go_at_call 35; (with_reducible refine (HIY.out _ (HY.out.below (lbox wr (exCell y A1 cap1)))).mono ?_); rintro e w2 ⟨rfl, hb2⟩; have HB2 := Lib.hid (And.intro (HBW.out.1.trans (((lbox wr (exCell y A1 cap1)).trans (hb2.mono (by simp))).mono HBW.out.1.size)) ((hb2.block W.heap.size (by simp; omega)).trans (kept_alloc HBW.out.2 (exCell y A1 cap1)))); clear hb2)
          go_ret
          exact ⟨by rw [HGK.out]; rfl, HB2.out.1⟩
      · have hlt' : ¬ (k : Int) < (n : Int) := by omega
        rw [exs_end (d + 1) l k (by have := HN.out; omega)] at hgk
        have HGK := Lib.hid hgk
        have HBW := Lib.hid hbw
        clear hgk hbw hbx
        go_wp2
        go_ret
        exact ⟨by rw [HGK.out]; rfl, HBW.out⟩
/-- The program's exprFault. -/
theorem p_exprFault : ∀ (N : Nat) (x : Ex), SizeOf.sizeOf x < N → ∀ (d : Nat) (A : Option Addr) (cap : Nat) (W : World), d ≤ 201 → ExL W x A cap → Calls Tryd.prog 35 #[exV x A cap, .int .i64 (d : Int)] W fun e w' => e = .returned (.int .i64 (exF d x)) ∧ Below W.heap.size W w'
  | 0, x, hN, _, _, _, _, _, _ => by omega
  | N + 1, .mk o l f m r v, hN, d, A, cap, W, hd, h => by
    rw [ex_is]
    by_cases h2 : 200 < d
    · rw [if_pos (.inl h2)]; exact p_fault_deep o l f m r v d A cap W h hd h2
    by_cases hs : shapeB o l.length f r = false
    · rw [if_pos (.inr hs)]; exact p_fault_shape o l f m r v d A cap W h hd h2 hs
    have hs2 : shapeB o l.length f r = true := by simpa using hs
    rw [if_neg (fun g => g.elim h2 hs)]
    by_cases hq : o = 6 ∧ (m = 0 ∨ clearN v m ≠ 0)
    · rw [if_pos hq]; exact p_fault_mask o l f m r v d A cap W h hd h2 hs2 hq.1 hq.2
    · rw [if_neg hq]
      exact p_fault_on o l f m r v d A cap W h hd h2 hs2 hq (fun k hk V A1 cap1 hV => p_exprFault N _ (by have := ex_sizeOf (.mk o l f m r v) k hk; exact Nat.lt_of_lt_of_le this (Nat.le_of_lt_succ hN)) (d + 1) A1 cap1 V (by omega) hV)
set_option maxRecDepth 100000 in
theorem p_Expr7 (x : Ex) (A : Option Addr) (cap : Nat) (W : World) (h : ExL W x A cap) : Calls Tryd.prog 20 #[exV x A cap] W fun e w' => e = .returned (.int .i64 (exF 0 x)) ∧ Below W.heap.size W w' := by
  have H : Hid (∀ V, ExL V x A cap → Calls Tryd.prog 35 #[exV x A cap, .int .i64 0] V fun e w' => e = .returned (.int .i64 (exF 0 x)) ∧ Below V.heap.size V w') := Lib.hid (fun V hV => p_exprFault _ x (Nat.lt_succ_self _) 0 A cap V (by decide) hV)
  have HL := Lib.hid (And.intro (h.below (lbox W (exCell x A cap))) (lbox W (exCell x A cap)))
  generalize exF 0 x = er at H ⊢
  clear h
  go_enter Tryd.func20, Tryd.ntmps20
  go_wp2_with (go_at_call 35; (with_reducible refine (H.out _ HL.out.1).mono ?_); rintro e w1 ⟨rfl, hb⟩; have HB := Lib.hid (HL.out.2.trans (hb.mono HL.out.2.size)); clear hb)
  go_ret
  exact ⟨rfl, HB.out⟩
end Go.Proofs.YtgeapkjegemkeaaDoor
