/-
  The program of a decision: Size and Emit: contracts. Conditions: those that each names.
-/
import Derived.Test.YtgpjiflgocgolaaLowEm
import Derived.OwnWalk
namespace Go.Proofs.Ytgpjiflgocgolaa
open Go Go.RowKit
set_option linter.unusedSimpArgs false
set_option linter.unusedVariables false

set_option maxRecDepth 100000 in
theorem p_size {B : Nat} {W : World} {b : Nat} {A : Option Addr} {n cap : Nat} {nd : Nat → Nd} {lb fb : Nat} {lg : Ways} {ft : Nat → Nat} (h : LayAt B W b A n cap nd lb fb lg ft) :
    Calls Try.prog 14 #[.pointer (some ⟨b, 0, none⟩)] W fun e w' => e = .returned (.int .i64 (ft n : Int)) ∧ Below W.heap.size W w' := by
  obtain ⟨m0, m1, m2⟩ := lay_box h
  have m3 := lay_first h (Nat.le_refl n)
  have hlt1 : (n : Int) < (n : Int) + 1 := by omega
  have HB := Lib.hid (fun k => below_drawn (Below.refl W.heap.size W) k)
  clear h
  go_enter Try.func14, Try.ntmps14
  go_wp2
  go_quiet (fail)
  go_wp2
  go_ret
  exact ⟨rfl, HB.out _⟩
theorem NdAt.under {B : Nat} {W W' : World} {A : Option Addr} {n : Nat} {nd : Nat → Nd} (h : NdAt W A n nd) (hb : Below B W W') (ha : ∀ ab ao, A = some ⟨ab, ao, none⟩ → 0 < n → ab < B) : NdAt W' A n nd :=
  ⟨h.1, fun hn => by
    obtain ⟨b, o, rfl, hl, hc⟩ := h.2 hn
    exact ⟨b, o, rfl, Nat.lt_of_lt_of_le hl hb.size, fun i hi j u hj => (hb.cell (p := ⟨b, o + i * 8 + j, none⟩) (ha b o rfl hn)).trans (hc i hi j u hj)⟩⟩
theorem row_under {B : Nat} {W W' : World} {g : Nat} {e : TypeId} {c : Nat} {F : Nat → Value} (h : W.rowIs g e c F) (hb : Below B W W') (hg : g < B) : W'.rowIs g e c F := by
  obtain ⟨cur, hc, hr⟩ := h
  exact ⟨cur, (hb.block g hg).trans hc, hr⟩
/-- All of a layout lies below a border. -/
structure Under (B b : Nat) (A : Option Addr) (n lb fb : Nat) : Prop where
  b : b < B
  lb : lb < B
  fb : fb < B
  nds : ∀ ab ao, A = some ⟨ab, ao, none⟩ → 0 < n → ab < B
theorem LayAt.under {B B0 : Nat} {W W' : World} {b : Nat} {A : Option Addr} {n cap : Nat} {nd : Nat → Nd} {lb fb : Nat} {lg : Ways} {ft : Nat → Nat} (h : LayAt B0 W b A n cap nd lb fb lg ft) (hb : Below B W W') (hu : Under B b A n lb fb) : LayAt B0 W' b A n cap nd lb fb lg ft := by
  obtain ⟨G, hG, g2⟩ := h.long
  obtain ⟨F, hF, f2⟩ := h.first
  exact ⟨(hb.block b hu.b).trans h.box, h.nds.under hb hu.nds, h.away, ⟨G, row_under hG hb hu.lb, g2⟩, ⟨F, row_under hF hb hu.fb, f2⟩, h.up⟩
theorem under_is {B0 : Nat} {W : World} {b : Nat} {A : Option Addr} {n cap : Nat} {nd : Nat → Nd} {lb fb : Nat} {lg : Ways} {ft : Nat → Nat} (h : LayAt B0 W b A n cap nd lb fb lg ft) : Under W.heap.size b A n lb fb :=
  ⟨(lay_lt h).1, (lay_lt h).2.1, (lay_lt h).2.2, fun ab ao e hn => by
    obtain ⟨b', o, e2, hl, _⟩ := h.nds.2 hn
    rw [e] at e2; injection e2 with e2; injection e2 with e2; omega⟩
set_option maxHeartbeats 4000000 in
set_option maxRecDepth 100000 in
theorem p_layNode {B : Nat} {W : World} {b : Nat} {A : Option Addr} {n cap : Nat} {nd : Nat → Nd} {lb fb : Nat} {lg : Ways} {B0 : Nat} {S : Nat → Prop} (h : LayAt B0 W b A n cap nd lb fb lg (firstN nd lg)) (hv : ValN nd n) {i : Nat} (hi : i < n)
    (hbl : Under B b A n lb fb) (hB : B ≤ W.heap.size) {pb : Nat} {xs : List I4} (hp : PrgAt B W pb xs S) (hx : xs.length ≤ 10000000) :
    Calls Try.prog 30 #[.pointer (some ⟨b, 0, none⟩), .int .i64 i, .func (.func 29) #[.pointer (some ⟨pb, 0, none⟩)] #[]] W fun e w' =>
      e = .returned (.tuple #[]) ∧ PrgAt B w' pb (xs ++ insN nd lg i) (fun _ => False) ∧ Below B W w' := by
  have hlt' : (i : Int) < (n : Int) := by omega
  obtain ⟨ab, ao, rfl, hl, c0, c1, c2, c3, c4, c5, c6, c7⟩ := nd_at h.nds hi
  obtain ⟨m0, m1, m2⟩ := lay_box h
  have hen : ∀ args w, (callFunc 29 args).run Try.prog w = .ok (.enter 29 args) w := Go.Proofs.enters_of Try.func29 (by kernel_rfl) rfl
  have HL := Lib.hid (And.intro h (And.intro hp (And.intro hv (And.intro hbl hB))))
  have HB1 := Lib.hid (lboxL W (ndO (nd i)))
  have HX := Lib.hid (World.alloc_heap_new W (ndO (nd i)))
  have H0 : Hid (PrgAt B (W.alloc (ndO (nd i))) pb xs (fun k => k = W.heap.size)) := Lib.hid (hp.apart HB1.out _ (fun k hk => .inr (by subst hk; simp)))
  clear h hp hv hbl hB
  have HI : Hid (insN nd lg i = if (nd i).leaf = true then [(6, 0, 0, (nd i).word)] else headN (nd i) ++ ([jumpN nd lg i] ++ (wayT nd lg i ++ wayF nd lg i))) := Lib.hid rfl
  have HW : Hid ((nd i).leaf = false → ((i : Int) < (nd i).t ∧ (nd i).t < n) ∧ ((i : Int) < (nd i).f ∧ (nd i).f < n)) := Lib.hid (HL.out.2.2.1.ways i hi)
  generalize hx9 : nd i = x at HB1 HX H0 HI HW c0 c1 c2 c3 c4 c5 c6 c7
  have HXX := Lib.hid hx9
  clear hx9
  obtain ⟨leaf, word, off, mask, op, k, t, f⟩ := x
  have hc2 : Below B W (W.alloc (ndO ⟨leaf, word, off, mask, op, k, t, f⟩)) := HB1.out.mono HL.out.2.2.2.2
  have HBB := Lib.hid hc2
  clear hc2
  dsimp only [ndO] at HB1 HX H0 HBB c0 c1 c2 c3 c4 c5 c6 c7
  cases leaf with
  | true =>
    have HC : Hid (Calls Try.prog 29 #[.pointer (some ⟨pb, 0, none⟩), .agg #[.int .u16 6, .int .u8 0, .int .u8 0, .int .u32 (word : Int)]] (W.alloc (.cells #[.bool true, .int .u32 (word : Int), .int .i64 off, .int .u32 (mask : Int), .int .i64 op, .int .u32 (k : Int), .int .i64 t, .int .i64 f] 48)) fun e w' => e = .returned (.tuple #[]) ∧ PrgAt B w' pb (xs ++ [(6, 0, 0, word)]) (fun k => k = W.heap.size) ∧ Below B (W.alloc (.cells #[.bool true, .int .u32 (word : Int), .int .i64 off, .int .u32 (mask : Int), .int .i64 op, .int .u32 (k : Int), .int .i64 t, .int .i64 f] 48)) w' ∧ ∀ k', k' = W.heap.size → w'.heap[k']? = (W.alloc (.cells #[.bool true, .int .u32 (word : Int), .int .i64 off, .int .u32 (mask : Int), .int .i64 op, .int .u32 (k : Int), .int .i64 t, .int .i64 f] 48)).heap[k']?) :=
      Lib.hid (p_lay H0.out (Nat.le_trans HL.out.2.2.2.2 HBB.out.size) (by omega) (6, 0, 0, word))
    go_enter Try.func30, Try.ntmps30
    go_wp2_with (go_at_call 29; (with_reducible refine HC.out.mono ?_); rintro e w1 ⟨rfl, hp1, hb1, hk1⟩; have H1 := Lib.hid (And.intro hp1 hb1); clear hp1 hb1 hk1)
    refine bodyPost_ret (results_none rfl _ _ _) rfl ⟨rfl, ?_, HBB.out.trans H1.out.2⟩
    show PrgAt B w1 pb (xs ++ insN nd lg i) _
    rw [HI.out]
    exact H1.out.1.apart (Below.refl _ _) _ (fun k hk => hk.elim)
  | false =>
    have hw := u32_wrap off
    have HC1 : Hid (Calls Try.prog 29 #[.pointer (some ⟨pb, 0, none⟩), .agg #[.int .u16 32, .int .u8 0, .int .u8 0, .int .u32 (u32N off : Int)]] (W.alloc (.cells #[.bool false, .int .u32 (word : Int), .int .i64 off, .int .u32 (mask : Int), .int .i64 op, .int .u32 (k : Int), .int .i64 t, .int .i64 f] 48)) fun e w' => e = .returned (.tuple #[]) ∧ PrgAt B w' pb (xs ++ [(32, 0, 0, u32N off)]) (fun k => k = W.heap.size) ∧ Below B (W.alloc (.cells #[.bool false, .int .u32 (word : Int), .int .i64 off, .int .u32 (mask : Int), .int .i64 op, .int .u32 (k : Int), .int .i64 t, .int .i64 f] 48)) w' ∧ ∀ k', k' = W.heap.size → w'.heap[k']? = (W.alloc (.cells #[.bool false, .int .u32 (word : Int), .int .i64 off, .int .u32 (mask : Int), .int .i64 op, .int .u32 (k : Int), .int .i64 t, .int .i64 f] 48)).heap[k']?) :=
      Lib.hid (p_lay H0.out (Nat.le_trans HL.out.2.2.2.2 HBB.out.size) (by omega) (32, 0, 0, u32N off))
    have HH : Hid (headN ⟨false, word, off, mask, op, k, t, f⟩ = if mask = 4294967295 then [(32, 0, 0, u32N off)] else [(32, 0, 0, u32N off), (84, 0, 0, mask)]) := Lib.hid rfl
    have HJ := Lib.hid (fun (V : World) (ys : List I4) (S' : Nat → Prop) (hV : LayAt B0 V b (some ⟨ab, ao, none⟩) n cap nd lb fb lg (firstN nd lg)) (hBV : B ≤ V.heap.size) (hpV : PrgAt B V pb ys S') (hy : ys.length ≤ 100000000) => p_layJump hV HL.out.2.2.1.le hi (by rw [HXX.out]; exact HW.out rfl) hBV hpV hy)
    generalize u32N off = uo at hw HC1 HH
    by_cases hk : mask = 4294967295
    · have hkb : ((mask : Int) != 4294967295) = false := by rw [hk]; rfl
      have HK := Lib.hid hk
      clear hk
      go_enter Try.func30, Try.ntmps30
      go_wp2_with (first
        | (go_at_call 54; (with_reducible refine (HJ.out w1 _ _ (HL.out.1.under H1.out.2.1 HL.out.2.2.2.1) (Nat.le_trans HL.out.2.2.2.2 H1.out.2.1.size) H1.out.1 (by simp only [List.length_append, List.length_cons, List.length_nil]; omega)).mono ?_); rintro e w3 ⟨rfl, hp3, hb3⟩; have H3 := Lib.hid (And.intro hp3 (H1.out.2.1.trans hb3)); clear hp3 hb3)
        | (go_at_call 29; (with_reducible refine HC1.out.mono ?_); rintro e w1 ⟨rfl, hp1, hb1, hk1⟩; have H1 : Hid (PrgAt B w1 pb (xs ++ [(32, 0, 0, uo)]) (fun k => k = W.heap.size) ∧ Below B W w1 ∧ w1.heap[W.heap.size]? = some (.cells #[.bool false, .int .u32 (word : Int), .int .i64 off, .int .u32 (mask : Int), .int .i64 op, .int .u32 (k : Int), .int .i64 t, .int .i64 f] 48)) := Lib.hid ⟨hp1, HBB.out.trans hb1, (hk1 _ rfl).trans HX.out⟩; clear hp1 hb1 hk1; have d3 := cellL H1.out.2.2 3 (v := .int .u32 (mask : Int)) rfl))
      go_end0
      refine ⟨rfl, ?_, H3.out.2⟩
      show PrgAt B w3 pb (xs ++ insN nd lg i) _
      have h9 := H3.out.1
      rw [HI.out, if_neg (by decide), HH.out, if_pos HK.out, ← List.append_assoc]
      exact h9
    · have hkb : ((mask : Int) != 4294967295) = true := by
        have : ((mask : Int) == 4294967295) = false := beq_false_of_ne (by omega)
        rw [bne, this]; rfl
      have HK := Lib.hid hk
      clear hk
      go_enter Try.func30, Try.ntmps30
      go_wp2_with (first
        | (go_at_call 54; (with_reducible refine (HJ.out w2 _ _ (HL.out.1.under H2.out.2.1 HL.out.2.2.2.1) (Nat.le_trans HL.out.2.2.2.2 H2.out.2.1.size) H2.out.1 (by simp only [List.length_append, List.length_cons, List.length_nil]; omega)).mono ?_); rintro e w3 ⟨rfl, hp3, hb3⟩; have H3 := Lib.hid (And.intro hp3 (H2.out.2.1.trans hb3)); clear hp3 hb3)
        | (go_at_call 29; (refine (p_lay H1.out.1 (Nat.le_trans HL.out.2.2.2.2 H1.out.2.1.size) (by simp only [List.length_append, List.length_cons, List.length_nil]; omega) (84, 0, 0, mask)).mono ?_); rintro e w2 ⟨rfl, hp2, hb2, hk2⟩; have H2 := Lib.hid (And.intro hp2 (And.intro (H1.out.2.1.trans hb2) trivial)); clear hp2 hb2 hk2)
        | (go_at_call 29; (with_reducible refine HC1.out.mono ?_); rintro e w1 ⟨rfl, hp1, hb1, hk1⟩; have H1 : Hid (PrgAt B w1 pb (xs ++ [(32, 0, 0, uo)]) (fun k => k = W.heap.size) ∧ Below B W w1 ∧ w1.heap[W.heap.size]? = some (.cells #[.bool false, .int .u32 (word : Int), .int .i64 off, .int .u32 (mask : Int), .int .i64 op, .int .u32 (k : Int), .int .i64 t, .int .i64 f] 48)) := Lib.hid ⟨hp1, HBB.out.trans hb1, (hk1 _ rfl).trans HX.out⟩; clear hp1 hb1 hk1; have d3 := cellL H1.out.2.2 3 (v := .int .u32 (mask : Int)) rfl))
      go_end0
      refine ⟨rfl, ?_, H3.out.2⟩
      show PrgAt B w3 pb (xs ++ insN nd lg i) _
      have h9 := H3.out.1
      rw [HI.out, if_neg (by decide), HH.out, if_neg HK.out]
      simp only [List.append_assoc, List.cons_append, List.nil_append, List.append_nil] at h9 ⊢
      exact h9
/-- make of a program's room. -/
theorem make_prog (c : Nat) (hc : c ≤ 100000) : ∃ O : Obj, (∀ w : World, (Instr.makeSlice 27 (.int .i64 0) (.int .i64 (c : Int))).run Try.prog w = .ok (.slice (some ⟨w.heap.size, 0, none⟩) 0 c) (w.alloc O)) ∧
    ∀ (w : World) (base : Nat), base ≤ w.heap.size → (w.alloc O).ownsRow base 50 4 (.slice (some ⟨w.heap.size, 0, none⟩) 0 c) 0 [] := by
  obtain ⟨i, hi, hz, hs, hb⟩ := info_parts6 info_insL
  have hbb : (i.bytes : Int) * (c : Int) ≤ 281474976710656 := by rw [hb]; omega
  refine ⟨_, fun w => run_make (P := Try.prog) w 27 50 i _ Try.underlying27 hi hz .i64 .i64 0 c (Int.le_refl _) (by omega) hbb (by omega), fun w base hB => ?_⟩
  obtain ⟨w', hr, ho, _⟩ := run_make_own (P := Try.prog) w base 27 50 i _ 4 Try.underlying27 hi hz hs .i64 .i64 c (by rw [hb]; omega) (by unfold maxLen; omega) hB
  rw [run_make (P := Try.prog) w 27 50 i _ Try.underlying27 hi hz .i64 .i64 0 c (Int.le_refl _) (by omega) hbb (by omega)] at hr
  injection hr with h1 h2
  rw [h2]; exact ho
set_option maxHeartbeats 4000000 in
set_option maxRecDepth 100000 in
theorem p_emit {W : World} {b : Nat} {A : Option Addr} {n cap : Nat} {nd : Nat → Nd} {lb fb : Nat} {lg : Ways} {B0 : Nat} (h : LayAt B0 W b A n cap nd lb fb lg (firstN nd lg)) (hv : ValN nd n) :
    Calls Try.prog 15 #[.pointer (some ⟨b, 0, none⟩)] W fun e w' => ∃ v, e = .returned v ∧ w'.ownsRow W.heap.size 50 4 v (emitN nd lg n).length (i4L (emitN nd lg n)) ∧ Below W.heap.size W w' := by
  have hn := hv.le
  have hfl := first_le nd lg n
  obtain ⟨O, hmk, hown⟩ := make_prog (firstN nd lg n) (by omega)
  have HS := Lib.hid (p_size h)
  have HU := Lib.hid (And.intro (under_is h) (And.intro h (And.intro hv hown)))
  clear h hv hown
  have hmf : ∀ (fn : Fn) (first cap : Array Value) (w : World), (Instr.makeFunc fn first cap).run Try.prog w = .ok (.func fn first cap) w := fun _ _ _ _ => rfl
  generalize hN : firstN nd lg n = N at HS HU hmk
  clear hN hfl
  go_enter Try.func15, Try.ntmps15
  go_wp2_with (go_at_call 14; (with_reducible refine HS.out.mono ?_); rintro e w1 ⟨rfl, hb1⟩; have hb2 : Below w1.heap.size w1 ((w1.alloc O).alloc (.cells #[.slice (some ⟨w1.heap.size, 0, none⟩) 0 N] 74)) := (lboxL w1 O).trans ((lboxL _ _).mono (by simp)); have H1 : Hid (PrgAt W.heap.size ((w1.alloc O).alloc (.cells #[.slice (some ⟨w1.heap.size, 0, none⟩) 0 N] 74)) (w1.heap.size + 1) [] (fun _ => False) ∧ Below W.heap.size W ((w1.alloc O).alloc (.cells #[.slice (some ⟨w1.heap.size, 0, none⟩) 0 N] 74))) := Lib.hid ⟨⟨_, _, by have q := World.alloc_heap_new (w1.alloc O) (.cells #[.slice (some ⟨w1.heap.size, 0, none⟩) 0 N] 74); simpa using q, own_below (HU.out.2.2.2 w1 W.heap.size hb1.size) (lboxL _ _), by have := hb1.size; omega, fun k hk => hk.elim⟩, hb1.trans (hb2.mono hb1.size)⟩; have m0 : ((w1.alloc O).alloc (.cells #[.slice (some ⟨w1.heap.size, 0, none⟩) 0 N] 74)).cell? ⟨b, 0, none⟩ = some (.slice A n cap) := (lay_box (HU.out.2.1.under H1.out.2 HU.out.1)).1; clear hb1 hb2)
  generalize ((w1.alloc O).alloc (.cells #[.slice (some ⟨w1.heap.size, 0, none⟩) 0 N] 74)) = Z at H1 m0 ⊢
  generalize w1.heap.size + 1 = pb at H1 ⊢
  clear HS hmk
  go_loopw [16] (fun i wr => ∃ k : Nat, k ≤ n ∧ i = .int .i64 (k : Int) ∧ PrgAt W.heap.size wr pb (emitN nd lg k) (fun _ => False) ∧ Below W.heap.size W wr) (fun i _ => n - (intOf i).toNat)
  case atStart => exact ⟨0, by omega, rfl, H1.out.1, H1.out.2⟩
  case round =>
    obtain ⟨k, hk, rfl, hp, hb⟩ := hrel
    have HR := Lib.hid (And.intro hp hb)
    clear hp hb m0
    by_cases hlt : k < n
    · have hlt' : (k : Int) < (n : Int) := by omega
      have hlen : (emitN nd lg k).length ≤ 10000000 := by
        rw [emit_len]
        have := first_le nd lg k
        omega
      have HLN := Lib.hid (p_layNode (HU.out.2.1.under HR.out.2 HU.out.1) HU.out.2.2.1 hlt HU.out.1 HR.out.2.size HR.out.1 hlen)
      go_wp2_with (go_at_call 30; (with_reducible refine HLN.out.mono ?_); rintro e w3 ⟨rfl, hp3, hb3⟩; have H3 := Lib.hid (And.intro hp3 (HR.out.2.trans hb3)); clear hp3 hb3)
      exact ⟨⟨k + 1, by omega, by go_num, H3.out.1, H3.out.2⟩, by simp [intOf]; omega⟩
    · obtain rfl : k = n := by omega
      obtain ⟨A9, c9, hbox, hown9, hpb9, _⟩ := HR.out.1
      have e0 := cellL hbox 0 (v := .slice A9 (emitN nd lg k).length c9) rfl
      have H9 := Lib.hid hown9
      clear hbox hown9 hpb9
      go_wp2
      go_ret
      exact ⟨_, rfl, H9.out, HR.out.2⟩
theorem own_lower {w : World} {B B' : Nat} {e : TypeId} {sz : Nat} {v : Value} {n : Nat} {xs : List Value} (h : w.ownsRow B e sz v n xs) (hB : B' ≤ B) : w.ownsRow B' e sz v n xs := by
  obtain ⟨h1, h⟩ := h
  refine ⟨h1, ?_⟩
  rcases h with h | ⟨g, c, cur, e1, e2, e3⟩
  · exact .inl h
  · exact .inr ⟨g, c, cur, e1, Nat.le_trans hB e2, e3⟩
theorem own_nil (w : World) (B : Nat) (e : TypeId) (sz : Nat) : w.ownsRow B e sz (.slice none 0 0) 0 [] := ⟨by simp, .inl ⟨rfl, rfl⟩⟩
set_option maxHeartbeats 1000000 in
set_option maxRecDepth 100000 in
theorem p_LEmit (w : World) (A : Option Addr) (n cap : Nat) (nd : Nat → Nd) (h : NdAt w A n nd) :
    Calls Try.prog 6 #[.slice A n cap] w fun e w' => ∃ v, e = .returned (.tuple #[v, .int .i64 (emitR nd n).2]) ∧ w'.ownsRow w.heap.size 50 4 v (emitR nd n).1.length (i4L (emitR nd n).1) ∧ Below w.heap.size w w' := by
  have HC := Lib.hid (p_DCheck w A n cap nd h)
  have HN := Lib.hid h
  clear h
  unfold emitR
  by_cases h0 : (chkN nd n).1 = 0
  · rw [if_pos h0]
    have HLO := Lib.hid (fun V hV => p_layOut (W := V) (A := A) (cap := cap) hV (chk_ok nd n h0))
    have HE := Lib.hid (fun (V : World) B0 b lb fb (hV : LayAt B0 V b A n cap nd lb fb (longN nd n) (firstN nd (longN nd n))) => p_emit hV (chk_ok nd n h0))
    rw [h0] at HC
    generalize (chkN nd n).2 = z at HC
    clear h0
    by_cases hl : 4096 < firstN nd (longN nd n) n
    · rw [if_pos hl]
      have hl' : (4096 : Int) < (firstN nd (longN nd n) n : Int) := by omega
      clear hl
      go_enter Try.func6, Try.ntmps6
      go_wp2_with (first
        | (go_at_call 14; (with_reducible refine (p_size H2.out.1).mono ?_); rintro e w3 ⟨rfl, hb3⟩; have H3 := Lib.hid (H2.out.2.trans (hb3.mono H2.out.2.size)); clear hb3)
        | (go_at_call 13; (with_reducible refine (HLO.out _ H1.out.2).mono ?_); rintro e w2 ⟨b, lb, fb, rfl, hl2, hb2⟩; have H2 := Lib.hid (And.intro hl2 (H1.out.1.trans (hb2.mono H1.out.1.size))); clear hl2 hb2)
        | (go_at_call 12; (with_reducible refine HC.out.mono ?_); rintro e w1 ⟨rfl, hb1⟩; have H1 := Lib.hid (And.intro hb1 (HN.out.below hb1)); clear hb1))
      go_ret2
      exact ⟨_, rfl, own_nil _ _ _ _, H3.out⟩
    · rw [if_neg hl]
      have hl' : ¬ (4096 : Int) < (firstN nd (longN nd n) n : Int) := by omega
      clear hl
      go_enter Try.func6, Try.ntmps6
      go_wp2_with (first
        | (go_at_call 15; (with_reducible refine (HE.out _ _ _ _ _ H3.out.1).mono ?_); rintro e w4 ⟨v, rfl, ho4, hb4⟩; have H4 := Lib.hid (And.intro (own_lower ho4 H3.out.2.size) (H3.out.2.trans (hb4.mono H3.out.2.size))); clear ho4 hb4)
        | (go_at_call 14; (with_reducible refine (p_size H2.out.1).mono ?_); rintro e w3 ⟨rfl, hb3⟩; have H3 := Lib.hid (And.intro (H2.out.1.below hb3) (H2.out.2.trans (hb3.mono H2.out.2.size))); clear hb3)
        | (go_at_call 13; (with_reducible refine (HLO.out _ H1.out.2).mono ?_); rintro e w2 ⟨b, lb, fb, rfl, hl2, hb2⟩; have H2 := Lib.hid (And.intro hl2 (H1.out.1.trans (hb2.mono H1.out.1.size))); clear hl2 hb2)
        | (go_at_call 12; (with_reducible refine HC.out.mono ?_); rintro e w1 ⟨rfl, hb1⟩; have H1 := Lib.hid (And.intro hb1 (HN.out.below hb1)); clear hb1))
      go_ret2
      exact ⟨_, rfl, H4.out.1, H4.out.2⟩
  · rw [if_neg h0]
    have h0b : ((chkN nd n).1 == 0) = false := beq_false_of_ne h0
    clear h0
    generalize (chkN nd n).1 = c at HC h0b ⊢
    generalize (chkN nd n).2 = z at HC
    go_enter Try.func6, Try.ntmps6
    go_wp2_with (go_at_call 12; (with_reducible refine HC.out.mono ?_); rintro e w1 ⟨rfl, hb1⟩; have H1 := Lib.hid hb1; clear hb1)
    go_ret2
    exact ⟨_, rfl, own_nil _ _ _ _, H1.out⟩
end Go.Proofs.Ytgpjiflgocgolaa
