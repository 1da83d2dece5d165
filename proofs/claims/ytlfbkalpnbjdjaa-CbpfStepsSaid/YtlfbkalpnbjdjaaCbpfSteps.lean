/-
  'CbpfSteps': for every program and all bytes, the law of layer 3 on a machine step by step returns true, and leaves memory as it was. No condition.
-/
import Derived.Test.YtlfbkalpnbjdjaaCbpfHead
import Derived.Test.YtlfbkalpnbjdjaaPState
import Derived.Test.YtlfbkalpnbjdjaaPArgs
import Derived.Test.YtlfbkalpnbjdjaaRowsSized
namespace Go.Proofs.Ytlfbkalpnbjdjaa.cbpfSteps
open Go Go.ChangeShapes Go.WideShapes Go.ChangeAt Go.RowKit
set_option linter.unusedSimpArgs false
set_option linter.unusedVariables false

theorem ans_going {s : Mach} (he : s.err = 0 ∧ s.ans = 0#32) : ansV s = .tuple #[.int .u32 0, .int .i64 (s.steps : Int), .int .i64 0, .int .i64 0] := by
  have ha : ansA s = 0 := by unfold ansA; rw [if_pos he.1, he.2]; rfl
  have hp : ansP s = 0 := by unfold ansP; rw [if_pos he.1]
  rw [ansV, ha, hp, he.1]
/-- The machines, both at the same place; what stood at the start stands. -/
abbrev Two (w W : World) (b : Nat) (qa : Option Addr) (n qcap : Nat) (q : Nat → Ins) (da : Option Addr) (dlen dcap : Nat) (z : Nat → Int) (mb : Nat) (yb : Nat) (a0 : Option Addr) (cap0 : Nat) (a1 : Option Addr) (cap1 : Nat) (s : Mach) : Prop :=
  PReady W b qa n qcap q da dlen dcap z mb s ∧ Ready W yb a0 n cap0 q a1 dlen cap1 z s ∧ Below w.heap.size w W
theorem two_below {w W W' : World} {b : Nat} {qa : Option Addr} {n qcap : Nat} {q : Nat → Ins} {da : Option Addr} {dlen dcap : Nat} {z : Nat → Int} {mb : Nat} {yb : Nat} {a0 : Option Addr} {cap0 : Nat} {a1 : Option Addr} {cap1 : Nat} {s : Mach} (h : Two w W b qa n qcap q da dlen dcap z mb yb a0 cap0 a1 cap1 s) (hb : Below W.heap.size W W') :
    Two w W' b qa n qcap q da dlen dcap z mb yb a0 cap0 a1 cap1 s := ⟨h.1.below hb, h.2.1.below hb, h.2.2.trans (hb.mono h.2.2.size)⟩
/-- Which blocks a write must not meet. -/
abbrev Far (w : World) (b mb yb : Nat) (qa da a0 a1 : Option Addr) (n dlen g : Nat) : Prop :=
  b ≠ g ∧ mb ≠ g ∧ (∀ ad, 0 < n → qa = some ad → ad.block ≠ g) ∧ (∀ ad, dlen = 64 → da = some ad → ad.block ≠ g) ∧ yb ≠ g ∧ (∀ ad, 0 < n → a0 = some ad → ad.block ≠ g) ∧ (∀ ad, dlen = 64 → a1 = some ad → ad.block ≠ g) ∧ w.heap.size ≤ g
theorem two_keep {w W W' : World} {b : Nat} {qa : Option Addr} {n qcap : Nat} {q : Nat → Ins} {da : Option Addr} {dlen dcap : Nat} {z : Nat → Int} {mb : Nat} {yb : Nat} {a0 : Option Addr} {cap0 : Nat} {a1 : Option Addr} {cap1 g : Nat} {s : Mach} (h : Two w W b qa n qcap q da dlen dcap z mb yb a0 cap0 a1 cap1 s) (hg : W.grownBy W' (some g)) (hf : Far w b mb yb qa da a0 a1 n dlen g) :
    Two w W' b qa n qcap q da dlen dcap z mb yb a0 cap0 a1 cap1 s :=
  ⟨h.1.keep hg hf.1 hf.2.1 hf.2.2.1 hf.2.2.2.1, h.2.1.keep hg hf.2.2.2.2.1 hf.2.2.2.2.2.1 hf.2.2.2.2.2.2.1, below_grown h.2.2 hg hf.2.2.2.2.2.2.2 (Nat.le_refl _)⟩
/-- A block that has just been made meets none. -/
theorem far_new {w W : World} {b : Nat} {qa : Option Addr} {n qcap : Nat} {q : Nat → Ins} {da : Option Addr} {dlen dcap : Nat} {z : Nat → Int} {mb : Nat} {yb : Nat} {a0 : Option Addr} {cap0 : Nat} {a1 : Option Addr} {cap1 g : Nat} {s : Mach} (h : Two w W b qa n qcap q da dlen dcap z mb yb a0 cap0 a1 cap1 s) (hg : W.heap.size ≤ g) : Far w b mb yb qa da a0 a1 n dlen g :=
  ⟨Nat.ne_of_lt (Nat.lt_of_lt_of_le (World.rowIs.lt h.1.mach) hg), Nat.ne_of_lt (Nat.lt_of_lt_of_le h.1.ops.lt hg), fun ad hn e => by
    obtain ⟨qb, qo, e', hl, _⟩ := h.1.prog hn
    rw [e] at e'; injection e' with e'; subst e'; show qb ≠ g; omega, fun ad h64 e => by
    obtain ⟨db, doff, e', hl, _⟩ := h.1.data h64
    rw [e] at e'; injection e' with e'; subst e'; show db ≠ g; omega, Nat.ne_of_lt (Nat.lt_of_lt_of_le (World.rowIs.lt h.2.1.mach) hg), fun ad hn e => by
    obtain ⟨qb, qo, e', hl, _⟩ := h.2.1.prog hn
    rw [e] at e'; injection e' with e'; subst e'; show qb ≠ g; omega, fun ad h64 e => by
    obtain ⟨db, doff, e', hl, _⟩ := h.2.1.data h64
    rw [e] at e'; injection e' with e'; subst e'; show db ≠ g; omega, Nat.le_trans h.2.2.size hg⟩
theorem far_prog {w : World} {a : Option Addr} {n B : Nat} {q : Nat → Ins} (h : ProgAt w a n q) (hB : w.heap.size ≤ B) : ∀ ad, 0 < n → a = some ad → ad.block ≠ B := fun ad hn e => by
  obtain ⟨qb, qo, e', hl, _⟩ := h hn
  rw [e] at e'; injection e' with e'; subst e'; show qb ≠ B; omega
theorem far_data {w : World} {a : Option Addr} {n B : Nat} {f : Nat → Value} (h : Holds w a n f) (hB : w.heap.size ≤ B) : ∀ ad, n = 64 → a = some ad → ad.block ≠ B := fun ad hn e => by
  obtain ⟨qb, qo, e', hl, _⟩ := h (by omega)
  rw [e] at e'; injection e' with e'; subst e'; show qb ≠ B; omega

set_option maxRecDepth 100000 in
set_option maxHeartbeats 20000000 in
theorem walk (a0 : Option Addr) (len0 cap0 : Nat) (a1 : Option Addr) (len1 cap1 : Nat) (z1 : List Int) (many : Int) (w : World) (w0 : RowsOf [.u16, .u8, .u8, .u32] w a0 len0) (s0 : len0 * 8 ≤ 140737488351232) (w1 : IsRow .u8 w a1 len1 cap1 z1 ∧ cap1 * 1 ≤ 140737488351232) (wm : (Lit.int .i64 many).wf = true) :
    Calls Try.prog 6 #[.slice a0 len0 cap0, .slice a1 len1 cap1, .int .i64 many] w fun e w' => e = .returned (.bool true) ∧ Below w.heap.size w w' := by
  obtain ⟨q, hL, hP⟩ := plies_of_args w0 s0 w1.1 w1.2
  clear w0 w1 wm
  have HL := Lib.hid (And.intro hL hP)
  have hl1 := hP.dlen
  have hn0 : len0 ≤ 140737488351232 := by omega
  clear hL hP
  generalize (fun i => z1.getD i 0) = z at HL
  go_enter Try.func6, Try.ntmps6
  go_wp2_with (first
    | (go_at_call 10; (with_reducible refine (head_is _).mono ?_); rintro e w1 ⟨rfl, hb⟩; have HB1 := Lib.hid hb; have HL1 := Lib.hid (And.intro (HL.out.1.below hb) (HL.out.2.below hb)); clear hb)
    | (go_at_call 11; (with_reducible refine (lent_is _ _ _ _ q s0 HL1.out.2.prog).mono ?_); rintro e w2 ⟨gx, capx, rfl, hlent⟩; obtain ⟨F, hr, hc, hm, hF, h77, hb, hge⟩ := hlent; have HX2 := Lib.hid (And.intro hr (prog_of_row hr hF (by omega))); have hxw : w.heap.size ≤ gx := Nat.le_trans HB1.out.size hge; have HL2 := Lib.hid (And.intro (HL1.out.1.below hb) (HL1.out.2.below hb)); have HB2 := Lib.hid (HB1.out.trans (hb.mono HB1.out.size)); have HS2 := Lib.hid ((HL2.out.2.data).below (box_below w2 (.cells #[] 5))); clear hr hF h77 hb HL1 HB1 hge hm)
    | (at_builtin; refine wpList_append_row _ rfl (.tmp 31) (.tmp 32) 25 rfl 5 (.int .u8 0) 1 Try.underlying25 rfl rfl w2.heap.size 0 0 (fun _ => undef) rfl (World.rowIs_alloc w2 #[] 5 (fun _ => undef) (fun i hi => absurd hi (by simp))) (Nat.le_refl _) (by decide) a1 len1 cap1 (fun i => .int .u8 (z i)) rfl HS2.out (fun _ => rfl) (by unfold maxLen; omega) (by omega) ?_; intro g1 cap2 F1 w3 hr1 hc1 hm1 _ hF1 hg1 hgg1; simp only [Nat.zero_add] at hc1 hF1; obtain ⟨hb1, hge1⟩ := append_new_below hg1 hgg1; have hxg : gx < g1 := Nat.lt_of_lt_of_le (World.rowIs.lt HX2.out.1) hge1; have HL3 := Lib.hid (And.intro (HL2.out.1.below hb1) (HL2.out.2.below hb1)); have HX3 := Lib.hid (rowIs_below HX2.out.1 hb1 (World.rowIs.lt HX2.out.1)); have HG3 := Lib.hid hr1; have HF3 := Lib.hid hF1; have HB3 := Lib.hid (HB2.out.trans (hb1.mono HB2.out.size)); have HP3 := Lib.hid (show PLies w3 (some ⟨gx, 0, none⟩) len0 q (some ⟨g1, 0, none⟩) len1 z from ⟨HX2.out.2.below hb1, (holds_of_row hr1 (by omega)).congr hF1, HL2.out.2.bytes, s0, hl1, HL2.out.2.ok⟩); clear hg1 hgg1 hF1 hr1 hb1 HL2 HX2 HB2 HS2 hm1 hge1)
    | (go_at_call 20; (with_reducible refine (cbpf_NewQ _ _ _ _ q _ _ _ z HP3.out).mono ?_); rintro e w4 ⟨b, qa1, qcap1, da1, dcap1, mb, rfl, hr, hb, hbb, hmb, hnq, hnd⟩; have hg3 := World.rowIs.lt HG3.out; have HR4 := Lib.hid hr; have HL4 := Lib.hid (And.intro (HL3.out.1.below hb) (HL3.out.2.below hb)); have HX4 := Lib.hid (rowIs_below HX3.out hb (World.rowIs.lt HX3.out)); have HG4 := Lib.hid (rowIs_below HG3.out hb hg3); have HB4 := Lib.hid (HB3.out.trans (hb.mono HB3.out.size)); have HN4 := Lib.hid (And.intro hnq hnd); have hs34 := hb.size; have HB3s := HB3.out.size; clear hr hb hnq hnd HP3 HL3 HX3 HG3 HB3)
    | (go_at_call 21; (with_reducible refine (ref_New _ _ _ _ _ _ _).mono ?_); rintro e w5 ⟨rfl, hm, hb⟩; have HFY : Hid (b ≠ w4.heap.size ∧ mb ≠ w4.heap.size ∧ (∀ ad, 0 < len0 → qa1 = some ad → ad.block ≠ w4.heap.size) ∧ (∀ ad, len1 = 64 → da1 = some ad → ad.block ≠ w4.heap.size)) := Lib.hid ⟨Nat.ne_of_lt (World.rowIs.lt HR4.out.mach), Nat.ne_of_lt HR4.out.ops.lt, far_prog HR4.out.prog (Nat.le_refl _), fun ad h64 e => (by obtain ⟨db, doff, e', hl, _⟩ := HR4.out.data h64; rw [e] at e'; injection e' with e'; subst e'; exact Nat.ne_of_lt hl)⟩; have HT5 := Lib.hid (show Two w w5 b qa1 len0 qcap1 q da1 len1 dcap1 z mb w4.heap.size a0 cap0 a1 cap1 (iterS q len0 len1 (wordZ z) 0) from ⟨HR4.out.below hb, HL4.out.1.ready hb hm, HB4.out.trans (hb.mono HB4.out.size)⟩); have HX5 := Lib.hid (rowIs_below HX4.out hb (World.rowIs.lt HX4.out)); have HG5 := Lib.hid (rowIs_below HG4.out hb (World.rowIs.lt HG4.out)); clear hm hb HR4 HL4 HX4 HG4 HB4))
  have HFX : Hid (Far w b mb w4.heap.size qa1 da1 a0 a1 len0 len1 gx) := Lib.hid ⟨by omega, by omega, fun ad _ e => by have := HN4.out.1 ad e; omega, fun ad _ e => by have := HN4.out.2 ad e; omega, by omega, far_prog HL.out.2.prog hxw, far_data HL.out.2.data hxw, hxw⟩
  have HFG : Hid (Far w b mb w4.heap.size qa1 da1 a0 a1 len0 len1 g1) := Lib.hid ⟨by omega, by omega, fun ad _ e => by have := HN4.out.1 ad e; omega, fun ad _ e => by have := HN4.out.2 ad e; omega, by omega, far_prog HL.out.2.prog (by omega), far_data HL.out.2.data (by omega), by omega⟩
  have hyb : b ≠ w4.heap.size := HFY.out.1
  have hbw : w.heap.size ≤ b := by have := HB3s; omega
  have hyw : w.heap.size ≤ w4.heap.size := by omega
  have HAB := Lib.hid (And.intro (far_prog HL.out.2.prog hbw) (far_data HL.out.2.data hbw))
  generalize w4.heap.size = yb at *
  clear HN4 hbb hmb hs34 hg3 HB3s
  go_loopw [12] (fun i wr => ∃ k : Nat, k ≤ len0 ∧ i = .int .i64 (k : Int) ∧ w5.grownBy wr (some gx) ∧ ∃ G, wr.rowIs gx 43 (capx * 4) G) (fun i _ => len0 - (intOf i).toNat)
  case atStart => exact ⟨0, by omega, rfl, World.grownBy.refl w5 _, _, HX5.out⟩
  case round =>
    obtain ⟨k, hk, rfl, hg, G, hr⟩ := hrel
    have HG := Lib.hid hg
    have HR := Lib.hid hr
    by_cases hlt : k < len0
    · have c0 := hr.cell (i := k * 4) (by omega)
      have z0 := hr.frozen (k * 4)
      have hlt' : (k : Int) < (len0 : Int) := by omega
      have hw1 : IntKind.i64.wrap ((k : Int) + 1) = (k : Int) + 1 := IntWalk.i64_in _ (by omega)
      clear hg hr
      go_wp2
      go_roundw
      case rel => exact ⟨k + 1, by omega, by go_num, grown_set HG.out _ _, _, HR.out.set (k * 4) _⟩
      case measure => simp [intOf]; omega
    · obtain rfl : k = len0 := by omega
      have HT6 := Lib.hid (two_keep HT5.out HG.out HFX.out)
      have HG6 := Lib.hid (rowIs_grown HG5.out HG.out (fun e => by injection e with e; omega))
      clear hr hg HG HR HT5 HX5 HG5
      go_wp2
      go_loopw [13] (fun i ws => ∃ j : Nat, j ≤ len1 ∧ i = .int .i64 (j : Int) ∧ wr.grownBy ws (some g1) ∧ ∃ G, ws.rowIs g1 5 cap2 G ∧ ∀ t, j ≤ t → t < len1 → G t = .int .u8 (z t)) (fun i _ => len1 - (intOf i).toNat)
      case atStart => exact ⟨0, by omega, rfl, World.grownBy.refl wr _, _, HG6.out, fun t _ ht => HF3.out t ht⟩
      case round =>
        obtain ⟨j, hj, rfl, hg, G2, hr, hG⟩ := hrel
        have HG := Lib.hid hg
        have HR := Lib.hid hr
        have HGG := Lib.hid hG
        by_cases hlj : j < len1
        · have c0 := (hr.cell (i := j) (by omega)).trans (congrArg some (hG j (Nat.le_refl _) hlj))
          have z0 := hr.frozen j
          have hlt' : (j : Int) < (len1 : Int) := by omega
          have hw1 : IntKind.i64.wrap ((j : Int) + 1) = (j : Int) + 1 := IntWalk.i64_in _ (by omega)
          clear hg hr hG
          go_wp2
          go_roundw
          case rel => exact ⟨j + 1, by omega, by go_num, grown_set HG.out j _, _, HR.out.set j _, fun t h1 h2 => (if_neg (by omega)).trans (HGG.out t (by omega) h2)⟩
          case measure => simp [intOf]; omega
        · obtain rfl : j = len1 := by omega
          have HT7 := Lib.hid (two_keep HT6.out HG.out HFG.out)
          clear hr hg hG HG HR HGG HT6 HG6
          have hwn : IntKind.i64.wrap ((k : Int) + 1) = (k : Int) + 1 := IntWalk.i64_in _ (by omega)
          go_wp2
          go_loopw [14] (fun i wt => ∃ t : Nat, t ≤ k + 2 ∧ i = .int .i64 (t : Int) ∧ Two w wt b qa1 k qcap1 q da1 j dcap1 z mb yb a0 cap0 a1 cap1 (iterS q k j (wordZ z) t)) (fun i _ => k + 2 - (intOf i).toNat)
          case atStart => exact ⟨0, by omega, rfl, HT7.out⟩
          case round =>
            obtain ⟨t, ht, rfl, hT⟩ := hrel
            clear HT7
            by_cases hlt : t ≤ k + 1
            · have hlt' : (t : Int) ≤ (k : Int) + 1 := by omega
              have hw1 : IntKind.i64.wrap ((t : Int) + 1) = (t : Int) + 1 := IntWalk.i64_in _ (by omega)
              have hst := iter_steps q k j (wordZ z) t
              have hfr := iter_fresh q k j (wordZ z) t
              have hnx : iterS q k j (wordZ z) (t + 1) = (iterS q k j (wordZ z) t).step q k j (wordZ z) := rfl
              generalize iterS q k j (wordZ z) t = s at hT hst hfr hnx
              have hss := step_steps q k j (wordZ z) s
              have HT := Lib.hid hT
              have HNX := Lib.hid (And.intro hnx (And.intro hst hss))
              have HFR := Lib.hid hfr
              clear hT hst hfr hnx hss
              go_wp2_with (go_at_call 22; (with_reducible refine (cbpf_State _ _ _ _ _ s HT.out.1.mach).mono ?_); rintro e w8 ⟨gl, capl, G3, rfl, hr3, hc3, hG3, hb3, hge3⟩; have HT8 := Lib.hid (two_below HT.out hb3); have HFL := Lib.hid (far_new HT.out hge3); have HR8 := Lib.hid hr3; have HG8 := Lib.hid hG3; have c2 : w8.cell? ⟨yb, 2, none⟩ = some (.int .u32 (s.a.toNat : Int)) := World.rowIs.cell HT8.out.2.1.mach (i := 2) (by decide); have c3 : w8.cell? ⟨yb, 3, none⟩ = some (.int .u32 (s.x.toNat : Int)) := World.rowIs.cell HT8.out.2.1.mach (i := 3) (by decide); have c20 : w8.cell? ⟨yb, 20, none⟩ = some (.int .i64 (s.place : Int)) := World.rowIs.cell HT8.out.2.1.mach (i := 20) (by decide); clear hr3 hG3 hb3 hge3 HT)
              clear c2 c3 c20
              go_loopw [19] (fun i wv => ∃ u : Nat, u ≤ 16 ∧ i = .int .i64 (u : Int) ∧ w8.grownBy wv (some gl) ∧ ∃ G, wv.rowIs gl 33 capl G ∧ ∀ y, u ≤ y → y < 16 → G y = .int .u32 ((s.m y).toNat : Int)) (fun i _ => 16 - (intOf i).toNat)
              case atStart => exact ⟨0, by omega, rfl, World.grownBy.refl w8 _, _, HR8.out, fun y _ hy => HG8.out y hy⟩
              case round =>
                obtain ⟨u, hu, rfl, hg, G4, hr, hG⟩ := hrel
                have HG := Lib.hid hg
                have HR := Lib.hid hr
                have HGG := Lib.hid hG
                by_cases hlu : u < 16
                · have d0 := (hr.cell (i := u) (by omega)).trans (congrArg some (hG u (Nat.le_refl _) hlu))
                  have z0 := hr.frozen u
                  have d1 := (World.rowIs.cell (HT8.out.2.1.mach.grown hg HFL.out.2.2.2.2.1) (i := 4 + u) (by omega)).trans (congrArg some (machV_m _ _ s u hlu))
                  have hlu' : (u : Int) < 16 := by omega
                  have hw2 : IntKind.i64.wrap ((u : Int) + 1) = (u : Int) + 1 := IntWalk.i64_in _ (by omega)
                  clear hg hr hG
                  go_wp2
                  go_quiet (fail)
                  go_wp2
                  go_roundw
                  case rel => exact ⟨u + 1, by omega, by go_num, grown_set (grown_drawn HG.out nq) u _, _, (rowIs_drawn HR.out nq).set u _, fun y h1 h2 => (if_neg (by omega)).trans (HGG.out y (by omega) h2)⟩
                  case measure => simp [intOf]; omega
                · obtain rfl : u = 16 := by omega
                  have HT9 := Lib.hid (two_keep HT8.out HG.out HFL.out)
                  clear hr hg hG HG HR HGG HT8 HR8 HG8 HFL
                  rcases hd : s.done with _ | _
                  · have HD := Lib.hid hd
                    have HAV := Lib.hid (ans_going (HFR.out hd))
                    have c22 := (World.rowIs.cell HT9.out.2.1.mach (i := 22) (by decide)).trans (show some (Value.bool s.done) = some (Value.bool false) by rw [hd])
                    have HA1 := Lib.hid (HAV.out ▸ cbpf_Answer _ _ _ _ _ s HT9.out.1.mach)
                    have HA2 := Lib.hid (fun W (h : MachAt W yb (.slice a0 k cap0) (.slice a1 j cap1) s) => HAV.out ▸ ref_Answer W yb _ _ s h)
                    clear hd
                    go_wp2_with (first
                      | (go_at_call 23; (with_reducible refine HA1.out.mono ?_); rintro e w10 ⟨rfl, m1, rfl⟩; have HT10 := Lib.hid (two_below HT9.out (below_drawn (Below.refl _ _) m1)))
                      | (go_at_call 24; (with_reducible refine (HA2.out _ HT10.out.2.1.mach).mono ?_); rintro e w11 ⟨rfl, m2, rfl⟩; have HT11 := Lib.hid (two_below HT9.out (below_drawn (Below.refl _ _) (m1 + m2))))
                      | (go_at_call 25; (with_reducible refine (p_Step _ _ _ _ _ _ _ _ _ _ _ _ HT11.out.1).mono ?_); rintro e w12 ⟨rfl, hm12, hg12⟩; have HP12 := Lib.hid (HT11.out.1.after hm12 hg12 (by have := HNX.out.2; omega)); have HQ12 := Lib.hid (HT11.out.2.1.keep hg12 hyb.symm HAB.out.1 HAB.out.2); have HB12 := Lib.hid (below_grown HT11.out.2.2 hg12 hbw (Nat.le_refl _)); clear hm12 hg12)
                      | (go_at_call 26; (with_reducible refine (ref_Step _ _ _ _ _ _ _ _ _ _ _ HQ12.out).mono ?_); rintro e w13 ⟨rfl, hm13, hg13⟩; have HQ13 := Lib.hid (HQ12.out.after hm13 hg13 (by have := HNX.out.2; omega)); have HP13 := Lib.hid (HP12.out.keep hg13 HFY.out.1 HFY.out.2.1 HFY.out.2.2.1 HFY.out.2.2.2); have HB13 := Lib.hid (below_grown HB12.out hg13 hyw (Nat.le_refl _)); clear hm13 hg13))
                    go_roundw
                    case rel => exact ⟨t + 1, by omega, by go_num, by rw [HNX.out.1]; exact ⟨HP13.out, HQ13.out, HB13.out⟩⟩
                    case measure => simp [intOf]; omega
                  · have HD := Lib.hid hd
                    have c22 := (World.rowIs.cell HT9.out.2.1.mach (i := 22) (by decide)).trans (show some (Value.bool s.done) = some (Value.bool true) by rw [hd])
                    have HA1 := Lib.hid (cbpf_Answer _ _ _ _ _ s HT9.out.1.mach)
                    have HA2 := Lib.hid (fun W (h : MachAt W yb (.slice a0 k cap0) (.slice a1 j cap1) s) => ref_Answer W yb _ _ s h)
                    clear hd
                    go_wp2_with (first
                      | (go_at_call 23; (with_reducible refine HA1.out.mono ?_); rintro e w10 ⟨rfl, m1, rfl⟩; have HT10 := Lib.hid (two_below HT9.out (below_drawn (Below.refl _ _) m1)))
                      | (go_at_call 24; (with_reducible refine (HA2.out _ HT10.out.2.1.mach).mono ?_); rintro e w11 ⟨rfl, m2, rfl⟩; have HT11 := Lib.hid (two_below HT9.out (below_drawn (Below.refl _ _) (m1 + m2))))
                      | (go_at_call 25; (with_reducible refine (p_Step _ _ _ _ _ _ _ _ _ _ _ _ HT11.out.1).mono ?_); rintro e w12 ⟨rfl, hm12, hg12⟩; have HP12 := Lib.hid (HT11.out.1.after hm12 hg12 (by have := HNX.out.2; omega)); have HQ12 := Lib.hid (HT11.out.2.1.keep hg12 hyb.symm HAB.out.1 HAB.out.2); have HB12 := Lib.hid (below_grown HT11.out.2.2 hg12 hbw (Nat.le_refl _)); clear hm12 hg12)
                      | (go_at_call 26; (with_reducible refine (ref_Step _ _ _ _ _ _ _ _ _ _ _ HQ12.out).mono ?_); rintro e w13 ⟨rfl, hm13, hg13⟩; have HQ13 := Lib.hid (HQ12.out.after hm13 hg13 (by have := HNX.out.2; omega)); have HP13 := Lib.hid (HP12.out.keep hg13 HFY.out.1 HFY.out.2.1 HFY.out.2.2.1 HFY.out.2.2.2); have HB13 := Lib.hid (below_grown HB12.out hg13 hyw (Nat.le_refl _)); clear hm13 hg13))
                    go_roundw
                    case rel => exact ⟨t + 1, by omega, by go_num, by rw [HNX.out.1]; exact ⟨HP13.out, HQ13.out, HB13.out⟩⟩
                    case measure => simp [intOf]; omega
            · obtain rfl : t = k + 2 := by omega
              have HT := Lib.hid hT
              clear hT
              go_wp2
              go_ret
              exact ⟨rfl, HT.out.2.2⟩

/-! ### The row's step and the statement -/
set_option maxRecDepth 100000 in
theorem lifted (os : Os) (started : os.Started) (H : Type) (enc : TypeId × Value → H) :
    ReturnsInHanded {} Try.checked os 6 .any (Rows.cbpfStepsSpec.pre6 enc Try.prog Try.f6 Rows.cbpfStepsRow.domain false) (Rows.cbpfStepsSpec.post enc Try.prog Try.f6 false true false false) := by
  refine returnsInHanded_of_change_sized (C := Try.checked) own started (by kernel_rfl) Try.func6
    (ChangeSpec.witness6 (enc := enc) (C := Try.checked) false ⟨#[], #[.slice none 0 0, .slice none 0 0, .int .i64 0], []⟩ 8 (by kernel_rfl) (by kernel_rfl) (by kernel_rfl) (by kernel_rfl)) ?_
  intro W base args ds gs before hval0 hW hcnd hsz0 _
  have hsz : (DataW.weightsEach Try.prog (Try.f6.params.toList ++ Rows.cbpfStepsSpec.plain.varTypes Try.prog) (ds ++ gs)).all (· ≤ reachBytes) = true := hsz0
  clear hsz0
  have hval : ∀ (j : Nat) t v, Try.f6.params[j]? = some t → args[j]? = some v → Value.okWide Try.prog W .any base t v := hval0
  have hW' := hW
  obtain ⟨p, q, hA0, hV, rfl, hfz, hnd⟩ := hW
  have hA : DataW.TrodAll enc Try.prog W 0 (fun _ => true) true Try.f6.params.toList args.toList ds p := hA0
  rw [Try.params6] at hA hval hsz
  obtain ⟨v0, vs0, d0, ds0, p0, q0, hargs, rfl, rfl, h0, r0⟩ := trodAll_cons hA
  obtain ⟨v1, vs1, d1, ds1, p1, q1, rfl, rfl, rfl, h1, r1⟩ := trodAll_cons r0
  obtain ⟨v2, vs2, d2, ds2, p2, q2, rfl, rfl, rfl, h2, r2⟩ := trodAll_cons r1
  obtain ⟨rfl, rfl, rfl⟩ := trodAll_nil r2
  obtain rfl : args = #[v0, v1, v2] := by cases args; simp_all
  obtain ⟨rfl, rfl⟩ := trodVars_none hV
  obtain ⟨a0, len0, cap0, rfl⟩ := okWide_slice Try.underlying22 (hval 0 22 v0 rfl rfl)
  have k0 := h0
  have lt0 : ∀ x ∈ p0, x.block < W.heap.size := by obtain ⟨m, hm⟩ := k0; exact DataW.trod_lt m _ _ _ hm
  have w0 : RowsOf [.u16, .u8, .u8, .u32] W a0 len0 := by
    obtain ⟨fuel, hf⟩ := h0
    rcases rows_fields Try.underlying22 Try.underlying43 (by kernel_rfl) (by kernel_rfl) hf with hcs | ⟨x, l, c, hcs, hl, hm, hi⟩
    · simp [Value.cells] at hcs
      obtain ⟨rfl, rfl, rfl⟩ := hcs
      exact .inl ⟨rfl, rfl⟩
    · simp [Value.cells] at hcs
      obtain ⟨rfl, rfl, rfl⟩ := hcs
      refine .inr ⟨_, rfl, Nat.le_trans hl hm, fun i hil j K hK => ?_⟩
      match j, hK with
      | 0, hK =>
        obtain ⟨v, y, n, hc, ht⟩ := hi i hil 0 _ rfl
        obtain ⟨z, e, _, wz⟩ := DataW.trod_int Try.underlying41 ht
        simp only [List.cons.injEq, and_true] at e; subst e
        obtain rfl := Option.some.inj hK
        exact ⟨z, hc, wz⟩
      | 1, hK =>
        obtain ⟨v, y, n, hc, ht⟩ := hi i hil 1 _ rfl
        obtain ⟨z, e, _, wz⟩ := DataW.trod_int Try.underlying5 ht
        simp only [List.cons.injEq, and_true] at e; subst e
        obtain rfl := Option.some.inj hK
        exact ⟨z, hc, wz⟩
      | 2, hK =>
        obtain ⟨v, y, n, hc, ht⟩ := hi i hil 2 _ rfl
        obtain ⟨z, e, _, wz⟩ := DataW.trod_int Try.underlying5 ht
        simp only [List.cons.injEq, and_true] at e; subst e
        obtain rfl := Option.some.inj hK
        exact ⟨z, hc, wz⟩
      | 3, hK =>
        obtain ⟨v, y, n, hc, ht⟩ := hi i hil 3 _ rfl
        obtain ⟨z, e, _, wz⟩ := DataW.trod_int Try.underlying33 ht
        simp only [List.cons.injEq, and_true] at e; subst e
        obtain rfl := Option.some.inj hK
        exact ⟨z, hc, wz⟩
      | _ + 4, hK => exact absurd hK (by simp)
  have s0 : len0 * 8 ≤ 140737488351232 := by
    obtain ⟨fuel, hf⟩ := h0
    rcases rows_sized Try.underlying22 hf with hcs | ⟨x, l, c, elems, rest, hcs, hd, hle⟩
    · simp [Value.cells] at hcs
      obtain ⟨rfl, rfl, rfl⟩ := hcs
      omega
    · simp [Value.cells] at hcs
      obtain ⟨rfl, rfl, rfl⟩ := hcs
      have hr := sized_slice hsz (j := 0) (t := 22) (e := 43) rfl (congrArg some hd) Try.underlying22
      rw [show Try.prog.bytesOf 43 = 8 by kernel_rfl] at hr
      simp only [reachBytes] at hr
      have := Nat.mul_le_mul_right 8 hle
      omega
  obtain ⟨a1, len1, cap1, rfl⟩ := okWide_slice Try.underlying25 (hval 1 25 v1 rfl rfl)
  have k1 := h1
  have lt1 : ∀ x ∈ p1, x.block < W.heap.size := by obtain ⟨m, hm⟩ := k1; exact DataW.trod_lt m _ _ _ hm
  obtain ⟨z1, w1⟩ : ∃ zs, IsRow .u8 W a1 len1 cap1 zs ∧ cap1 * 1 ≤ 140737488351232 := by
    obtain ⟨fuel, hf⟩ := h1
    rcases open_ints Try.underlying25 Try.underlying5 (by kernel_rfl) hf with ⟨hcs, _⟩ | ⟨x, l, c, zs, hcs, _, hl, hm, hz, hx, hcell, hwz⟩
    · simp [Value.cells] at hcs
      obtain ⟨rfl, rfl, rfl⟩ := hcs
      exact ⟨[], ⟨.inl ⟨rfl, rfl, rfl, rfl⟩, by omega⟩⟩
    · simp [Value.cells] at hcs
      obtain ⟨rfl, rfl, rfl⟩ := hcs
      have hd : d1 = _ := congrArg Prod.fst hx
      have hr := sized_slice hsz (j := 1) (t := 25) (e := 5) rfl (congrArg some hd) Try.underlying25
      rw [show Try.prog.bytesOf 5 = 1 by kernel_rfl] at hr
      simp only [lits, List.length_map, List.length_take, List.length_drop, reachBytes] at hr
      have hzl : zs.length = _ := hz
      simp only [if_true] at hzl
      exact ⟨zs, ⟨.inr ⟨_, rfl, hl, hm, by simpa using hz, hcell, hwz⟩, by omega⟩⟩
  obtain ⟨a2, rfl, rfl, rfl, w2⟩ := open_int Try.underlying3 (hval 2 3 v2 rfl rfl) h2
  clear hA0 hval0
  refine (walk a0 len0 cap0 a1 len1 cap1 z1 a2 W w0 s0 w1 w2).mono fun e W' ⟨he, bel⟩ => ?_
  subst he
  exact ⟨_, rfl, _, _, _, [], _, [], hW', trodAll_mk1 (shut_bool Try.underlying4 _), (trodAll_cons_mk (Below.trod laidOut (by kernel_rfl) (of_decide_eq_true (by kernel_rfl)) k0 bel lt0) (trodAll_cons_mk (Below.trod laidOut (by kernel_rfl) (of_decide_eq_true (by kernel_rfl)) k1 bel lt1) (trodAll_cons_mk (shut_int Try.underlying3 w2) trodAll_mk0))), rfl, bel.frame _, fun h => by cases h⟩

theorem over : Rows.cbpfStepsRow.holds Try.pinned (OpenSpec.ofChange Rows.cbpfStepsSpec) :=
  OpenClaim.holds_of_wide 6 Try.f6 rfl rfl rfl rfl rfl rfl rfl ⟨rfl, rfl, rfl, rfl, rfl⟩ rfl rfl rfl rfl rfl (by kernel_rfl) Try.func6 (by kernel_rfl)
    (of_decide_eq_true (by kernel_rfl)) (by unfold Func.isWrapper; first | (rw [if_pos (by decide +kernel)]; kernel_rfl) | (rw [if_neg (by decide +kernel)]; exact ⟨rfl, rfl⟩))
    (fun os started H enc _ => lifted os started H enc)

/-- The statement. -/
theorem proved : Rows.CbpfStepsSaid := over
end Go.Proofs.Ytlfbkalpnbjdjaa.cbpfSteps
