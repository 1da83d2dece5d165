/-
  Which policies may be, and what they say of data: contracts of both sides. Conditions: those that each names.
-/
import Derived.Test.YtgeapkjegemkeaaDoorGSemCk
import Derived.Test.YtgeapkjegemkeaaDoorPolArg
import Derived.Test.YtgeapkjegemkeaaDoorSemHeld
namespace Go.Proofs.YtgeapkjegemkeaaDoor
open Go Go.RowKit
set_option linter.unusedSimpArgs false
set_option linter.unusedVariables false

abbrev ruO7 (r : Ru) (Ac : Option Addr) (capc : Nat) (A : Option Addr) (cap : Nat) : Obj := .cells #[.slice Ac r.calls.length capc, .int .i64 r.when_.op, .slice A r.when_.args.length cap, .int .i64 r.when_.field, .int .u64 (r.when_.mask : Int), .int .i64 r.when_.rel, .int .u64 (r.when_.value : Int), .int .i64 r.do_.1, .int .u64 (r.do_.2 : Int)] 46
abbrev poO7 (p : Po) (A : Option Addr) (cap : Nat) : Obj := .cells #[.string p.arch, .int .i64 p.foreign_.1, .int .u64 (p.foreign_.2 : Int), .int .i64 p.default_.1, .int .u64 (p.default_.2 : Int), .slice A p.rules.length cap] 28
theorem ruleE_top (t : List (ByteArray × Nat)) (x : Ru) : ruleE t x = if callsTop t x.calls ≠ 0 then callsTop t x.calls else if exF 0 x.when_ ≠ 0 then exF 0 x.when_ else if (actF x.do_).2 = true then 0 else 72 := by
  unfold ruleE callsTop
  by_cases h : x.calls = []
  · rw [if_pos h, if_pos h, if_pos (by decide)]
  · rw [if_neg h, if_neg h]
/-- A block stays behind a call. -/
theorem keep7 {w w1 : World} {b : Nat} {o : Obj} (h : w.heap[b]? = some o) (hb : Below w.heap.size w w1) : w1.heap[b]? = some o := (hb.block _ (Array.getElem?_eq_some_iff.1 h).1).trans h
theorem on7 {w0 w w1 : World} (h : Below w0.heap.size w0 w) (hb : Below w.heap.size w w1) : Below w0.heap.size w0 w1 := h.trans (hb.mono h.size)
theorem Tab.up {w w' : World} (h : Tab w) (hb : Below w.heap.size w w') : Tab w' := h.below hb h.1
set_option maxRecDepth 100000 in
set_option maxHeartbeats 4000000 in
theorem p_ruleFault (t : List (ByteArray × Nat)) (wd : Int) (A : Option Addr) (cap : Nat) (r : Ru) (Ac : Option Addr) (capc : Nat) (Ar : Option Addr) (capr : Nat) (W : World) (hT : TabL W t A) (hw : TabW t) (hr : RuL W r Ac Ar capr) (hTab : Tab W) :
    Calls Tryd.prog 12 #[sysV wd A t.length cap, ruLV r Ac capc Ar capr] W fun e w' => e = .returned (.int .i64 (ruleE t r)) ∧ Below W.heap.size W w' := by
  rw [ruleE_top]
  have hb := below_of W (W.alloc (sysO wd A t.length cap)) (ruO7 r Ac capc Ar capr) (lbox W _)
  have HB := Lib.hid (And.intro hb (And.intro (show ((W.alloc (sysO wd A t.length cap)).alloc (ruO7 r Ac capc Ar capr)).heap[W.heap.size + 1]? = some (ruO7 r Ac capc Ar capr) by simpa using World.alloc_heap_new (W.alloc (sysO wd A t.length cap)) (ruO7 r Ac capc Ar capr)) (And.intro (hr.2.below hb) (hTab.up hb))))
  have x0 := cell6 HB.out.2.1 0 rfl
  have s0 := cell6 (kept_alloc (World.alloc_heap_new W (sysO wd A t.length cap)) (ruO7 r Ac capc Ar capr)) 0 rfl
  have s1 := cell6 (kept_alloc (World.alloc_heap_new W (sysO wd A t.length cap)) (ruO7 r Ac capc Ar capr)) 1 rfl
  have H1 := Lib.hid (p_callsFault t r.calls wd A Ac cap capc ((W.alloc (sysO wd A t.length cap)).alloc (ruO7 r Ac capc Ar capr)) (hT.below hb) hw (hr.below hb).1)
  have H2 := Lib.hid (fun V (hV : ExL V r.when_ Ar capr) => p_Expr7 r.when_ Ar capr V hV)
  have H3 := Lib.hid (fun V (hV : Tab V) => p_ActF r.do_ V hV)
  clear hb hT hw hr hTab
  generalize callsTop t r.calls = ce at H1 ⊢
  generalize exF 0 r.when_ = ee at H2 ⊢
  have hact : Hid (∀ V, Tab V → Calls Tryd.prog 13 #[.agg #[.int .i64 r.do_.1, .int .u64 (r.do_.2 : Int)]] V fun e w' => (∃ z : Int, e = .returned (.tuple #[.int .u32 z, .bool (actF r.do_).2])) ∧ Below V.heap.size V w') := Lib.hid (fun V hV => (H3.out V hV).mono fun e w' h => ⟨⟨_, h.1⟩, h.2⟩)
  clear H3
  generalize (actF r.do_).2 = ok at hact ⊢
  have arm : True := trivial
  by_cases h1 : ce = 0
  · have q1 : (ce != 0) = false := by rw [h1]; rfl
    rw [if_neg (fun g => g h1)]
    by_cases h2 : ee = 0
    · have q2 : (ee != 0) = false := by rw [h2]; rfl
      rw [if_neg (fun g => g h2)]
      have HE : Hid ((if ok = true then (0 : Int) else 72) = if ok = true then 0 else 72) := Lib.hid rfl
      clear h1 h2
      cases ok with
      | true =>
        rw [if_pos rfl]
        go_enter Tryd.func12, Tryd.ntmps12
        go_wp2_with (first
          | (go_at_call 19; (with_reducible refine H1.out.mono ?_); rintro e w1 ⟨rfl, hb⟩; have HB1 := Lib.hid (And.intro (on7 HB.out.1 hb) (And.intro (keep7 HB.out.2.1 hb) (And.intro (HB.out.2.2.1.below hb) (HB.out.2.2.2.up hb)))); clear hb; have y1 := cell6 HB1.out.2.1 1 rfl; have y2 := cell6 HB1.out.2.1 2 rfl; have y3 := cell6 HB1.out.2.1 3 rfl; have y4 := cell6 HB1.out.2.1 4 rfl; have y5 := cell6 HB1.out.2.1 5 rfl; have y6 := cell6 HB1.out.2.1 6 rfl)
          | (go_at_call 20; (with_reducible refine (H2.out _ HB1.out.2.2.1).mono ?_); rintro e w2 ⟨rfl, hb⟩; have HB2 := Lib.hid (And.intro (on7 HB1.out.1 hb) (And.intro (keep7 HB1.out.2.1 hb) (HB1.out.2.2.2.up hb))); clear hb; have y7 := cell6 HB2.out.2.1 7 rfl; have y8 := cell6 HB2.out.2.1 8 rfl)
          | (go_at_call 13; (with_reducible refine (hact.out _ HB2.out.2.2).mono ?_); rintro e w3 ⟨⟨z, rfl⟩, hb⟩; have HB3 := Lib.hid (on7 HB2.out.1 hb); clear hb))
        go_ret
        exact ⟨rfl, HB3.out⟩
      | false =>
        rw [if_neg (by decide)]
        go_enter Tryd.func12, Tryd.ntmps12
        go_wp2_with (first
          | (go_at_call 19; (with_reducible refine H1.out.mono ?_); rintro e w1 ⟨rfl, hb⟩; have HB1 := Lib.hid (And.intro (on7 HB.out.1 hb) (And.intro (keep7 HB.out.2.1 hb) (And.intro (HB.out.2.2.1.below hb) (HB.out.2.2.2.up hb)))); clear hb; have y1 := cell6 HB1.out.2.1 1 rfl; have y2 := cell6 HB1.out.2.1 2 rfl; have y3 := cell6 HB1.out.2.1 3 rfl; have y4 := cell6 HB1.out.2.1 4 rfl; have y5 := cell6 HB1.out.2.1 5 rfl; have y6 := cell6 HB1.out.2.1 6 rfl)
          | (go_at_call 20; (with_reducible refine (H2.out _ HB1.out.2.2.1).mono ?_); rintro e w2 ⟨rfl, hb⟩; have HB2 := Lib.hid (And.intro (on7 HB1.out.1 hb) (And.intro (keep7 HB1.out.2.1 hb) (HB1.out.2.2.2.up hb))); clear hb; have y7 := cell6 HB2.out.2.1 7 rfl; have y8 := cell6 HB2.out.2.1 8 rfl)
          | (go_at_call 13; (with_reducible refine (hact.out _ HB2.out.2.2).mono ?_); rintro e w3 ⟨⟨z, rfl⟩, hb⟩; have HB3 := Lib.hid (on7 HB2.out.1 hb); clear hb))
        go_ret
        exact ⟨rfl, HB3.out⟩
    · have q2 : (ee != 0) = true := bne_iff_ne.2 h2
      rw [if_pos h2]
      clear h1 h2
      go_enter Tryd.func12, Tryd.ntmps12
      go_wp2_with (first
        | (go_at_call 19; (with_reducible refine H1.out.mono ?_); rintro e w1 ⟨rfl, hb⟩; have HB1 := Lib.hid (And.intro (on7 HB.out.1 hb) (And.intro (keep7 HB.out.2.1 hb) (And.intro (HB.out.2.2.1.below hb) (HB.out.2.2.2.up hb)))); clear hb; have y1 := cell6 HB1.out.2.1 1 rfl; have y2 := cell6 HB1.out.2.1 2 rfl; have y3 := cell6 HB1.out.2.1 3 rfl; have y4 := cell6 HB1.out.2.1 4 rfl; have y5 := cell6 HB1.out.2.1 5 rfl; have y6 := cell6 HB1.out.2.1 6 rfl)
        | (go_at_call 20; (with_reducible refine (H2.out _ HB1.out.2.2.1).mono ?_); rintro e w2 ⟨rfl, hb⟩; have HB2 := Lib.hid (on7 HB1.out.1 hb); clear hb))
      go_ret
      exact ⟨rfl, HB2.out⟩
  · have q1 : (ce != 0) = true := bne_iff_ne.2 h1
    rw [if_pos h1]
    clear h1
    go_enter Tryd.func12, Tryd.ntmps12
    go_wp2_with (go_at_call 19; (with_reducible refine H1.out.mono ?_); rintro e w1 ⟨rfl, hb⟩; have HB1 := Lib.hid (on7 HB.out.1 hb); clear hb)
    go_ret
    exact ⟨rfl, HB1.out⟩
def headE (p : Po) : Int := if (actF p.foreign_).2 = false ∨ (actF p.default_).2 = false then 72 else if 512 < p.rules.length then 2 else 0
abbrev twoO7 (p : Po) : Obj := .cells #[.int .i64 p.foreign_.1, .int .u64 (p.foreign_.2 : Int), .int .i64 p.default_.1, .int .u64 (p.default_.2 : Int)] 25
set_option maxRecDepth 100000 in
set_option maxHeartbeats 4000000 in
theorem p_headFault (p : Po) (A : Option Addr) (cap : Nat) (W : World) (hTab : Tab W) :
    Calls Tryd.prog 11 #[poA p A cap] W fun e w' => e = .returned (.int .i64 (headE p)) ∧ Below W.heap.size W w' := by
  have hb := below_of W (W.alloc (poO7 p A cap)) (twoO7 p) (lbox W _)
  have HB := Lib.hid (show Below W.heap.size W ((W.alloc (poO7 p A cap)).alloc (twoO7 p)) ∧ ((W.alloc (poO7 p A cap)).alloc (twoO7 p)).heap[W.heap.size]? = some (poO7 p A cap) ∧ ((W.alloc (poO7 p A cap)).alloc (twoO7 p)).heap[W.heap.size + 1]? = some (twoO7 p) ∧ Tab ((W.alloc (poO7 p A cap)).alloc (twoO7 p)) from ⟨hb, kept_alloc (World.alloc_heap_new W _) _, by simpa using World.alloc_heap_new (W.alloc (poO7 p A cap)) (twoO7 p), hTab.up hb⟩)
  have H3 : Hid (∀ (v : Int × Nat) V, Tab V → Calls Tryd.prog 13 #[.agg #[.int .i64 v.1, .int .u64 (v.2 : Int)]] V fun e w' => (∃ z : Int, e = .returned (.tuple #[.int .u32 z, .bool (actF v).2])) ∧ Below V.heap.size V w') := Lib.hid (fun v V hV => (p_ActF v V hV).mono fun e w' h => ⟨⟨_, h.1⟩, h.2⟩)
  clear hb hTab
  obtain ⟨g, hg⟩ : ∃ g, g = headE p := ⟨_, rfl⟩
  rw [← hg]
  have HG : Hid (g = if (actF p.foreign_).2 = false ∨ (actF p.default_).2 = false then 72 else if 512 < p.rules.length then 2 else 0) := Lib.hid hg
  clear hg
  go_enter Tryd.func11, Tryd.ntmps11
  go_wp2
  go_loopw [13] (fun v wr => ∃ k : Nat, (k = 0 ∨ k = 1 ∧ (actF p.foreign_).2 = true ∨ k = 2 ∧ (actF p.foreign_).2 = true ∧ (actF p.default_).2 = true) ∧ v = .int .i64 (k : Int) ∧ Below W.heap.size W wr ∧ wr.heap[W.heap.size]? = some (poO7 p A cap) ∧ wr.heap[W.heap.size + 1]? = some (twoO7 p) ∧ Tab wr) (fun v _ => 2 - (intOf v).toNat)
  case atStart => exact ⟨0, .inl rfl, rfl, HB.out⟩
  case round =>
    obtain ⟨k, hk, rfl, hbw, hbx, hby, htab⟩ := hrel
    clear HB
    rcases hk with rfl | ⟨rfl, hf⟩ | ⟨rfl, hf, hd⟩
    · have u0 := cell6 hby 0 rfl
      have u1 := cell6 hby 1 rfl
      have HW := Lib.hid (And.intro (below_of W wr (vdO7 p.foreign_.1 p.foreign_.2) hbw) (And.intro (kept_alloc hbx (vdO7 p.foreign_.1 p.foreign_.2)) (And.intro (kept_alloc hby (vdO7 p.foreign_.1 p.foreign_.2)) (htab.up (lbox wr (vdO7 p.foreign_.1 p.foreign_.2))))))
      have H3a := Lib.hid (H3.out p.foreign_ _ HW.out.2.2.2)
      clear hbw hbx hby htab
      cases hf : (actF p.foreign_).2 with
      | false =>
        rw [hf] at H3a
        have HGK : Hid (g = 72) := Lib.hid (by rw [HG.out, if_pos (.inl hf)])
        clear hf
        go_wp2_with (go_at_call 13; (with_reducible refine H3a.out.mono ?_); rintro e w3 ⟨⟨z, rfl⟩, hb⟩; have HB3 := Lib.hid (on7 HW.out.1 hb); clear hb)
        go_ret
        exact ⟨by rw [HGK.out]; rfl, HB3.out⟩
      | true =>
        rw [hf] at H3a
        have HF := Lib.hid hf
        clear hf
        go_wp2_with (go_at_call 13; (with_reducible refine H3a.out.mono ?_); rintro e w3 ⟨⟨z, rfl⟩, hb⟩; have HB3 := Lib.hid (And.intro (on7 HW.out.1 hb) (And.intro (keep7 HW.out.2.1 hb) (And.intro (keep7 HW.out.2.2.1 hb) (HW.out.2.2.2.up hb)))); clear hb)
        exact ⟨⟨1, .inr (.inl ⟨rfl, by first | trivial | exact HF.out⟩), by go_num, HB3.out⟩, by simp [intOf]⟩
    · have u2 := cell6 hby 2 rfl
      have u3 := cell6 hby 3 rfl
      have HW := Lib.hid (And.intro (below_of W wr (vdO7 p.default_.1 p.default_.2) hbw) (And.intro (kept_alloc hbx (vdO7 p.default_.1 p.default_.2)) (And.intro (kept_alloc hby (vdO7 p.default_.1 p.default_.2)) (htab.up (lbox wr (vdO7 p.default_.1 p.default_.2))))))
      have H3a := Lib.hid (H3.out p.default_ _ HW.out.2.2.2)
      have HF := Lib.hid hf
      clear hbw hbx hby htab hf
      cases hf : (actF p.default_).2 with
      | false =>
        rw [hf] at H3a
        have HGK : Hid (g = 72) := Lib.hid (by rw [HG.out, if_pos (.inr hf)])
        clear hf
        go_wp2_with (go_at_call 13; (with_reducible refine H3a.out.mono ?_); rintro e w3 ⟨⟨z, rfl⟩, hb⟩; have HB3 := Lib.hid (on7 HW.out.1 hb); clear hb)
        go_ret
        exact ⟨by rw [HGK.out]; rfl, HB3.out⟩
      | true =>
        rw [hf] at H3a
        have HF2 := Lib.hid hf
        clear hf
        go_wp2_with (go_at_call 13; (with_reducible refine H3a.out.mono ?_); rintro e w3 ⟨⟨z, rfl⟩, hb⟩; have HB3 := Lib.hid (And.intro (on7 HW.out.1 hb) (And.intro (keep7 HW.out.2.1 hb) (And.intro (keep7 HW.out.2.2.1 hb) (HW.out.2.2.2.up hb)))); clear hb)
        exact ⟨⟨2, .inr (.inr ⟨rfl, HF.out, by first | trivial | exact HF2.out⟩), by go_num, HB3.out⟩, by simp [intOf]⟩
    · have v5 := cell6 hbx 5 rfl
      have HBW := Lib.hid hbw
      have hg2 := HG.out
      rw [if_neg (by rw [hf, hd]; simp)] at hg2
      clear hbw hbx hby htab hf hd HG
      by_cases hl : 512 < p.rules.length
      · rw [if_pos hl] at hg2
        have HGK := Lib.hid hg2
        have hl' : (512 : Int) < (p.rules.length : Int) := by omega
        clear hg2
        go_wp2
        go_ret
        exact ⟨by rw [HGK.out]; rfl, HBW.out⟩
      · rw [if_neg hl] at hg2
        have HGK := Lib.hid hg2
        have hl' : ¬ (512 : Int) < (p.rules.length : Int) := by omega
        clear hg2
        go_wp2
        go_ret
        exact ⟨by rw [HGK.out]; rfl, HBW.out⟩
theorem check_head (p : Po) : checkF p = if (sysF p.arch).2.2 = false then (71, -1) else if headE p ≠ 0 then (headE p, -1) else rulesE (sysF p.arch).2.1 0 p.rules := by
  unfold checkF headE
  by_cases h1 : (sysF p.arch).2.2 = false
  · rw [if_pos h1, if_pos h1]
  · rw [if_neg h1, if_neg h1]
    by_cases h2 : (actF p.foreign_).2 = false ∨ (actF p.default_).2 = false
    · rw [if_pos h2, if_pos h2, if_pos (by decide)]
    · rw [if_neg h2, if_neg h2]
      by_cases h3 : 512 < p.rules.length
      · rw [if_pos h3, if_pos h3, if_pos (by decide)]
      · rw [if_neg h3, if_neg h3, if_neg (by simp)]
/-- A rule's cells. -/
theorem rules_cells {w wr : World} {l : List Ru} {A : Option Addr} (h : RulesL w l A) (hb : Below w.heap.size w wr) (k : Nat) (hk : k < l.length) :
    ∃ tb o Ac capc Ar capr, A = some ⟨tb, o, none⟩ ∧ tb < wr.heap.size ∧ RuL wr (l.getD k zeroR7) Ac Ar capr ∧ ∀ j u, (ruL (l.getD k zeroR7) Ac capc Ar capr)[j]? = some u → wr.cell? ⟨tb, o + k * 9 + j, none⟩ = some u := by
  rcases h.2 with h0 | ⟨tb, o, hA, ht, hc⟩
  · rw [h0] at hk; exact absurd hk (by simp)
  · obtain ⟨Ac, capc, Ar, capr, h1, h2⟩ := ruRowL_at k hk hc
    exact ⟨tb, o, Ac, capc, Ar, capr, hA, Nat.lt_of_lt_of_le ht hb.size, h1.below hb, fun j u hj => (hb.cell (p := ⟨tb, o + k * 9 + j, none⟩) ht).trans (h2 j u hj)⟩
set_option maxRecDepth 100000 in
set_option maxHeartbeats 4000000 in
theorem p_Check7 (p : Po) (A : Option Addr) (cap : Nat) (W : World) (h : RulesL W p.rules A) (hTab : Tab W) :
    Calls Tryd.prog 5 #[poA p A cap] W fun e w' => e = .returned (.tuple #[.int .i64 (checkF p).1, .int .i64 (checkF p).2]) ∧ Below W.heap.size W w' := by
  have hb := lbox W (poO7 p A cap)
  have HB := Lib.hid (And.intro hb (And.intro (World.alloc_heap_new W (poO7 p A cap)) (And.intro (h.below hb) (hTab.up hb))))
  have H1 := Lib.hid (fun V => p_systemOf p.arch V)
  have HW := Lib.hid (sys_w p.arch)
  have hck := check_head p
  have H2 := Lib.hid (fun V (hV : Tab V) => p_headFault p A cap V hV)
  have hlen : p.rules.length ≤ maxLen := h.1
  unfold maxLen at hlen
  clear hb h hTab
  generalize checkF p = ck at hck ⊢
  generalize headE p = hd at hck H2
  generalize sysF p.arch = sy at hck H1 HW
  obtain ⟨wd, t, is⟩ := sy
  simp only at hck H1 HW
  obtain ⟨x0, x1, x2, x3, x4, x5⟩ : _ ∧ _ ∧ _ ∧ _ ∧ _ ∧ _ := ⟨cell6 HB.out.2.1 0 rfl, cell6 HB.out.2.1 1 rfl, cell6 HB.out.2.1 2 rfl, cell6 HB.out.2.1 3 rfl, cell6 HB.out.2.1 4 rfl, cell6 HB.out.2.1 5 rfl⟩
  clear x1 x2 x3 x4 x5
  cases is with
  | false =>
    rw [if_pos rfl] at hck
    have HCK := Lib.hid hck
    clear hck
    go_enter Tryd.func5, Tryd.ntmps5
    go_wp2_with (go_at_call 10; (with_reducible refine (H1.out _).mono ?_); rintro e w1 ⟨As, caps, rfl, ht, hb⟩; have HB1 := Lib.hid (on7 HB.out.1 hb); clear ht hb)
    go_ret2
    exact ⟨by rw [HCK.out]; rfl, below_of _ _ _ HB1.out⟩
  | true =>
    rw [if_neg (by decide)] at hck
    by_cases h0 : hd = 0
    · rw [if_neg (fun g => g h0)] at hck
      have q0 : (hd != 0) = false := by rw [h0]; rfl
      obtain ⟨rl, hrl⟩ : ∃ rl, rl = p.rules := ⟨_, rfl⟩
      obtain ⟨n, hn⟩ : ∃ n, n = p.rules.length := ⟨_, rfl⟩
      have HN := Lib.hid hn
      have HG : Hid (ck = rulesE t 0 (p.rules.drop 0)) := Lib.hid hck
      clear hck hrl h0
      go_enter Tryd.func5, Tryd.ntmps5
      go_wp2_with (first
        | (go_at_call 10; (with_reducible refine (H1.out _).mono ?_); rintro e w1 ⟨As, caps, rfl, ht, hb⟩; have HB1 := Lib.hid (And.intro (below_of _ _ (sysO (wd : Int) As t.length caps) (on7 HB.out.1 hb)) (And.intro (kept_alloc (keep7 HB.out.2.1 hb) (sysO (wd : Int) As t.length caps)) (And.intro (RulesL.below (RulesL.below HB.out.2.2.1 hb) (lbox w1 (sysO (wd : Int) As t.length caps))) (And.intro (Tab.up (HB.out.2.2.2.up hb) (lbox w1 (sysO (wd : Int) As t.length caps))) (And.intro (World.alloc_heap_new w1 (sysO (wd : Int) As t.length caps)) (TabL.below ht (lbox w1 (sysO (wd : Int) As t.length caps)))))))); clear ht hb; have y0 := cell6 HB1.out.2.1 0 rfl; have y1 := cell6 HB1.out.2.1 1 rfl; have y2 := cell6 HB1.out.2.1 2 rfl; have y3 := cell6 HB1.out.2.1 3 rfl; have y4 := cell6 HB1.out.2.1 4 rfl; have y5 := cell6 HB1.out.2.1 5 rfl)
        | (go_at_call 11; (with_reducible refine (H2.out _ HB1.out.2.2.2.1).mono ?_); rintro e w2 ⟨rfl, hb⟩; have HB2 := Lib.hid (And.intro (on7 HB1.out.1 hb) (And.intro (keep7 HB1.out.2.1 hb) (And.intro (HB1.out.2.2.1.below hb) (And.intro (HB1.out.2.2.2.1.up hb) (And.intro (keep7 HB1.out.2.2.2.2.1 hb) (HB1.out.2.2.2.2.2.below hb)))))); clear hb; have z5 := cell6 HB2.out.2.1 5 rfl))
      go_loopw [26] (fun v wr => ∃ k : Nat, k ≤ p.rules.length ∧ v = .int .i64 (k : Int) ∧ ck = rulesE t k (p.rules.drop k) ∧ Below w2.heap.size w2 wr) (fun v _ => p.rules.length - (intOf v).toNat)
      case atStart => exact ⟨0, Nat.zero_le _, rfl, HG.out, Below.refl _ _⟩
      case round =>
        obtain ⟨k, hk, rfl, hgk, hbw⟩ := hrel
        clear HG HB HB1 H1 H2
        by_cases hlt : k < p.rules.length
        · have hlt' : (k : Int) < (p.rules.length : Int) := by omega
          have hw : IntKind.i64.wrap ((k : Int) + 1) = ((k + 1 : Nat) : Int) := by rw [IntWalk.i64_in _ (by omega)]; omega
          rw [rules_at t p.rules k hlt] at hgk
          obtain ⟨tb, o, Ac, capc, Ar, capr, rfl, htb, hru, hcc⟩ := rules_cells HB2.out.2.2.1 hbw k hlt
          generalize p.rules.getD k zeroR7 = r at hru hcc hgk
          have c0 : wr.cell? ⟨tb, o + k * 9, none⟩ = _ := hcc 0 _ rfl
          have c1 := hcc 1 _ rfl
          have c2 := hcc 2 _ rfl
          have c3 := hcc 3 _ rfl
          have c4 := hcc 4 _ rfl
          have c5 := hcc 5 _ rfl
          have c6 := hcc 6 _ rfl
          have c7 := hcc 7 _ rfl
          have c8 := hcc 8 _ rfl
          have hbx := keep7 HB2.out.2.2.2.2.1 hbw
          have hsz : w1.heap.size < wr.heap.size := (Array.getElem?_eq_some_iff.1 hbx).1
          have s0 : ∀ o, (wr.alloc o).cell? ⟨w1.heap.size, 0, none⟩ = some (.int .u32 wd) := fun o => cell6 (kept_alloc hbx o) 0 rfl
          have s1 : ∀ o, (wr.alloc o).cell? ⟨w1.heap.size, 1, none⟩ = some (.slice As t.length caps) := fun o => cell6 (kept_alloc hbx o) 1 rfl
          have hbo := lbox wr (ruO7 r Ac capc Ar capr)
          have HV := Lib.hid (on7 hbw hbo)
          have HR := Lib.hid (p_ruleFault t (wd : Int) As caps r Ac capc Ar capr (wr.alloc (ruO7 r Ac capc Ar capr)) ((HB2.out.2.2.2.2.2.below hbw).below hbo) HW.out (hru.below hbo) ((HB2.out.2.2.2.1.up hbw).up hbo))
          clear hbw hbx hbo hru hcc
          generalize ruleE t r = re at HR hgk
          by_cases hre : re = 0
          · have q1 : (re != 0) = false := by rw [hre]; rfl
            rw [if_neg (fun g => g hre)] at hgk
            have HGK := Lib.hid hgk
            clear hgk hre
            go_wp2_with (go_at_call 12; (with_reducible refine HR.out.mono ?_); rintro e w3 ⟨rfl, hb⟩; have HB3 := Lib.hid (on7 HV.out hb); clear hb)
            exact ⟨⟨k + 1, by omega, by go_num, HGK.out, HB3.out⟩, by simp [intOf]; omega⟩
          · have q1 : (re != 0) = true := bne_iff_ne.2 hre
            rw [if_pos hre] at hgk
            have HGK := Lib.hid hgk
            clear hgk hre
            go_wp2_with (go_at_call 12; (with_reducible refine HR.out.mono ?_); rintro e w3 ⟨rfl, hb⟩; have HB3 := Lib.hid (on7 HV.out hb); clear hb)
            go_ret2
            exact ⟨by rw [HGK.out]; rfl, on7 HB2.out.1 HB3.out⟩
        · have hlt' : ¬ (k : Int) < (p.rules.length : Int) := by omega
          rw [rules_end t p.rules k (by omega)] at hgk
          have HGK := Lib.hid hgk
          have HBW := Lib.hid (on7 HB2.out.1 hbw)
          clear hgk hbw
          go_wp2
          go_ret2
          exact ⟨by rw [HGK.out]; rfl, HBW.out⟩
    · rw [if_pos h0] at hck
      have q0 : (hd != 0) = true := bne_iff_ne.2 h0
      have HCK := Lib.hid hck
      clear hck h0
      go_enter Tryd.func5, Tryd.ntmps5
      go_wp2_with (first
        | (go_at_call 10; (with_reducible refine (H1.out _).mono ?_); rintro e w1 ⟨As, caps, rfl, ht, hb⟩; have HB1 := Lib.hid (And.intro (below_of _ _ (sysO (wd : Int) As t.length caps) (on7 HB.out.1 hb)) (And.intro (kept_alloc (keep7 HB.out.2.1 hb) (sysO (wd : Int) As t.length caps)) (Tab.up (HB.out.2.2.2.up hb) (lbox w1 (sysO (wd : Int) As t.length caps))))); clear ht hb; have y0 := cell6 HB1.out.2.1 0 rfl; have y1 := cell6 HB1.out.2.1 1 rfl; have y2 := cell6 HB1.out.2.1 2 rfl; have y3 := cell6 HB1.out.2.1 3 rfl; have y4 := cell6 HB1.out.2.1 4 rfl; have y5 := cell6 HB1.out.2.1 5 rfl)
        | (go_at_call 11; (with_reducible refine (H2.out _ HB1.out.2.2).mono ?_); rintro e w2 ⟨rfl, hb⟩; have HB2 := Lib.hid (on7 HB1.out.1 hb); clear hb))
      go_ret2
      exact ⟨by rw [HCK.out]; rfl, HB2.out⟩
end Go.Proofs.YtgeapkjegemkeaaDoor
namespace Go.Proofs.YtgeapkjegemkeaaDoor
open Go Go.RowKit
set_option linter.unusedSimpArgs false
set_option linter.unusedVariables false

def metVs (met : List Nat) : List Value := met.map fun (n : Nat) => Value.int .u32 (n : Int)
theorem metVs_snoc (met : List Nat) (n : Nat) : metVs (met ++ [n]) = metVs met ++ [.int .u32 (n : Int)] := by simp [metVs]
theorem metVs_one {met : List Nat} : ∀ u ∈ metVs met, u.oneCell' = true := by
  intro u hu
  obtain ⟨n, _, rfl⟩ := List.mem_map.1 hu
  rfl
theorem info_u32 : (Tryd.prog.info? 29).map (fun i => (i.zero, i.size, i.bytes)) = some (some (.int .u32 0), 1, 4) := by kernel_rfl
/-- Numbers met so far. -/
def MetRow (w : World) (lo : Nat) (v : Value) (met : List Nat) : Prop := w.ownsRow lo 29 1 v met.length (metVs met)
theorem MetRow.up {w w' : World} {lo : Nat} {v : Value} {met : List Nat} (h : MetRow w lo v met) (hb : Below w.heap.size w w') : MetRow w' lo v met := own_below h hb
theorem MetRow.form {w : World} {lo : Nat} {v : Value} {met : List Nat} (h : MetRow w lo v met) : ∃ A cap, v = .slice A met.length cap ∧ ∀ k, k < met.length → ∃ tb, A = some ⟨tb, 0, none⟩ ∧ lo ≤ tb ∧ tb < w.heap.size ∧ w.cell? ⟨tb, k, none⟩ = some (.int .u32 ((met.getD k 0 : Nat) : Int)) := by
  obtain ⟨_, h⟩ := h
  rcases h with ⟨rfl, h0⟩ | ⟨g, cap, cur, rfl, hlo, hh, hl, hm, hs, ht⟩
  · exact ⟨none, 0, by rw [h0], fun k hk => absurd hk (by omega)⟩
  · refine ⟨_, cap, rfl, fun k hk => ⟨g, rfl, hlo, (Array.getElem?_eq_some_iff.1 hh).1, ?_⟩⟩
    have h1 : (metVs met)[k]? = some (.int .u32 ((met.getD k 0 : Nat) : Int)) := by
      rw [metVs, List.getElem?_map, List.getElem?_eq_getElem hk, List.getD_eq_getElem?_getD, List.getElem?_eq_getElem hk]; rfl
    rw [← ht, List.getElem?_take, if_pos (by omega), Array.getElem?_toList] at h1
    simp [World.cell?, hh, h1]
/-- How far the numbers met have been gone through. -/
theorem mem_at (met : List Nat) (n k : Nat) (hk : k < met.length) (h : n ∉ met.take k) : (n = met.getD k 0 → n ∈ met) ∧ (n ≠ met.getD k 0 → n ∉ met.take (k + 1)) := by
  have e : met.getD k 0 = met[k] := by rw [List.getD_eq_getElem?_getD, List.getElem?_eq_getElem hk]; rfl
  rw [e]
  refine ⟨fun g => g ▸ List.getElem_mem hk, fun g => ?_⟩
  rw [List.take_add_one, List.getElem?_eq_getElem hk]
  intro hm
  rcases List.mem_append.1 hm with h1 | h1
  · exact h h1
  · simp at h1; exact g h1
end Go.Proofs.YtgeapkjegemkeaaDoor
namespace Go.Proofs.YtgeapkjegemkeaaDoor
open Go Go.RowKit
set_option linter.unusedSimpArgs false
set_option linter.unusedVariables false

/-- A rule's cells at a place. -/
def RuAt (w : World) (tb o : Nat) (r : Ru) (Ac : Option Addr) (capc : Nat) (A : Option Addr) (cap : Nat) : Prop := ∀ j u, (ruL r Ac capc A cap)[j]? = some u → w.cell? ⟨tb, o + j, none⟩ = some u
theorem RuAt.up {w w' : World} {tb o : Nat} {r : Ru} {Ac : Option Addr} {capc : Nat} {A : Option Addr} {cap : Nat} (h : RuAt w tb o r Ac capc A cap) (ht : tb < w.heap.size) (hb : Below w.heap.size w w') : RuAt w' tb o r Ac capc A cap := fun j u hj => (hb.cell (p := ⟨tb, o + j, none⟩) ht).trans (h j u hj)
theorem RuAt.cells {w : World} {tb o : Nat} {r : Ru} {Ac : Option Addr} {capc : Nat} {A : Option Addr} {cap : Nat} (h : RuAt w tb o r Ac capc A cap) :
    w.cell? ⟨tb, o, none⟩ = some (.slice Ac r.calls.length capc) ∧ w.cell? ⟨tb, o + 1, none⟩ = some (.int .i64 r.when_.op) ∧ w.cell? ⟨tb, o + 2, none⟩ = some (.slice A r.when_.args.length cap) ∧ w.cell? ⟨tb, o + 3, none⟩ = some (.int .i64 r.when_.field) ∧ w.cell? ⟨tb, o + 4, none⟩ = some (.int .u64 (r.when_.mask : Int)) ∧ w.cell? ⟨tb, o + 5, none⟩ = some (.int .i64 r.when_.rel) ∧ w.cell? ⟨tb, o + 6, none⟩ = some (.int .u64 (r.when_.value : Int)) ∧ w.cell? ⟨tb, o + 7, none⟩ = some (.int .i64 r.do_.1) ∧ w.cell? ⟨tb, o + 8, none⟩ = some (.int .u64 (r.do_.2 : Int)) :=
  ⟨h 0 _ rfl, h 1 _ rfl, h 2 _ rfl, h 3 _ rfl, h 4 _ rfl, h 5 _ rfl, h 6 _ rfl, h 7 _ rfl, h 8 _ rfl⟩
theorem po_cells {w : World} {b : Nat} {p : Po} {A : Option Addr} {cap : Nat} (h : w.heap[b]? = some (poO7 p A cap)) :
    w.cell? ⟨b, 0, none⟩ = some (.string p.arch) ∧ w.cell? ⟨b, 1, none⟩ = some (.int .i64 p.foreign_.1) ∧ w.cell? ⟨b, 2, none⟩ = some (.int .u64 (p.foreign_.2 : Int)) ∧ w.cell? ⟨b, 3, none⟩ = some (.int .i64 p.default_.1) ∧ w.cell? ⟨b, 4, none⟩ = some (.int .u64 (p.default_.2 : Int)) ∧ w.cell? ⟨b, 5, none⟩ = some (.slice A p.rules.length cap) :=
  ⟨cell6 h 0 rfl, cell6 h 1 rfl, cell6 h 2 rfl, cell6 h 3 rfl, cell6 h 4 rfl, cell6 h 5 rfl⟩
end Go.Proofs.YtgeapkjegemkeaaDoor
namespace Go.Proofs.YtgeapkjegemkeaaDoor
open Go Go.RowKit
set_option linter.unusedSimpArgs false
set_option linter.unusedVariables false

/-- Three boxes: the policy, the data, the answer. -/
structure Box7 (w : World) (b : Nat) (p : Po) (A : Option Addr) (cap : Nat) (d : Dat) : Prop where
  po : w.heap[b]? = some (poO7 p A cap)
  da : w.heap[b + 1]? = some (datO d)
  re : w.heap[b + 2]? = some (vdO7 0 0)
theorem Box7.up {w w1 : World} {b : Nat} {p : Po} {A : Option Addr} {cap : Nat} {d : Dat} (h : Box7 w b p A cap d) (hb : Below w.heap.size w w1) : Box7 w1 b p A cap d := ⟨keep7 h.po hb, keep7 h.da hb, keep7 h.re hb⟩
theorem box7_new (W : World) (p : Po) (A : Option Addr) (cap : Nat) (d : Dat) : Box7 (((W.alloc (poO7 p A cap)).alloc (datO d)).alloc (vdO7 0 0)) W.heap.size p A cap d := by
  have h1 := World.alloc_heap_new W (poO7 p A cap)
  have h2 := World.alloc_heap_new (W.alloc (poO7 p A cap)) (datO d)
  have h3 := World.alloc_heap_new ((W.alloc (poO7 p A cap)).alloc (datO d)) (vdO7 0 0)
  exact ⟨kept_alloc (kept_alloc h1 _) _, by simpa using kept_alloc h2 (vdO7 0 0), by simpa using h3⟩
theorem dat_cells {w : World} {b : Nat} {d : Dat} (h : w.heap[b]? = some (datO d)) :
    w.cell? ⟨b, 0, none⟩ = some (.int .u32 (d.nr : Int)) ∧ w.cell? ⟨b, 1, none⟩ = some (.int .u32 (d.arch : Int)) ∧ w.cell? ⟨b, 2, none⟩ = some (.int .u64 (d.ip : Int)) ∧ w.cell? ⟨b, 3, none⟩ = some (.int .u64 (d.args 0 : Int)) ∧ w.cell? ⟨b, 4, none⟩ = some (.int .u64 (d.args 1 : Int)) ∧ w.cell? ⟨b, 5, none⟩ = some (.int .u64 (d.args 2 : Int)) ∧ w.cell? ⟨b, 6, none⟩ = some (.int .u64 (d.args 3 : Int)) ∧ w.cell? ⟨b, 7, none⟩ = some (.int .u64 (d.args 4 : Int)) ∧ w.cell? ⟨b, 8, none⟩ = some (.int .u64 (d.args 5 : Int)) :=
  ⟨cell6 h 0 rfl, cell6 h 1 rfl, cell6 h 2 rfl, cell6 h 3 rfl, cell6 h 4 rfl, cell6 h 5 rfl, cell6 h 6 rfl, cell6 h 7 rfl, cell6 h 8 rfl⟩
theorem vd_cells {w : World} {b : Nat} {k : Int} {n : Nat} (h : w.heap[b]? = some (vdO7 k n)) : w.cell? ⟨b, 0, none⟩ = some (.int .i64 k) ∧ w.cell? ⟨b, 1, none⟩ = some (.int .u64 (n : Int)) ∧ w.frozen? ⟨b, 0, none⟩ = false ∧ w.frozen? ⟨b, 1, none⟩ = false := ⟨cell6 h 0 rfl, cell6 h 1 rfl, frozen6 h 0, frozen6 h 1⟩
abbrev vdA (v : Int × Nat) : Value := .agg #[.int .i64 v.1, .int .u64 (v.2 : Int)]
/-- What a policy's check promises of its rules. -/
theorem rule_ok {p : Po} (h : (checkF p).1 = 0) (k : Nat) (hk : k < p.rules.length) : exF 0 (p.rules.getD k zeroR7).when_ = 0 := (rule_parts ((check_parts h).2.2.2.2 k hk)).2.2.1
set_option maxRecDepth 100000 in
set_option maxHeartbeats 8000000 in
theorem p_verdict (p : Po) (d : Dat) (A : Option Addr) (cap : Nat) (W : World) (h : RulesL W p.rules A) (hck : (checkF p).1 = 0) :
    Calls Tryd.prog 14 #[poA p A cap, datV d] W fun e w' => e = .returned (vdA (verdF p d)) ∧ Below W.heap.size W w' := by
  have hb := below_of W ((W.alloc (poO7 p A cap)).alloc (datO d)) (vdO7 0 0) (below_of W _ _ (lbox W (poO7 p A cap)))
  have HB := Lib.hid (And.intro hb (And.intro (box7_new W p A cap d) (h.below hb)))
  have H1 := Lib.hid (fun V => p_systemOf p.arch V)
  have H2 := Lib.hid (fun V => p_lookAt d V)
  have HOK := Lib.hid (fun k hk => rule_ok hck k hk)
  have hlen : p.rules.length ≤ maxLen := h.1
  unfold maxLen at hlen
  obtain ⟨g, hg0⟩ : ∃ g, g = verdF p d := ⟨_, rfl⟩
  rw [← hg0]
  have hg : g = if d.arch ≠ (sysF p.arch).1 then p.foreign_ else pickF (sysF p.arch).2.1 d p.default_ p.rules := hg0
  clear hg0 hb h hck
  generalize sysF p.arch = sy at hg H1
  obtain ⟨wd, t, is⟩ := sy
  simp only at hg H1
  obtain ⟨x0, _⟩ := po_cells HB.out.2.1.po
  by_cases harch : d.arch = wd
  · rw [if_neg (fun h => h harch)] at hg
    have q0 : ((d.arch : Int) != (wd : Int)) = false := by rw [harch]; exact bne_self_eq_false _
    have HG : Hid (g = pickF t d p.default_ (p.rules.drop 0)) := Lib.hid hg
    have HAR := Lib.hid harch
    clear hg harch
    go_enter Tryd.func14, Tryd.ntmps14
    go_wp2_with (first
      | (go_at_call 10; (with_reducible refine (H1.out _).mono ?_); rintro e w1 ⟨As, caps, rfl, ht, hb⟩; have HB1 := Lib.hid (And.intro (below_of _ _ (sysO (wd : Int) As t.length caps) (on7 HB.out.1 hb)) (And.intro (Box7.up (Box7.up HB.out.2.1 hb) (lbox w1 (sysO (wd : Int) As t.length caps))) (And.intro (RulesL.below (RulesL.below HB.out.2.2 hb) (lbox w1 (sysO (wd : Int) As t.length caps))) (And.intro (World.alloc_heap_new w1 (sysO (wd : Int) As t.length caps)) (TabL.below ht (lbox w1 (sysO (wd : Int) As t.length caps))))))); clear ht hb; obtain ⟨d0, d1, d2, d3, d4, d5, d6, d7, d8⟩ := dat_cells HB1.out.2.1.da; have s0 := cell6 HB1.out.2.2.2.1 0 rfl)
      | (go_at_call 23; (with_reducible refine (H2.out _).mono ?_); rintro e w2 ⟨mb, rfl, hm, hb⟩; have HB2 := Lib.hid (And.intro (below_of _ _ (lookO d mb) (on7 HB1.out.1 hb)) (And.intro (Box7.up (Box7.up HB1.out.2.1 hb) (lbox w2 (lookO d mb))) (And.intro (RulesL.below (RulesL.below HB1.out.2.2.1 hb) (lbox w2 (lookO d mb))) (And.intro (kept_alloc (keep7 HB1.out.2.2.2.1 hb) (lookO d mb)) (And.intro (TabL.below (TabL.below HB1.out.2.2.2.2 hb) (lbox w2 (lookO d mb))) (And.intro (World.alloc_heap_new w2 (lookO d mb)) (RelMap.up hm (lbox w2 (lookO d mb))))))))); clear hb hm; obtain ⟨_, _, _, _, _, p5⟩ := po_cells HB2.out.2.1.po))
    go_loopw [28] (fun v wr => ∃ k : Nat, k ≤ p.rules.length ∧ v = .int .i64 (k : Int) ∧ g = pickF t d p.default_ (p.rules.drop k) ∧ Below (w2.alloc (lookO d mb)).heap.size (w2.alloc (lookO d mb)) wr) (fun v _ => p.rules.length - (intOf v).toNat)
    case atStart => exact ⟨0, Nat.zero_le _, rfl, HG.out, Below.refl _ _⟩
    case round =>
      obtain ⟨k, hk, rfl, hgk, hbw⟩ := hrel
      by_cases hlt : k < p.rules.length
      · have hlt' : (k : Int) < (p.rules.length : Int) := by omega
        have hw : IntKind.i64.wrap ((k : Int) + 1) = ((k + 1 : Nat) : Int) := by rw [IntWalk.i64_in _ (by omega)]; omega
        rw [pick_at t d p.default_ p.rules k hlt] at hgk
        have hok := HOK.out k hlt
        obtain ⟨tb, o, Ac, capc, Ar, capr, hA, htb, hru, hcc⟩ := rules_cells HB2.out.2.2.1 hbw k hlt
        subst hA
        generalize p.rules.getD k zeroR7 = r at hru hcc hgk hok
        have c0 : wr.cell? ⟨tb, o + k * 9, none⟩ = _ := hcc 0 _ rfl
        have c1 := hcc 1 _ rfl
        have c2 := hcc 2 _ rfl
        have c3 := hcc 3 _ rfl
        have c4 := hcc 4 _ rfl
        have c5 := hcc 5 _ rfl
        have c6 := hcc 6 _ rfl
        have c7 := hcc 7 _ rfl
        have c8 := hcc 8 _ rfl
        have hsb := keep7 HB2.out.2.2.2.1 hbw
        have hbx := Box7.up HB2.out.2.1 hbw
        have s0 : ∀ o, (wr.alloc o).cell? ⟨w1.heap.size, 0, none⟩ = some (.int .u32 wd) := fun o => cell6 (kept_alloc hsb o) 0 rfl
        have s1 : ∀ o, (wr.alloc o).cell? ⟨w1.heap.size, 1, none⟩ = some (.slice As t.length caps) := fun o => cell6 (kept_alloc hsb o) 1 rfl
        have n0 : ∀ o, (wr.alloc o).cell? ⟨W.heap.size + 1, 0, none⟩ = some (.int .u32 (d.nr : Int)) := fun o => cell6 (kept_alloc hbx.da o) 0 rfl
        have l1 : w1.heap.size < wr.heap.size := (Array.getElem?_eq_some_iff.1 hsb).1
        have l2 : W.heap.size + 1 < wr.heap.size := (Array.getElem?_eq_some_iff.1 hbx.da).1
        have hbo := lbox wr (ruO7 r Ac capc Ar capr)
        have hlk := keep7 HB2.out.2.2.2.2.2.1 hbw
        have HV := Lib.hid (And.intro (on7 hbw hbo) (And.intro (Box7.up hbx hbo) (And.intro (World.alloc_heap_new wr (ruO7 r Ac capc Ar capr)) (And.intro (hru.2.below hbo) (And.intro (kept_alloc hlk (ruO7 r Ac capc Ar capr)) (RelMap.up (RelMap.up HB2.out.2.2.2.2.2.2 hbw) hbo))))))
        have HH := Lib.hid (p_has t r.calls (wd : Int) As Ac caps capc d.nr (wr.alloc (ruO7 r Ac capc Ar capr)) ((HB2.out.2.2.2.2.1.below hbw).below hbo) (hru.1.below hbo))
        have HS := Lib.hid (fun V hx hm => p_holds d mb _ r.when_ (Nat.lt_succ_self _) ⟨0, hok⟩ V Ar capr hx hm)
        clear hbw hbx hbo hru hcc hsb hlk hok
        generalize hasB t d.nr r.calls = hh at HH hgk
        generalize holdsF d r.when_ = hs at HS hgk
        cases hh with
        | false =>
          have HGK : Hid (g = pickF t d p.default_ (p.rules.drop (k + 1))) := Lib.hid (by simpa using hgk)
          clear hgk
          go_wp2_with (go_at_call 24; (with_reducible refine HH.out.mono ?_); rintro e w3 ⟨rfl, hb⟩; have HB3 := Lib.hid (on7 HV.out.1 hb); clear hb)
          exact ⟨⟨k + 1, by omega, by go_num, HGK.out, HB3.out⟩, by simp [intOf]; omega⟩
        | true =>
          cases hs with
          | false =>
            have HGK : Hid (g = pickF t d p.default_ (p.rules.drop (k + 1))) := Lib.hid (by simpa using hgk)
            clear hgk
            go_wp2_with (first
              | (go_at_call 24; (with_reducible refine HH.out.mono ?_); rintro e w3 ⟨rfl, hb⟩; have HB3 := Lib.hid (And.intro (on7 HV.out.1 hb) (And.intro (HV.out.2.2.2.1.below hb) (HV.out.2.2.2.2.2.up hb))); have hrx := keep7 HV.out.2.2.1 hb; have hlx := keep7 HV.out.2.2.2.2.1 hb; clear hb; have r1 := cell6 hrx 1 rfl; have r2 := cell6 hrx 2 rfl; have r3 := cell6 hrx 3 rfl; have r4 := cell6 hrx 4 rfl; have r5 := cell6 hrx 5 rfl; have r6 := cell6 hrx 6 rfl; have k0 := cell6 hlx 0 rfl; have k1 := cell6 hlx 1 rfl; have k2 := cell6 hlx 2 rfl; have k3 := cell6 hlx 3 rfl; have k4 := cell6 hlx 4 rfl; have k5 := cell6 hlx 5 rfl; have k6 := cell6 hlx 6 rfl; have k7 := cell6 hlx 7 rfl; have k8 := cell6 hlx 8 rfl; have k9 := cell6 hlx 9 rfl; clear hrx hlx)
              | (go_at_call 25; (with_reducible refine (HS.out _ HB3.out.2.1 HB3.out.2.2).mono ?_); rintro e w4 ⟨rfl, hb⟩; have HB4 := Lib.hid (on7 HB3.out.1 hb); clear hb))
            exact ⟨⟨k + 1, by omega, by go_num, HGK.out, HB4.out⟩, by simp [intOf]; omega⟩
          | true =>
            have HGK : Hid (g = r.do_) := Lib.hid (by simpa using hgk)
            clear hgk
            go_wp2_with (first
              | (go_at_call 24; (with_reducible refine HH.out.mono ?_); rintro e w3 ⟨rfl, hb⟩; have HB3 := Lib.hid (And.intro (on7 HV.out.1 hb) (And.intro (HV.out.2.2.2.1.below hb) (And.intro (HV.out.2.2.2.2.2.up hb) (And.intro (Box7.up HV.out.2.1 hb) (keep7 HV.out.2.2.1 hb))))); have hrx := keep7 HV.out.2.2.1 hb; have hlx := keep7 HV.out.2.2.2.2.1 hb; clear hb; have r1 := cell6 hrx 1 rfl; have r2 := cell6 hrx 2 rfl; have r3 := cell6 hrx 3 rfl; have r4 := cell6 hrx 4 rfl; have r5 := cell6 hrx 5 rfl; have r6 := cell6 hrx 6 rfl; have k0 := cell6 hlx 0 rfl; have k1 := cell6 hlx 1 rfl; have k2 := cell6 hlx 2 rfl; have k3 := cell6 hlx 3 rfl; have k4 := cell6 hlx 4 rfl; have k5 := cell6 hlx 5 rfl; have k6 := cell6 hlx 6 rfl; have k7 := cell6 hlx 7 rfl; have k8 := cell6 hlx 8 rfl; have k9 := cell6 hlx 9 rfl; clear hrx hlx)
              | (go_at_call 25; (with_reducible refine (HS.out _ HB3.out.2.1 HB3.out.2.2.1).mono ?_); rintro e w4 ⟨rfl, hb⟩; have HB4 := Lib.hid (And.intro (on7 HB3.out.1 hb) (Box7.up HB3.out.2.2.2.1 hb)); have hrx := keep7 HB3.out.2.2.2.2 hb; clear hb; have r7 := cell6 hrx 7 rfl; have r8 := cell6 hrx 8 rfl; clear hrx; obtain ⟨v0, v1, z0, z1⟩ := vd_cells HB4.out.2.re))
            exact bodyPost_ret (v := vdA r.do_) (by simp [results, Tryd.results14, go_sem, v0, v1, World.cell?_setCell_same']) rfl ⟨by rw [HGK.out], ((on7 HB2.out.1 HB4.out.1).setCell (p := ⟨W.heap.size + 2, 0, none⟩) (Nat.le_add_right _ _) _).setCell (p := ⟨W.heap.size + 2, 1, none⟩) (Nat.le_add_right _ _) _⟩
      · have hlt' : ¬ (k : Int) < (p.rules.length : Int) := by omega
        rw [pick_end t d p.default_ p.rules k (by omega)] at hgk
        have HGK := Lib.hid hgk
        have hbx := Box7.up HB2.out.2.1 hbw
        have HBW := Lib.hid (And.intro (on7 HB2.out.1 hbw) hbx)
        obtain ⟨_, _, _, e3, e4, _⟩ := po_cells hbx.po
        obtain ⟨v0, v1, z0, z1⟩ := vd_cells hbx.re
        clear hgk hbw hbx
        go_wp2
        exact bodyPost_ret (v := vdA p.default_) (by simp [results, Tryd.results14, go_sem, v0, v1, World.cell?_setCell_same']) rfl ⟨by rw [HGK.out], (HBW.out.1.setCell (p := ⟨W.heap.size + 2, 0, none⟩) (Nat.le_add_right _ _) _).setCell (p := ⟨W.heap.size + 2, 1, none⟩) (Nat.le_add_right _ _) _⟩
  · rw [if_pos harch] at hg
    have q0 : ((d.arch : Int) != (wd : Int)) = true := bne_iff_ne.2 (fun h => harch (by omega))
    have HG := Lib.hid hg
    clear hg harch
    go_enter Tryd.func14, Tryd.ntmps14
    go_wp2_with (go_at_call 10; (with_reducible refine (H1.out _).mono ?_); rintro e w1 ⟨As, caps, rfl, ht, hb⟩; have HB1 := Lib.hid (And.intro (below_of _ _ (sysO (wd : Int) As t.length caps) (on7 HB.out.1 hb)) (And.intro (Box7.up (Box7.up HB.out.2.1 hb) (lbox w1 (sysO (wd : Int) As t.length caps))) (World.alloc_heap_new w1 (sysO (wd : Int) As t.length caps)))); clear ht hb; obtain ⟨d0, d1, d2, d3, d4, d5, d6, d7, d8⟩ := dat_cells HB1.out.2.1.da; have s0 := cell6 HB1.out.2.2 0 rfl; obtain ⟨_, e1, e2, _, _, _⟩ := po_cells HB1.out.2.1.po; obtain ⟨v0, v1, z0, z1⟩ := vd_cells HB1.out.2.1.re)
    exact bodyPost_ret (v := vdA p.foreign_) (by simp [results, Tryd.results14, go_sem, v0, v1, World.cell?_setCell_same']) rfl ⟨by rw [HG.out], (HB1.out.1.setCell (p := ⟨W.heap.size + 2, 0, none⟩) (Nat.le_add_right _ _) _).setCell (p := ⟨W.heap.size + 2, 1, none⟩) (Nat.le_add_right _ _) _⟩
set_option maxRecDepth 100000 in
set_option maxHeartbeats 4000000 in
theorem p_Eval7 (p : Po) (d : Dat) (A : Option Addr) (cap : Nat) (W : World) (h : RulesL W p.rules A) (hTab : Tab W) :
    Calls Tryd.prog 6 #[poA p A cap, datV d] W fun e w' => e = .returned (.int .u32 (evalF p d : Int)) ∧ Below W.heap.size W w' := by
  have hb := below_of W (W.alloc (poO7 p A cap)) (datO d) (lbox W _)
  have HB := Lib.hid (And.intro hb (And.intro (show ((W.alloc (poO7 p A cap)).alloc (datO d)).heap[W.heap.size]? = some (poO7 p A cap) from kept_alloc (World.alloc_heap_new W _) _) (And.intro (show ((W.alloc (poO7 p A cap)).alloc (datO d)).heap[W.heap.size + 1]? = some (datO d) by simpa using World.alloc_heap_new (W.alloc (poO7 p A cap)) (datO d)) (And.intro (h.below hb) (hTab.up hb)))))
  have HC := Lib.hid (p_Check7 p A cap _ HB.out.2.2.2.1 HB.out.2.2.2.2)
  have HV : Hid ((checkF p).1 = 0 → ∀ V, RulesL V p.rules A → Calls Tryd.prog 14 #[poA p A cap, datV d] V fun e w' => e = .returned (vdA (verdF p d)) ∧ Below V.heap.size V w') := Lib.hid (fun hc V hV => p_verdict p d A cap V hV hc)
  have HA := Lib.hid (fun V hV => p_ActF (verdF p d) V hV)
  obtain ⟨g, hg0⟩ : ∃ g, g = evalF p d := ⟨_, rfl⟩
  rw [← hg0]
  have hg : g = if (checkF p).1 ≠ 0 then 0 else (actF (verdF p d)).1 := hg0
  clear hg0 hb h hTab
  generalize verdF p d = v at HV HA hg
  generalize checkF p = ck at HC HV hg
  obtain ⟨c, at_⟩ := ck
  simp only at HC HV hg
  obtain ⟨x0, x1, x2, x3, x4, x5⟩ := po_cells HB.out.2.1
  by_cases hc : c = 0
  · rw [if_neg (fun h => h hc)] at hg
    have q0 : (c != 0) = false := by rw [hc]; rfl
    have HV2 := Lib.hid (HV.out hc)
    have HG := Lib.hid hg
    clear hg hc HV
    go_enter Tryd.func6, Tryd.ntmps6
    go_wp2_with (first
      | (go_at_call 5; (with_reducible refine HC.out.mono ?_); rintro e w1 ⟨rfl, hb⟩; have HB1 := Lib.hid (And.intro (on7 HB.out.1 hb) (And.intro (HB.out.2.2.2.1.below hb) (HB.out.2.2.2.2.up hb))); have h1 := keep7 HB.out.2.1 hb; have h2 := keep7 HB.out.2.2.1 hb; clear hb; obtain ⟨y0, y1, y2, y3, y4, y5⟩ := po_cells h1; obtain ⟨d0, d1, d2, d3, d4, d5, d6, d7, d8⟩ := dat_cells h2; clear h1 h2)
      | (go_at_call 14; (with_reducible refine (HV2.out _ HB1.out.2.1).mono ?_); rintro e w2 ⟨rfl, hb⟩; have HB2 := Lib.hid (And.intro (on7 HB1.out.1 hb) (HB1.out.2.2.up hb)); clear hb)
      | (go_at_call 13; (with_reducible refine (HA.out _ HB2.out.2).mono ?_); rintro e w3 ⟨rfl, hb⟩; have HB3 := Lib.hid (on7 HB2.out.1 hb); clear hb))
    go_ret
    exact ⟨by rw [HG.out]; rfl, HB3.out⟩
  · rw [if_pos hc] at hg
    have q0 : (c != 0) = true := bne_iff_ne.2 hc
    have HG := Lib.hid hg
    clear hg hc HV
    go_enter Tryd.func6, Tryd.ntmps6
    go_wp2_with (go_at_call 5; (with_reducible refine HC.out.mono ?_); rintro e w1 ⟨rfl, hb⟩; have HB1 := Lib.hid (on7 HB.out.1 hb); clear hb)
    go_ret
    exact ⟨by rw [HG.out]; rfl, HB1.out⟩
end Go.Proofs.YtgeapkjegemkeaaDoor
namespace Go.Proofs.YtgeapkjegemkeaaDoor
open Go Go.RowKit
set_option linter.unusedSimpArgs false
set_option linter.unusedVariables false

theorem calls_all : ∀ {t : List (ByteArray × Nat)} {met : List Nat} {l : List (ByteArray × Nat)}, callsE t met l = 0 → ∀ c ∈ l, ∃ n, nrF t c = some n
  | t, met, [], _, c, hc => absurd hc (by simp)
  | t, met, x :: l, h, c, hc => by
    rw [callsE] at h
    cases hx : nrF t x with
    | none => rw [hx] at h; simp at h
    | some n =>
      rw [hx] at h
      simp only at h
      by_cases hm : n ∈ met
      · rw [if_pos hm] at h; simp at h
      · rw [if_neg hm] at h
        rcases List.mem_cons.1 hc with e | e
        · exact ⟨n, by rw [e, hx]⟩
        · exact calls_all h c e
end Go.Proofs.YtgeapkjegemkeaaDoor
