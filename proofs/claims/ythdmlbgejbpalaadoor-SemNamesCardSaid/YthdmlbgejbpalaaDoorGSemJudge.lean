/-
  Which policies may be, and what they say of data: contracts of both sides. Conditions: those that each names.
-/
import Derived.Test.YthdmlbgejbpalaaDoorGSemCk
import Derived.Test.YthdmlbgejbpalaaDoorPolArg
import Derived.Test.YthdmlbgejbpalaaDoorSemHeld
namespace Go.Proofs.YthdmlbgejbpalaaDoor
open Go Go.RowKit
set_option linter.unusedSimpArgs false
set_option linter.unusedVariables false

abbrev ruO7 (r : Ru) (Ac : Option Addr) (capc : Nat) (A : Option Addr) (cap : Nat) : Obj := .cells #[.slice Ac r.calls.length capc, .int .i64 r.when_.op, .slice A r.when_.args.length cap, .int .i64 r.when_.field, .int .u64 (r.when_.mask : Int), .int .i64 r.when_.rel, .int .u64 (r.when_.value : Int), .int .i64 r.do_.1, .int .u64 (r.do_.2 : Int)] 58
abbrev poO7 (p : Po) (A : Option Addr) (cap : Nat) : Obj := .cells #[.string p.arch, .int .i64 p.foreign_.1, .int .u64 (p.foreign_.2 : Int), .int .i64 p.default_.1, .int .u64 (p.default_.2 : Int), .slice A p.rules.length cap] 29
theorem ruleE_top (t : List (ByteArray × Nat)) (x : Ru) : ruleE t x = if callsTop t x.calls ≠ 0 then callsTop t x.calls else if exF 0 x.when_ ≠ 0 then exF 0 x.when_ else if (actF x.do_).2 = true then 0 else 72 := by
  unfold ruleE callsTop
  by_cases h : x.calls = []
  · rw [if_pos h, if_pos h, if_pos (by decide)]
  · rw [if_neg h, if_neg h]
/-- A block stays behind a call. -/
theorem keep7 {w w1 : World} {b : Nat} {o : Obj} (h : w.heap[b]? = some o) (hb : Below w.heap.size w w1) : w1.heap[b]? = some o := (hb.block _ (Array.getElem?_eq_some_iff.1 h).1).trans h
theorem on7 {w0 w w1 : World} (h : Below w0.heap.size w0 w) (hb : Below w.heap.size w w1) : Below w0.heap.size w0 w1 := h.trans (hb.mono h.size)
theorem Tab.up {w w' : World} (h : Tab w) (hb : Below w.heap.size w w') : Tab w' := h.below hb h.1
set_option maxRecDepth 100000 in
set_option maxHeartbeats 4000000 in
theorem p_ruleFault (t : List (ByteArray × Nat)) (wd : Int) (A : Option Addr) (cap : Nat) (r : Ru) (Ac : Option Addr) (capc : Nat) (Ar : Option Addr) (capr : Nat) (W : World) (hT : TabL W t A) (hw : TabW t) (hr : RuL W r Ac Ar capr) (hTab : Tab W) :
    Calls Tryd.prog 41 #[sysV wd A t.length cap, ruLV r Ac capc Ar capr] W fun e w' => e = .returned (.int .i64 (ruleE t r)) ∧ Below W.heap.size W w' := by
  rw [ruleE_top]
  have hb := below_of W (W.alloc (sysO wd A t.length cap)) (ruO7 r Ac capc Ar capr) (lbox W _)
  have HB := Lib.hid (And.intro hb (And.intro (show ((W.alloc (sysO wd A t.length cap)).alloc (ruO7 r Ac capc Ar capr)).heap[W.heap.size + 1]? = some (ruO7 r Ac capc Ar capr) by simpa using World.alloc_heap_new (W.alloc (sysO wd A t.length cap)) (ruO7 r Ac capc Ar capr)) (And.intro (hr.2.below hb) (hTab.up hb))))
  have x0 := cell6 HB.out.2.1 0 rfl
  have s0 := cell6 (kept_alloc (World.alloc_heap_new W (sysO wd A t.length cap)) (ruO7 r Ac capc Ar capr)) 0 rfl
  have s1 := cell6 (kept_alloc (World.alloc_heap_new W (sysO wd A t.length cap)) (ruO7 r Ac capc Ar capr)) 1 rfl
  have H1 := Lib.hid (p_callsFault t r.calls wd A Ac cap capc ((W.alloc (sysO wd A t.length cap)).alloc (ruO7 r Ac capc Ar capr)) (hT.below hb) hw (hr.below hb).1)
  have H2 := Lib.hid (fun V (hV : ExL V r.when_ Ar capr) => p_Expr7 r.when_ Ar capr V hV)
  have H3 := Lib.hid (fun V (hV : Tab V) => p_ActF r.do_ V hV)
  clear hb hT hw hr hTab
  generalize callsTop t r.calls = ce at H1 ⊢
  generalize exF 0 r.when_ = ee at H2 ⊢
  have hact : Hid (∀ V, Tab V → Calls Tryd.prog 22 #[.agg #[.int .i64 r.do_.1, .int .u64 (r.do_.2 : Int)]] V fun e w' => (∃ z : Int, e = .returned (.tuple #[.int .u32 z, .bool (actF r.do_).2])) ∧ Below V.heap.size V w') := Lib.hid (fun V hV => (H3.out V hV).mono fun e w' h => ⟨⟨_, h.1⟩, h.2⟩)
  clear H3
  generalize (actF r.do_).2 = ok at hact ⊢
  have arm : True := trivial
  by_cases h1 : ce = 0
  · have q1 : (ce != 0) = false := by rw [h1]; rfl
    rw [if_neg (fun g => g h1)]
    by_cases h2 : ee = 0
    · have q2 : (ee != 0) = false := by rw [h2]; rfl
      rw [if_neg (fun g => g h2)]
      have HE : Hid ((if ok = true then (0 : Int) else 72) = if ok = true then 0 else 72) := Lib.hid rfl
      clear h1 h2
      cases ok with
      | true =>
        rw [if_pos rfl]
        go_enter Tryd.func41, Tryd.ntmps41
        go_wp2_with (first
          | (go_at_call 61; (with_reducible refine H1.out.mono ?_); rintro e w1 ⟨rfl, hb⟩; have HB1 := Lib.hid (And.intro (on7 HB.out.1 hb) (And.intro (keep7 HB.out.2.1 hb) (And.intro (HB.out.2.2.1.below hb) (HB.out.2.2.2.up hb)))); clear hb; have y1 := cell6 HB1.out.2.1 1 rfl; have y2 := cell6 HB1.out.2.1 2 rfl; have y3 := cell6 HB1.out.2.1 3 rfl; have y4 := cell6 HB1.out.2.1 4 rfl; have y5 := cell6 HB1.out.2.1 5 rfl; have y6 := cell6 HB1.out.2.1 6 rfl)
          | (go_at_call 15; (with_reducible refine (H2.out _ HB1.out.2.2.1).mono ?_); rintro e w2 ⟨rfl, hb⟩; have HB2 := Lib.hid (And.intro (on7 HB1.out.1 hb) (And.intro (keep7 HB1.out.2.1 hb) (HB1.out.2.2.2.up hb))); clear hb; have y7 := cell6 HB2.out.2.1 7 rfl; have y8 := cell6 HB2.out.2.1 8 rfl)
          | (go_at_call 22; (with_reducible refine (hact.out _ HB2.out.2.2).mono ?_); rintro e w3 ⟨⟨z, rfl⟩, hb⟩; have HB3 := Lib.hid (on7 HB2.out.1 hb); clear hb))
        go_ret
        exact ⟨rfl, HB3.out⟩
      | false =>
        rw [if_neg (by decide)]
        go_enter Tryd.func41, Tryd.ntmps41
        go_wp2_with (first
          | (go_at_call 61; (with_reducible refine H1.out.mono ?_); rintro e w1 ⟨rfl, hb⟩; have HB1 := Lib.hid (And.intro (on7 HB.out.1 hb) (And.intro (keep7 HB.out.2.1 hb) (And.intro (HB.out.2.2.1.below hb) (HB.out.2.2.2.up hb)))); clear hb; have y1 := cell6 HB1.out.2.1 1 rfl; have y2 := cell6 HB1.out.2.1 2 rfl; have y3 := cell6 HB1.out.2.1 3 rfl; have y4 := cell6 HB1.out.2.1 4 rfl; have y5 := cell6 HB1.out.2.1 5 rfl; have y6 := cell6 HB1.out.2.1 6 rfl)
          | (go_at_call 15; (with_reducible refine (H2.out _ HB1.out.2.2.1).mono ?_); rintro e w2 ⟨rfl, hb⟩; have HB2 := Lib.hid (And.intro (on7 HB1.out.1 hb) (And.intro (keep7 HB1.out.2.1 hb) (HB1.out.2.2.2.up hb))); clear hb; have y7 := cell6 HB2.out.2.1 7 rfl; have y8 := cell6 HB2.out.2.1 8 rfl)
          | (go_at_call 22; (with_reducible refine (hact.out _ HB2.out.2.2).mono ?_); rintro e w3 ⟨⟨z, rfl⟩, hb⟩; have HB3 := Lib.hid (on7 HB2.out.1 hb); clear hb))
        go_ret
        exact ⟨rfl, HB3.out⟩
    · have q2 : (ee != 0) = true := bne_iff_ne.2 h2
      rw [if_pos h2]
      clear h1 h2
      go_enter Tryd.func41, Tryd.ntmps41
      go_wp2_with (first
        | (go_at_call 61; (with_reducible refine H1.out.mono ?_); rintro e w1 ⟨rfl, hb⟩; have HB1 := Lib.hid (And.intro (on7 HB.out.1 hb) (And.intro (keep7 HB.out.2.1 hb) (And.intro (HB.out.2.2.1.below hb) (HB.out.2.2.2.up hb)))); clear hb; have y1 := cell6 HB1.out.2.1 1 rfl; have y2 := cell6 HB1.out.2.1 2 rfl; have y3 := cell6 HB1.out.2.1 3 rfl; have y4 := cell6 HB1.out.2.1 4 rfl; have y5 := cell6 HB1.out.2.1 5 rfl; have y6 := cell6 HB1.out.2.1 6 rfl)
        | (go_at_call 15; (with_reducible refine (H2.out _ HB1.out.2.2.1).mono ?_); rintro e w2 ⟨rfl, hb⟩; have HB2 := Lib.hid (on7 HB1.out.1 hb); clear hb))
      go_ret
      exact ⟨rfl, HB2.out⟩
  · have q1 : (ce != 0) = true := bne_iff_ne.2 h1
    rw [if_pos h1]
    clear h1
    go_enter Tryd.func41, Tryd.ntmps41
    go_wp2_with (go_at_call 61; (with_reducible refine H1.out.mono ?_); rintro e w1 ⟨rfl, hb⟩; have HB1 := Lib.hid (on7 HB.out.1 hb); clear hb)
    go_ret
    exact ⟨rfl, HB1.out⟩
def headE (p : Po) : Int := if (actF p.foreign_).2 = false ∨ (actF p.default_).2 = false then 72 else if 512 < p.rules.length then 2 else 0
abbrev twoO7 (p : Po) : Obj := .cells #[.int .i64 p.foreign_.1, .int .u64 (p.foreign_.2 : Int), .int .i64 p.default_.1, .int .u64 (p.default_.2 : Int)] 26
set_option maxRecDepth 100000 in
set_option maxHeartbeats 4000000 in
theorem p_headFault (p : Po) (A : Option Addr) (cap : Nat) (W : World) (hTab : Tab W) :
    Calls Tryd.prog 40 #[poA p A cap] W fun e w' => e = .returned (.int .i64 (headE p)) ∧ Below W.heap.size W w' := by
  have hb := below_of W (W.alloc (poO7 p A cap)) (twoO7 p) (lbox W _)
  have HB := Lib.hid (show Below W.heap.size W ((W.alloc (poO7 p A cap)).alloc (twoO7 p)) ∧ ((W.alloc (poO7 p A cap)).alloc (twoO7 p)).heap[W.heap.size]? = some (poO7 p A cap) ∧ ((W.alloc (poO7 p A cap)).alloc (twoO7 p)).heap[W.heap.size + 1]? = some (twoO7 p) ∧ Tab ((W.alloc (poO7 p A cap)).alloc (twoO7 p)) from ⟨hb, kept_alloc (World.alloc_heap_new W _) _, by simpa using World.alloc_heap_new (W.alloc (poO7 p A cap)) (twoO7 p), hTab.up hb⟩)
  have H3 : Hid (∀ (v : Int × Nat) V, Tab V → Calls Tryd.prog 22 #[.agg #[.int .i64 v.1, .int .u64 (v.2 : Int)]] V fun e w' => (∃ z : Int, e = .returned (.tuple #[.int .u32 z, .bool (actF v).2])) ∧ Below V.heap.size V w') := Lib.hid (fun v V hV => (p_ActF v V hV).mono fun e w' h => ⟨⟨_, h.1⟩, h.2⟩)
  clear hb hTab
  obtain ⟨g, hg⟩ : ∃ g, g = headE p := ⟨_, rfl⟩
  rw [← hg]
  have HG : Hid (g = if (actF p.foreign_).2 = false ∨ (actF p.default_).2 = false then 72 else if 512 < p.rules.length then 2 else 0) := Lib.hid hg
  clear hg
  go_enter Tryd.func40, Tryd.ntmps40
  go_wp2
  go_loopw [13] (fun v wr => ∃ k : Nat, (k = 0 ∨ k = 1 ∧ (actF p.foreign_).2 = true ∨ k = 2 ∧ (actF p.foreign_).2 = true ∧ (actF p.default_).2 = true) ∧ v = .int .i64 (k : Int) ∧ Below W.heap.size W wr ∧ wr.heap[W.heap.size]? = some (poO7 p A cap) ∧ wr.heap[W.heap.size + 1]? = some (twoO7 p) ∧ Tab wr) (fun v _ => 2 - (intOf v).toNat)
  case atStart => exact ⟨0, .inl rfl, rfl, HB.out⟩
  case round =>
    obtain ⟨k, hk, rfl, hbw, hbx, hby, htab⟩ := hrel
    clear HB
    rcases hk with rfl | ⟨rfl, hf⟩ | ⟨rfl, hf, hd⟩
    · have u0 := cell6 hby 0 rfl
      have u1 := cell6 hby 1 rfl
      have HW := Lib.hid (And.intro (below_of W wr (vdO7 p.foreign_.1 p.foreign_.2) hbw) (And.intro (kept_alloc hbx (vdO7 p.foreign_.1 p.foreign_.2)) (And.intro (kept_alloc hby (vdO7 p.foreign_.1 p.foreign_.2)) (htab.up (lbox wr (vdO7 p.foreign_.1 p.foreign_.2))))))
      have H3a := Lib.hid (H3.out p.foreign_ _ HW.out.2.2.2)
      clear hbw hbx hby htab
      cases hf : (actF p.foreign_).2 with
      | false =>
        rw [hf] at H3a
        have HGK : Hid (g = 72) := Lib.hid (by rw [HG.out, if_pos (.inl hf)])
        clear hf
        go_wp2_with (go_at_call 22; (with_reducible refine H3a.out.mono ?_); rintro e w3 ⟨⟨z, rfl⟩, hb⟩; have HB3 := Lib.hid (on7 HW.out.1 hb); clear hb)
        go_ret
        exact ⟨by rw [HGK.out]; rfl, HB3.out⟩
      | true =>
        rw [hf] at H3a
        have HF := Lib.hid hf
        clear hf
        go_wp2_with (go_at_call 22; (with_reducible refine H3a.out.mono ?_); rintro e w3 ⟨⟨z, rfl⟩, hb⟩; have HB3 := Lib.hid (And.intro (on7 HW.out.1 hb) (And.intro (keep7 HW.out.2.1 hb) (And.intro (keep7 HW.out.2.2.1 hb) (HW.out.2.2.2.up hb)))); clear hb)
        exact ⟨⟨1, .inr (.inl ⟨rfl, by first | trivial | exact HF.out⟩), by go_num, HB3.out⟩, by simp [intOf]⟩
    · have u2 := cell6 hby 2 rfl
      have u3 := cell6 hby 3 rfl
      have HW := Lib.hid (And.intro (below_of W wr (vdO7 p.default_.1 p.default_.2) hbw) (And.intro (kept_alloc hbx (vdO7 p.default_.1 p.default_.2)) (And.intro (kept_alloc hby (vdO7 p.default_.1 p.default_.2)) (htab.up (lbox wr (vdO7 p.default_.1 p.default_.2))))))
      have H3a := Lib.hid (H3.out p.default_ _ HW.out.2.2.2)
      have HF := Lib.hid hf
      clear hbw hbx hby htab hf
      cases hf : (actF p.default_).2 with
      | false =>
        rw [hf] at H3a
        have HGK : Hid (g = 72) := Lib.hid (by rw [HG.out, if_pos (.inr hf)])
        clear hf
        go_wp2_with (go_at_call 22; (with_reducible refine H3a.out.mono ?_); rintro e w3 ⟨⟨z, rfl⟩, hb⟩; have HB3 := Lib.hid (on7 HW.out.1 hb); clear hb)
        go_ret
        exact ⟨by rw [HGK.out]; rfl, HB3.out⟩
      | true =>
        rw [hf] at H3a
        have HF2 := Lib.hid hf
        clear hf
        go_wp2_with (go_at_call 22; (with_reducible refine H3a.out.mono ?_); rintro e w3 ⟨⟨z, rfl⟩, hb⟩; have HB3 := Lib.hid (And.intro (on7 HW.out.1 hb) (And.intro (keep7 HW.out.2.1 hb) (And.intro (keep7 HW.out.2.2.1 hb) (HW.out.2.2.2.up hb)))); clear hb)
        exact ⟨⟨2, .inr (.inr ⟨rfl, HF.out, by first | trivial | exact HF2.out⟩), by go_num, HB3.out⟩, by simp [intOf]⟩
    · have v5 := cell6 hbx 5 rfl
      have HBW := Lib.hid hbw
      have hg2 := HG.out
      rw [if_neg (by rw [hf, hd]; simp)] at hg2
      clear hbw hbx hby htab hf hd HG
      by_cases hl : 512 < p.rules.length
      · rw [if_pos hl] at hg2
        have HGK := Lib.hid hg2
        have hl' : (512 : Int) < (p.rules.length : Int) := by omega
        clear hg2
        go_wp2
        go_ret
        exact ⟨by rw [HGK.out]; rfl, HBW.out⟩
      · rw [if_neg hl] at hg2
        have HGK := Lib.hid hg2
        have hl' : ¬ (512 : Int) < (p.rules.length : Int) := by omega
        clear hg2
        go_wp2
        go_ret
        exact ⟨by rw [HGK.out]; rfl, HBW.out⟩
theorem check_head (p : Po) : checkF p = if (sysF p.arch).2.2 = false then (71, -1) else if headE p ≠ 0 then (headE p, -1) else rulesE (sysF p.arch).2.1 0 p.rules := by
  unfold checkF headE
  by_cases h1 : (sysF p.arch).2.2 = false
  · rw [if_pos h1, if_pos h1]
  · rw [if_neg h1, if_neg h1]
    by_cases h2 : (actF p.foreign_).2 = false ∨ (actF p.default_).2 = false
    · rw [if_pos h2, if_pos h2, if_pos (by decide)]
    · rw [if_neg h2, if_neg h2]
      by_cases h3 : 512 < p.rules.length
      · rw [if_pos h3, if_pos h3, if_pos (by decide)]
      · rw [if_neg h3, if_neg h3, if_neg (by simp)]
/-- A rule's cells. -/
theorem rules_cells {w wr : World} {l : List Ru} {A : Option Addr} (h : RulesL w l A) (hb : Below w.heap.size w wr) (k : Nat) (hk : k < l.length) :
    ∃ tb o Ac capc Ar capr, A = some ⟨tb, o, none⟩ ∧ tb < wr.heap.size ∧ RuL wr (l.getD k zeroR7) Ac Ar capr ∧ ∀ j u, (ruL (l.getD k zeroR7) Ac capc Ar capr)[j]? = some u → wr.cell? ⟨tb, o + k * 9 + j, none⟩ = some u := by
  rcases h.2 with h0 | ⟨tb, o, hA, ht, hc⟩
  · rw [h0] at hk; exact absurd hk (by simp)
  · obtain ⟨Ac, capc, Ar, capr, h1, h2⟩ := ruRowL_at k hk hc
    exact ⟨tb, o, Ac, capc, Ar, capr, hA, Nat.lt_of_lt_of_le ht hb.size, h1.below hb, fun j u hj => (hb.cell (p := ⟨tb, o + k * 9 + j, none⟩) ht).trans (h2 j u hj)⟩
set_option maxRecDepth 100000 in
set_option maxHeartbeats 4000000 in
theorem p_Check7 (p : Po) (A : Option Addr) (cap : Nat) (W : World) (h : RulesL W p.rules A) (hTab : Tab W) :
    Calls Tryd.prog 14 #[poA p A cap] W fun e w' => e = .returned (.tuple #[.int .i64 (checkF p).1, .int .i64 (checkF p).2]) ∧ Below W.heap.size W w' := by
  have hb := lbox W (poO7 p A cap)
  have HB := Lib.hid (And.intro hb (And.intro (World.alloc_heap_new W (poO7 p A cap)) (And.intro (h.below hb) (hTab.up hb))))
  have H1 := Lib.hid (fun V => p_systemOf p.arch V)
  have HW := Lib.hid (sys_w p.arch)
  have hck := check_head p
  have H2 := Lib.hid (fun V (hV : Tab V) => p_headFault p A cap V hV)
  have hlen : p.rules.length ≤ maxLen := h.1
  unfold maxLen at hlen
  clear hb h hTab
  generalize checkF p = ck at hck ⊢
  generalize headE p = hd at hck H2
  generalize sysF p.arch = sy at hck H1 HW
  obtain ⟨wd, t, is⟩ := sy
  simp only at hck H1 HW
  obtain ⟨x0, x1, x2, x3, x4, x5⟩ : _ ∧ _ ∧ _ ∧ _ ∧ _ ∧ _ := ⟨cell6 HB.out.2.1 0 rfl, cell6 HB.out.2.1 1 rfl, cell6 HB.out.2.1 2 rfl, cell6 HB.out.2.1 3 rfl, cell6 HB.out.2.1 4 rfl, cell6 HB.out.2.1 5 rfl⟩
  clear x1 x2 x3 x4 x5
  cases is with
  | false =>
    rw [if_pos rfl] at hck
    have HCK := Lib.hid hck
    clear hck
    go_enter Tryd.func14, Tryd.ntmps14
    go_wp2_with (go_at_call 39; (with_reducible refine (H1.out _).mono ?_); rintro e w1 ⟨As, caps, rfl, ht, hb⟩; have HB1 := Lib.hid (on7 HB.out.1 hb); clear ht hb)
    go_ret2
    exact ⟨by rw [HCK.out]; rfl, below_of _ _ _ HB1.out⟩
  | true =>
    rw [if_neg (by decide)] at hck
    by_cases h0 : hd = 0
    · rw [if_neg (fun g => g h0)] at hck
      have q0 : (hd != 0) = false := by rw [h0]; rfl
      obtain ⟨rl, hrl⟩ : ∃ rl, rl = p.rules := ⟨_, rfl⟩
      obtain ⟨n, hn⟩ : ∃ n, n = p.rules.length := ⟨_, rfl⟩
      have HN := Lib.hid hn
      have HG : Hid (ck = rulesE t 0 (p.rules.drop 0)) := Lib.hid hck
      clear hck hrl h0
      go_enter Tryd.func14, Tryd.ntmps14
      go_wp2_with (first
        | (go_at_call 39; (with_reducible refine (H1.out _).mono ?_); rintro e w1 ⟨As, caps, rfl, ht, hb⟩; have HB1 := Lib.hid (And.intro (below_of _ _ (sysO (wd : Int) As t.length caps) (on7 HB.out.1 hb)) (And.intro (kept_alloc (keep7 HB.out.2.1 hb) (sysO (wd : Int) As t.length caps)) (And.intro (RulesL.below (RulesL.below HB.out.2.2.1 hb) (lbox w1 (sysO (wd : Int) As t.length caps))) (And.intro (Tab.up (HB.out.2.2.2.up hb) (lbox w1 (sysO (wd : Int) As t.length caps))) (And.intro (World.alloc_heap_new w1 (sysO (wd : Int) As t.length caps)) (TabL.below ht (lbox w1 (sysO (wd : Int) As t.length caps)))))))); clear ht hb; have y0 := cell6 HB1.out.2.1 0 rfl; have y1 := cell6 HB1.out.2.1 1 rfl; have y2 := cell6 HB1.out.2.1 2 rfl; have y3 := cell6 HB1.out.2.1 3 rfl; have y4 := cell6 HB1.out.2.1 4 rfl; have y5 := cell6 HB1.out.2.1 5 rfl)
        | (go_at_call 40; (with_reducible refine (H2.out _ HB1.out.2.2.2.1).mono ?_); rintro e w2 ⟨rfl, hb⟩; have HB2 := Lib.hid (And.intro (on7 HB1.out.1 hb) (And.intro (keep7 HB1.out.2.1 hb) (And.intro (HB1.out.2.2.1.below hb) (And.intro (HB1.out.2.2.2.1.up hb) (And.intro (keep7 HB1.out.2.2.2.2.1 hb) (HB1.out.2.2.2.2.2.below hb)))))); clear hb; have z5 := cell6 HB2.out.2.1 5 rfl))
      go_loopw [26] (fun v wr => ∃ k : Nat, k ≤ p.rules.length ∧ v = .int .i64 (k : Int) ∧ ck = rulesE t k (p.rules.drop k) ∧ Below w2.heap.size w2 wr) (fun v _ => p.rules.length - (intOf v).toNat)
      case atStart => exact ⟨0, Nat.zero_le _, rfl, HG.out, Below.refl _ _⟩
      case round =>
        obtain ⟨k, hk, rfl, hgk, hbw⟩ := hrel
        clear HG HB HB1 H1 H2
        by_cases hlt : k < p.rules.length
        · have hlt' : (k : Int) < (p.rules.length : Int) := by omega
          have hw : IntKind.i64.wrap ((k : Int) + 1) = ((k + 1 : Nat) : Int) := by rw [IntWalk.i64_in _ (by omega)]; omega
          rw [rules_at t p.rules k hlt] at hgk
          obtain ⟨tb, o, Ac, capc, Ar, capr, rfl, htb, hru, hcc⟩ := rules_cells HB2.out.2.2.1 hbw k hlt
          generalize p.rules.getD k zeroR7 = r at hru hcc hgk
          have c0 : wr.cell? ⟨tb, o + k * 9, none⟩ = _ := hcc 0 _ rfl
          have c1 := hcc 1 _ rfl
          have c2 := hcc 2 _ rfl
          have c3 := hcc 3 _ rfl
          have c4 := hcc 4 _ rfl
          have c5 := hcc 5 _ rfl
          have c6 := hcc 6 _ rfl
          have c7 := hcc 7 _ rfl
          have c8 := hcc 8 _ rfl
          have hbx := keep7 HB2.out.2.2.2.2.1 hbw
          have hsz : w1.heap.size < wr.heap.size := (Array.getElem?_eq_some_iff.1 hbx).1
          have s0 : ∀ o, (wr.alloc o).cell? ⟨w1.heap.size, 0, none⟩ = some (.int .u32 wd) := fun o => cell6 (kept_alloc hbx o) 0 rfl
          have s1 : ∀ o, (wr.alloc o).cell? ⟨w1.heap.size, 1, none⟩ = some (.slice As t.length caps) := fun o => cell6 (kept_alloc hbx o) 1 rfl
          have hbo := lbox wr (ruO7 r Ac capc Ar capr)
          have HV := Lib.hid (on7 hbw hbo)
          have HR := Lib.hid (p_ruleFault t (wd : Int) As caps r Ac capc Ar capr (wr.alloc (ruO7 r Ac capc Ar capr)) ((HB2.out.2.2.2.2.2.below hbw).below hbo) HW.out (hru.below hbo) ((HB2.out.2.2.2.1.up hbw).up hbo))
          clear hbw hbx hbo hru hcc
          generalize ruleE t r = re at HR hgk
          by_cases hre : re = 0
          · have q1 : (re != 0) = false := by rw [hre]; rfl
            rw [if_neg (fun g => g hre)] at hgk
            have HGK := Lib.hid hgk
            clear hgk hre
            go_wp2_with (go_at_call 41; (with_reducible refine HR.out.mono ?_); rintro e w3 ⟨rfl, hb⟩; have HB3 := Lib.hid (on7 HV.out hb); clear hb)
            exact ⟨⟨k + 1, by omega, by go_num, HGK.out, HB3.out⟩, by simp [intOf]; omega⟩
          · have q1 : (re != 0) = true := bne_iff_ne.2 hre
            rw [if_pos hre] at hgk
            have HGK := Lib.hid hgk
            clear hgk hre
            go_wp2_with (go_at_call 41; (with_reducible refine HR.out.mono ?_); rintro e w3 ⟨rfl, hb⟩; have HB3 := Lib.hid (on7 HV.out hb); clear hb)
            go_ret2
            exact ⟨by rw [HGK.out]; rfl, on7 HB2.out.1 HB3.out⟩
        · have hlt' : ¬ (k : Int) < (p.rules.length : Int) := by omega
          rw [rules_end t p.rules k (by omega)] at hgk
          have HGK := Lib.hid hgk
          have HBW := Lib.hid (on7 HB2.out.1 hbw)
          clear hgk hbw
          go_wp2
          go_ret2
          exact ⟨by rw [HGK.out]; rfl, HBW.out⟩
    · rw [if_pos h0] at hck
      have q0 : (hd != 0) = true := bne_iff_ne.2 h0
      have HCK := Lib.hid hck
      clear hck h0
      go_enter Tryd.func14, Tryd.ntmps14
      go_wp2_with (first
        | (go_at_call 39; (with_reducible refine (H1.out _).mono ?_); rintro e w1 ⟨As, caps, rfl, ht, hb⟩; have HB1 := Lib.hid (And.intro (below_of _ _ (sysO (wd : Int) As t.length caps) (on7 HB.out.1 hb)) (And.intro (kept_alloc (keep7 HB.out.2.1 hb) (sysO (wd : Int) As t.length caps)) (Tab.up (HB.out.2.2.2.up hb) (lbox w1 (sysO (wd : Int) As t.length caps))))); clear ht hb; have y0 := cell6 HB1.out.2.1 0 rfl; have y1 := cell6 HB1.out.2.1 1 rfl; have y2 := cell6 HB1.out.2.1 2 rfl; have y3 := cell6 HB1.out.2.1 3 rfl; have y4 := cell6 HB1.out.2.1 4 rfl; have y5 := cell6 HB1.out.2.1 5 rfl)
        | (go_at_call 40; (with_reducible refine (H2.out _ HB1.out.2.2).mono ?_); rintro e w2 ⟨rfl, hb⟩; have HB2 := Lib.hid (on7 HB1.out.1 hb); clear hb))
      go_ret2
      exact ⟨by rw [HCK.out]; rfl, HB2.out⟩
end Go.Proofs.YthdmlbgejbpalaaDoor
namespace Go.Proofs.YthdmlbgejbpalaaDoor
open Go Go.RowKit
set_option linter.unusedSimpArgs false
set_option linter.unusedVariables false

def metVs (met : List Nat) : List Value := met.map fun (n : Nat) => Value.int .u32 (n : Int)
theorem metVs_snoc (met : List Nat) (n : Nat) : metVs (met ++ [n]) = metVs met ++ [.int .u32 (n : Int)] := by simp [metVs]
theorem metVs_one {met : List Nat} : ∀ u ∈ metVs met, u.oneCell' = true := by
  intro u hu
  obtain ⟨n, _, rfl⟩ := List.mem_map.1 hu
  rfl
theorem info_u32 : (Tryd.prog.info? 31).map (fun i => (i.zero, i.size, i.bytes)) = some (some (.int .u32 0), 1, 4) := by kernel_rfl
/-- Numbers met so far. -/
def MetRow (w : World) (lo : Nat) (v : Value) (met : List Nat) : Prop := w.ownsRow lo 31 1 v met.length (metVs met)
theorem MetRow.up {w w' : World} {lo : Nat} {v : Value} {met : List Nat} (h : MetRow w lo v met) (hb : Below w.heap.size w w') : MetRow w' lo v met := own_below h hb
theorem MetRow.form {w : World} {lo : Nat} {v : Value} {met : List Nat} (h : MetRow w lo v met) : ∃ A cap, v = .slice A met.length cap ∧ ∀ k, k < met.length → ∃ tb, A = some ⟨tb, 0, none⟩ ∧ lo ≤ tb ∧ tb < w.heap.size ∧ w.cell? ⟨tb, k, none⟩ = some (.int .u32 ((met.getD k 0 : Nat) : Int)) := by
  obtain ⟨_, h⟩ := h
  rcases h with ⟨rfl, h0⟩ | ⟨g, cap, cur, rfl, hlo, hh, hl, hm, hs, ht⟩
  · exact ⟨none, 0, by rw [h0], fun k hk => absurd hk (by omega)⟩
  · refine ⟨_, cap, rfl, fun k hk => ⟨g, rfl, hlo, (Array.getElem?_eq_some_iff.1 hh).1, ?_⟩⟩
    have h1 : (metVs met)[k]? = some (.int .u32 ((met.getD k 0 : Nat) : Int)) := by
      rw [metVs, List.getElem?_map, List.getElem?_eq_getElem hk, List.getD_eq_getElem?_getD, List.getElem?_eq_getElem hk]; rfl
    rw [← ht, List.getElem?_take, if_pos (by omega), Array.getElem?_toList] at h1
    simp [World.cell?, hh, h1]
/-- How far the numbers met have been gone through. -/
theorem mem_at (met : List Nat) (n k : Nat) (hk : k < met.length) (h : n ∉ met.take k) : (n = met.getD k 0 → n ∈ met) ∧ (n ≠ met.getD k 0 → n ∉ met.take (k + 1)) := by
  have e : met.getD k 0 = met[k] := by rw [List.getD_eq_getElem?_getD, List.getElem?_eq_getElem hk]; rfl
  rw [e]
  refine ⟨fun g => g ▸ List.getElem_mem hk, fun g => ?_⟩
  rw [List.take_add_one, List.getElem?_eq_getElem hk]
  intro hm
  rcases List.mem_append.1 hm with h1 | h1
  · exact h h1
  · simp at h1; exact g h1
set_option maxRecDepth 100000 in
set_option maxHeartbeats 8000000 in
theorem ref_rule (s : ByteArray) (r : Ru) (Ac : Option Addr) (capc : Nat) (Ar : Option Addr) (capr : Nat) (W : World) (hr : RuL W r Ac Ar capr) :
    Calls Tryd.prog 47 #[.string s, ruLV r Ac capc Ar capr] W fun e w' => e = .returned (.int .i64 (ruleE (sysF s).2.1 r)) ∧ Below W.heap.size W w' := by
  rw [ruleE_top]
  have hb := lbox W (ruO7 r Ac capc Ar capr)
  have HB := Lib.hid (And.intro hb (And.intro (World.alloc_heap_new W (ruO7 r Ac capc Ar capr)) (And.intro (hr.1.below hb) (hr.2.below hb))))
  have hw := sys_w s
  have HN := Lib.hid (fun c V => ref_Nr s c V)
  generalize (sysF s).2.1 = t at hw HN ⊢
  have HTW := Lib.hid hw
  have H2 := Lib.hid (fun V (hV : ExL V r.when_ Ar capr) => ref_Expr7 r.when_ Ar capr V hV)
  have H3 : Hid (∀ V, Calls Tryd.prog 23 #[.agg #[.int .i64 r.do_.1, .int .u64 (r.do_.2 : Int)]] V fun e w' => (∃ z : Int, e = .returned (.tuple #[.int .u32 z, .bool (actF r.do_).2])) ∧ Below V.heap.size V w') := Lib.hid (fun V => (ref_ActF r.do_ V).mono fun e w' h => ⟨⟨_, h.1⟩, h.2⟩)
  have hlen : r.calls.length ≤ maxLen := hr.1.1
  unfold maxLen at hlen
  obtain ⟨g, hg⟩ : ∃ g, g = (if callsTop t r.calls ≠ 0 then callsTop t r.calls else if exF 0 r.when_ ≠ 0 then exF 0 r.when_ else if (actF r.do_).2 = true then 0 else 72) := ⟨_, rfl⟩
  rw [← hg]
  have x0 := cell6 HB.out.2.1 0 rfl
  by_cases h0 : r.calls = []
  · have hct : callsTop t r.calls = 73 := by rw [callsTop, if_pos h0]
    rw [hct, if_pos (by decide)] at hg
    have HG := Lib.hid hg
    have q0 : ((r.calls.length : Int) == 0) = true := by rw [h0]; rfl
    clear hb hw hg hct h0 hr
    go_enter Tryd.func47, Tryd.ntmps47
    go_wp2
    go_ret
    exact ⟨by rw [HG.out]; rfl, HB.out.1⟩
  · have hct : callsTop t r.calls = callsE t [] r.calls := by rw [callsTop, if_neg h0]
    have hpos : 0 < r.calls.length := List.length_pos_iff.2 h0
    have q0 : ((r.calls.length : Int) == 0) = false := beq_false_of_ne (by omega)
    rw [hct] at hg
    have HG : Hid (g = (if callsE t [] (r.calls.drop 0) ≠ 0 then callsE t [] (r.calls.drop 0) else if exF 0 r.when_ ≠ 0 then exF 0 r.when_ else if (actF r.do_).2 = true then 0 else 72)) := Lib.hid hg
    have HL := Lib.hid hpos
    clear hb hw hg hct h0 hr
    generalize exF 0 r.when_ = ee at H2 HG
    generalize (actF r.do_).2 = ok at H3 HG
    obtain ⟨rest, hrest⟩ : ∃ rest : Int, rest = (if ee ≠ 0 then ee else if ok = true then 0 else 72) := ⟨_, rfl⟩
    have HG2 : Hid (g = (if callsE t [] (r.calls.drop 0) ≠ 0 then callsE t [] (r.calls.drop 0) else rest)) := Lib.hid (by rw [hrest]; exact HG.out)
    have HR := Lib.hid hrest
    clear HG hrest
    go_enter Tryd.func47, Tryd.ntmps47
    go_wp2
    go_loopw [5, 6] (fun v i wr => ∃ (k : Nat) (met : List Nat), k ≤ r.calls.length ∧ i = .int .i64 (k : Int) ∧ (met.length = k ∧ met.Nodup ∧ (∀ x ∈ met, x < 4294967296) ∧ g = (if callsE t met (r.calls.drop k) ≠ 0 then callsE t met (r.calls.drop k) else rest)) ∧ MetRow wr (W.heap.size + 1) v met ∧ Below (W.alloc (ruO7 r Ac capc Ar capr)).heap.size (W.alloc (ruO7 r Ac capc Ar capr)) wr) (fun _ i _ => r.calls.length - (intOf i).toNat)
    case atStart => exact ⟨0, [], Nat.zero_le _, rfl, ⟨rfl, List.nodup_nil, fun x hx => absurd hx (by simp), HG2.out⟩, World.ownsRow_nil _ _ _ _, Below.refl _ _⟩
    case round =>
      obtain ⟨k, met, hk, rfl, hmet, hrow, hbw⟩ := hrel
      have hbx := keep7 HB.out.2.1 hbw
      have x0 := cell6 hbx 0 rfl
      have hlo : W.heap.size + 1 ≤ wr.heap.size := by have := hbw.size; simpa using this
      obtain ⟨hm1, hm2, hm3, hgk⟩ := hmet
      by_cases hlt : k < r.calls.length
      · have hlt' : (k : Int) < (r.calls.length : Int) := by omega
        have hw : IntKind.i64.wrap ((k : Int) + 1) = ((k + 1 : Nat) : Int) := by rw [IntWalk.i64_in _ (by omega)]; omega
        have hkm : k ≤ 4294967296 := by
          have := nodup_len 4294967296 met hm2 hm3
          omega
        rw [calls_at t met r.calls k hlt] at hgk
        obtain ⟨tb, o, hA, htl, c0, c1⟩ := calls_cells (B := 0) HB.out.2.2.1 hbw k hlt
        subst hA
        generalize r.calls.getD k (⟨#[]⟩, 0) = c at c0 c1 hgk
        have hnr := HN.out c wr
        have HBW := Lib.hid (And.intro hbw (And.intro hbx (And.intro hrow hlo)))
        obtain ⟨A1, cap1, rfl, hcells⟩ := hrow.form
        cases hq : nrF t c with
        | none =>
          rw [hq] at hnr hgk
          have HGK : Hid (g = 73) := Lib.hid (by simpa using hgk)
          have HNR : Hid (Calls Tryd.prog 50 #[.string s, callV c] wr fun e w2 => (∃ m : Nat, e = .returned (.tuple #[.int .u32 (m : Int), .bool false])) ∧ Below W.heap.size W w2) := Lib.hid (hnr.mono fun e w2 ⟨m, b, he, hb, hb2⟩ => ⟨⟨m, by rw [he, show b = false from hb]⟩, on7 (on7 HB.out.1 hbw) hb2⟩)
          clear hgk hnr hq hm1 hm2 hm3 hrow hbw hbx hcells
          go_wp2_with (go_at_call 50; (with_reducible refine HNR.out.mono ?_); rintro e w2 ⟨⟨m, rfl⟩, hb2⟩; have HB2 := Lib.hid hb2; clear hb2)
          go_ret
          exact ⟨by rw [HGK.out]; rfl, HB2.out⟩
        | some m =>
          rw [hq] at hnr hgk
          have hm32 : m < 4294967296 := nr_w HTW.out hq
          have HNR : Hid (Calls Tryd.prog 50 #[.string s, callV c] wr fun e w2 => e = .returned (.tuple #[.int .u32 (m : Int), .bool true]) ∧ Below wr.heap.size wr w2) := Lib.hid (hnr.mono fun e w2 ⟨m', b, he, hb, hb2⟩ => ⟨by rw [he, hb.1, hb.2], hb2⟩)
          have HM := Lib.hid (And.intro hm1 (And.intro hm2 (And.intro hm3 hm32)))
          have HGK : Hid (g = (if (if m ∈ met then 74 else callsE t (met ++ [m]) (r.calls.drop (k + 1))) ≠ 0 then (if m ∈ met then 74 else callsE t (met ++ [m]) (r.calls.drop (k + 1))) else rest)) := Lib.hid hgk
          have HMC : Hid (∀ j, j < k → ∃ tb, A1 = some ⟨tb, 0, none⟩ ∧ tb < wr.heap.size ∧ wr.cell? ⟨tb, j, none⟩ = some (.int .u32 ((met.getD j 0 : Nat) : Int))) := Lib.hid (fun j hj => by obtain ⟨tb, h1, _, h2, h3⟩ := hcells j (by omega); exact ⟨tb, h1, h2, h3⟩)
          rw [hm1] at HBW hcells ⊢
          clear hgk hnr hq hm1 hm2 hm3 hrow hbw hbx hcells
          go_wp2_with (go_at_call 50; (with_reducible refine HNR.out.mono ?_); rintro e w2 ⟨rfl, hb2⟩; have HB2 := Lib.hid hb2; clear hb2)
          go_loopw [9] (fun i w3 => ∃ j : Nat, j ≤ k ∧ i = .int .i64 (j : Int) ∧ m ∉ met.take j ∧ w3 = w2) (fun i _ => k - (intOf i).toNat)
          case atStart => exact ⟨0, Nat.zero_le _, rfl, by simp, rfl⟩
          case round =>
            obtain ⟨j, hj, rfl, hjm, hw3⟩ := hrel
            subst hw3
            by_cases hjk : j < k
            · have hjk' : (j : Int) < (k : Int) := by omega
              have hwj : IntKind.i64.wrap ((j : Int) + 1) = ((j + 1 : Nat) : Int) := by rw [IntWalk.i64_in _ (by omega)]; omega
              obtain ⟨tb1, hA1, htb1, hcj⟩ := HMC.out j hjk
              subst hA1
              have hcj2 := (HB2.out.cell (p := ⟨tb1, j, none⟩) htb1).trans hcj
              have hma := mem_at met m j (by rw [HM.out.1]; exact hjk) hjm
              generalize met.getD j 0 = x at hcj hcj2 hma
              by_cases hx : m = x
              · have q1 : ((x : Int) == (m : Int)) = true := beq_iff_eq.2 (by omega)
                have HE : Hid (g = 74) := Lib.hid (by rw [HGK.out, if_pos (hma.1 hx), if_pos (by decide)])
                have HBE := Lib.hid (on7 (on7 HB.out.1 HBW.out.1) HB2.out)
                clear hcj hma hx hjm HGK
                go_wp2
                go_ret
                exact ⟨by rw [HE.out]; rfl, HBE.out⟩
              · have q1 : ((x : Int) == (m : Int)) = false := beq_false_of_ne (by omega)
                have HE := Lib.hid (hma.2 hx)
                clear hcj hma hx hjm
                go_wp2
                exact ⟨⟨j + 1, by omega, by go_num, HE.out, by first | trivial | rfl⟩, by simp [intOf]; omega⟩
            · have hjk' : ¬ (j : Int) < (k : Int) := by omega
              have hnm : m ∉ met := by
                have e : met.take j = met := List.take_of_length_le (by rw [HM.out.1]; omega)
                rw [e] at hjm; exact hjm
              have HE : Hid (g = (if callsE t (met ++ [m]) (r.calls.drop (k + 1)) ≠ 0 then callsE t (met ++ [m]) (r.calls.drop (k + 1)) else rest)) := Lib.hid (by have := HGK.out; rw [if_neg hnm] at this; exact this)
              have HN2 := Lib.hid (And.intro (show (met ++ [m]).length = k + 1 by simp [HM.out.1]) (And.intro (snoc_nodup HM.out.2.1 hnm) (snoc_below HM.out.2.2.1 HM.out.2.2.2)))
              have HRW := Lib.hid (show World.ownsRow _ (W.heap.size + 1) 31 1 (.slice A1 k cap1) k (metVs met) from (by have := MetRow.up HBW.out.2.2.1 HB2.out; unfold MetRow at this; rw [HM.out.1] at this; exact this))
              have HBE := Lib.hid (And.intro (HBW.out.1.trans (HB2.out.mono HBW.out.1.size)) (Nat.le_trans HBW.out.2.2.2 HB2.out.size))
              have hk32 := hkm
              clear hjm hnm HGK
              go_wp2_with (at_builtin; refine wpList_append_own _ rfl (.tmp 48) (.tmp 50) 123 rfl 31 (.int .u32 0) 1 4 Tryd.underlying123 info_u32 rfl (by decide) (W.heap.size + 1) (.slice A1 k cap1) k (metVs met) rfl (own_below HRW.out (lbox _ _)) ⟨_, 0, none⟩ 1 1 [.int .u32 (m : Int)] rfl rfl (cell_one_new _ _ _) (fun u hu => by rw [List.mem_singleton.1 hu]; rfl) (by unfold maxLen; omega) (by omega) (by have := HBE.out.2; simp; omega) ?_; intro v' w4 ho hg4 hv; have HF := Lib.hid (And.intro ho (And.intro hg4 hv)); clear ho hg4 hv)
              refine ⟨⟨k + 1, met ++ [m], by omega, by go_num, ⟨HN2.out.1, HN2.out.2.1, HN2.out.2.2, HE.out⟩, (by unfold MetRow; rw [HN2.out.1, metVs_snoc]; exact HF.out.1), ?_⟩, by simp [intOf]; omega⟩
              have hX : (W.alloc (ruO7 r (some ⟨tb, o, none⟩) capc Ar capr)).heap.size = W.heap.size + 1 := by simp
              have h1 := HBE.out.1
              rw [hX] at h1 ⊢
              exact below_own (h1.trans ((lbox _ _).mono HBE.out.2)) (own_below HRW.out (lbox _ _)) HF.out.2.1 (by rw [hX]; exact Nat.le_refl _)
      · have hlt' : ¬ (k : Int) < (r.calls.length : Int) := by omega
        rw [calls_end t met r.calls k (by omega), if_neg (by simp)] at hgk
        have HR2 : Hid (g = if ee ≠ 0 then ee else if ok = true then 0 else 72) := Lib.hid (hgk.trans HR.out)
        have HBE := Lib.hid (And.intro (on7 HB.out.1 hbw) (And.intro hbx (HB.out.2.2.2.below hbw)))
        have y1 := cell6 hbx 1 rfl
        have y2 := cell6 hbx 2 rfl
        have y3 := cell6 hbx 3 rfl
        have y4 := cell6 hbx 4 rfl
        have y5 := cell6 hbx 5 rfl
        have y6 := cell6 hbx 6 rfl
        clear hgk hbw hbx hrow hm1 hm2 hm3
        by_cases he : ee = 0
        · have q1 : (ee != 0) = false := by rw [he]; rfl
          have HR3 : Hid (g = if ok = true then 0 else 72) := Lib.hid (by rw [HR2.out, if_neg (fun h => h he)])
          clear he
          cases ok with
          | true =>
            go_wp2_with (first
              | (go_at_call 25; (with_reducible refine (H2.out _ HBE.out.2.2).mono ?_); rintro e w2 ⟨rfl, hb⟩; have HB2 := Lib.hid (And.intro (on7 HBE.out.1 hb) (keep7 HBE.out.2.1 hb)); clear hb; have y7 := cell6 HB2.out.2 7 rfl; have y8 := cell6 HB2.out.2 8 rfl)
              | (go_at_call 23; (with_reducible refine (H3.out _).mono ?_); rintro e w3 ⟨⟨z, rfl⟩, hb⟩; have HB3 := Lib.hid (on7 HB2.out.1 hb); clear hb))
            go_ret
            exact ⟨by rw [HR3.out]; rfl, HB3.out⟩
          | false =>
            go_wp2_with (first
              | (go_at_call 25; (with_reducible refine (H2.out _ HBE.out.2.2).mono ?_); rintro e w2 ⟨rfl, hb⟩; have HB2 := Lib.hid (And.intro (on7 HBE.out.1 hb) (keep7 HBE.out.2.1 hb)); clear hb; have y7 := cell6 HB2.out.2 7 rfl; have y8 := cell6 HB2.out.2 8 rfl)
              | (go_at_call 23; (with_reducible refine (H3.out _).mono ?_); rintro e w3 ⟨⟨z, rfl⟩, hb⟩; have HB3 := Lib.hid (on7 HB2.out.1 hb); clear hb))
            go_ret
            exact ⟨by rw [HR3.out]; rfl, HB3.out⟩
        · have q1 : (ee != 0) = true := bne_iff_ne.2 he
          have HR3 : Hid (g = ee) := Lib.hid (by rw [HR2.out, if_pos he])
          clear he
          go_wp2_with (go_at_call 25; (with_reducible refine (H2.out _ HBE.out.2.2).mono ?_); rintro e w2 ⟨rfl, hb⟩; have HB2 := Lib.hid (on7 HBE.out.1 hb); clear hb)
          go_ret
          exact ⟨by rw [HR3.out]; rfl, HB2.out⟩
end Go.Proofs.YthdmlbgejbpalaaDoor
namespace Go.Proofs.YthdmlbgejbpalaaDoor
open Go Go.RowKit
set_option linter.unusedSimpArgs false
set_option linter.unusedVariables false

/-- A rule's cells at a place. -/
def RuAt (w : World) (tb o : Nat) (r : Ru) (Ac : Option Addr) (capc : Nat) (A : Option Addr) (cap : Nat) : Prop := ∀ j u, (ruL r Ac capc A cap)[j]? = some u → w.cell? ⟨tb, o + j, none⟩ = some u
theorem RuAt.up {w w' : World} {tb o : Nat} {r : Ru} {Ac : Option Addr} {capc : Nat} {A : Option Addr} {cap : Nat} (h : RuAt w tb o r Ac capc A cap) (ht : tb < w.heap.size) (hb : Below w.heap.size w w') : RuAt w' tb o r Ac capc A cap := fun j u hj => (hb.cell (p := ⟨tb, o + j, none⟩) ht).trans (h j u hj)
theorem RuAt.cells {w : World} {tb o : Nat} {r : Ru} {Ac : Option Addr} {capc : Nat} {A : Option Addr} {cap : Nat} (h : RuAt w tb o r Ac capc A cap) :
    w.cell? ⟨tb, o, none⟩ = some (.slice Ac r.calls.length capc) ∧ w.cell? ⟨tb, o + 1, none⟩ = some (.int .i64 r.when_.op) ∧ w.cell? ⟨tb, o + 2, none⟩ = some (.slice A r.when_.args.length cap) ∧ w.cell? ⟨tb, o + 3, none⟩ = some (.int .i64 r.when_.field) ∧ w.cell? ⟨tb, o + 4, none⟩ = some (.int .u64 (r.when_.mask : Int)) ∧ w.cell? ⟨tb, o + 5, none⟩ = some (.int .i64 r.when_.rel) ∧ w.cell? ⟨tb, o + 6, none⟩ = some (.int .u64 (r.when_.value : Int)) ∧ w.cell? ⟨tb, o + 7, none⟩ = some (.int .i64 r.do_.1) ∧ w.cell? ⟨tb, o + 8, none⟩ = some (.int .u64 (r.do_.2 : Int)) :=
  ⟨h 0 _ rfl, h 1 _ rfl, h 2 _ rfl, h 3 _ rfl, h 4 _ rfl, h 5 _ rfl, h 6 _ rfl, h 7 _ rfl, h 8 _ rfl⟩
theorem po_cells {w : World} {b : Nat} {p : Po} {A : Option Addr} {cap : Nat} (h : w.heap[b]? = some (poO7 p A cap)) :
    w.cell? ⟨b, 0, none⟩ = some (.string p.arch) ∧ w.cell? ⟨b, 1, none⟩ = some (.int .i64 p.foreign_.1) ∧ w.cell? ⟨b, 2, none⟩ = some (.int .u64 (p.foreign_.2 : Int)) ∧ w.cell? ⟨b, 3, none⟩ = some (.int .i64 p.default_.1) ∧ w.cell? ⟨b, 4, none⟩ = some (.int .u64 (p.default_.2 : Int)) ∧ w.cell? ⟨b, 5, none⟩ = some (.slice A p.rules.length cap) :=
  ⟨cell6 h 0 rfl, cell6 h 1 rfl, cell6 h 2 rfl, cell6 h 3 rfl, cell6 h 4 rfl, cell6 h 5 rfl⟩
set_option maxRecDepth 100000 in
set_option maxHeartbeats 8000000 in
theorem ref_Check7 (p : Po) (A : Option Addr) (cap : Nat) (W : World) (h : RulesL W p.rules A) :
    Calls Tryd.prog 24 #[poA p A cap] W fun e w' => e = .returned (.tuple #[.int .i64 (checkF p).1, .int .i64 (checkF p).2]) ∧ Below W.heap.size W w' := by
  have hb := lbox W (poO7 p A cap)
  have HB := Lib.hid (And.intro hb (And.intro (World.alloc_heap_new W (poO7 p A cap)) (h.below hb)))
  have HAr := Lib.hid (fun V => ref_Arch p.arch V)
  have HF : Hid (∀ V, Calls Tryd.prog 23 #[.agg #[.int .i64 p.foreign_.1, .int .u64 (p.foreign_.2 : Int)]] V fun e w' => (∃ z : Int, e = .returned (.tuple #[.int .u32 z, .bool (actF p.foreign_).2])) ∧ Below V.heap.size V w') := Lib.hid (fun V => (ref_ActF p.foreign_ V).mono fun e w' h => ⟨⟨_, h.1⟩, h.2⟩)
  have HD : Hid (∀ V, Calls Tryd.prog 23 #[.agg #[.int .i64 p.default_.1, .int .u64 (p.default_.2 : Int)]] V fun e w' => (∃ z : Int, e = .returned (.tuple #[.int .u32 z, .bool (actF p.default_).2])) ∧ Below V.heap.size V w') := Lib.hid (fun V => (ref_ActF p.default_ V).mono fun e w' h => ⟨⟨_, h.1⟩, h.2⟩)
  have HR := Lib.hid (fun r Ac capc Ar capr V hr => ref_rule p.arch r Ac capc Ar capr V hr)
  have hlen : p.rules.length ≤ maxLen := h.1
  unfold maxLen at hlen
  obtain ⟨ck, hck0⟩ : ∃ ck, ck = checkF p := ⟨_, rfl⟩
  rw [← hck0]
  have hck : ck = if (sysF p.arch).2.2 = false then (71, -1) else if (actF p.foreign_).2 = false ∨ (actF p.default_).2 = false then (72, -1) else if 512 < p.rules.length then (2, -1) else rulesE (sysF p.arch).2.1 0 p.rules := hck0
  clear hck0 hb h
  generalize (actF p.foreign_).2 = fo at hck HF
  generalize (actF p.default_).2 = df at hck HD
  generalize sysF p.arch = sy at hck HAr HR
  obtain ⟨wd, t, is⟩ := sy
  simp only at hck HAr HR
  have tok : True := trivial
  have x0 := (po_cells HB.out.2.1).1
  by_cases hbad : is = false ∨ fo = false ∨ df = false ∨ 512 < p.rules.length
  · have HCK : Hid (ck = if is = false then (71, -1) else if fo = false ∨ df = false then (72, -1) else (2, -1)) := Lib.hid (by
      rw [hck]
      by_cases h1 : is = false
      · rw [if_pos h1, if_pos h1]
      · rw [if_neg h1, if_neg h1]
        by_cases h2 : fo = false ∨ df = false
        · rw [if_pos h2, if_pos h2]
        · rw [if_neg h2, if_neg h2, if_pos (by rcases hbad with h | h | h | h; exact absurd h h1; exact absurd (.inl h) h2; exact absurd (.inr h) h2; exact h)])
    have HBAD := Lib.hid hbad
    clear hck hbad
    cases is with
    | false =>
      go_enter Tryd.func24, Tryd.ntmps24
      go_wp2_with (first
        | (go_at_call 17; (with_reducible refine (HAr.out _).mono ?_); rintro e w1 ⟨rfl, rfl⟩; obtain ⟨_, x1, x2, x3, x4, x5⟩ := po_cells HB.out.2.1)
        | (go_at_call 23; have _t := tok; (with_reducible refine (HF.out _).mono ?_); clear tok; rintro e w1 ⟨⟨z, rfl⟩, hb⟩; have HB1 := Lib.hid (And.intro (on7 HB.out.1 hb) (keep7 HB.out.2.1 hb)); clear hb; obtain ⟨_, y1, y2, y3, y4, y5⟩ := po_cells HB1.out.2)
        | (go_at_call 23; (with_reducible refine (HD.out _).mono ?_); rintro e w2 ⟨⟨z2, rfl⟩, hb⟩; have HB2 := Lib.hid (on7 HB1.out.1 hb); clear hb))
      go_ret2
      exact ⟨by rw [HCK.out]; rfl, HB2.out⟩
    | true =>
      cases fo with
      | false =>
        go_enter Tryd.func24, Tryd.ntmps24
        go_wp2_with (first
          | (go_at_call 17; (with_reducible refine (HAr.out _).mono ?_); rintro e w1 ⟨rfl, rfl⟩; obtain ⟨_, x1, x2, x3, x4, x5⟩ := po_cells HB.out.2.1)
          | (go_at_call 23; have _t := tok; (with_reducible refine (HF.out _).mono ?_); clear tok; rintro e w1 ⟨⟨z, rfl⟩, hb⟩; have HB1 := Lib.hid (And.intro (on7 HB.out.1 hb) (keep7 HB.out.2.1 hb)); clear hb; obtain ⟨_, y1, y2, y3, y4, y5⟩ := po_cells HB1.out.2)
          | (go_at_call 23; (with_reducible refine (HD.out _).mono ?_); rintro e w2 ⟨⟨z2, rfl⟩, hb⟩; have HB2 := Lib.hid (on7 HB1.out.1 hb); clear hb))
        go_ret2
        exact ⟨by rw [HCK.out]; rfl, HB2.out⟩
      | true =>
        cases df with
        | false =>
          go_enter Tryd.func24, Tryd.ntmps24
          go_wp2_with (first
            | (go_at_call 17; (with_reducible refine (HAr.out _).mono ?_); rintro e w1 ⟨rfl, rfl⟩; obtain ⟨_, x1, x2, x3, x4, x5⟩ := po_cells HB.out.2.1)
            | (go_at_call 23; have _t := tok; (with_reducible refine (HF.out _).mono ?_); clear tok; rintro e w1 ⟨⟨z, rfl⟩, hb⟩; have HB1 := Lib.hid (And.intro (on7 HB.out.1 hb) (keep7 HB.out.2.1 hb)); clear hb; obtain ⟨_, y1, y2, y3, y4, y5⟩ := po_cells HB1.out.2)
            | (go_at_call 23; (with_reducible refine (HD.out _).mono ?_); rintro e w2 ⟨⟨z2, rfl⟩, hb⟩; have HB2 := Lib.hid (on7 HB1.out.1 hb); clear hb))
          go_ret2
          exact ⟨by rw [HCK.out]; rfl, HB2.out⟩
        | true =>
          have hl : (512 : Int) < (p.rules.length : Int) := by have := HBAD.out; simp at this; omega
          go_enter Tryd.func24, Tryd.ntmps24
          go_wp2_with (first
            | (go_at_call 17; (with_reducible refine (HAr.out _).mono ?_); rintro e w1 ⟨rfl, rfl⟩; obtain ⟨_, x1, x2, x3, x4, x5⟩ := po_cells HB.out.2.1)
            | (go_at_call 23; have _t := tok; (with_reducible refine (HF.out _).mono ?_); clear tok; rintro e w1 ⟨⟨z, rfl⟩, hb⟩; have HB1 := Lib.hid (And.intro (on7 HB.out.1 hb) (keep7 HB.out.2.1 hb)); clear hb; obtain ⟨_, y1, y2, y3, y4, y5⟩ := po_cells HB1.out.2)
            | (go_at_call 23; (with_reducible refine (HD.out _).mono ?_); rintro e w2 ⟨⟨z2, rfl⟩, hb⟩; have HB2 := Lib.hid (And.intro (on7 HB1.out.1 hb) (keep7 HB1.out.2 hb)); clear hb; obtain ⟨_, _, _, _, _, z5⟩ := po_cells HB2.out.2))
          go_ret2
          exact ⟨by rw [HCK.out]; rfl, HB2.out.1⟩
  · have his : is = true := by cases is <;> simp_all
    have hfo : fo = true := by cases fo <;> simp_all
    have hdf : df = true := by cases df <;> simp_all
    have hl : ¬ (512 : Int) < (p.rules.length : Int) := fun h => hbad (.inr (.inr (.inr (by omega))))
    have hl2 : ¬ 512 < p.rules.length := fun h => hbad (.inr (.inr (.inr h)))
    subst his; subst hfo; subst hdf
    rw [if_neg (by decide), if_neg (by decide), if_neg hl2] at hck
    have HG : Hid (ck = rulesE t 0 (p.rules.drop 0)) := Lib.hid hck
    clear hck hbad hl2
    go_enter Tryd.func24, Tryd.ntmps24
    go_wp2_with (first
      | (go_at_call 17; (with_reducible refine (HAr.out _).mono ?_); rintro e w1 ⟨rfl, rfl⟩; obtain ⟨_, x1, x2, x3, x4, x5⟩ := po_cells HB.out.2.1)
      | (go_at_call 23; have _t := tok; (with_reducible refine (HF.out _).mono ?_); clear tok; rintro e w1 ⟨⟨z, rfl⟩, hb⟩; have HB1 := Lib.hid (And.intro (on7 HB.out.1 hb) (And.intro (keep7 HB.out.2.1 hb) (RulesL.below HB.out.2.2 hb))); clear hb; obtain ⟨_, y1, y2, y3, y4, y5⟩ := po_cells HB1.out.2.1)
      | (go_at_call 23; (with_reducible refine (HD.out _).mono ?_); rintro e w2 ⟨⟨z2, rfl⟩, hb⟩; have HB2 := Lib.hid (And.intro (on7 HB1.out.1 hb) (And.intro (keep7 HB1.out.2.1 hb) (RulesL.below HB1.out.2.2 hb))); clear hb; obtain ⟨_, _, _, _, _, z5⟩ := po_cells HB2.out.2.1))
    go_loopw [10] (fun v wr => ∃ k : Nat, k ≤ p.rules.length ∧ v = .int .i64 (k : Int) ∧ ck = rulesE t k (p.rules.drop k) ∧ Below w2.heap.size w2 wr) (fun v _ => p.rules.length - (intOf v).toNat)
    case atStart => exact ⟨0, Nat.zero_le _, rfl, HG.out, Below.refl _ _⟩
    case round =>
      obtain ⟨k, hk, rfl, hgk, hbw⟩ := hrel
      have hbx := keep7 HB2.out.2.1 hbw
      clear x0 HG
      obtain ⟨_, _, _, _, _, r5⟩ := po_cells hbx
      by_cases hlt : k < p.rules.length
      · have hlt' : (k : Int) < (p.rules.length : Int) := by omega
        have hw : IntKind.i64.wrap ((k : Int) + 1) = ((k + 1 : Nat) : Int) := by rw [IntWalk.i64_in _ (by omega)]; omega
        rw [rules_at t p.rules k hlt] at hgk
        obtain ⟨tb, o, Ac, capc, Ar, capr, hA, htb, hru, hcc⟩ := rules_cells HB2.out.2.2 hbw k hlt
        subst hA
        generalize p.rules.getD k zeroR7 = r at hru hcc hgk
        have HC : Hid (RuAt wr tb (o + k * 9) r Ac capc Ar capr ∧ wr.heap[W.heap.size]? = some (poO7 p (some ⟨tb, o, none⟩) cap)) := Lib.hid ⟨hcc, hbx⟩
        have HRR := Lib.hid (HR.out r Ac capc Ar capr wr.drew (RuL.below hru (below_drawn (Below.refl _ _) 1)))
        have HBW := Lib.hid (And.intro (on7 HB2.out.1 hbw) (And.intro hbw htb))
        clear hbw hbx hru hcc
        have HGK := Lib.hid hgk
        clear hgk
        generalize ruleE t r = re at HRR HGK
        go_wp2
        refine wp_region_held_drew (S := fun W' => RuAt W' tb (o + k * 9) r Ac capc Ar capr ∧ W'.heap[W.heap.size]? = some (poO7 p (some ⟨tb, o, none⟩) cap)) (by kernel_rfl) HC.out (fun hHeld => ?_)
        have HB3 : Hid (Below W.heap.size W wr.drew ∧ Below w2.heap.size w2 wr.drew ∧ tb < wr.drew.heap.size) := Lib.hid ⟨below_drawn HBW.out.1 1, below_drawn HBW.out.2.1 1, HBW.out.2.2⟩
        clear HC HBW r5
        generalize wr.drew = Y at HB3 HRR hHeld ⊢
        have HH := Lib.hid hHeld
        refine wpAnyH_take (i := 0) (v := ?_) rfl (by kernel_rfl) (by kernel_rfl) (by kernel_rfl) (fun _ _ _ h => h) (Or.inl ⟨by rfl, ?_⟩) (by assumption) ?_
        rotate_left
        · intro wS hSw
          (obtain ⟨i0, i1⟩ := hSw; obtain ⟨b0, _, _, _, _, b5⟩ := po_cells i1; obtain ⟨e0, e1, e2, e3, e4, e5, e6, e7, e8⟩ := RuAt.cells i0)
          go_simp
          all_goals with_reducible rfl
        (try simp only [List.getElem_toArray, List.getElem_cons_zero, List.getElem_cons_succ, Act.put, List.setIfInBounds_toArray, List.set_cons_zero, List.set_cons_succ])
        refine wpAnyH_take (i := 1) (v := ?_) rfl (by kernel_rfl) (by kernel_rfl) (by kernel_rfl) (fun _ _ _ h => h) (Or.inl ⟨by rfl, ?_⟩) (by assumption) ?_
        rotate_left
        · intro wS hSw
          (obtain ⟨i0, i1⟩ := hSw; obtain ⟨b0, _, _, _, _, b5⟩ := po_cells i1; obtain ⟨e0, e1, e2, e3, e4, e5, e6, e7, e8⟩ := RuAt.cells i0)
          go_simp
          all_goals with_reducible rfl
        (try simp only [List.getElem_toArray, List.getElem_cons_zero, List.getElem_cons_succ, Act.put, List.setIfInBounds_toArray, List.set_cons_zero, List.set_cons_succ])
        refine wpAnyH_take (i := 2) (v := ?_) rfl (by kernel_rfl) (by kernel_rfl) (by kernel_rfl) (fun _ _ _ h => h) (Or.inl ⟨by rfl, ?_⟩) (by assumption) ?_
        rotate_left
        · intro wS hSw
          (obtain ⟨i0, i1⟩ := hSw; obtain ⟨b0, _, _, _, _, b5⟩ := po_cells i1; obtain ⟨e0, e1, e2, e3, e4, e5, e6, e7, e8⟩ := RuAt.cells i0)
          go_simp
          all_goals with_reducible rfl
        (try simp only [List.getElem_toArray, List.getElem_cons_zero, List.getElem_cons_succ, Act.put, List.setIfInBounds_toArray, List.set_cons_zero, List.set_cons_succ])
        refine wpAnyH_take (i := 3) (v := ?_) rfl (by kernel_rfl) (by kernel_rfl) (by kernel_rfl) (fun _ _ _ h => h) (Or.inl ⟨by rfl, ?_⟩) (by assumption) ?_
        rotate_left
        · intro wS hSw
          (obtain ⟨i0, i1⟩ := hSw; obtain ⟨b0, _, _, _, _, b5⟩ := po_cells i1; obtain ⟨e0, e1, e2, e3, e4, e5, e6, e7, e8⟩ := RuAt.cells i0)
          go_simp
          all_goals with_reducible rfl
        (try simp only [List.getElem_toArray, List.getElem_cons_zero, List.getElem_cons_succ, Act.put, List.setIfInBounds_toArray, List.set_cons_zero, List.set_cons_succ])
        refine wpAnyH_take (i := 4) (v := ?_) rfl (by kernel_rfl) (by kernel_rfl) (by kernel_rfl) (fun _ _ _ h => h) (Or.inl ⟨by rfl, ?_⟩) (by assumption) ?_
        rotate_left
        · intro wS hSw
          (obtain ⟨i0, i1⟩ := hSw; obtain ⟨b0, _, _, _, _, b5⟩ := po_cells i1; obtain ⟨e0, e1, e2, e3, e4, e5, e6, e7, e8⟩ := RuAt.cells i0)
          go_simp
          all_goals with_reducible rfl
        (try simp only [List.getElem_toArray, List.getElem_cons_zero, List.getElem_cons_succ, Act.put, List.setIfInBounds_toArray, List.set_cons_zero, List.set_cons_succ])
        refine wpAnyH_take (i := 5) (v := ?_) rfl (by kernel_rfl) (by kernel_rfl) (by kernel_rfl) (fun _ _ _ h => h) (Or.inl ⟨by rfl, ?_⟩) (by assumption) ?_
        rotate_left
        · intro wS hSw
          (obtain ⟨i0, i1⟩ := hSw; obtain ⟨b0, _, _, _, _, b5⟩ := po_cells i1; obtain ⟨e0, e1, e2, e3, e4, e5, e6, e7, e8⟩ := RuAt.cells i0)
          go_simp
          all_goals with_reducible rfl
        (try simp only [List.getElem_toArray, List.getElem_cons_zero, List.getElem_cons_succ, Act.put, List.setIfInBounds_toArray, List.set_cons_zero, List.set_cons_succ])
        refine wpAnyH_take (i := 6) (v := ?_) rfl (by kernel_rfl) (by kernel_rfl) (by kernel_rfl) (fun _ _ _ h => h) (Or.inl ⟨by rfl, ?_⟩) (by assumption) ?_
        rotate_left
        · intro wS hSw
          (obtain ⟨i0, i1⟩ := hSw; obtain ⟨b0, _, _, _, _, b5⟩ := po_cells i1; obtain ⟨e0, e1, e2, e3, e4, e5, e6, e7, e8⟩ := RuAt.cells i0)
          go_simp
          all_goals with_reducible rfl
        (try simp only [List.getElem_toArray, List.getElem_cons_zero, List.getElem_cons_succ, Act.put, List.setIfInBounds_toArray, List.set_cons_zero, List.set_cons_succ])
        refine held_one (i := 7) (by kernel_rfl) rfl (fun K hK => ?_)
        go_simp
        go_at_call 47
        refine HRR.out.mono ?_
        rintro e w3 ⟨rfl, hb3⟩
        have HB4 := Lib.hid (And.intro (on7 HB3.out.1 hb3) (on7 HB3.out.2.1 hb3))
        refine hK.out _ _ ⟨RuAt.up HH.out.1 HB3.out.2.2 hb3, keep7 HH.out.2 hb3⟩ (fun hH2 => ?_)
        clear hK K hHeld hb3
        (try simp only [Act.put, List.setIfInBounds_toArray, List.set_cons_zero, List.set_cons_succ, List.getElem_toArray, List.getElem_cons_zero, List.getElem_cons_succ])
        refine wpAnyH_take (i := 8) (v := ?_) rfl (by kernel_rfl) (by kernel_rfl) (by kernel_rfl) (fun _ _ _ h => h) (Or.inl ⟨by rfl, ?_⟩) (by assumption) ?_
        rotate_left
        · intro wS hSw
          (skip)
          go_simp
          all_goals with_reducible rfl
        (try simp only [List.getElem_toArray, List.getElem_cons_zero, List.getElem_cons_succ, Act.put, List.setIfInBounds_toArray, List.set_cons_zero, List.set_cons_succ])
        refine wpAnyH_done (by kernel_rfl) ?_ _
        by_cases hre : re = 0
        · have q1 : (re != 0) = false := by rw [hre]; rfl
          have HG2 : Hid (ck = rulesE t (k + 1) (p.rules.drop (k + 1))) := Lib.hid (by rw [HGK.out, if_neg (fun g => g hre)])
          clear HGK hre
          go_wp2
          exact ⟨⟨k + 1, by omega, by go_num, HG2.out, HB4.out.2⟩, by simp [intOf]; omega⟩
        · have q1 : (re != 0) = true := bne_iff_ne.2 hre
          have HG2 : Hid (ck = (re, (k : Int))) := Lib.hid (by rw [HGK.out, if_pos hre])
          clear HGK hre
          go_wp2
          go_ret2
          exact ⟨by rw [HG2.out]; rfl, HB4.out.1⟩
      · have hlt' : ¬ (k : Int) < (p.rules.length : Int) := by omega
        rw [rules_end t p.rules k (by omega)] at hgk
        have HGK := Lib.hid hgk
        have HBW := Lib.hid (on7 HB2.out.1 hbw)
        clear hgk hbw hbx
        go_wp2
        go_ret2
        exact ⟨by rw [HGK.out]; rfl, HBW.out⟩
set_option maxRecDepth 100000 in
set_option maxHeartbeats 4000000 in
theorem ref_Is7 (p : Po) (A : Option Addr) (cap : Nat) (W : World) (h : RulesL W p.rules A) :
    Calls Tryd.prog 49 #[poA p A cap] W fun e w' => e = .returned (.bool (decide ((checkF p).1 = 0))) ∧ Below W.heap.size W w' := by
  have hb := lbox W (poO7 p A cap)
  have HB := Lib.hid (And.intro hb (World.alloc_heap_new W (poO7 p A cap)))
  have HC := Lib.hid (ref_Check7 p A cap (W.alloc (poO7 p A cap)) (h.below hb))
  generalize checkF p = ck at HC ⊢
  obtain ⟨c, at_⟩ := ck
  have hE : decide (c = 0) = (c == 0) := by by_cases e : c = 0 <;> simp [e]
  show Calls Tryd.prog 49 #[poA p A cap] W fun e w' => e = .returned (.bool (decide (c = 0))) ∧ Below W.heap.size W w'
  rw [hE]
  obtain ⟨x0, x1, x2, x3, x4, x5⟩ := po_cells HB.out.2
  clear hE hb h
  go_enter Tryd.func49, Tryd.ntmps49
  go_wp2_with (go_at_call 24; (with_reducible refine HC.out.mono ?_); rintro e w1 ⟨rfl, hb⟩; have HB1 := Lib.hid (on7 HB.out.1 hb); clear hb)
  go_ret
  exact ⟨rfl, HB1.out⟩
end Go.Proofs.YthdmlbgejbpalaaDoor
namespace Go.Proofs.YthdmlbgejbpalaaDoor
open Go Go.RowKit
set_option linter.unusedSimpArgs false
set_option linter.unusedVariables false

/-- Three boxes: the policy, the data, the answer. -/
structure Box7 (w : World) (b : Nat) (p : Po) (A : Option Addr) (cap : Nat) (d : Dat) : Prop where
  po : w.heap[b]? = some (poO7 p A cap)
  da : w.heap[b + 1]? = some (datO d)
  re : w.heap[b + 2]? = some (vdO7 0 0)
theorem Box7.up {w w1 : World} {b : Nat} {p : Po} {A : Option Addr} {cap : Nat} {d : Dat} (h : Box7 w b p A cap d) (hb : Below w.heap.size w w1) : Box7 w1 b p A cap d := ⟨keep7 h.po hb, keep7 h.da hb, keep7 h.re hb⟩
theorem box7_new (W : World) (p : Po) (A : Option Addr) (cap : Nat) (d : Dat) : Box7 (((W.alloc (poO7 p A cap)).alloc (datO d)).alloc (vdO7 0 0)) W.heap.size p A cap d := by
  have h1 := World.alloc_heap_new W (poO7 p A cap)
  have h2 := World.alloc_heap_new (W.alloc (poO7 p A cap)) (datO d)
  have h3 := World.alloc_heap_new ((W.alloc (poO7 p A cap)).alloc (datO d)) (vdO7 0 0)
  exact ⟨kept_alloc (kept_alloc h1 _) _, by simpa using kept_alloc h2 (vdO7 0 0), by simpa using h3⟩
theorem dat_cells {w : World} {b : Nat} {d : Dat} (h : w.heap[b]? = some (datO d)) :
    w.cell? ⟨b, 0, none⟩ = some (.int .u32 (d.nr : Int)) ∧ w.cell? ⟨b, 1, none⟩ = some (.int .u32 (d.arch : Int)) ∧ w.cell? ⟨b, 2, none⟩ = some (.int .u64 (d.ip : Int)) ∧ w.cell? ⟨b, 3, none⟩ = some (.int .u64 (d.args 0 : Int)) ∧ w.cell? ⟨b, 4, none⟩ = some (.int .u64 (d.args 1 : Int)) ∧ w.cell? ⟨b, 5, none⟩ = some (.int .u64 (d.args 2 : Int)) ∧ w.cell? ⟨b, 6, none⟩ = some (.int .u64 (d.args 3 : Int)) ∧ w.cell? ⟨b, 7, none⟩ = some (.int .u64 (d.args 4 : Int)) ∧ w.cell? ⟨b, 8, none⟩ = some (.int .u64 (d.args 5 : Int)) :=
  ⟨cell6 h 0 rfl, cell6 h 1 rfl, cell6 h 2 rfl, cell6 h 3 rfl, cell6 h 4 rfl, cell6 h 5 rfl, cell6 h 6 rfl, cell6 h 7 rfl, cell6 h 8 rfl⟩
theorem vd_cells {w : World} {b : Nat} {k : Int} {n : Nat} (h : w.heap[b]? = some (vdO7 k n)) : w.cell? ⟨b, 0, none⟩ = some (.int .i64 k) ∧ w.cell? ⟨b, 1, none⟩ = some (.int .u64 (n : Int)) ∧ w.frozen? ⟨b, 0, none⟩ = false ∧ w.frozen? ⟨b, 1, none⟩ = false := ⟨cell6 h 0 rfl, cell6 h 1 rfl, frozen6 h 0, frozen6 h 1⟩
abbrev vdA (v : Int × Nat) : Value := .agg #[.int .i64 v.1, .int .u64 (v.2 : Int)]
/-- What a policy's check promises of its rules. -/
theorem rule_ok {p : Po} (h : (checkF p).1 = 0) (k : Nat) (hk : k < p.rules.length) : exF 0 (p.rules.getD k zeroR7).when_ = 0 := (rule_parts ((check_parts h).2.2.2.2 k hk)).2.2.1
set_option maxRecDepth 100000 in
set_option maxHeartbeats 8000000 in
theorem p_verdict (p : Po) (d : Dat) (A : Option Addr) (cap : Nat) (W : World) (h : RulesL W p.rules A) (hck : (checkF p).1 = 0) :
    Calls Tryd.prog 30 #[poA p A cap, datV d] W fun e w' => e = .returned (vdA (verdF p d)) ∧ Below W.heap.size W w' := by
  have hb := below_of W ((W.alloc (poO7 p A cap)).alloc (datO d)) (vdO7 0 0) (below_of W _ _ (lbox W (poO7 p A cap)))
  have HB := Lib.hid (And.intro hb (And.intro (box7_new W p A cap d) (h.below hb)))
  have H1 := Lib.hid (fun V => p_systemOf p.arch V)
  have H2 := Lib.hid (fun V => p_lookAt d V)
  have HOK := Lib.hid (fun k hk => rule_ok hck k hk)
  have hlen : p.rules.length ≤ maxLen := h.1
  unfold maxLen at hlen
  obtain ⟨g, hg0⟩ : ∃ g, g = verdF p d := ⟨_, rfl⟩
  rw [← hg0]
  have hg : g = if d.arch ≠ (sysF p.arch).1 then p.foreign_ else pickF (sysF p.arch).2.1 d p.default_ p.rules := hg0
  clear hg0 hb h hck
  generalize sysF p.arch = sy at hg H1
  obtain ⟨wd, t, is⟩ := sy
  simp only at hg H1
  obtain ⟨x0, _⟩ := po_cells HB.out.2.1.po
  by_cases harch : d.arch = wd
  · rw [if_neg (fun h => h harch)] at hg
    have q0 : ((d.arch : Int) != (wd : Int)) = false := by rw [harch]; exact bne_self_eq_false _
    have HG : Hid (g = pickF t d p.default_ (p.rules.drop 0)) := Lib.hid hg
    have HAR := Lib.hid harch
    clear hg harch
    go_enter Tryd.func30, Tryd.ntmps30
    go_wp2_with (first
      | (go_at_call 39; (with_reducible refine (H1.out _).mono ?_); rintro e w1 ⟨As, caps, rfl, ht, hb⟩; have HB1 := Lib.hid (And.intro (below_of _ _ (sysO (wd : Int) As t.length caps) (on7 HB.out.1 hb)) (And.intro (Box7.up (Box7.up HB.out.2.1 hb) (lbox w1 (sysO (wd : Int) As t.length caps))) (And.intro (RulesL.below (RulesL.below HB.out.2.2 hb) (lbox w1 (sysO (wd : Int) As t.length caps))) (And.intro (World.alloc_heap_new w1 (sysO (wd : Int) As t.length caps)) (TabL.below ht (lbox w1 (sysO (wd : Int) As t.length caps))))))); clear ht hb; obtain ⟨d0, d1, d2, d3, d4, d5, d6, d7, d8⟩ := dat_cells HB1.out.2.1.da; have s0 := cell6 HB1.out.2.2.2.1 0 rfl)
      | (go_at_call 52; (with_reducible refine (H2.out _).mono ?_); rintro e w2 ⟨mb, rfl, hm, hb⟩; have HB2 := Lib.hid (And.intro (below_of _ _ (lookO d mb) (on7 HB1.out.1 hb)) (And.intro (Box7.up (Box7.up HB1.out.2.1 hb) (lbox w2 (lookO d mb))) (And.intro (RulesL.below (RulesL.below HB1.out.2.2.1 hb) (lbox w2 (lookO d mb))) (And.intro (kept_alloc (keep7 HB1.out.2.2.2.1 hb) (lookO d mb)) (And.intro (TabL.below (TabL.below HB1.out.2.2.2.2 hb) (lbox w2 (lookO d mb))) (And.intro (World.alloc_heap_new w2 (lookO d mb)) (RelMap.up hm (lbox w2 (lookO d mb))))))))); clear hb hm; obtain ⟨_, _, _, _, _, p5⟩ := po_cells HB2.out.2.1.po))
    go_loopw [28] (fun v wr => ∃ k : Nat, k ≤ p.rules.length ∧ v = .int .i64 (k : Int) ∧ g = pickF t d p.default_ (p.rules.drop k) ∧ Below (w2.alloc (lookO d mb)).heap.size (w2.alloc (lookO d mb)) wr) (fun v _ => p.rules.length - (intOf v).toNat)
    case atStart => exact ⟨0, Nat.zero_le _, rfl, HG.out, Below.refl _ _⟩
    case round =>
      obtain ⟨k, hk, rfl, hgk, hbw⟩ := hrel
      by_cases hlt : k < p.rules.length
      · have hlt' : (k : Int) < (p.rules.length : Int) := by omega
        have hw : IntKind.i64.wrap ((k : Int) + 1) = ((k + 1 : Nat) : Int) := by rw [IntWalk.i64_in _ (by omega)]; omega
        rw [pick_at t d p.default_ p.rules k hlt] at hgk
        have hok := HOK.out k hlt
        obtain ⟨tb, o, Ac, capc, Ar, capr, hA, htb, hru, hcc⟩ := rules_cells HB2.out.2.2.1 hbw k hlt
        subst hA
        generalize p.rules.getD k zeroR7 = r at hru hcc hgk hok
        have c0 : wr.cell? ⟨tb, o + k * 9, none⟩ = _ := hcc 0 _ rfl
        have c1 := hcc 1 _ rfl
        have c2 := hcc 2 _ rfl
        have c3 := hcc 3 _ rfl
        have c4 := hcc 4 _ rfl
        have c5 := hcc 5 _ rfl
        have c6 := hcc 6 _ rfl
        have c7 := hcc 7 _ rfl
        have c8 := hcc 8 _ rfl
        have hsb := keep7 HB2.out.2.2.2.1 hbw
        have hbx := Box7.up HB2.out.2.1 hbw
        have s0 : ∀ o, (wr.alloc o).cell? ⟨w1.heap.size, 0, none⟩ = some (.int .u32 wd) := fun o => cell6 (kept_alloc hsb o) 0 rfl
        have s1 : ∀ o, (wr.alloc o).cell? ⟨w1.heap.size, 1, none⟩ = some (.slice As t.length caps) := fun o => cell6 (kept_alloc hsb o) 1 rfl
        have n0 : ∀ o, (wr.alloc o).cell? ⟨W.heap.size + 1, 0, none⟩ = some (.int .u32 (d.nr : Int)) := fun o => cell6 (kept_alloc hbx.da o) 0 rfl
        have l1 : w1.heap.size < wr.heap.size := (Array.getElem?_eq_some_iff.1 hsb).1
        have l2 : W.heap.size + 1 < wr.heap.size := (Array.getElem?_eq_some_iff.1 hbx.da).1
        have hbo := lbox wr (ruO7 r Ac capc Ar capr)
        have hlk := keep7 HB2.out.2.2.2.2.2.1 hbw
        have HV := Lib.hid (And.intro (on7 hbw hbo) (And.intro (Box7.up hbx hbo) (And.intro (World.alloc_heap_new wr (ruO7 r Ac capc Ar capr)) (And.intro (hru.2.below hbo) (And.intro (kept_alloc hlk (ruO7 r Ac capc Ar capr)) (RelMap.up (RelMap.up HB2.out.2.2.2.2.2.2 hbw) hbo))))))
        have HH := Lib.hid (p_has t r.calls (wd : Int) As Ac caps capc d.nr (wr.alloc (ruO7 r Ac capc Ar capr)) ((HB2.out.2.2.2.2.1.below hbw).below hbo) (hru.1.below hbo))
        have HS := Lib.hid (fun V hx hm => p_holds d mb _ r.when_ (Nat.lt_succ_self _) ⟨0, hok⟩ V Ar capr hx hm)
        clear hbw hbx hbo hru hcc hsb hlk hok
        generalize hasB t d.nr r.calls = hh at HH hgk
        generalize holdsF d r.when_ = hs at HS hgk
        cases hh with
        | false =>
          have HGK : Hid (g = pickF t d p.default_ (p.rules.drop (k + 1))) := Lib.hid (by simpa using hgk)
          clear hgk
          go_wp2_with (go_at_call 54; (with_reducible refine HH.out.mono ?_); rintro e w3 ⟨rfl, hb⟩; have HB3 := Lib.hid (on7 HV.out.1 hb); clear hb)
          exact ⟨⟨k + 1, by omega, by go_num, HGK.out, HB3.out⟩, by simp [intOf]; omega⟩
        | true =>
          cases hs with
          | false =>
            have HGK : Hid (g = pickF t d p.default_ (p.rules.drop (k + 1))) := Lib.hid (by simpa using hgk)
            clear hgk
            go_wp2_with (first
              | (go_at_call 54; (with_reducible refine HH.out.mono ?_); rintro e w3 ⟨rfl, hb⟩; have HB3 := Lib.hid (And.intro (on7 HV.out.1 hb) (And.intro (HV.out.2.2.2.1.below hb) (HV.out.2.2.2.2.2.up hb))); have hrx := keep7 HV.out.2.2.1 hb; have hlx := keep7 HV.out.2.2.2.2.1 hb; clear hb; have r1 := cell6 hrx 1 rfl; have r2 := cell6 hrx 2 rfl; have r3 := cell6 hrx 3 rfl; have r4 := cell6 hrx 4 rfl; have r5 := cell6 hrx 5 rfl; have r6 := cell6 hrx 6 rfl; have k0 := cell6 hlx 0 rfl; have k1 := cell6 hlx 1 rfl; have k2 := cell6 hlx 2 rfl; have k3 := cell6 hlx 3 rfl; have k4 := cell6 hlx 4 rfl; have k5 := cell6 hlx 5 rfl; have k6 := cell6 hlx 6 rfl; have k7 := cell6 hlx 7 rfl; have k8 := cell6 hlx 8 rfl; have k9 := cell6 hlx 9 rfl; clear hrx hlx)
              | (go_at_call 53; (with_reducible refine (HS.out _ HB3.out.2.1 HB3.out.2.2).mono ?_); rintro e w4 ⟨rfl, hb⟩; have HB4 := Lib.hid (on7 HB3.out.1 hb); clear hb))
            exact ⟨⟨k + 1, by omega, by go_num, HGK.out, HB4.out⟩, by simp [intOf]; omega⟩
          | true =>
            have HGK : Hid (g = r.do_) := Lib.hid (by simpa using hgk)
            clear hgk
            go_wp2_with (first
              | (go_at_call 54; (with_reducible refine HH.out.mono ?_); rintro e w3 ⟨rfl, hb⟩; have HB3 := Lib.hid (And.intro (on7 HV.out.1 hb) (And.intro (HV.out.2.2.2.1.below hb) (And.intro (HV.out.2.2.2.2.2.up hb) (And.intro (Box7.up HV.out.2.1 hb) (keep7 HV.out.2.2.1 hb))))); have hrx := keep7 HV.out.2.2.1 hb; have hlx := keep7 HV.out.2.2.2.2.1 hb; clear hb; have r1 := cell6 hrx 1 rfl; have r2 := cell6 hrx 2 rfl; have r3 := cell6 hrx 3 rfl; have r4 := cell6 hrx 4 rfl; have r5 := cell6 hrx 5 rfl; have r6 := cell6 hrx 6 rfl; have k0 := cell6 hlx 0 rfl; have k1 := cell6 hlx 1 rfl; have k2 := cell6 hlx 2 rfl; have k3 := cell6 hlx 3 rfl; have k4 := cell6 hlx 4 rfl; have k5 := cell6 hlx 5 rfl; have k6 := cell6 hlx 6 rfl; have k7 := cell6 hlx 7 rfl; have k8 := cell6 hlx 8 rfl; have k9 := cell6 hlx 9 rfl; clear hrx hlx)
              | (go_at_call 53; (with_reducible refine (HS.out _ HB3.out.2.1 HB3.out.2.2.1).mono ?_); rintro e w4 ⟨rfl, hb⟩; have HB4 := Lib.hid (And.intro (on7 HB3.out.1 hb) (Box7.up HB3.out.2.2.2.1 hb)); have hrx := keep7 HB3.out.2.2.2.2 hb; clear hb; have r7 := cell6 hrx 7 rfl; have r8 := cell6 hrx 8 rfl; clear hrx; obtain ⟨v0, v1, z0, z1⟩ := vd_cells HB4.out.2.re))
            exact bodyPost_ret (v := vdA r.do_) (by simp [results, Tryd.results30, go_sem, v0, v1, World.cell?_setCell_same']) rfl ⟨by rw [HGK.out], ((on7 HB2.out.1 HB4.out.1).setCell (p := ⟨W.heap.size + 2, 0, none⟩) (Nat.le_add_right _ _) _).setCell (p := ⟨W.heap.size + 2, 1, none⟩) (Nat.le_add_right _ _) _⟩
      · have hlt' : ¬ (k : Int) < (p.rules.length : Int) := by omega
        rw [pick_end t d p.default_ p.rules k (by omega)] at hgk
        have HGK := Lib.hid hgk
        have hbx := Box7.up HB2.out.2.1 hbw
        have HBW := Lib.hid (And.intro (on7 HB2.out.1 hbw) hbx)
        obtain ⟨_, _, _, e3, e4, _⟩ := po_cells hbx.po
        obtain ⟨v0, v1, z0, z1⟩ := vd_cells hbx.re
        clear hgk hbw hbx
        go_wp2
        exact bodyPost_ret (v := vdA p.default_) (by simp [results, Tryd.results30, go_sem, v0, v1, World.cell?_setCell_same']) rfl ⟨by rw [HGK.out], (HBW.out.1.setCell (p := ⟨W.heap.size + 2, 0, none⟩) (Nat.le_add_right _ _) _).setCell (p := ⟨W.heap.size + 2, 1, none⟩) (Nat.le_add_right _ _) _⟩
  · rw [if_pos harch] at hg
    have q0 : ((d.arch : Int) != (wd : Int)) = true := bne_iff_ne.2 (fun h => harch (by omega))
    have HG := Lib.hid hg
    clear hg harch
    go_enter Tryd.func30, Tryd.ntmps30
    go_wp2_with (go_at_call 39; (with_reducible refine (H1.out _).mono ?_); rintro e w1 ⟨As, caps, rfl, ht, hb⟩; have HB1 := Lib.hid (And.intro (below_of _ _ (sysO (wd : Int) As t.length caps) (on7 HB.out.1 hb)) (And.intro (Box7.up (Box7.up HB.out.2.1 hb) (lbox w1 (sysO (wd : Int) As t.length caps))) (World.alloc_heap_new w1 (sysO (wd : Int) As t.length caps)))); clear ht hb; obtain ⟨d0, d1, d2, d3, d4, d5, d6, d7, d8⟩ := dat_cells HB1.out.2.1.da; have s0 := cell6 HB1.out.2.2 0 rfl; obtain ⟨_, e1, e2, _, _, _⟩ := po_cells HB1.out.2.1.po; obtain ⟨v0, v1, z0, z1⟩ := vd_cells HB1.out.2.1.re)
    exact bodyPost_ret (v := vdA p.foreign_) (by simp [results, Tryd.results30, go_sem, v0, v1, World.cell?_setCell_same']) rfl ⟨by rw [HG.out], (HB1.out.1.setCell (p := ⟨W.heap.size + 2, 0, none⟩) (Nat.le_add_right _ _) _).setCell (p := ⟨W.heap.size + 2, 1, none⟩) (Nat.le_add_right _ _) _⟩
set_option maxRecDepth 100000 in
set_option maxHeartbeats 4000000 in
theorem p_Eval7 (p : Po) (d : Dat) (A : Option Addr) (cap : Nat) (W : World) (h : RulesL W p.rules A) (hTab : Tab W) :
    Calls Tryd.prog 12 #[poA p A cap, datV d] W fun e w' => e = .returned (.int .u32 (evalF p d : Int)) ∧ Below W.heap.size W w' := by
  have hb := below_of W (W.alloc (poO7 p A cap)) (datO d) (lbox W _)
  have HB := Lib.hid (And.intro hb (And.intro (show ((W.alloc (poO7 p A cap)).alloc (datO d)).heap[W.heap.size]? = some (poO7 p A cap) from kept_alloc (World.alloc_heap_new W _) _) (And.intro (show ((W.alloc (poO7 p A cap)).alloc (datO d)).heap[W.heap.size + 1]? = some (datO d) by simpa using World.alloc_heap_new (W.alloc (poO7 p A cap)) (datO d)) (And.intro (h.below hb) (hTab.up hb)))))
  have HC := Lib.hid (p_Check7 p A cap _ HB.out.2.2.2.1 HB.out.2.2.2.2)
  have HV : Hid ((checkF p).1 = 0 → ∀ V, RulesL V p.rules A → Calls Tryd.prog 30 #[poA p A cap, datV d] V fun e w' => e = .returned (vdA (verdF p d)) ∧ Below V.heap.size V w') := Lib.hid (fun hc V hV => p_verdict p d A cap V hV hc)
  have HA := Lib.hid (fun V hV => p_ActF (verdF p d) V hV)
  obtain ⟨g, hg0⟩ : ∃ g, g = evalF p d := ⟨_, rfl⟩
  rw [← hg0]
  have hg : g = if (checkF p).1 ≠ 0 then 0 else (actF (verdF p d)).1 := hg0
  clear hg0 hb h hTab
  generalize verdF p d = v at HV HA hg
  generalize checkF p = ck at HC HV hg
  obtain ⟨c, at_⟩ := ck
  simp only at HC HV hg
  obtain ⟨x0, x1, x2, x3, x4, x5⟩ := po_cells HB.out.2.1
  by_cases hc : c = 0
  · rw [if_neg (fun h => h hc)] at hg
    have q0 : (c != 0) = false := by rw [hc]; rfl
    have HV2 := Lib.hid (HV.out hc)
    have HG := Lib.hid hg
    clear hg hc HV
    go_enter Tryd.func12, Tryd.ntmps12
    go_wp2_with (first
      | (go_at_call 14; (with_reducible refine HC.out.mono ?_); rintro e w1 ⟨rfl, hb⟩; have HB1 := Lib.hid (And.intro (on7 HB.out.1 hb) (And.intro (HB.out.2.2.2.1.below hb) (HB.out.2.2.2.2.up hb))); have h1 := keep7 HB.out.2.1 hb; have h2 := keep7 HB.out.2.2.1 hb; clear hb; obtain ⟨y0, y1, y2, y3, y4, y5⟩ := po_cells h1; obtain ⟨d0, d1, d2, d3, d4, d5, d6, d7, d8⟩ := dat_cells h2; clear h1 h2)
      | (go_at_call 30; (with_reducible refine (HV2.out _ HB1.out.2.1).mono ?_); rintro e w2 ⟨rfl, hb⟩; have HB2 := Lib.hid (And.intro (on7 HB1.out.1 hb) (HB1.out.2.2.up hb)); clear hb)
      | (go_at_call 22; (with_reducible refine (HA.out _ HB2.out.2).mono ?_); rintro e w3 ⟨rfl, hb⟩; have HB3 := Lib.hid (on7 HB2.out.1 hb); clear hb))
    go_ret
    exact ⟨by rw [HG.out]; rfl, HB3.out⟩
  · rw [if_pos hc] at hg
    have q0 : (c != 0) = true := bne_iff_ne.2 hc
    have HG := Lib.hid hg
    clear hg hc HV
    go_enter Tryd.func12, Tryd.ntmps12
    go_wp2_with (go_at_call 14; (with_reducible refine HC.out.mono ?_); rintro e w1 ⟨rfl, hb⟩; have HB1 := Lib.hid (on7 HB.out.1 hb); clear hb)
    go_ret
    exact ⟨by rw [HG.out]; rfl, HB1.out⟩
end Go.Proofs.YthdmlbgejbpalaaDoor
namespace Go.Proofs.YthdmlbgejbpalaaDoor
open Go Go.RowKit
set_option linter.unusedSimpArgs false
set_option linter.unusedVariables false

theorem calls_all : ∀ {t : List (ByteArray × Nat)} {met : List Nat} {l : List (ByteArray × Nat)}, callsE t met l = 0 → ∀ c ∈ l, ∃ n, nrF t c = some n
  | t, met, [], _, c, hc => absurd hc (by simp)
  | t, met, x :: l, h, c, hc => by
    rw [callsE] at h
    cases hx : nrF t x with
    | none => rw [hx] at h; simp at h
    | some n =>
      rw [hx] at h
      simp only at h
      by_cases hm : n ∈ met
      · rw [if_pos hm] at h; simp at h
      · rw [if_neg hm] at h
        rcases List.mem_cons.1 hc with e | e
        · exact ⟨n, by rw [e, hx]⟩
        · exact calls_all h c e
set_option maxRecDepth 100000 in
set_option maxHeartbeats 8000000 in
theorem ref_Eval7 (p : Po) (d : Dat) (A : Option Addr) (cap : Nat) (W : World) (h : RulesL W p.rules A) :
    Calls Tryd.prog 26 #[poA p A cap, datV d] W fun e w' => e = .returned (.int .u32 (evalF p d : Int)) ∧ Below W.heap.size W w' := by
  have hb := below_of W (W.alloc (poO7 p A cap)) (datO d) (lbox W _)
  have HB := Lib.hid (And.intro hb (And.intro (show ((W.alloc (poO7 p A cap)).alloc (datO d)).heap[W.heap.size]? = some (poO7 p A cap) from kept_alloc (World.alloc_heap_new W _) _) (And.intro (show ((W.alloc (poO7 p A cap)).alloc (datO d)).heap[W.heap.size + 1]? = some (datO d) by simpa using World.alloc_heap_new (W.alloc (poO7 p A cap)) (datO d)) (h.below hb))))
  have HC := Lib.hid (ref_Is7 p A cap _ HB.out.2.2.2)
  have HAr := Lib.hid (fun V => ref_Arch p.arch V)
  have HF := Lib.hid (fun V => ref_ActF p.foreign_ V)
  have HD := Lib.hid (fun V => ref_ActF p.default_ V)
  have HAct := Lib.hid (fun v V => ref_ActF v V)
  have HNr := Lib.hid (fun c V => ref_Nr p.arch c V)
  have hlen : p.rules.length ≤ maxLen := h.1
  unfold maxLen at hlen
  obtain ⟨g, hg0⟩ : ∃ g, g = evalF p d := ⟨_, rfl⟩
  rw [← hg0]
  have hg : g = if (checkF p).1 ≠ 0 then 0 else (actF (if d.arch ≠ (sysF p.arch).1 then p.foreign_ else pickF (sysF p.arch).2.1 d p.default_ p.rules)).1 := hg0
  have hrk : (checkF p).1 = 0 → ∀ k, k < p.rules.length → ruleE (sysF p.arch).2.1 (p.rules.getD k zeroR7) = 0 := fun h => (check_parts h).2.2.2.2
  clear hg0 hb h
  generalize sysF p.arch = sy at hg HAr HNr hrk
  generalize checkF p = ck at HC hg hrk
  obtain ⟨c, at_⟩ := ck
  obtain ⟨wd, t, is⟩ := sy
  simp only at HC hg hrk HAr HNr
  obtain ⟨x0, x1, x2, x3, x4, x5⟩ := po_cells HB.out.2.1
  have tok : True := trivial
  by_cases hc : c = 0
  · rw [if_neg (fun h => h hc)] at hg
    have HRK := Lib.hid (hrk hc)
    have q0 : decide (c = 0) = true := decide_eq_true hc
    rw [q0] at HC
    clear hc hrk q0
    by_cases harch : d.arch = wd
    · rw [if_neg (fun h => h harch)] at hg
      have q1 : ((d.arch : Int) != (wd : Int)) = false := by rw [harch]; exact bne_self_eq_false _
      have HG : Hid (g = (actF (pickF t d p.default_ (p.rules.drop 0))).1) := Lib.hid hg
      clear hg harch
      go_enter Tryd.func26, Tryd.ntmps26
      go_wp2_with (first
        | (go_at_call 49; (with_reducible refine HC.out.mono ?_); rintro e w1 ⟨rfl, hb⟩; have HB1 := Lib.hid (And.intro (on7 HB.out.1 hb) (And.intro (keep7 HB.out.2.1 hb) (And.intro (keep7 HB.out.2.2.1 hb) (RulesL.below HB.out.2.2.2 hb)))); clear hb; obtain ⟨y0, y1, y2, _, _, _⟩ := po_cells HB1.out.2.1)
        | (go_at_call 17; (with_reducible refine (HAr.out _).mono ?_); rintro e w2 ⟨rfl, rfl⟩)
        | (go_at_call 23; (with_reducible refine (HF.out _).mono ?_); rintro e w3 ⟨rfl, hb⟩; have HB2 := Lib.hid (And.intro (on7 HB1.out.1 hb) (And.intro (keep7 HB1.out.2.1 hb) (And.intro (keep7 HB1.out.2.2.1 hb) (RulesL.below HB1.out.2.2.2 hb)))); clear hb; obtain ⟨_, d1, _, _, _, _, _, _, _⟩ := dat_cells HB2.out.2.2.1))
      go_loopw [10] (fun v wr => ∃ k : Nat, k ≤ p.rules.length ∧ v = .int .i64 (k : Int) ∧ g = (actF (pickF t d p.default_ (p.rules.drop k))).1 ∧ Below w3.heap.size w3 wr) (fun v _ => p.rules.length - (intOf v).toNat)
      case atStart => exact ⟨0, Nat.zero_le _, rfl, HG.out, Below.refl _ _⟩
      case round =>
        obtain ⟨k, hk, rfl, hgk, hbw⟩ := hrel
        have hbx := keep7 HB2.out.2.1 hbw
        have hdx := keep7 HB2.out.2.2.1 hbw
        clear x0 x1 x2 x3 x4 x5 HG
        obtain ⟨_, _, _, r3, r4, r5⟩ := po_cells hbx
        by_cases hlt : k < p.rules.length
        · have hlt' : (k : Int) < (p.rules.length : Int) := by omega
          have hw : IntKind.i64.wrap ((k : Int) + 1) = ((k + 1 : Nat) : Int) := by rw [IntWalk.i64_in _ (by omega)]; omega
          rw [pick_at t d p.default_ p.rules k hlt] at hgk
          have hok := rule_parts (HRK.out k hlt)
          obtain ⟨tb, o, Ac, capc, Ar, capr, hA, htb, hru, hcc⟩ := rules_cells HB2.out.2.2.2 hbw k hlt
          subst hA
          generalize p.rules.getD k zeroR7 = r at hru hcc hgk hok
          have c0 : wr.cell? ⟨tb, o + k * 9, none⟩ = _ := hcc 0 _ rfl
          have c1 := hcc 1 _ rfl
          have c2 := hcc 2 _ rfl
          have c3 := hcc 3 _ rfl
          have c4 := hcc 4 _ rfl
          have c5 := hcc 5 _ rfl
          have c6 := hcc 6 _ rfl
          have c7 := hcc 7 _ rfl
          have c8 := hcc 8 _ rfl
          have hbo := lbox wr (ruO7 r Ac capc Ar capr)
          have HV := Lib.hid (And.intro (on7 HB2.out.1 (on7 hbw hbo)) (And.intro (on7 hbw hbo) (And.intro (kept_alloc hbx (ruO7 r Ac capc Ar capr)) (And.intro (kept_alloc hdx (ruO7 r Ac capc Ar capr)) (And.intro (World.alloc_heap_new wr (ruO7 r Ac capc Ar capr)) (And.intro (hru.1.below hbo) (hru.2.below hbo)))))))
          have HS := Lib.hid (ref_holds d _ r.when_ (Nat.lt_succ_self _) ⟨0, hok.2.2.1⟩)
          have HNS := Lib.hid (calls_all hok.2.1)
          have hlenc : r.calls.length ≤ maxLen := hru.1.1
          unfold maxLen at hlenc
          clear hbw hbx hbo hru hcc hdx hok
          have HGK : Hid (g = (actF (if hasB t d.nr (r.calls.drop 0) = true ∧ holdsF d r.when_ = true then r.do_ else pickF t d p.default_ (p.rules.drop (k + 1)))).1) := Lib.hid hgk
          clear hgk
          obtain ⟨rest, hrest⟩ : ∃ rest, rest = (actF (pickF t d p.default_ (p.rules.drop (k + 1)))).1 := ⟨_, rfl⟩
          have HRE := Lib.hid hrest
          have HGK2 : Hid (g = if hasB t d.nr (r.calls.drop 0) = true ∧ holdsF d r.when_ = true then (actF r.do_).1 else rest) := Lib.hid (by rw [HGK.out, hrest]; split <;> rfl)
          clear HGK hrest
          go_wp2
          generalize wr.alloc (ruO7 r Ac capc Ar capr) = V0 at HV ⊢
          generalize wr.heap.size = rb at HV ⊢
          go_loopw [12] (fun v wi => ∃ j : Nat, j ≤ r.calls.length ∧ v = .int .i64 (j : Int) ∧ g = (if hasB t d.nr (r.calls.drop j) = true ∧ holdsF d r.when_ = true then (actF r.do_).1 else rest) ∧ Below V0.heap.size V0 wi) (fun v _ => r.calls.length - (intOf v).toNat)
          case atStart => exact ⟨0, Nat.zero_le _, rfl, HGK2.out, Below.refl _ _⟩
          case round =>
            obtain ⟨j, hj, rfl, hgj, hbi⟩ := hrel
            have hpx := keep7 HV.out.2.2.1 hbi
            have hdx := keep7 HV.out.2.2.2.1 hbi
            have hrx := keep7 HV.out.2.2.2.2.1 hbi
            have u0 := cell6 hrx 0 rfl
            by_cases hjl : j < r.calls.length
            · have hjl' : (j : Int) < (r.calls.length : Int) := by omega
              have hwj : IntKind.i64.wrap ((j : Int) + 1) = ((j + 1 : Nat) : Int) := by rw [IntWalk.i64_in _ (by omega)]; omega
              rw [has_at t d.nr r.calls j hjl] at hgj
              obtain ⟨tb1, o1, hAc, htb1, e0, e1⟩ := calls_cells (B := 0) HV.out.2.2.2.2.2.1 hbi j hjl
              subst hAc
              obtain ⟨m, hm⟩ := HNS.out (r.calls.getD j (⟨#[]⟩, 0)) (by rw [List.getD_eq_getElem?_getD, List.getElem?_eq_getElem hjl]; exact List.getElem_mem hjl)
              rw [hm] at hgj
              generalize r.calls.getD j (⟨#[]⟩, 0) = c at e0 e1 hm
              have hnr := HNr.out c wr.drew
              rw [hm] at hnr
              have HNR := Lib.hid (hnr.mono (R' := fun e w' => e = .returned (.tuple #[.int .u32 (m : Int), .bool true]) ∧ Below wr.drew.heap.size wr.drew w') fun e w2 ⟨m', b, he, hb, hb2⟩ => ⟨by rw [he, hb.1, hb.2], hb2⟩)
              have HC1 : Hid ((wr.heap[W.heap.size]? = some (poO7 p (some ⟨tb, o, none⟩) cap) ∧ wr.heap[rb]? = some (ruO7 r (some ⟨tb1, o1, none⟩) capc Ar capr) ∧ wr.heap[W.heap.size + 1]? = some (datO d)) ∧ wr.cell? ⟨tb1, o1 + j * 2, none⟩ = some (.string c.1) ∧ wr.cell? ⟨tb1, o1 + j * 2 + 1, none⟩ = some (.int .u64 (c.2 : Int))) := Lib.hid ⟨⟨hpx, hrx, hdx⟩, e0, e1⟩
              have HBI := Lib.hid (And.intro (on7 HV.out.1 hbi) (And.intro hbi htb1))
              have HX := Lib.hid (HV.out.2.2.2.2.2.2.below hbi)
              have HGJ := Lib.hid hgj
              clear hpx hdx hrx hbi hnr hm hgj e0 e1
              go_wp2
              refine wp_region_held_drew (S := fun W' => (W'.heap[W.heap.size]? = some (poO7 p (some ⟨tb, o, none⟩) cap) ∧ W'.heap[rb]? = some (ruO7 r (some ⟨tb1, o1, none⟩) capc Ar capr) ∧ W'.heap[W.heap.size + 1]? = some (datO d)) ∧ W'.cell? ⟨tb1, o1 + j * 2, none⟩ = some (.string c.1) ∧ W'.cell? ⟨tb1, o1 + j * 2 + 1, none⟩ = some (.int .u64 (c.2 : Int))) (by kernel_rfl) HC1.out (fun hHeld => ?_)
              have HB5 : Hid (Below W.heap.size W wr.drew ∧ Below V0.heap.size V0 wr.drew ∧ tb1 < wr.drew.heap.size ∧ ExL wr.drew r.when_ Ar capr) := Lib.hid ⟨below_drawn HBI.out.1 1, below_drawn HBI.out.2.1 1, HBI.out.2.2, HX.out.below (below_drawn (Below.refl _ _) 1)⟩
              clear HC1 HBI HX u0
              generalize wr.drew = Y at HB5 HNR hHeld ⊢
              have HH := Lib.hid hHeld
              refine wpAnyH_take (i := 0) (v := ?_) rfl (by kernel_rfl) (by kernel_rfl) (by kernel_rfl) (fun _ _ _ h => h) (Or.inl ⟨by rfl, ?_⟩) (by assumption) ?_
              rotate_left
              · intro wS hSw
                (obtain ⟨⟨i0, i1, i2⟩, f0, f1⟩ := hSw; obtain ⟨b0, _, _, _, _, b5⟩ := po_cells i0; have a0 := cell6 i1 0 rfl)
                go_simp
                all_goals with_reducible rfl
              (try simp only [List.getElem_toArray, List.getElem_cons_zero, List.getElem_cons_succ, Act.put, List.setIfInBounds_toArray, List.set_cons_zero, List.set_cons_succ])
              refine wpAnyH_take (i := 1) (v := ?_) rfl (by kernel_rfl) (by kernel_rfl) (by kernel_rfl) (fun _ _ _ h => h) (Or.inl ⟨by rfl, ?_⟩) (by assumption) ?_
              rotate_left
              · intro wS hSw
                (obtain ⟨⟨i0, i1, i2⟩, f0, f1⟩ := hSw; obtain ⟨b0, _, _, _, _, b5⟩ := po_cells i0; have a0 := cell6 i1 0 rfl)
                go_simp
                all_goals with_reducible rfl
              (try simp only [List.getElem_toArray, List.getElem_cons_zero, List.getElem_cons_succ, Act.put, List.setIfInBounds_toArray, List.set_cons_zero, List.set_cons_succ])
              refine wpAnyH_take (i := 2) (v := ?_) rfl (by kernel_rfl) (by kernel_rfl) (by kernel_rfl) (fun _ _ _ h => h) (Or.inl ⟨by rfl, ?_⟩) (by assumption) ?_
              rotate_left
              · intro wS hSw
                (obtain ⟨⟨i0, i1, i2⟩, f0, f1⟩ := hSw; obtain ⟨b0, _, _, _, _, b5⟩ := po_cells i0; have a0 := cell6 i1 0 rfl)
                go_simp
                all_goals with_reducible rfl
              (try simp only [List.getElem_toArray, List.getElem_cons_zero, List.getElem_cons_succ, Act.put, List.setIfInBounds_toArray, List.set_cons_zero, List.set_cons_succ])
              refine wpAnyH_take (i := 3) (v := ?_) rfl (by kernel_rfl) (by kernel_rfl) (by kernel_rfl) (fun _ _ _ h => h) (Or.inl ⟨by rfl, ?_⟩) (by assumption) ?_
              rotate_left
              · intro wS hSw
                (obtain ⟨⟨i0, i1, i2⟩, f0, f1⟩ := hSw; obtain ⟨b0, _, _, _, _, b5⟩ := po_cells i0; have a0 := cell6 i1 0 rfl)
                go_simp
                all_goals with_reducible rfl
              (try simp only [List.getElem_toArray, List.getElem_cons_zero, List.getElem_cons_succ, Act.put, List.setIfInBounds_toArray, List.set_cons_zero, List.set_cons_succ])
              refine wpAnyH_take (i := 4) (v := ?_) rfl (by kernel_rfl) (by kernel_rfl) (by kernel_rfl) (fun _ _ _ h => h) (Or.inl ⟨by rfl, ?_⟩) (by assumption) ?_
              rotate_left
              · intro wS hSw
                (obtain ⟨⟨i0, i1, i2⟩, f0, f1⟩ := hSw; obtain ⟨b0, _, _, _, _, b5⟩ := po_cells i0; have a0 := cell6 i1 0 rfl)
                go_simp
                all_goals with_reducible rfl
              (try simp only [List.getElem_toArray, List.getElem_cons_zero, List.getElem_cons_succ, Act.put, List.setIfInBounds_toArray, List.set_cons_zero, List.set_cons_succ])
              refine wpAnyH_take (i := 5) (v := ?_) rfl (by kernel_rfl) (by kernel_rfl) (by kernel_rfl) (fun _ _ _ h => h) (Or.inl ⟨by rfl, ?_⟩) (by assumption) ?_
              rotate_left
              · intro wS hSw
                (obtain ⟨⟨i0, i1, i2⟩, f0, f1⟩ := hSw; obtain ⟨b0, _, _, _, _, b5⟩ := po_cells i0; have a0 := cell6 i1 0 rfl)
                go_simp
                all_goals with_reducible rfl
              (try simp only [List.getElem_toArray, List.getElem_cons_zero, List.getElem_cons_succ, Act.put, List.setIfInBounds_toArray, List.set_cons_zero, List.set_cons_succ])
              refine wpAnyH_take (i := 6) (v := ?_) rfl (by kernel_rfl) (by kernel_rfl) (by kernel_rfl) (fun _ _ _ h => h) (Or.inl ⟨by rfl, ?_⟩) (by assumption) ?_
              rotate_left
              · intro wS hSw
                (obtain ⟨⟨i0, i1, i2⟩, f0, f1⟩ := hSw; obtain ⟨b0, _, _, _, _, b5⟩ := po_cells i0; have a0 := cell6 i1 0 rfl)
                go_simp
                all_goals with_reducible rfl
              (try simp only [List.getElem_toArray, List.getElem_cons_zero, List.getElem_cons_succ, Act.put, List.setIfInBounds_toArray, List.set_cons_zero, List.set_cons_succ])
              refine held_one (i := 7) (by kernel_rfl) rfl (fun K hK => ?_)
              go_simp
              go_at_call 50
              refine HNR.out.mono ?_
              rintro e w4 ⟨rfl, hb3⟩
              have hp4 := keep7 HH.out.1.1 hb3
              have hr4 := keep7 HH.out.1.2.1 hb3
              have hd4 := keep7 HH.out.1.2.2 hb3
              have HB6 := Lib.hid (And.intro (on7 HB5.out.1 hb3) (And.intro (on7 HB5.out.2.1 hb3) (HB5.out.2.2.2.below hb3)))
              refine hK.out _ _ ⟨⟨hp4, hr4, hd4⟩, (hb3.cell (p := ⟨tb1, o1 + j * 2, none⟩) HB5.out.2.2.1).trans HH.out.2.1, (hb3.cell (p := ⟨tb1, o1 + j * 2 + 1, none⟩) HB5.out.2.2.1).trans HH.out.2.2⟩ (fun hH2 => ?_)
              have HR4 := Lib.hid (And.intro hr4 hd4)
              obtain ⟨d0, d1, d2, d3, d4, d5, d6, d7, d8⟩ := dat_cells hd4
              have a1 := cell6 hr4 1 rfl
              have a2 := cell6 hr4 2 rfl
              have a3 := cell6 hr4 3 rfl
              have a4 := cell6 hr4 4 rfl
              have a5 := cell6 hr4 5 rfl
              have a6 := cell6 hr4 6 rfl
              clear hK K hHeld hb3 hp4 hr4 hd4
              (try simp only [Act.put, List.setIfInBounds_toArray, List.set_cons_zero, List.set_cons_succ, List.getElem_toArray, List.getElem_cons_zero, List.getElem_cons_succ])
              refine wpAnyH_take (i := 8) (v := ?_) rfl (by kernel_rfl) (by kernel_rfl) (by kernel_rfl) (fun _ _ _ h => h) (Or.inl ⟨by rfl, ?_⟩) (by assumption) ?_
              rotate_left
              · intro wS hSw
                (skip)
                go_simp
                all_goals with_reducible rfl
              (try simp only [List.getElem_toArray, List.getElem_cons_zero, List.getElem_cons_succ, Act.put, List.setIfInBounds_toArray, List.set_cons_zero, List.set_cons_succ])
              refine wpAnyH_take (i := 9) (v := ?_) rfl (by kernel_rfl) (by kernel_rfl) (by kernel_rfl) (fun _ _ _ h => h) (Or.inl ⟨by rfl, ?_⟩) (by assumption) ?_
              rotate_left
              · intro wS hSw
                (skip)
                go_simp
                all_goals with_reducible rfl
              (try simp only [List.getElem_toArray, List.getElem_cons_zero, List.getElem_cons_succ, Act.put, List.setIfInBounds_toArray, List.set_cons_zero, List.set_cons_succ])
              refine wpAnyH_take (i := 10) (v := ?_) rfl (by kernel_rfl) (by kernel_rfl) (by kernel_rfl) (fun _ _ _ h => h) (Or.inl ⟨by rfl, ?_⟩) (by assumption) ?_
              rotate_left
              · intro wS hSw
                (skip)
                go_simp
                all_goals with_reducible rfl
              (try simp only [List.getElem_toArray, List.getElem_cons_zero, List.getElem_cons_succ, Act.put, List.setIfInBounds_toArray, List.set_cons_zero, List.set_cons_succ])
              refine wpAnyH_take (i := 11) (v := ?_) rfl (by kernel_rfl) (by kernel_rfl) (by kernel_rfl) (fun _ _ _ h => h) (Or.inl ⟨by rfl, ?_⟩) (by assumption) ?_
              rotate_left
              · intro wS hSw
                (skip)
                go_simp
                all_goals with_reducible rfl
              (try simp only [List.getElem_toArray, List.getElem_cons_zero, List.getElem_cons_succ, Act.put, List.setIfInBounds_toArray, List.set_cons_zero, List.set_cons_succ])
              refine wpAnyH_take (i := 12) (v := ?_) rfl (by kernel_rfl) (by kernel_rfl) (by kernel_rfl) (fun _ _ _ h => h) (Or.inl ⟨by rfl, ?_⟩) (by assumption) ?_
              rotate_left
              · intro wS hSw
                (skip)
                go_simp
                all_goals with_reducible rfl
              (try simp only [List.getElem_toArray, List.getElem_cons_zero, List.getElem_cons_succ, Act.put, List.setIfInBounds_toArray, List.set_cons_zero, List.set_cons_succ])
              refine wpAnyH_done (by kernel_rfl) ?_ _
              by_cases hmn : m = d.nr
              · have q2 : ((m : Int) == (d.nr : Int)) = true := beq_iff_eq.2 (by omega)
                have HG3 : Hid (g = if holdsF d r.when_ = true then (actF r.do_).1 else rest) := Lib.hid (by have := HGJ.out; rw [hmn] at this; simpa using this)
                have HS2 := Lib.hid (HS.out w4 Ar capr HB6.out.2.2)
                clear HGJ hmn
                by_cases hhs : holdsF d r.when_ = true
                · rw [hhs] at HS2
                  have HG4 : Hid (g = (actF r.do_).1) := Lib.hid (by rw [HG3.out, if_pos hhs])
                  clear hhs HG3
                  go_wp2_with (first
                    | (go_at_call 51; (with_reducible refine HS2.out.mono ?_); rintro e w5 ⟨rfl, hb⟩; have HB7 := Lib.hid (on7 HB6.out.1 hb); have hr5 := keep7 HR4.out.1 hb; clear hb; have g7 := cell6 hr5 7 rfl; have g8 := cell6 hr5 8 rfl; clear hr5)
                    | (go_at_call 23; (with_reducible refine (HAct.out r.do_ _).mono ?_); rintro e w6 ⟨rfl, hb⟩; have HB8 := Lib.hid (on7 HB7.out hb); clear hb))
                  go_ret
                  exact ⟨by rw [HG4.out]; rfl, HB8.out⟩
                · have hhs2 : holdsF d r.when_ = false := by simpa using hhs
                  rw [hhs2] at HS2
                  have HG4 : Hid (g = if hasB t d.nr (r.calls.drop (j + 1)) = true ∧ holdsF d r.when_ = true then (actF r.do_).1 else rest) := Lib.hid (by rw [HG3.out, if_neg hhs, if_neg (fun h => hhs h.2)])
                  clear HG3 hhs hhs2
                  go_wp2_with (go_at_call 51; (with_reducible refine HS2.out.mono ?_); rintro e w5 ⟨rfl, hb⟩; have HB7 := Lib.hid (on7 HB6.out.2.1 hb); clear hb)
                  exact ⟨⟨j + 1, by omega, by go_num, HG4.out, HB7.out⟩, by simp [intOf]; omega⟩
              · have q2 : ((m : Int) == (d.nr : Int)) = false := beq_false_of_ne (by omega)
                have HG3 : Hid (g = if hasB t d.nr (r.calls.drop (j + 1)) = true ∧ holdsF d r.when_ = true then (actF r.do_).1 else rest) := Lib.hid (by have := HGJ.out; simpa [hmn] using this)
                clear HGJ hmn
                go_wp2
                exact ⟨⟨j + 1, by omega, by go_num, HG3.out, HB6.out.2.1⟩, by simp [intOf]; omega⟩
            · have hjl' : ¬ (j : Int) < (r.calls.length : Int) := by omega
              rw [has_end t d.nr r.calls j (by omega)] at hgj
              have HG3 : Hid (g = (actF (pickF t d p.default_ (p.rules.drop (k + 1)))).1) := Lib.hid (by rw [hgj, ← HRE.out]; simp)
              have HB5 := Lib.hid (on7 HV.out.2.1 hbi)
              clear hgj hbi hpx hdx hrx
              go_wp2
              exact ⟨⟨k + 1, by omega, by go_num, HG3.out, HB5.out⟩, by simp [intOf]; omega⟩
        · have hlt' : ¬ (k : Int) < (p.rules.length : Int) := by omega
          rw [pick_end t d p.default_ p.rules k (by omega)] at hgk
          have HGK := Lib.hid hgk
          have HBW := Lib.hid (on7 HB2.out.1 hbw)
          clear hgk hbw hbx hdx
          go_wp2_with (go_at_call 23; (with_reducible refine (HD.out _).mono ?_); rintro e w4 ⟨rfl, hb⟩; have HB4 := Lib.hid (on7 HBW.out hb); clear hb)
          go_ret
          exact ⟨by rw [HGK.out]; rfl, HB4.out⟩
    · rw [if_pos harch] at hg
      have q1 : ((d.arch : Int) != (wd : Int)) = true := bne_iff_ne.2 (fun h => harch (by omega))
      have HG := Lib.hid hg
      clear hg harch
      go_enter Tryd.func26, Tryd.ntmps26
      go_wp2_with (first
        | (go_at_call 49; (with_reducible refine HC.out.mono ?_); rintro e w1 ⟨rfl, hb⟩; have HB1 := Lib.hid (And.intro (on7 HB.out.1 hb) (And.intro (keep7 HB.out.2.1 hb) (keep7 HB.out.2.2.1 hb))); clear hb; obtain ⟨y0, y1, y2, _, _, _⟩ := po_cells HB1.out.2.1)
        | (go_at_call 17; (with_reducible refine (HAr.out _).mono ?_); rintro e w2 ⟨rfl, rfl⟩)
        | (go_at_call 23; (with_reducible refine (HF.out _).mono ?_); rintro e w3 ⟨rfl, hb⟩; have HB2 := Lib.hid (And.intro (on7 HB1.out.1 hb) (keep7 HB1.out.2.2 hb)); clear hb; obtain ⟨_, d1, _, _, _, _, _, _, _⟩ := dat_cells HB2.out.2))
      go_ret
      exact ⟨by rw [HG.out]; rfl, HB2.out.1⟩
  · rw [if_pos hc] at hg
    have q0 : decide (c = 0) = false := decide_eq_false hc
    rw [q0] at HC
    have HG := Lib.hid hg
    clear hg hc hrk q0
    go_enter Tryd.func26, Tryd.ntmps26
    go_wp2_with (go_at_call 49; (with_reducible refine HC.out.mono ?_); rintro e w1 ⟨rfl, hb⟩; have HB1 := Lib.hid (on7 HB.out.1 hb); clear hb)
    go_ret
    exact ⟨by rw [HG.out]; rfl, HB1.out⟩
end Go.Proofs.YthdmlbgejbpalaaDoor
