/-
  Numbers among calls, what verdicts say, what is wrong with calls: contracts. Conditions: those that each names.
-/
import Derived.Test.YtgeapkjegemkeaaDoorSemAct
import Derived.Test.YtgeapkjegemkeaaDoorSemPure
import Derived.Maps.OwnSet
namespace Go.Proofs.YtgeapkjegemkeaaDoor
open Go Go.RowKit
set_option linter.unusedSimpArgs false
set_option linter.unusedVariables false

abbrev sysO (wd : Int) (A : Option Addr) (n cap : Nat) : Obj := .cells #[.int .u32 wd, .slice A n cap] 55
abbrev sysV (wd : Int) (A : Option Addr) (n cap : Nat) : Value := .agg #[.int .u32 wd, .slice A n cap]
abbrev callO7 (c : ByteArray × Nat) : Obj := .cells #[.string c.1, .int .u64 (c.2 : Int)] 100
theorem callsC_at7 : ∀ (l : List (ByteArray × Nat)) (k : Nat), k < l.length → (callsC l)[k * 2]? = some (.string (l.getD k (⟨#[]⟩, 0)).1) ∧ (callsC l)[k * 2 + 1]? = some (.int .u64 ((l.getD k (⟨#[]⟩, 0)).2 : Int))
  | [], _, h => absurd h (by simp)
  | x :: l, 0, _ => ⟨rfl, rfl⟩
  | x :: l, k + 1, h => by
    have ih := callsC_at7 l k (by simpa using h)
    have e1 : (k + 1) * 2 = k * 2 + 2 := by omega
    rw [e1]
    exact ih
theorem calls_cells {w wr : World} {B : Nat} {l : List (ByteArray × Nat)} {A : Option Addr} (h : CallsL w l A) (hb : Below w.heap.size w wr) (k : Nat) (hk : k < l.length) :
    ∃ tb o, A = some ⟨tb, o, none⟩ ∧ tb < wr.heap.size ∧ wr.cell? ⟨tb, o + k * 2, none⟩ = some (.string (l.getD k (⟨#[]⟩, 0)).1) ∧ wr.cell? ⟨tb, o + k * 2 + 1, none⟩ = some (.int .u64 ((l.getD k (⟨#[]⟩, 0)).2 : Int)) := by
  rcases h.2 with h0 | ⟨tb, o, hA, ht, hc⟩
  · rw [h0] at hk; exact absurd hk (by simp)
  · obtain ⟨a, b⟩ := callsC_at7 l k hk
    exact ⟨tb, o, hA, Nat.lt_of_lt_of_le ht hb.size, (hb.cell (p := ⟨tb, o + k * 2, none⟩) ht).trans (hc _ _ a), (hb.cell (p := ⟨tb, o + k * 2 + 1, none⟩) ht).trans (hc _ _ b)⟩
theorem has_at (t : List (ByteArray × Nat)) (n : Nat) (l : List (ByteArray × Nat)) (k : Nat) (hk : k < l.length) : hasB t n (l.drop k) = if nrF t (l.getD k (⟨#[]⟩, 0)) = some n then true else hasB t n (l.drop (k + 1)) := by
  rw [List.drop_eq_getElem_cons hk]
  have : l.getD k (⟨#[]⟩, 0) = l[k] := by rw [List.getD_eq_getElem?_getD, List.getElem?_eq_getElem hk]; rfl
  rw [this, hasB]
theorem has_end (t : List (ByteArray × Nat)) (n : Nat) (l : List (ByteArray × Nat)) (k : Nat) (hk : l.length ≤ k) : hasB t n (l.drop k) = false := by
  rw [List.drop_of_length_le hk, hasB]
set_option maxRecDepth 100000 in
set_option maxHeartbeats 4000000 in
theorem p_has (t l : List (ByteArray × Nat)) (wd : Int) (A Ac : Option Addr) (cap capc n : Nat) (W : World) (hT : TabL W t A) (hc : CallsL W l Ac) :
    Calls Tryd.prog 24 #[sysV wd A t.length cap, .slice Ac l.length capc, .int .u32 (n : Int)] W fun e w' => e = .returned (.bool (hasB t n l)) ∧ Below W.heap.size W w' := by
  have HT := Lib.hid hT
  have HC := Lib.hid hc
  have HB := Lib.hid (And.intro (lbox W (sysO wd A t.length cap)) (World.alloc_heap_new W (sysO wd A t.length cap)))
  have HN := Lib.hid (fun c V hV => p_numberOf t wd A cap c V hV)
  have hlen : l.length ≤ maxLen := hc.1
  unfold maxLen at hlen
  obtain ⟨g, hg⟩ : ∃ g, g = hasB t n l := ⟨_, rfl⟩
  rw [← hg]
  have HG : Hid (g = hasB t n (l.drop 0)) := Lib.hid hg
  obtain ⟨ln, hln⟩ : ∃ ln, ln = l.length := ⟨_, rfl⟩
  rw [← hln] at hlen ⊢
  have HLN := Lib.hid hln
  obtain ⟨tn, htn⟩ : ∃ tn, tn = t.length := ⟨_, rfl⟩
  rw [← htn] at HB HN ⊢
  clear hg hln htn hT hc
  go_enter Tryd.func24, Tryd.ntmps24
  go_wp2
  go_loopw [13] (fun v wr => ∃ k : Nat, k ≤ ln ∧ v = .int .i64 (k : Int) ∧ g = hasB t n (l.drop k) ∧ Below W.heap.size W wr ∧ wr.heap[W.heap.size]? = some (sysO wd A tn cap)) (fun v _ => ln - (intOf v).toNat)
  case atStart => exact ⟨0, Nat.zero_le _, rfl, HG.out, HB.out.1, HB.out.2⟩
  case round =>
    obtain ⟨k, hk, rfl, hgk, hbw, hbx⟩ := hrel
    clear HB HG
    by_cases hlt : k < ln
    · have hlt' : (k : Int) < (ln : Int) := by omega
      have hw : IntKind.i64.wrap ((k : Int) + 1) = ((k + 1 : Nat) : Int) := by rw [IntWalk.i64_in _ (by omega)]; omega
      have hkl : k < l.length := by have := HLN.out; omega
      rw [has_at t n l k hkl] at hgk
      obtain ⟨tb, o, rfl, htl, c0, c1⟩ := calls_cells (B := 0) HC.out hbw k hkl
      generalize l.getD k (⟨#[]⟩, 0) = c at c0 c1 hgk
      have hsz : W.heap.size < wr.heap.size := (Array.getElem?_eq_some_iff.1 hbx).1
      have x0 : ∀ o, (wr.alloc o).cell? ⟨W.heap.size, 0, none⟩ = some (.int .u32 wd) := fun o => cell6 (kept_alloc hbx o) 0 rfl
      have x1 : ∀ o, (wr.alloc o).cell? ⟨W.heap.size, 1, none⟩ = some (.slice A tn cap) := fun o => cell6 (kept_alloc hbx o) 1 rfl
      have HW := Lib.hid (And.intro (below_of W wr (callO7 c) hbw) (And.intro (kept_alloc hbx (callO7 c)) (HT.out.below (below_of W wr (callO7 c) hbw))))
      have hnr := HN.out c (wr.alloc (callO7 c)) HW.out.2.2
      have HK : Hid (∀ w2, Below (wr.alloc (callO7 c)).heap.size (wr.alloc (callO7 c)) w2 → Below W.heap.size W w2 ∧ w2.heap[W.heap.size]? = some (sysO wd A tn cap)) := Lib.hid (fun w2 hb2 => ⟨HW.out.1.trans (hb2.mono HW.out.1.size), (hb2.block _ (Array.getElem?_eq_some_iff.1 HW.out.2.1).1).trans HW.out.2.1⟩)
      clear hbw hbx
      cases hq : nrF t c with
      | none =>
        rw [hq] at hnr hgk
        rw [if_neg (by simp)] at hgk
        have HGK := Lib.hid hgk
        have HNR : Hid (Calls Tryd.prog 34 #[sysV wd A tn cap, callV c] (wr.alloc (callO7 c)) fun e w2 => (∃ m : Nat, e = .returned (.tuple #[.int .u32 (m : Int), .bool false])) ∧ Below W.heap.size W w2 ∧ w2.heap[W.heap.size]? = some (sysO wd A tn cap)) := Lib.hid (hnr.mono fun e w2 ⟨m, b, he, hb, hb2⟩ => ⟨⟨m, by rw [he, show b = false from hb]⟩, HK.out w2 hb2⟩)
        clear hgk hnr hq HK
        go_wp2_with (go_at_call 34; (with_reducible refine HNR.out.mono ?_); rintro e w2 ⟨⟨m, rfl⟩, hb2⟩; have HB2 := Lib.hid hb2; clear hb2)
        exact ⟨⟨k + 1, by omega, by go_num, HGK.out, HB2.out.1, HB2.out.2⟩, by simp [intOf]; omega⟩
      | some m =>
        rw [hq] at hnr hgk
        have HNR : Hid (Calls Tryd.prog 34 #[sysV wd A tn cap, callV c] (wr.alloc (callO7 c)) fun e w2 => e = .returned (.tuple #[.int .u32 (m : Int), .bool true]) ∧ Below W.heap.size W w2 ∧ w2.heap[W.heap.size]? = some (sysO wd A tn cap)) := Lib.hid (hnr.mono fun e w2 ⟨m', b, he, hb, hb2⟩ => ⟨by rw [he, hb.1, hb.2], HK.out w2 hb2⟩)
        by_cases hmn : m = n
        · rw [if_pos (by rw [hmn])] at hgk
          have HGK := Lib.hid hgk
          have q : ((m : Int) == (n : Int)) = true := by rw [hmn]; exact beq_self_eq_true _
          clear hgk hnr hq HK hmn
          go_wp2_with (go_at_call 34; (with_reducible refine HNR.out.mono ?_); rintro e w2 ⟨rfl, hb2⟩; have HB2 := Lib.hid hb2; clear hb2)
          go_ret
          exact ⟨by rw [HGK.out]; rfl, HB2.out.1⟩
        · rw [if_neg (fun e => hmn (Option.some.inj e))] at hgk
          have HGK := Lib.hid hgk
          have q : ((m : Int) == (n : Int)) = false := beq_false_of_ne (by omega)
          clear hgk hnr hq HK hmn
          go_wp2_with (go_at_call 34; (with_reducible refine HNR.out.mono ?_); rintro e w2 ⟨rfl, hb2⟩; have HB2 := Lib.hid hb2; clear hb2)
          exact ⟨⟨k + 1, by omega, by go_num, HGK.out, HB2.out.1, HB2.out.2⟩, by simp [intOf]; omega⟩
    · have hlt' : ¬ (k : Int) < (ln : Int) := by omega
      rw [has_end t n l k (by have := HLN.out; omega)] at hgk
      have HGK := Lib.hid hgk
      have HBW := Lib.hid hbw
      clear hgk hbw hbx
      go_wp2
      go_ret
      exact ⟨by rw [HGK.out]; rfl, HBW.out⟩
end Go.Proofs.YtgeapkjegemkeaaDoor
namespace Go.Proofs.YtgeapkjegemkeaaDoor
open Go Go.RowKit
set_option linter.unusedSimpArgs false
set_option linter.unusedVariables false

theorem act_ok_iff (k : Int) (d : Nat) : actOK k d ↔ ((wordK k).2.2 = true ∧ d ≤ (wordK k).2.1) := by
  by_cases hk : 1 ≤ k ∧ k ≤ 8
  · have : k = 1 ∨ k = 2 ∨ k = 3 ∨ k = 4 ∨ k = 5 ∨ k = 6 ∨ k = 7 ∨ k = 8 := by omega
    rcases this with rfl | rfl | rfl | rfl | rfl | rfl | rfl | rfl <;> simp [actOK, codeOK, wordK, mostI, rowH] <;> omega
  · constructor
    · intro h; exact absurd ⟨h.2.1, h.2.2.1⟩ hk
    · intro h
      have n1 : ¬ k = 1 := by omega
      have n2 : ¬ k = 2 := by omega
      have n3 : ¬ k = 3 := by omega
      have n4 : ¬ k = 4 := by omega
      have n5 : ¬ k = 5 := by omega
      have n6 : ¬ k = 6 := by omega
      have n7 : ¬ k = 7 := by omega
      have n8 : ¬ k = 8 := by omega
      simp [wordK, n1, n2, n3, n4, n5, n6, n7, n8] at h
theorem act_word (k : Int) (hk : 1 ≤ k ∧ k ≤ 8) : ((wordK k).1 : Int) = rowW (k - 1).toNat := by
  have : k = 1 ∨ k = 2 ∨ k = 3 ∨ k = 4 ∨ k = 5 ∨ k = 6 ∨ k = 7 ∨ k = 8 := by omega
  rcases this with rfl | rfl | rfl | rfl | rfl | rfl | rfl | rfl <;> rfl
/-- What answers a verdict. -/
def ActP7 (v : Int × Nat) (w : World) (e : Ending) (w' : World) : Prop := e = .returned (.tuple #[.int .u32 ((actF v).1 : Int), .bool (actF v).2]) ∧ Below w.heap.size w w'
theorem actP_of {k : Int} {d : Nat} {w w' : World} {e : Ending} (h : ActC k d w e w') : ActP7 (k, d) w e w' := by
  refine ⟨?_, h.2⟩
  rw [h.1]
  by_cases hc : actOK k d
  · have g := (act_ok_iff k d).1 hc
    rw [actW, if_pos hc, decide_eq_true hc, actF, if_pos g]
    have := act_word k ⟨hc.2.1, hc.2.2.1⟩
    show Ending.returned (.tuple #[.int .u32 (rowW (k - 1).toNat + (d : Int)), .bool true]) = Ending.returned (.tuple #[.int .u32 (((wordK k).1 + d : Nat) : Int), .bool true])
    rw [← this, Int.natCast_add]
  · rw [actW, if_neg hc, decide_eq_false hc, actF, if_neg (fun g => hc ((act_ok_iff k d).2 g))]
    rfl
theorem p_ActF (v : Int × Nat) (w : World) (hT : Tab w) : Calls Tryd.prog 13 #[vdV7 v.1 v.2] w (ActP7 v w) := (p_Action7 v.1 v.2 w hT).mono fun e w' h => actP_of h
end Go.Proofs.YtgeapkjegemkeaaDoor
namespace Go.Proofs.YtgeapkjegemkeaaDoor
open Go Go.RowKit
open Go.Maps (Keyed)
set_option linter.unusedSimpArgs false
set_option linter.unusedVariables false

abbrev u32L (n : Nat) : Lit := .int .u32 (n : Int)
abbrev metD (met : List Nat) : DataW Unit := Go.Maps.setOf (.agg []) (met.map u32L)
theorem u32L_wf {n : Nat} (h : n < 4294967296) : (Lit.int .u32 (n : Int)).wf = true := by simp [Lit.wf, IntKind.has, IntKind.min, IntKind.max, IntKind.bits, IntKind.signed]; omega
theorem u32L_key (n : Nat) : WideAt.IsKeyLit (u32L n) := trivial
theorem has_met (met : List Nat) (n : Nat) : Go.Maps.has (metD met) (u32L n) = decide (n ∈ met) := by
  rw [Go.Maps.has_setOf _ _ _ (fun x hx => by obtain ⟨m, _, rfl⟩ := List.mem_map.1 hx; exact u32L_key m)]
  induction met with
  | nil => rfl
  | cons m met ih =>
    simp only [List.map_cons, List.any_cons, ih]
    by_cases e : m = n
    · subst e; simp [Lit.sameKey]
    · have h1 : (u32L m).sameKey (u32L n) = false := Go.Maps.sameKey_ne (fun g => e (by injection g with _ g; omega))
      have h2 : decide (n ∈ m :: met) = decide (n ∈ met) := by simp [Ne.symm e]
      rw [h1, h2]; rfl
theorem met_put (met : List Nat) (n : Nat) : (metD met).put (u32L n) (.agg []) = metD (met ++ [n]) := by
  unfold metD; rw [List.map_append]; exact (Go.Maps.setOf_snoc _ _ _).symm
def MetMap (w : World) (b k : Nat) (met : List Nat) : Prop := w.ownsMap Tryd.prog 29 (unitElem (H := Unit)) b k (metD met)
theorem MetMap.up {w w' : World} {b k : Nat} {met : List Nat} (h : MetMap w b k met) (hb : Below w.heap.size w w') : MetMap w' b k met := by
  have hl := World.ownsMap.lt h
  obtain ⟨es, clock, hh, hr⟩ := h
  exact ⟨es, clock, (hb.block b hl).trans hh, hr⟩
theorem under_met : Tryd.prog.underlying 98 = some (.map 29 102) := Tryd.underlying98
theorem zero_unit (w : World) : (zeroValue 102).run Tryd.prog w = .ok (.agg #[]) w := by kernel_rfl
theorem key_u32 {n : Nat} (h : n < 4294967296) : keyOf Tryd.prog 29 (.int .u32 (n : Int)) = some (u32L n) := Go.Maps.keyOf_int_mk Tryd.underlying29 (u32L_wf h)
def callsTop (t l : List (ByteArray × Nat)) : Int := if l = [] then 73 else callsE t [] l
set_option maxRecDepth 100000 in
set_option maxHeartbeats 4000000 in
theorem p_callsFault (t l : List (ByteArray × Nat)) (wd : Int) (A Ac : Option Addr) (cap capc : Nat) (W : World) (hT : TabL W t A) (hw : TabW t) (hc : CallsL W l Ac) :
    Calls Tryd.prog 19 #[sysV wd A t.length cap, .slice Ac l.length capc] W fun e w' => e = .returned (.int .i64 (callsTop t l)) ∧ Below W.heap.size W w' := by
  by_cases h0 : l = []
  · subst h0
    have HB := Lib.hid (lbox W (sysO wd A t.length cap))
    clear hT hc
    show Calls Tryd.prog 19 #[sysV wd A t.length cap, .slice Ac 0 capc] W fun e w' => e = .returned (.int .i64 73) ∧ Below W.heap.size W w'
    go_enter Tryd.func19, Tryd.ntmps19
    go_wp2
    go_ret
    exact ⟨rfl, HB.out⟩
  have hpos : 0 < l.length := List.length_pos_iff.2 h0
  have hmm := @run_makeMap Tryd.prog
  have HT := Lib.hid hT
  have HC := Lib.hid hc
  have HTW := Lib.hid hw
  have HB := Lib.hid (show Below W.heap.size W ((W.alloc (sysO wd A t.length cap)).alloc (.map #[] 0)) ∧ ((W.alloc (sysO wd A t.length cap)).alloc (.map #[] 0)).heap[W.heap.size]? = some (sysO wd A t.length cap) ∧ MetMap ((W.alloc (sysO wd A t.length cap)).alloc (.map #[] 0)) (W.heap.size + 1) 0 [] from
    ⟨below_of _ _ _ (lbox W _), kept_alloc (World.alloc_heap_new W _) _, by
      have := World.ownsMap_made (W.alloc (sysO wd A t.length cap)) Tryd.prog 29 (unitElem (H := Unit))
      unfold MetMap; rw [show metD [] = DataW.map [] from rfl]; simpa using this⟩)
  have HN := Lib.hid (fun c V hV => p_numberOf t wd A cap c V hV)
  have hlen : l.length ≤ maxLen := hc.1
  unfold maxLen at hlen
  obtain ⟨g, hg⟩ : ∃ g, g = callsE t [] l := ⟨_, rfl⟩
  have hgt : callsTop t l = g := by rw [hg, callsTop, if_neg h0]
  rw [hgt]
  have HG : Hid (g = callsE t [] (l.drop 0)) := Lib.hid hg
  obtain ⟨ln, hln⟩ : ∃ ln, ln = l.length := ⟨_, rfl⟩
  rw [← hln] at hlen hpos ⊢
  have HLN := Lib.hid hln
  obtain ⟨tn, htn⟩ : ∃ tn, tn = t.length := ⟨_, rfl⟩
  rw [← htn] at HB HN ⊢
  have q0 : ((ln : Int) == 0) = false := beq_false_of_ne (by omega)
  clear hg hgt hln htn hT hc hw h0
  go_enter Tryd.func19, Tryd.ntmps19
  go_wp2
  go_loopw [18] (fun v wr => ∃ (k : Nat) (met : List Nat), k ≤ ln ∧ v = .int .i64 (k : Int) ∧ (met.length = k ∧ met.Nodup ∧ (∀ x ∈ met, x < 4294967296) ∧ g = callsE t met (l.drop k)) ∧ Below W.heap.size W wr ∧ wr.heap[W.heap.size]? = some (sysO wd A tn cap) ∧ MetMap wr (W.heap.size + 1) k met) (fun v _ => ln - (intOf v).toNat)
  case atStart => exact ⟨0, [], Nat.zero_le _, rfl, ⟨rfl, List.nodup_nil, fun x hx => absurd hx (by simp), HG.out⟩, HB.out.1, HB.out.2.1, HB.out.2.2⟩
  case round =>
    obtain ⟨k, met, hk, rfl, hmet, hbw, hbx, hmm1⟩ := hrel
    clear HB HG
    by_cases hlt : k < ln
    · have hlt' : (k : Int) < (ln : Int) := by omega
      have hw : IntKind.i64.wrap ((k : Int) + 1) = ((k + 1 : Nat) : Int) := by rw [IntWalk.i64_in _ (by omega)]; omega
      have hkl : k < l.length := by have := HLN.out; omega
      have hkm : k < maxLen := by
        have := nodup_len 4294967296 met hmet.2.1 hmet.2.2.1
        rw [hmet.1] at this
        unfold maxLen; omega
      obtain ⟨hm1, hm2, hm3, hgk⟩ := hmet
      rw [calls_at t met l k hkl] at hgk
      obtain ⟨tb, o, rfl, htl, c0, c1⟩ := calls_cells (B := 0) HC.out hbw k hkl
      generalize l.getD k (⟨#[]⟩, 0) = c at c0 c1 hgk
      have hsz : W.heap.size < wr.heap.size := (Array.getElem?_eq_some_iff.1 hbx).1
      have x0 : ∀ o, (wr.alloc o).cell? ⟨W.heap.size, 0, none⟩ = some (.int .u32 wd) := fun o => cell6 (kept_alloc hbx o) 0 rfl
      have x1 : ∀ o, (wr.alloc o).cell? ⟨W.heap.size, 1, none⟩ = some (.slice A tn cap) := fun o => cell6 (kept_alloc hbx o) 1 rfl
      have HW := Lib.hid (And.intro (below_of W wr (callO7 c) hbw) (And.intro (kept_alloc hbx (callO7 c)) (HT.out.below (below_of W wr (callO7 c) hbw))))
      have hnr := HN.out c (wr.alloc (callO7 c)) HW.out.2.2
      have HK : Hid (∀ w2, Below (wr.alloc (callO7 c)).heap.size (wr.alloc (callO7 c)) w2 → Below W.heap.size W w2 ∧ w2.heap[W.heap.size]? = some (sysO wd A tn cap) ∧ MetMap w2 (W.heap.size + 1) k met) := Lib.hid (fun w2 hb2 => ⟨HW.out.1.trans (hb2.mono HW.out.1.size), (hb2.block _ (Array.getElem?_eq_some_iff.1 HW.out.2.1).1).trans HW.out.2.1, (show MetMap (wr.alloc (callO7 c)) (W.heap.size + 1) k met from World.ownsMap.alloc hmm1 _).up hb2⟩)
      clear hbw hbx
      cases hq : nrF t c with
      | none =>
        rw [hq] at hnr hgk
        have HGK : Hid (g = 73) := Lib.hid hgk
        have HNR : Hid (Calls Tryd.prog 34 #[sysV wd A tn cap, callV c] (wr.alloc (callO7 c)) fun e w2 => (∃ m : Nat, e = .returned (.tuple #[.int .u32 (m : Int), .bool false])) ∧ Below W.heap.size W w2) := Lib.hid (hnr.mono fun e w2 ⟨m, b, he, hb, hb2⟩ => ⟨⟨m, by rw [he, show b = false from hb]⟩, (HK.out w2 hb2).1⟩)
        clear hgk hnr hq HK hm1 hm2 hm3 hmm1
        go_wp2_with (go_at_call 34; (with_reducible refine HNR.out.mono ?_); rintro e w2 ⟨⟨m, rfl⟩, hb2⟩; have HB2 := Lib.hid hb2; clear hb2)
        go_ret
        exact ⟨by rw [HGK.out]; rfl, HB2.out⟩
      | some m =>
        rw [hq] at hnr hgk
        have hm32 : m < 4294967296 := nr_w HTW.out hq
        have hkey := key_u32 hm32
        have hhas := has_met met m
        have HNR : Hid (Calls Tryd.prog 34 #[sysV wd A tn cap, callV c] (wr.alloc (callO7 c)) fun e w2 => e = .returned (.tuple #[.int .u32 (m : Int), .bool true]) ∧ Below W.heap.size W w2 ∧ w2.heap[W.heap.size]? = some (sysO wd A tn cap) ∧ MetMap w2 (W.heap.size + 1) k met) := Lib.hid (hnr.mono fun e w2 ⟨m', b, he, hb, hb2⟩ => ⟨by rw [he, hb.1, hb.2], HK.out w2 hb2⟩)
        by_cases hmn : m ∈ met
        · have HGK : Hid (g = 74) := Lib.hid (by simpa [hmn] using hgk)
          rw [decide_eq_true hmn] at hhas
          clear hgk hnr hq HK hmn hm1 hm2 hm3 hmm1
          go_wp2_with (first
            | (go_at_call 34; (with_reducible refine HNR.out.mono ?_); rintro e w2 ⟨rfl, hb2⟩; have HB2 := Lib.hid hb2; clear hb2)
            | (at_lookup; refine wpList_lookup_own_unit _ rfl _ _ 98 rfl 29 102 (Go.Maps.int_keyed Tryd.underlying29) under_met (zero_unit _) (W.heap.size + 1) k _ rfl HB2.out.2.2 _ _ rfl hkey ?_; rw [hhas]))
          go_ret
          exact ⟨by rw [HGK.out]; rfl, below_of _ _ _ HB2.out.1⟩
        · have HGK : Hid (g = callsE t (met ++ [m]) (l.drop (k + 1)) ∧ (met ++ [m]).length = k + 1 ∧ (met ++ [m]).Nodup ∧ ∀ x ∈ met ++ [m], x < 4294967296) := Lib.hid ⟨by simpa [hmn] using hgk, by simp [hm1], snoc_nodup hm2 hmn, snoc_below hm3 hm32⟩
          rw [decide_eq_false hmn] at hhas
          clear hgk hnr hq HK hmn hm1 hm2 hm3 hmm1
          go_wp2_with (first
            | (go_at_call 34; (with_reducible refine HNR.out.mono ?_); rintro e w2 ⟨rfl, hb2⟩; have HB2 := Lib.hid hb2; clear hb2)
            | (at_lookup; refine wpList_lookup_own_unit _ rfl _ _ 98 rfl 29 102 (Go.Maps.int_keyed Tryd.underlying29) under_met (zero_unit _) (W.heap.size + 1) k _ rfl HB2.out.2.2 _ _ rfl hkey ?_; rw [hhas])
            | (at_mapUpdate; refine wpList_mapUpdate_own _ rfl _ _ _ 98 rfl 29 102 (Go.Maps.int_keyed Tryd.underlying29) under_met (unitElem (H := Unit)) (W.heap.size + 1) k _ rfl (HB2.out.2.2.alloc _) hkm _ _ _ rfl rfl hkey _ [] unitElem_mk ?_; intro w3 hown1 hgrow1; have HB3 := Lib.hid (And.intro hown1 hgrow1); clear hown1 hgrow1))
          exact ⟨⟨k + 1, met ++ [m], by omega, by go_num, ⟨HGK.out.2.1, HGK.out.2.2.1, HGK.out.2.2.2, HGK.out.1⟩, below_grown (below_of _ _ _ HB2.out.1) HB3.out.2 (by omega) (Nat.le_refl _), (HB3.out.2.block _ (by have := (Array.getElem?_eq_some_iff.1 HB2.out.2.1).1; simp; omega) (fun e => by injection e with e; omega)).trans (kept_alloc HB2.out.2.1 _), (by have := HB3.out.1; rw [met_put] at this; exact this)⟩, by simp [intOf]; omega⟩
    · have hlt' : ¬ (k : Int) < (ln : Int) := by omega
      obtain ⟨hm1, hm2, hm3, hgk⟩ := hmet
      rw [calls_end t met l k (by have := HLN.out; omega)] at hgk
      have HGK := Lib.hid hgk
      have HBW := Lib.hid hbw
      clear hgk hbw hbx hm1 hm2 hm3 hmm1
      go_wp2
      go_ret
      exact ⟨by rw [HGK.out]; rfl, HBW.out⟩
end Go.Proofs.YtgeapkjegemkeaaDoor
