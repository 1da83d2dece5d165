/-
  The program's read of a policy, and Parse: contracts. Conditions: those that each names.
-/
import Derived.Test.YtmmfbeebjehkgaaPPolPolicy
namespace Go.Proofs.Ytmmfbeebjehkgaa
open Go Go.RowKit
set_option linter.unusedSimpArgs false
set_option linter.unusedVariables false

theorem rules_set6 {w W : World} {lo : Nat} {l : List Ru} {Rv : Value} (h : RulesP lo l Rv W) (hlo : w.heap.size < lo) (a b c d e f : Value) :
    RulesP w.heap.size l Rv ((((((W.setCell ⟨w.heap.size, 0, none⟩ a).setCell ⟨w.heap.size, 1, none⟩ b).setCell ⟨w.heap.size, 2, none⟩ c).setCell ⟨w.heap.size, 3, none⟩ d).setCell ⟨w.heap.size, 4, none⟩ e).setCell ⟨w.heap.size, 5, none⟩ f) := by
  refine rules_keep h (by simp [World.setCell]) (by omega) (fun k hk _ => ?_)
  exact (Below.heap_setCell _ ⟨w.heap.size, 5, none⟩ f k (show k ≠ w.heap.size by omega)).trans ((Below.heap_setCell _ ⟨w.heap.size, 4, none⟩ e k (show k ≠ w.heap.size by omega)).trans ((Below.heap_setCell _ ⟨w.heap.size, 3, none⟩ d k (show k ≠ w.heap.size by omega)).trans ((Below.heap_setCell _ ⟨w.heap.size, 2, none⟩ c k (show k ≠ w.heap.size by omega)).trans ((Below.heap_setCell _ ⟨w.heap.size, 1, none⟩ b k (show k ≠ w.heap.size by omega)).trans (Below.heap_setCell _ ⟨w.heap.size, 0, none⟩ a k (show k ≠ w.heap.size by omega))))))
set_option maxRecDepth 100000 in
theorem caught_idleP (p q : Addr) (w : World) :
    CallsD Try.prog 27 #[.pointer (some p), .pointer (some q)] .returning w fun e u' w' => e = .returned (.tuple #[]) ∧ u' = .returning ∧ w' = w := by
  have hnil : ∀ w : World, (binOp BinOp.eql 20 .nilIface .nilIface).run Try.prog w = .ok (.bool true) w := fun _ => by kernel_rfl
  refine callsD_of_wpS Try.func27 rfl fun c₀ cs hu => ?_
  change Code.wpS _ _ _ { tmps := #[.pointer (some p), .pointer (some q), undef, undef, undef, undef, undef, undef, undef, undef, undef, undef, undef, undef, undef], defers := [] } _ _
  apply wpS_seq
  apply wpS_region
  simp [wpOpsS, go_sem, recoverD, hu, Try.ntmps27, Exit.thenS]
  refine wpS_of_wp ?_
  go_wp2
  cases c₀
  simp_all [bodyPostS, results, Try.results27]
set_option maxRecDepth 100000 in
theorem caught_refusalP (p q : Nat) (er : Int) (at_ : Nat) (w : World) (v0 v1 : Value) (hp : w.cell? ⟨p, 0, none⟩ = some v0) (hq : w.cell? ⟨q, 0, none⟩ = some v1) (zp : w.frozen? ⟨p, 0, none⟩ = false) (zq : w.frozen? ⟨q, 0, none⟩ = false) (hpq : p ≠ q) :
    CallsD Try.prog 27 #[.pointer (some ⟨p, 0, none⟩), .pointer (some ⟨q, 0, none⟩)] (.panicking [{ v := .iface 75 (.agg #[.int .i64 er, .int .i64 (at_ : Int)]), recovered := false }]) w fun e u' w' =>
      e = .returned (.tuple #[]) ∧ u' = .panicking [{ v := .iface 75 (.agg #[.int .i64 er, .int .i64 (at_ : Int)]), recovered := true }] ∧ ∃ o n, w' = (((w.alloc o).drewN n).setCell ⟨p, 0, none⟩ (.int .i64 er)).setCell ⟨q, 0, none⟩ (.int .i64 (at_ : Int)) := by
  have hnil : ∀ w : World, (binOp BinOp.eql 20 (.iface 75 (.agg #[.int .i64 er, .int .i64 (at_ : Int)])) .nilIface).run Try.prog w = .ok (.bool false) w := fun _ => by kernel_rfl
  have hta : ∀ w : World, (Instr.typeAssert (.iface 75 (.agg #[.int .i64 er, .int .i64 (at_ : Int)])) 20 75 true).run Try.prog w = .ok (.tuple #[.agg #[.int .i64 er, .int .i64 (at_ : Int)], .bool true]) w := fun _ => by kernel_rfl
  refine callsD_of_wpS Try.func27 rfl fun c₀ cs hu => ?_
  change Code.wpS _ _ _ { tmps := #[.pointer (some ⟨p, 0, none⟩), .pointer (some ⟨q, 0, none⟩), undef, undef, undef, undef, undef, undef, undef, undef, undef, undef, undef, undef, undef], defers := [] } _ _
  apply wpS_seq
  apply wpS_region
  simp [wpOpsS, go_sem, recoverD, hu, Try.ntmps27, Exit.thenS]
  refine wpS_of_wp ?_
  have hlp := cell_lt hp
  have hlq := cell_lt hq
  go_wp2
  have HX := Lib.hid (World.alloc_heap_new w (.cells #[.int .i64 er, .int .i64 (at_ : Int)] 75))
  refine wp_region_held_drew (S := fun W' => W'.heap[w.heap.size]? = some (.cells #[.int .i64 er, .int .i64 (at_ : Int)] 75 (0, 0))) (by kernel_rfl) HX.out (fun hHeld => ?_)
  have cp : ((w.alloc (.cells #[.int .i64 er, .int .i64 (at_ : Int)] 75)).drew).cell? ⟨p, 0, none⟩ = some v0 := ((lbox w _).cell (p := ⟨p, 0, none⟩) hlp).trans hp
  have cq : ((w.alloc (.cells #[.int .i64 er, .int .i64 (at_ : Int)] 75)).drew).cell? ⟨q, 0, none⟩ = some v1 := ((lbox w _).cell (p := ⟨q, 0, none⟩) hlq).trans hq
  have yp : ((w.alloc (.cells #[.int .i64 er, .int .i64 (at_ : Int)] 75)).drew).frozen? ⟨p, 0, none⟩ = false := ((lbox w _).frozen (p := ⟨p, 0, none⟩) hlp).trans zp
  have yq : ((w.alloc (.cells #[.int .i64 er, .int .i64 (at_ : Int)] 75)).drew).frozen? ⟨q, 0, none⟩ = false := ((lbox w _).frozen (p := ⟨q, 0, none⟩) hlq).trans zq
  have HY : Hid (((w.alloc (.cells #[.int .i64 er, .int .i64 (at_ : Int)] 75)).drew).heap[w.heap.size]? = some (.cells #[.int .i64 er, .int .i64 (at_ : Int)] 75 (0, 0))) := Lib.hid HX.out
  have HYY : Hid (∃ o n, (w.alloc (.cells #[.int .i64 er, .int .i64 (at_ : Int)] 75)).drew = (w.alloc o).drewN n) := Lib.hid ⟨_, 1, rfl⟩
  have hpw : p ≠ w.heap.size := by omega
  have hqw : q ≠ w.heap.size := by omega
  clear hp hq zp zq HX hnil hta hlp hlq
  generalize (w.alloc (.cells #[.int .i64 er, .int .i64 (at_ : Int)] 75)).drew = Y at cp cq yp yq HY HYY ⊢
  refine wpAnyH_take (i := 0) (v := ?_) rfl (by kernel_rfl) (by kernel_rfl) (by kernel_rfl) (fun _ _ _ h => h) (Or.inl ⟨by rfl, ?_⟩) (by assumption) ?_
  rotate_left
  · intro wS hSw
    (have i0 := cell6 hSw 0 rfl; have i1 := cell6 hSw 1 rfl)
    go_simp
    all_goals with_reducible rfl
  (try simp only [List.getElem_toArray, List.getElem_cons_zero, List.getElem_cons_succ, Act.put, List.setIfInBounds_toArray, List.set_cons_zero, List.set_cons_succ])
  refine wpAnyH_take (i := 1) (v := ?_) rfl (by kernel_rfl) (by kernel_rfl) (by kernel_rfl) (fun _ _ _ h => h) (Or.inl ⟨by rfl, ?_⟩) (by assumption) ?_
  rotate_left
  · intro wS hSw
    (have i0 := cell6 hSw 0 rfl; have i1 := cell6 hSw 1 rfl)
    go_simp
    all_goals with_reducible rfl
  (try simp only [List.getElem_toArray, List.getElem_cons_zero, List.getElem_cons_succ, Act.put, List.setIfInBounds_toArray, List.set_cons_zero, List.set_cons_succ])
  refine wpAnyH_take (i := 2) (v := ?_) rfl (by kernel_rfl) (by kernel_rfl) (by kernel_rfl) (fun _ _ _ h => h) (Or.inl ⟨by rfl, ?_⟩) (by assumption) ?_
  rotate_left
  · intro wS hSw
    (have i0 := cell6 hSw 0 rfl; have i1 := cell6 hSw 1 rfl)
    go_simp
    all_goals with_reducible rfl
  (try simp only [List.getElem_toArray, List.getElem_cons_zero, List.getElem_cons_succ, Act.put, List.setIfInBounds_toArray, List.set_cons_zero, List.set_cons_succ])
  refine wpAnyH_take (i := 3) (v := ?_) rfl (by kernel_rfl) (by kernel_rfl) (by kernel_rfl) (fun _ _ _ h => h) (Or.inl ⟨by rfl, ?_⟩) (by assumption) ?_
  rotate_left
  · intro wS hSw
    (have i0 := cell6 hSw 0 rfl; have i1 := cell6 hSw 1 rfl)
    go_simp
    all_goals with_reducible rfl
  (try simp only [List.getElem_toArray, List.getElem_cons_zero, List.getElem_cons_succ, Act.put, List.setIfInBounds_toArray, List.set_cons_zero, List.set_cons_succ])
  refine held_one (i := 4) (by kernel_rfl) rfl (fun K hK => ?_)
  go_simp
  refine hK.out _ _ (kept_set HY.out (Ne.symm hpw) 0 _) (fun hH2 => ?_)
  clear hK K hHeld
  refine held_one (i := 5) (by kernel_rfl) rfl (fun K hK => ?_)
  go_simp
  refine hK.out _ _ (kept_set (kept_set HY.out (Ne.symm hpw) 0 _) (Ne.symm hqw) 0 _) (fun hH3 => ?_)
  clear hK K hH2
  refine wpAnyH_done (by kernel_rfl) ?_ _
  obtain ⟨o, n, rfl⟩ := HYY.out
  simp only [Exit.inBlock]
  exact ⟨rfl, _, rfl, .tuple #[], results_none rfl _ _ _, rfl, rfl, o, n, rfl⟩
theorem refused_endP (w : World) (s : ByteArray) (w2 : World) (er : Int) (p : Nat) (HB : (read4 w (poO ⟨#[]⟩ 0 0 0 0 (.slice none 0 0)) s).heap[w.heap.size]? = some (poO ⟨#[]⟩ 0 0 0 0 (.slice none 0 0)) ∧ (read4 w (poO ⟨#[]⟩ 0 0 0 0 (.slice none 0 0)) s).heap[w.heap.size + 1]? = some (errO 0) ∧ (read4 w (poO ⟨#[]⟩ 0 0 0 0 (.slice none 0 0)) s).heap[w.heap.size + 2]? = some (intO 0) ∧ Below w.heap.size w (read4 w (poO ⟨#[]⟩ 0 0 0 0 (.slice none 0 0)) s))
    (hg : (read4 w (poO ⟨#[]⟩ 0 0 0 0 (.slice none 0 0)) s).grownBy w2 (some (w.heap.size + 3))) (tm : Array Value) (h4 : tm[4]? = some (.pointer (some ⟨w.heap.size, 0, none⟩))) (h5 : tm[5]? = some (.pointer (some ⟨w.heap.size + 1, 0, none⟩))) (h6 : tm[6]? = some (.pointer (some ⟨w.heap.size + 1 + 1, 0, none⟩))) :
    Leaves Try.prog Try.f13 tm (ParseP (PoP w.heap.size) (poV ⟨#[]⟩ 0 0 0 0 (.slice none 0 0)) w (.bad er p)) [{ target := .fn (.func 27) #[.pointer (some ⟨w.heap.size + 1, 0, none⟩), .pointer (some ⟨w.heap.size + 1 + 1, 0, none⟩)], args := #[] }] (.panicking [{ v := .iface 75 (.agg #[.int .i64 er, .int .i64 (p : Int)]), recovered := false }]) w2 := by
  have k0 := kept_box HB.1 hg (by omega)
  have k1 : w2.heap[w.heap.size + 1]? = some (errO 0) := kept_box HB.2.1 hg (by omega)
  have k2 : w2.heap[w.heap.size + 1 + 1]? = some (intO 0) := kept_box HB.2.2.1 hg (by omega)
  have hb := below_grow HB.2.2.2 hg (by omega) (Nat.le_refl _)
  refine leaves_cons (f := 27) (args := #[.pointer (some ⟨w.heap.size + 1, 0, none⟩), .pointer (some ⟨w.heap.size + 1 + 1, 0, none⟩)]) (by simp) (by simp [go_sem]) ?_
  refine (caught_refusalP (w.heap.size + 1) (w.heap.size + 1 + 1) er p w2 _ _ (cell6 k1 0 rfl) (cell6 k2 0 rfl) (frozen6 k1 0) (frozen6 k2 0) (by omega)).mono ?_
  rintro e u' w'' ⟨rfl, rfl, o, n, rfl⟩
  have d0 : ((w2.alloc o).drewN n).heap[w.heap.size]? = some (poO ⟨#[]⟩ 0 0 0 0 (.slice none 0 0)) := kept_alloc k0 o
  have d1 : ((w2.alloc o).drewN n).heap[w.heap.size + 1]? = some (errO 0) := kept_alloc k1 o
  have d2 : ((w2.alloc o).drewN n).heap[w.heap.size + 1 + 1]? = some (intO 0) := kept_alloc k2 o
  have hbd : Below w.heap.size w ((w2.alloc o).drewN n) := below_drawn (hb.trans ((lbox w2 o).mono hb.size)) n
  generalize (w2.alloc o).drewN n = V at d0 d1 d2 hbd ⊢
  have g0 := kept_set (kept_set d0 (C := w.heap.size + 1) (by omega) 0 (.int .i64 er)) (C := w.heap.size + 1 + 1) (by omega) 0 (.int .i64 (p : Int))
  have g1 := kept_set (heap_set1 d1 0 (.int .i64 er)) (C := w.heap.size + 1 + 1) (by omega) 0 (.int .i64 (p : Int))
  have g2 := heap_set1 (kept_set d2 (C := w.heap.size + 1) (by omega) 0 (.int .i64 er)) 0 (.int .i64 (p : Int))
  have hbb := (hbd.setCell (p := ⟨w.heap.size + 1, 0, none⟩) (show w.heap.size ≤ w.heap.size + 1 by omega) (.int .i64 er)).setCell (p := ⟨w.heap.size + 1 + 1, 0, none⟩) (show w.heap.size ≤ w.heap.size + 1 + 1 by omega) (.int .i64 (p : Int))
  have v0 := cell6 g0 0 rfl
  have v1 := cell6 g0 1 rfl
  have v2 := cell6 g0 2 rfl
  have v3 := cell6 g0 3 rfl
  have v4 := cell6 g0 4 rfl
  have v5 := cell6 g0 5 rfl
  have ve := cell6 g1 0 rfl
  have va := cell6 g2 0 rfl
  refine ⟨.tuple #[poV ⟨#[]⟩ 0 0 0 0 (.slice none 0 0), .int .i64 er, .int .i64 (p : Int)], by simp [results, Try.results13, go_sem, h4, h5, h6, v0, v1, v2, v3, v4, v5, ve, va], rfl, hbb⟩
set_option maxHeartbeats 2000000 in
set_option maxRecDepth 100000 in
theorem pp_readPolicy (w : World) (s : ByteArray) (n : Nat) (hsm : (srcF s).toks.length ≤ 65537) (hn : (srcF s).toks.length < n) :
    Calls Try.prog 13 #[.string s, .func (.func 14) #[] #[]] w (ParseP (PoP w.heap.size) (poV ⟨#[]⟩ 0 0 0 0 (.slice none 0 0)) w (readG (srcF s) (policyG (srcF s) n))) := by
  have hmf : ∀ (fn : Fn) (first cap : Array Value) (w : World), (Instr.makeFunc fn first cap).run Try.prog w = .ok (.func fn first cap) w := fun _ _ _ _ => rfl
  have hP := read4_at w (poO ⟨#[]⟩ 0 0 0 0 (.slice none 0 0)) s
  have HB := Lib.hid (read4_boxes w (poO ⟨#[]⟩ 0 0 0 0 (.slice none 0 0)) s)
  unfold readG
  rcases nexts_first s with ⟨h1, h2, h3⟩ | ⟨h1, h2, h3, h4⟩
  · rw [if_pos h1]
    have hA : Calls Try.prog 28 #[.pointer (some ⟨w.heap.size + 3, 0, none⟩)] (read4 w (poO ⟨#[]⟩ 0 0 0 0 (.slice none 0 0)) s) (OkP (read4 w (poO ⟨#[]⟩ 0 0 0 0 (.slice none 0 0)) s) (w.heap.size + 3) s (.tuple #[]) (tk (srcF s) 0) 0) := by
      generalize tk (srcF s) 0 = y at h2 h3
      obtain ⟨kind, text, num, pos, next, err⟩ := y
      obtain rfl : err = 0 := h3
      exact pp_advance_ok _ _ s noT 0 hP h2
    have hW := fun (W : World) hp => pp_policy W (w.heap.size + 3) s n 0 hsm hn h1 hp
    have HA := Lib.hid hA
    clear hA hP h1 h2 h3 hsm hn
    generalize policyG (srcF s) n 0 = g at hW ⊢
    rcases g with ⟨x, j⟩ | ⟨er, p⟩ | _
    · have HW := Lib.hid hW
      clear hW
      go_enter_defers Try.func13, Try.ntmps13
      go_wp2_with (first | (go_at_call 28; (with_reducible refine HA.out.mono ?_); rintro e w1 ⟨rfl, hp, hg⟩; have H1 := Lib.hid (And.intro hp hg); clear hp hg))
      refine (HW.out _ H1.out.1).mono ?_
      rintro e w2 ⟨v, rfl, ⟨Rv, rfl, hx⟩, hp2, hg2⟩
      obtain ⟨RA, rn, rc, rfl⟩ := rules_form hx
      have hg := grown_trans H1.out.2 hg2
      have k0 := kept_box HB.out.1 hg (by omega)
      have k1 : w2.heap[w.heap.size + 1]? = some (errO 0) := kept_box HB.out.2.1 hg (by omega)
      have k2 : w2.heap[w.heap.size + 1 + 1]? = some (intO 0) := kept_box HB.out.2.2.1 hg (by omega)
      have HX := Lib.hid (And.intro hx (And.intro (below_grow HB.out.2.2.2 hg (by omega) (Nat.le_refl _)) (And.intro k0 (And.intro k1 (And.intro k2 H1.out.2.size)))))
      have u0 := cell6 k0 0 rfl
      have u1 := cell6 k0 1 rfl
      have u2 := cell6 k0 2 rfl
      have u3 := cell6 k0 3 rfl
      have u4 := cell6 k0 4 rfl
      have u5 := cell6 k0 5 rfl
      have y0 := frozen6 k0 0
      have y1 := frozen6 k0 1
      have y2 := frozen6 k0 2
      have y3 := frozen6 k0 3
      have y4 := frozen6 k0 4
      have y5 := frozen6 k0 5
      have c1 := cell6 k1 0 rfl
      have z1 := frozen6 k1 0
      have c2 := cell6 k2 0 rfl
      have z2 := frozen6 k2 0
      clear hx hp2 hg2 hg k0 k1 k2
      go_wp2
      refine leaves_cons (f := 27) (args := #[.pointer (some ⟨w.heap.size + 1, 0, none⟩), .pointer (some ⟨w.heap.size + 1 + 1, 0, none⟩)]) (by simp) (by simp [go_sem]) ?_
      refine (caught_idleP ⟨w.heap.size + 1, 0, none⟩ ⟨w.heap.size + 1 + 1, 0, none⟩ _).mono ?_
      rintro e u' w'' ⟨rfl, rfl, rfl⟩
      obtain ⟨hx, hb, k0, k1, k2, hsz⟩ := HX.out
      have s4 : (read4 w (poO ⟨#[]⟩ 0 0 0 0 (.slice none 0 0)) s).heap.size = w.heap.size + 4 := by simp
      have g0 := kept_set (kept_set (heap_set1 (heap_set1 (heap_set1 (heap_set1 (heap_set1 (heap_set1 k0 0 (.string x.arch)) 1 (.int .i64 x.foreign_.1)) 2 (.int .u64 (x.foreign_.2 : Int))) 3 (.int .i64 x.default_.1)) 4 (.int .u64 (x.default_.2 : Int))) 5 (.slice RA rn rc)) (C := w.heap.size + 1) (by omega) 0 (.int .i64 0)) (C := w.heap.size + 1 + 1) (by omega) 0 (.int .i64 0)
      have g1 := kept_set (heap_set1 (kept_set (kept_set (kept_set (kept_set (kept_set (kept_set k1 (C := w.heap.size) (by omega) 0 (.string x.arch)) (C := w.heap.size) (by omega) 1 (.int .i64 x.foreign_.1)) (C := w.heap.size) (by omega) 2 (.int .u64 (x.foreign_.2 : Int))) (C := w.heap.size) (by omega) 3 (.int .i64 x.default_.1)) (C := w.heap.size) (by omega) 4 (.int .u64 (x.default_.2 : Int))) (C := w.heap.size) (by omega) 5 (.slice RA rn rc)) 0 (.int .i64 0)) (C := w.heap.size + 1 + 1) (by omega) 0 (.int .i64 0)
      have g2 := heap_set1 (kept_set (kept_set (kept_set (kept_set (kept_set (kept_set (kept_set k2 (C := w.heap.size) (by omega) 0 (.string x.arch)) (C := w.heap.size) (by omega) 1 (.int .i64 x.foreign_.1)) (C := w.heap.size) (by omega) 2 (.int .u64 (x.foreign_.2 : Int))) (C := w.heap.size) (by omega) 3 (.int .i64 x.default_.1)) (C := w.heap.size) (by omega) 4 (.int .u64 (x.default_.2 : Int))) (C := w.heap.size) (by omega) 5 (.slice RA rn rc)) (C := w.heap.size + 1) (by omega) 0 (.int .i64 0)) 0 (.int .i64 0)
      have hxx : RulesP w.heap.size x.rules (.slice RA rn rc) ((((((((w2.setCell ⟨w.heap.size, 0, none⟩ (.string x.arch)).setCell ⟨w.heap.size, 1, none⟩ (.int .i64 x.foreign_.1)).setCell ⟨w.heap.size, 2, none⟩ (.int .u64 (x.foreign_.2 : Int))).setCell ⟨w.heap.size, 3, none⟩ (.int .i64 x.default_.1)).setCell ⟨w.heap.size, 4, none⟩ (.int .u64 (x.default_.2 : Int))).setCell ⟨w.heap.size, 5, none⟩ (.slice RA rn rc)).setCell ⟨w.heap.size + 1, 0, none⟩ (.int .i64 0)).setCell ⟨w.heap.size + 1 + 1, 0, none⟩ (.int .i64 0)) := by
        refine rules_keep hx (by simp [World.setCell]) (by omega) (fun k hk _ => ?_)
        exact (Below.heap_setCell _ ⟨w.heap.size + 1 + 1, 0, none⟩ _ k (show k ≠ w.heap.size + 1 + 1 by omega)).trans ((Below.heap_setCell _ ⟨w.heap.size + 1, 0, none⟩ _ k (show k ≠ w.heap.size + 1 by omega)).trans ((Below.heap_setCell _ ⟨w.heap.size, 5, none⟩ _ k (show k ≠ w.heap.size by omega)).trans ((Below.heap_setCell _ ⟨w.heap.size, 4, none⟩ _ k (show k ≠ w.heap.size by omega)).trans ((Below.heap_setCell _ ⟨w.heap.size, 3, none⟩ _ k (show k ≠ w.heap.size by omega)).trans ((Below.heap_setCell _ ⟨w.heap.size, 2, none⟩ _ k (show k ≠ w.heap.size by omega)).trans ((Below.heap_setCell _ ⟨w.heap.size, 1, none⟩ _ k (show k ≠ w.heap.size by omega)).trans (Below.heap_setCell _ ⟨w.heap.size, 0, none⟩ _ k (show k ≠ w.heap.size by omega))))))))
      have hbb := (((((((hb.setCell (p := ⟨w.heap.size, 0, none⟩) (Nat.le_refl _) (.string x.arch)).setCell (p := ⟨w.heap.size, 1, none⟩) (Nat.le_refl _) (.int .i64 x.foreign_.1)).setCell (p := ⟨w.heap.size, 2, none⟩) (Nat.le_refl _) (.int .u64 (x.foreign_.2 : Int))).setCell (p := ⟨w.heap.size, 3, none⟩) (Nat.le_refl _) (.int .i64 x.default_.1)).setCell (p := ⟨w.heap.size, 4, none⟩) (Nat.le_refl _) (.int .u64 (x.default_.2 : Int))).setCell (p := ⟨w.heap.size, 5, none⟩) (Nat.le_refl _) (.slice RA rn rc)).setCell (p := ⟨w.heap.size + 1, 0, none⟩) (show w.heap.size ≤ w.heap.size + 1 by omega) (.int .i64 0)).setCell (p := ⟨w.heap.size + 1 + 1, 0, none⟩) (show w.heap.size ≤ w.heap.size + 1 + 1 by omega) (.int .i64 0)
      have v0 := cell6 g0 0 rfl
      have v1 := cell6 g0 1 rfl
      have v2 := cell6 g0 2 rfl
      have v3 := cell6 g0 3 rfl
      have v4 := cell6 g0 4 rfl
      have v5 := cell6 g0 5 rfl
      have ve := cell6 g1 0 rfl
      have va := cell6 g2 0 rfl
      refine ⟨.tuple #[poV x.arch x.foreign_.1 (x.foreign_.2 : Int) x.default_.1 (x.default_.2 : Int) (.slice RA rn rc), .int .i64 0, .int .i64 0], by simp [results, Try.results13, go_sem, v0, v1, v2, v3, v4, v5, ve, va], _, rfl, ⟨(.slice RA rn rc), rfl, hxx⟩, hbb⟩
    · have HW := Lib.hid hW
      clear hW
      go_enter_defers Try.func13, Try.ntmps13
      go_wp2_with (first | (go_at_call 28; (with_reducible refine HA.out.mono ?_); rintro e w1 ⟨rfl, hp, hg⟩; have H1 := Lib.hid (And.intro hp hg); clear hp hg))
      refine (HW.out _ H1.out.1).mono ?_
      rintro e w2 ⟨rfl, hg2⟩
      have HX := Lib.hid (grown_trans H1.out.2 hg2)
      clear hg2
      go_wp2
      exact refused_endP w s w2 er p HB.out HX.out _ rfl rfl rfl
    · have HW := Lib.hid hW
      clear hW
      go_enter_defers Try.func13, Try.ntmps13
      go_wp2_with (first | (go_at_call 28; (with_reducible refine HA.out.mono ?_); rintro e w1 ⟨rfl, hp, hg⟩; have H1 := Lib.hid (And.intro hp hg); clear hp hg))
      refine (HW.out _ H1.out.1).mono ?_
      intro e w2 hF
      exact hF.elim
  · rw [if_neg h1]
    generalize hy : nextF s ((0 : Nat) : Int) = y at h2 h4
    obtain ⟨kind, text, num, pos, next, err⟩ := y
    obtain rfl : err = (srcF s).err := h2
    obtain rfl : next = (srcF s).place := h4
    have HA := Lib.hid (pp_advance_no _ _ s noT 0 hP h3 hy)
    generalize (srcF s).err = er at HA ⊢
    generalize (srcF s).place = p at HA ⊢
    show Calls _ _ _ _ (ParseP (PoP w.heap.size) (poV ⟨#[]⟩ 0 0 0 0 (.slice none 0 0)) w (.bad er p))
    clear hP h1 h3 hy hsm hn
    go_enter_defers Try.func13, Try.ntmps13
    go_wp2_with (first | (go_at_call 28; (with_reducible refine HA.out.mono ?_); rintro e w1 ⟨rfl, hg⟩; have HX := Lib.hid hg; clear hg))
    exact refused_endP w s w1 er p HB.out HX.out _ rfl rfl rfl
/-- A policy's text as it is read. -/
def policyF (s : ByteArray) : Got Po := readG (srcF s) (policyG (srcF s) ((srcF s).toks.length + 1))
set_option maxHeartbeats 1000000 in
set_option maxRecDepth 100000 in
theorem p_Parse (s : ByteArray) (w : World) : Calls Try.prog 6 #[.string s] w (ParseP (PoP w.heap.size) (poV ⟨#[]⟩ 0 0 0 0 (.slice none 0 0)) w (policyF s)) := by
  have hR := pp_readPolicy (w.alloc (poO ⟨#[]⟩ 0 0 0 0 (.slice none 0 0))) s ((srcF s).toks.length + 1) (src_small s) (Nat.lt_succ_self _)
  have HR0 := Lib.hid (World.alloc_heap_new w (poO ⟨#[]⟩ 0 0 0 0 (.slice none 0 0)))
  have s0 : (w.alloc (poO ⟨#[]⟩ 0 0 0 0 (.slice none 0 0))).heap.size = w.heap.size + 1 := by simp
  have hlw : w.heap.size < (w.alloc (poO ⟨#[]⟩ 0 0 0 0 (.slice none 0 0))).heap.size := by omega
  unfold policyF
  generalize readG (srcF s) (policyG (srcF s) ((srcF s).toks.length + 1)) = g at hR ⊢
  rcases g with ⟨x, j⟩ | ⟨er, p⟩ | _
  · have HR := Lib.hid hR
    clear hR
    go_enter Try.func6, Try.ntmps6
    go_wp2_with (go_at_call 13; (with_reducible refine HR.out.mono ?_); rintro e w1 ⟨v, rfl, ⟨Rv, rfl, hx⟩, hb⟩; obtain ⟨RA, rn, rc, rfl⟩ := rules_form hx; have hr := (hb.block w.heap.size hlw).trans HR0.out; have u0 := cell6 hr 0 rfl; have u1 := cell6 hr 1 rfl; have u2 := cell6 hr 2 rfl; have u3 := cell6 hr 3 rfl; have u4 := cell6 hr 4 rfl; have u5 := cell6 hr 5 rfl; have y0 := frozen6 hr 0; have y1 := frozen6 hr 1; have y2 := frozen6 hr 2; have y3 := frozen6 hr 3; have y4 := frozen6 hr 4; have y5 := frozen6 hr 5; have H1 := Lib.hid (And.intro hx ((lbox w (poO ⟨#[]⟩ 0 0 0 0 (.slice none 0 0))).trans (hb.mono (Nat.le_of_lt hlw)))); clear hx hb hr)
    exact bodyPost_ret (v := .tuple #[poV x.arch x.foreign_.1 (x.foreign_.2 : Int) x.default_.1 (x.default_.2 : Int) (.slice RA rn rc), .int .i64 0, .int .i64 0]) (by simp [results, Try.results6, go_sem, u0, u1, u2, u3, u4, u5, World.cell?_setCell_same']) rfl ⟨_, rfl, ⟨(.slice RA rn rc), rfl, rules_set6 H1.out.1 (by omega) _ _ _ _ _ _⟩, (((((H1.out.2.setCell (p := ⟨w.heap.size, 0, none⟩) (Nat.le_refl _) _).setCell (p := ⟨w.heap.size, 1, none⟩) (Nat.le_refl _) _).setCell (p := ⟨w.heap.size, 2, none⟩) (Nat.le_refl _) _).setCell (p := ⟨w.heap.size, 3, none⟩) (Nat.le_refl _) _).setCell (p := ⟨w.heap.size, 4, none⟩) (Nat.le_refl _) _).setCell (p := ⟨w.heap.size, 5, none⟩) (Nat.le_refl _) _⟩
  · have HR := Lib.hid hR
    clear hR
    go_enter Try.func6, Try.ntmps6
    go_wp2_with (go_at_call 13; (with_reducible refine HR.out.mono ?_); rintro e w1 ⟨rfl, hb⟩; have hr := (hb.block w.heap.size hlw).trans HR0.out; have u0 := cell6 hr 0 rfl; have u1 := cell6 hr 1 rfl; have u2 := cell6 hr 2 rfl; have u3 := cell6 hr 3 rfl; have u4 := cell6 hr 4 rfl; have u5 := cell6 hr 5 rfl; have y0 := frozen6 hr 0; have y1 := frozen6 hr 1; have y2 := frozen6 hr 2; have y3 := frozen6 hr 3; have y4 := frozen6 hr 4; have y5 := frozen6 hr 5; have H1 := Lib.hid ((lbox w (poO ⟨#[]⟩ 0 0 0 0 (.slice none 0 0))).trans (hb.mono (Nat.le_of_lt hlw))); clear hb hr)
    exact bodyPost_ret (v := .tuple #[poV ⟨#[]⟩ 0 0 0 0 (.slice none 0 0), .int .i64 er, .int .i64 (p : Int)]) (by simp [results, Try.results6, go_sem, u0, u1, u2, u3, u4, u5, World.cell?_setCell_same']) rfl ⟨rfl, (((((H1.out.setCell (p := ⟨w.heap.size, 0, none⟩) (Nat.le_refl _) _).setCell (p := ⟨w.heap.size, 1, none⟩) (Nat.le_refl _) _).setCell (p := ⟨w.heap.size, 2, none⟩) (Nat.le_refl _) _).setCell (p := ⟨w.heap.size, 3, none⟩) (Nat.le_refl _) _).setCell (p := ⟨w.heap.size, 4, none⟩) (Nat.le_refl _) _).setCell (p := ⟨w.heap.size, 5, none⟩) (Nat.le_refl _) _⟩
  · have HR := Lib.hid hR
    clear hR
    go_enter Try.func6, Try.ntmps6
    go_wp2_with (go_at_call 13; (with_reducible refine HR.out.mono ?_); intro e w1 hF; exact hF.elim)
end Go.Proofs.Ytmmfbeebjehkgaa
