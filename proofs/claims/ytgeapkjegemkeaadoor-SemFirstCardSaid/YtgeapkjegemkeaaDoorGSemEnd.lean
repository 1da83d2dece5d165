/-
  The policy that the laws read, arguments as plain trees, the table that a row lists. Conditions: those that each names.
-/
import Derived.Test.YtgeapkjegemkeaaDoorGSemJudge
import Derived.Test.YtgeapkjegemkeaaDoorPolDPolF
import Derived.Test.YtgeapkjegemkeaaDoorPolArg
import Derived.Test.YtgeapkjegemkeaaDoorSemLook
import Derived.Test.YtgeapkjegemkeaaDoorFrame
import Derived.LaidMore
import Derived.OpenShut
import Derived.Stop.Joined
import Derived.MakeChecks
import Derived.Test.YtgeapkjegemkeaaDoorSecCode
import Derived.Test.YtgeapkjegemkeaaDoorTie
namespace Go.Proofs.YtgeapkjegemkeaaDoor
open Go Go.RowKit
set_option linter.unusedSimpArgs false
set_option linter.unusedVariables false

def someT : ByteArray := ⟨#[97, 114, 99, 104, 32, 120, 56, 54, 95, 54, 52, 59, 102, 111, 114, 101, 105, 103, 110, 32, 107, 105, 108, 108, 95, 112, 114, 111, 99, 101, 115, 115, 59, 100, 101, 102, 97, 117, 108, 116, 32, 101, 114, 114, 110, 111, 32, 49, 59, 111, 110, 32, 114, 101, 97, 100, 44, 32, 119, 114, 105, 116, 101, 44, 32, 50, 51, 49, 32, 100, 111, 32, 97, 108, 108, 111, 119, 59, 111, 110, 32, 111, 112, 101, 110, 97, 116, 32, 119, 104, 101, 110, 32, 97, 114, 103, 50, 32, 38, 32, 48, 120, 51, 32, 61, 61, 32, 48, 32, 97, 110, 100, 32, 110, 111, 116, 32, 40, 97, 114, 103, 49, 32, 62, 32, 53, 32, 111, 114, 32, 105, 112, 32, 60, 32, 52, 48, 57, 54, 41, 32, 100, 111, 32, 108, 111, 103, 59]⟩
def someP : Po := (resPo (policyF someT)).1
def lives7D : Dat := ⟨231, 3221225534, 0, fun _ => 0⟩
theorem lives7_eval : evalF someP lives7D = 2147418112 := by kernel_rfl
theorem lives7_num : findF (sysF ⟨#[120, 56, 54, 95, 54, 52]⟩).2.1 ⟨#[111, 112, 101, 110, 97, 116]⟩ = (257, true) := by kernel_rfl
theorem sm_some : SmPo someP := sm_resPo someT
set_option maxRecDepth 100000 in
set_option maxHeartbeats 4000000 in
theorem some7 (w : World) : Calls Tryd.prog 9 #[] w fun e w' => ∃ A cap, e = .returned (poA someP A cap) ∧ RulesL w' someP.rules A ∧ Below w.heap.size w w' := by
  have h1 := u_po (rd6_Parse someT (w.alloc (poO ⟨#[]⟩ 0 0 0 0 (.slice none 0 0))) (by unfold maxLen; decide))
  change Calls Tryd.prog 16 #[.string someT] _ (fun e w' => ∃ R, e = .returned (.tuple #[poV someP.arch someP.foreign_.1 (someP.foreign_.2 : Int) someP.default_.1 (someP.default_.2 : Int) R, _, _]) ∧ RulesP _ someP.rules R w' ∧ Below _ _ w') at h1
  have hsm := sm_some
  generalize (resPo (policyF someT)).2.1 = er at h1
  generalize (resPo (policyF someT)).2.2 = pl at h1
  generalize someP = p at h1 hsm ⊢
  unfold someT at h1
  have H1 := Lib.hid h1
  have HS := Lib.hid hsm
  have HB := Lib.hid (And.intro (lbox w (poO ⟨#[]⟩ 0 0 0 0 (.slice none 0 0))) (World.alloc_heap_new w (poO ⟨#[]⟩ 0 0 0 0 (.slice none 0 0))))
  clear h1 hsm
  go_enter Tryd.func9, Tryd.ntmps9
  go_wp2_with (go_at_call 16; (with_reducible refine H1.out.mono ?_); rintro e w1 ⟨R, rfl, hr, hb⟩; obtain ⟨A, n, c, rfl⟩ := rules_form hr; have HR := Lib.hid (rules_below hr (lbox w1 (poCell p (.slice A n c)))); have hx := kept_alloc (keep7 HB.out.2 hb) (poCell p (.slice A n c)); have HB1 := Lib.hid (below_of _ _ (poCell p (.slice A n c)) (on7 HB.out.1 hb)); clear hr hb; have u0 := cell6 hx 0 rfl; have u1 := cell6 hx 1 rfl; have u2 := cell6 hx 2 rfl; have u3 := cell6 hx 3 rfl; have u4 := cell6 hx 4 rfl; have u5 := cell6 hx 5 rfl; have z0 := frozen6 hx 0; have z1 := frozen6 hx 1; have z2 := frozen6 hx 2; have z3 := frozen6 hx 3; have z4 := frozen6 hx 4; have z5 := frozen6 hx 5; clear hx)
  exact bodyPost_ret (v := poV p.arch p.foreign_.1 (p.foreign_.2 : Int) p.default_.1 (p.default_.2 : Int) (.slice A n c)) (by simp [results, Tryd.results9, go_sem, u0, u1, u2, u3, u4, u5, World.cell?_setCell_same']) rfl (by
    have HR2 := rules_set6 (w := w) HR.out (by simp) (.string p.arch) (.int .i64 p.foreign_.1) (.int .u64 (p.foreign_.2 : Int)) (.int .i64 p.default_.1) (.int .u64 (p.default_.2 : Int)) (.slice A n c)
    obtain ⟨A', c', hv, hl⟩ := rulesL_of HS.out HR2
    cases hv
    exact ⟨A, c, rfl, hl, (((((HB1.out.setCell (p := ⟨w.heap.size, 0, none⟩) (Nat.le_refl _) _).setCell (p := ⟨w.heap.size, 1, none⟩) (Nat.le_refl _) _).setCell (p := ⟨w.heap.size, 2, none⟩) (Nat.le_refl _) _).setCell (p := ⟨w.heap.size, 3, none⟩) (Nat.le_refl _) _).setCell (p := ⟨w.heap.size, 4, none⟩) (Nat.le_refl _) _).setCell (p := ⟨w.heap.size, 5, none⟩) (Nat.le_refl _) _⟩)
set_option maxRecDepth 100000 in
set_option maxHeartbeats 4000000 in
theorem lives7 (w : World) (hTab : Tab w) : Calls Tryd.prog 4 #[] w fun e w' => e = .returned (.bool true) ∧ Below w.heap.size w w' := by
  have hN := p_Number7 ⟨#[120, 56, 54, 95, 54, 52]⟩ ⟨#[111, 112, 101, 110, 97, 116]⟩ w
  rw [lives7_num] at hN
  have HN := Lib.hid hN
  have HS := Lib.hid (fun V => some7 V)
  have HE : Hid (∀ A cap V, RulesL V someP.rules A → Tab V → Calls Tryd.prog 6 #[poA someP A cap, .agg #[.int .u32 231, .int .u32 3221225534, .int .u64 0, .int .u64 0, .int .u64 0, .int .u64 0, .int .u64 0, .int .u64 0, .int .u64 0]] V fun e w' => e = .returned (.int .u32 2147418112) ∧ Below V.heap.size V w') := Lib.hid (fun A cap V hr ht => by
    have := p_Eval7 someP lives7D A cap V hr ht
    rw [lives7_eval] at this
    exact this)
  have HT := Lib.hid hTab
  clear hN hTab
  generalize someP = p at HS HE
  go_enter Tryd.func4, Tryd.ntmps4
  go_wp2_with (first
    | (go_at_call 8; (with_reducible refine HN.out.mono ?_); rintro e w1 ⟨rfl, hb⟩; have HB1 := Lib.hid (And.intro hb (HT.out.up hb)); clear hb)
    | (go_at_call 9; (with_reducible refine (HS.out _).mono ?_); rintro e w2 ⟨A, cap, rfl, hr, hb⟩; have HB2 := Lib.hid (And.intro (on7 HB1.out.1 hb) (And.intro (HB1.out.2.up hb) hr)); clear hb hr)
    | (go_at_call 6; (with_reducible refine (HE.out _ _ _ HB2.out.2.2 HB2.out.2.1).mono ?_); rintro e w3 ⟨rfl, hb⟩; have HB3 := Lib.hid (on7 HB2.out.1 hb); clear hb))
  go_ret
  exact ⟨rfl, HB3.out⟩
end Go.Proofs.YtgeapkjegemkeaaDoor
namespace Go.Proofs.YtgeapkjegemkeaaDoor
open Go Go.ChangeShapes Go.WideShapes Go.ChangeAt Go.RowKit Go.Deep Go.Joins
set_option linter.unusedSimpArgs false
set_option linter.unusedVariables false
set_option maxRecDepth 100000

section
variable {H : Type} {enc : TypeId × Value → H} {w : World} {base : Nat} {spare : Nat → Bool} {held : Bool} {r : Reach} {b0 : Nat} {v : Value} {dd : DataW H} {pp : List MemPlace}
theorem open_policy (hv : Value.okWide Tryd.prog w r b0 28 v) (h : DataW.Trod enc Tryd.prog w base spare held 28 v dd pp) : ∃ (q : Po) (A : Option Addr) (cap : Nat), v = poA q A cap ∧ RulesL w q.rules A ∧ PoW q := by
  obtain ⟨⟨l⟩, rfl, hsz⟩ := okWide_struct Tryd.underlying28 hv
  obtain ⟨fuel, hf⟩ := h
  obtain ⟨q, A, cap, hcs, hr, hw⟩ := po_open hf
  have : l = poC q A cap := by simpa [Value.cells] using hcs
  subst this
  exact ⟨q, A, cap, rfl, hr, hw⟩
theorem open_expr (hv : Value.okWide Tryd.prog w r b0 44 v) (h : DataW.Trod enc Tryd.prog w base spare held 44 v dd pp) : ∃ (e : Ex) (A : Option Addr) (cap : Nat), v = exV e A cap ∧ ExL w e A cap ∧ ExW e := by
  obtain ⟨⟨l⟩, rfl, hsz⟩ := okWide_struct Tryd.underlying44 hv
  obtain ⟨fuel, hf⟩ := h
  obtain ⟨e, A, cap, hcs, hr, hw⟩ := ex_open fuel hf
  have : l = exC e A cap := by simpa [Value.cells] using hcs
  subst this
  exact ⟨e, A, cap, rfl, hr, hw⟩
theorem open_dat (hv : Value.okWide Tryd.prog w r b0 32 v) (h : DataW.Trod enc Tryd.prog w base spare held 32 v dd pp) : ∃ d : Dat, v = datV d ∧ DatW d := by
  obtain ⟨⟨l⟩, rfl, hsz⟩ := okWide_struct Tryd.underlying32 hv
  obtain ⟨fuel, hf⟩ := h
  obtain ⟨d, hcs, hw⟩ := dat_open hf
  have : l = datC d := by simpa [Value.cells] using hcs
  subst this
  exact ⟨d, rfl, hw⟩
end
end Go.Proofs.YtgeapkjegemkeaaDoor
namespace Go.Proofs.YtgeapkjegemkeaaDoor
open Go Go.ChangeShapes Go.WideShapes Go.ChangeAt Go.RowKit Go.Deep

/-- An array of structs of one-cell fields: each cell, and how it reads. -/
theorem laid_rows {H : Type} {enc : TypeId × Value → H} {P : Program} {w : World} {base : Nat} {spare : Nat → Bool} {held : Bool} {t e : TypeId} {n : Nat} {fs : Array Field} {fuel : Nat} {cs : List Value} {x : DataW H × List MemPlace}
    (ht : P.underlying t = some (.array n e)) (he : P.underlying e = some (.struct fs)) (hone : oneCellFields P fs = true) (hC : P.cellsOf e = fs.size) (h : DataW.trod enc P w base spare held fuel t cs = some x) :
    ∃ rows : List (List (DataW H)), x.1 = .agg (rows.map .agg) ∧ rows.length = n ∧ ∀ (i : Nat) r, rows[i]? = some r → ∀ (j : Nat) d f, r[j]? = some d → fs[j]? = some f → ∃ v m q, cs[i * fs.size + j]? = some v ∧ DataW.trod enc P w base spare held m f.type [v] = some (d, q) := by
  obtain ⟨xs, m, _, rfl, hl, hn, hi⟩ := DataW.trod_array ht h
  have each : ∀ i, i < n → ∃ (ys : List (DataW H × List MemPlace)) (y : DataW H × List MemPlace), xs[i]? = some y ∧ y.1 = .agg (ys.map (·.1)) ∧ ys.length = fs.size ∧ ∀ (j : Nat) d f, (ys.map (·.1))[j]? = some d → fs[j]? = some f → ∃ v m q, cs[i * fs.size + j]? = some v ∧ DataW.trod enc P w base spare held m f.type [v] = some (d, q) := by
    intro i hin
    have h1 := hi i hin
    obtain ⟨y, hy⟩ : ∃ y, xs[i]? = some y := ⟨xs[i], List.getElem?_eq_getElem (by omega)⟩
    rw [hy] at h1
    obtain ⟨ys, m', _, rfl, hl', hlen, hf⟩ := DataW.trod_struct he h1
    refine ⟨ys, _, hy, rfl, hlen, fun j d f hj hfj => ?_⟩
    obtain ⟨ho, hk⟩ := hone_of hone j f hfj
    have hjs : j < fs.size := (Array.getElem?_eq_some_iff.1 hfj).1
    have hr := hf j f hfj
    obtain ⟨y', hy', rfl⟩ : ∃ y', ys[j]? = some y' ∧ y'.1 = d := by
      rw [List.getElem?_map] at hj
      cases hyj : ys[j]? with
      | none => rw [hyj] at hj; cases hj
      | some y' => rw [hyj] at hj; exact ⟨y', rfl, by simpa using hj⟩
    rw [hy', ho, hk] at hr
    rw [hC] at hl' hr
    have hlt : i * fs.size + j < cs.length := by
      rcases Nat.lt_or_ge (i * fs.size + j) cs.length with g | g
      · exact g
      · have : ((cs.drop (i * fs.size)).take fs.size).length ≤ j := by rw [List.length_take, List.length_drop]; omega
        omega
    have hone' : ((List.drop (i * fs.size) cs |>.take fs.size).drop j).take 1 = [cs[i * fs.size + j]] := by
      rw [List.drop_take, List.take_take, Nat.min_eq_left (by omega), List.drop_drop, List.drop_eq_getElem_cons hlt]
      rfl
    rw [hone'] at hr
    exact ⟨_, m', y'.2, List.getElem?_eq_getElem hlt, hr⟩
  clear hi h
  have step : ∀ k, k ≤ n → ∃ rows : List (List (DataW H)), (xs.take k).map (·.1) = rows.map .agg ∧ rows.length = k ∧ ∀ (i : Nat) r, rows[i]? = some r → ∀ (j : Nat) d f, r[j]? = some d → fs[j]? = some f → ∃ v m q, cs[i * fs.size + j]? = some v ∧ DataW.trod enc P w base spare held m f.type [v] = some (d, q) := by
    intro k
    induction k with
    | zero => intro _; exact ⟨[], by simp, rfl, fun i r hr => by simp at hr⟩
    | succ k ih =>
      intro hk
      obtain ⟨rows, h1, h2, h3⟩ := ih (by omega)
      obtain ⟨ys, y, hy, hd, _, hc⟩ := each k (by omega)
      refine ⟨rows ++ [ys.map (·.1)], ?_, by simp [h2], fun i r hr => ?_⟩
      · rw [List.take_add_one, hy, List.map_append, h1, List.map_append]; simp [hd]
      · rcases Nat.lt_or_ge i k with g | g
        · rw [List.getElem?_append_left (by omega)] at hr
          exact h3 i r hr
        · rw [List.getElem?_append_right (by omega)] at hr
          have : i = k := by
            rcases Nat.lt_or_ge (i - rows.length) 1 with g' | g'
            · omega
            · rw [List.getElem?_eq_none (by simpa using g')] at hr; cases hr
          subst this
          rw [h2, Nat.sub_self] at hr
          simp at hr
          subst hr
          exact hc
  obtain ⟨rows, h1, h2, h3⟩ := step n (Nat.le_refl _)
  rw [List.take_of_length_le (by omega)] at h1
  exact ⟨rows, by show DataW.agg _ = _; rw [h1], h2, h3⟩

/-- A listed variable that stands first: its cells, and how they read. -/
theorem laid_first {P : Program} {w : World} {nm : String} {d : DataW Unit} {r : List (String × DataW Unit)} {g : Nat} {t : TypeId} (hp : (((nm, d) :: r).all fun x => x.2.handleName?.isNone) = true) (h : laidMetH P ((nm, d) :: r) w)
    (hg : P.globalNamed nm = some g) (ht : (P.globals[g]?).map (·.type) = some t) :
    ∃ (cs : List Value) (fuel : Nat) (p : List MemPlace), (∀ i, w.cell? ⟨g, i, none⟩ = cs[i]?) ∧ DataW.trod (fun _ => ()) P w 0 (fun _ => true) false fuel t cs = some (d, p) := by
  rw [MakeChecks.laidMetH_plain _ _ _ hp] at h
  obtain ⟨ps, ⟨g0, t0, cs0, f0, p0, q0, hg0, ht0, hv0, hd0, _, _⟩, _, _⟩ := h
  obtain rfl := Option.some.inj (hg.symm.trans hg0)
  obtain rfl := Option.some.inj (ht.symm.trans ht0)
  exact ⟨cs0.toList, f0, p0, fun i => by rw [World.var?_cell hg0 hv0 i, Array.getElem?_toList], hd0⟩
end Go.Proofs.YtgeapkjegemkeaaDoor
namespace Go.Proofs.YtgeapkjegemkeaaDoor
open Go Go.RowKit Go.ChangeShapes Go.WideShapes Go.ChangeAt
set_option linter.unusedSimpArgs false
set_option linter.unusedVariables false
set_option maxRecDepth 100000

theorem tab_of_laid {W : World} (h : laidMetH Tryd.prog [("ravelin/secdata.rows", Rows.laid_ravelin_secdata_rows)] W) : Tab W := by
  obtain ⟨cs, fuel, p, hc, hd⟩ := laid_first (g := 0) (t := 107) (by kernel_rfl) h (by kernel_rfl) (by kernel_rfl)
  obtain ⟨rows, hx, hl, hr⟩ := laid_rows Tryd.underlying107 Tryd.underlying106 (by kernel_rfl) (by kernel_rfl) hd
  have hrows : rows = [[.lit (.int .i64 1), .lit (.int .u32 2147483648), .lit (.bool false)], [.lit (.int .i64 2), .lit (.int .u32 0), .lit (.bool false)], [.lit (.int .i64 3), .lit (.int .u32 196608), .lit (.bool true)], [.lit (.int .i64 4), .lit (.int .u32 327680), .lit (.bool true)], [.lit (.int .i64 5), .lit (.int .u32 2143289344), .lit (.bool false)], [.lit (.int .i64 6), .lit (.int .u32 2146435072), .lit (.bool true)], [.lit (.int .i64 7), .lit (.int .u32 2147221504), .lit (.bool false)], [.lit (.int .i64 8), .lit (.int .u32 2147418112), .lit (.bool false)]] := by
    have inj : ∀ a b : List (List (DataW Unit)), a.map DataW.agg = b.map DataW.agg → a = b := fun a b e => (List.map_inj_right (fun x y h => by injection h)).1 e
    apply inj
    have : DataW.agg (rows.map DataW.agg) = Rows.laid_ravelin_secdata_rows := hx.symm
    injection this
  subst hrows
  have int : ∀ (i j : Nat) (r : List (DataW Unit)) (k : IntKind) (n : Int) (t : TypeId) (f : Field), f.type = t → Tryd.prog.underlying t = some (.int k) → _ → _ → _ → W.cell? ⟨0, i * 3 + j, none⟩ = some (.int k n) := fun i j r k n t f hft hu h1 h2 h3 => by
    obtain ⟨v, m, q, hcs, htr⟩ := hr i r h1 j (.lit (.int k n)) f h2 h3
    rw [hft] at htr
    obtain ⟨n', e1, e2, _⟩ := DataW.trod_int hu htr
    simp only [List.cons.injEq, and_true] at e1
    simp only [Prod.mk.injEq, DataW.lit.injEq, Lit.int.injEq] at e2
    obtain ⟨⟨_, rfl⟩, _⟩ := e2
    rw [hc, ← e1]; exact hcs
  have bool : ∀ (i : Nat) (r : List (DataW Unit)) (b : Bool) (f : Field), f.type = 4 → _ → _ → _ → W.cell? ⟨0, i * 3 + 2, none⟩ = some (.bool b) := fun i r b f hft h1 h2 h3 => by
    obtain ⟨v, m, q, hcs, htr⟩ := hr i r h1 2 (.lit (.bool b)) f h2 h3
    rw [hft] at htr
    obtain ⟨b', e1, e2⟩ := DataW.trod_bool Tryd.underlying4 htr
    simp only [List.cons.injEq, and_true] at e1
    simp only [Prod.mk.injEq, DataW.lit.injEq, Lit.bool.injEq] at e2
    obtain ⟨rfl, _⟩ := e2
    rw [hc, ← e1]; exact hcs
  have row : ∀ k, k < 8 → W.cell? ⟨0, k * 3, none⟩ = some (.int .i64 ((k : Int) + 1)) ∧ W.cell? ⟨0, k * 3 + 1, none⟩ = some (.int .u32 (rowW k)) ∧ W.cell? ⟨0, k * 3 + 2, none⟩ = some (.bool (rowH k)) := by
    intro k hk
    match k, hk with
    | 0, _ => exact ⟨int 0 0 _ _ _ _ _ rfl Tryd.underlying22 rfl rfl rfl, int 0 1 _ _ _ _ _ rfl Tryd.underlying29 rfl rfl rfl, bool 0 _ _ _ rfl rfl rfl rfl⟩
    | 1, _ => exact ⟨int 1 0 _ _ _ _ _ rfl Tryd.underlying22 rfl rfl rfl, int 1 1 _ _ _ _ _ rfl Tryd.underlying29 rfl rfl rfl, bool 1 _ _ _ rfl rfl rfl rfl⟩
    | 2, _ => exact ⟨int 2 0 _ _ _ _ _ rfl Tryd.underlying22 rfl rfl rfl, int 2 1 _ _ _ _ _ rfl Tryd.underlying29 rfl rfl rfl, bool 2 _ _ _ rfl rfl rfl rfl⟩
    | 3, _ => exact ⟨int 3 0 _ _ _ _ _ rfl Tryd.underlying22 rfl rfl rfl, int 3 1 _ _ _ _ _ rfl Tryd.underlying29 rfl rfl rfl, bool 3 _ _ _ rfl rfl rfl rfl⟩
    | 4, _ => exact ⟨int 4 0 _ _ _ _ _ rfl Tryd.underlying22 rfl rfl rfl, int 4 1 _ _ _ _ _ rfl Tryd.underlying29 rfl rfl rfl, bool 4 _ _ _ rfl rfl rfl rfl⟩
    | 5, _ => exact ⟨int 5 0 _ _ _ _ _ rfl Tryd.underlying22 rfl rfl rfl, int 5 1 _ _ _ _ _ rfl Tryd.underlying29 rfl rfl rfl, bool 5 _ _ _ rfl rfl rfl rfl⟩
    | 6, _ => exact ⟨int 6 0 _ _ _ _ _ rfl Tryd.underlying22 rfl rfl rfl, int 6 1 _ _ _ _ _ rfl Tryd.underlying29 rfl rfl rfl, bool 6 _ _ _ rfl rfl rfl rfl⟩
    | 7, _ => exact ⟨int 7 0 _ _ _ _ _ rfl Tryd.underlying22 rfl rfl rfl, int 7 1 _ _ _ _ _ rfl Tryd.underlying29 rfl rfl rfl, bool 7 _ _ _ rfl rfl rfl rfl⟩
  exact ⟨by have := cell_lt (row 0 (by decide)).1; omega, row⟩
end Go.Proofs.YtgeapkjegemkeaaDoor
namespace Go.Proofs.YtgeapkjegemkeaaDoor
open Go Go.RowKit
set_option linter.unusedSimpArgs false
set_option linter.unusedVariables false

def zeroD7 : Dat := ⟨0, 0, 0, fun _ => 0⟩
/-- Data's cells at a place. -/
def DatAt (w : World) (tb o : Nat) (d : Dat) : Prop := ∀ j u, (datC d)[j]? = some u → w.cell? ⟨tb, o + j, none⟩ = some u
theorem DatAt.cells {w : World} {tb o : Nat} {d : Dat} (h : DatAt w tb o d) :
    w.cell? ⟨tb, o, none⟩ = some (.int .u32 (d.nr : Int)) ∧ w.cell? ⟨tb, o + 1, none⟩ = some (.int .u32 (d.arch : Int)) ∧ w.cell? ⟨tb, o + 2, none⟩ = some (.int .u64 (d.ip : Int)) ∧ w.cell? ⟨tb, o + 3, none⟩ = some (.int .u64 (d.args 0 : Int)) ∧ w.cell? ⟨tb, o + 4, none⟩ = some (.int .u64 (d.args 1 : Int)) ∧ w.cell? ⟨tb, o + 5, none⟩ = some (.int .u64 (d.args 2 : Int)) ∧ w.cell? ⟨tb, o + 6, none⟩ = some (.int .u64 (d.args 3 : Int)) ∧ w.cell? ⟨tb, o + 7, none⟩ = some (.int .u64 (d.args 4 : Int)) ∧ w.cell? ⟨tb, o + 8, none⟩ = some (.int .u64 (d.args 5 : Int)) :=
  ⟨h 0 _ rfl, h 1 _ rfl, h 2 _ rfl, h 3 _ rfl, h 4 _ rfl, h 5 _ rfl, h 6 _ rfl, h 7 _ rfl, h 8 _ rfl⟩
theorem dats_form {w : World} {l : List Dat} {A : Option Addr} (h : DatsL w l A) (k : Nat) (hk : k < l.length) : ∃ tb o, A = some ⟨tb, o, none⟩ := by
  rcases h.2 with h0 | ⟨tb, o, hA, _⟩
  · rw [h0] at hk; exact absurd hk (by simp)
  · exact ⟨tb, o, hA⟩
theorem dats_at {w : World} {l : List Dat} {tb o : Nat} (h : DatsL w l (some ⟨tb, o, none⟩)) (k : Nat) (hk : k < l.length) : DatAt w tb (o + k * 9) (l.getD k zeroD7) := by
  rcases h.2 with h0 | ⟨tb1, o1, hA, _, hc⟩
  · rw [h0] at hk; exact absurd hk (by simp)
  · injection hA with hA; injection hA with e1 e2; subst e1; subst e2
    have : l.getD k zeroD7 = l[k] := by rw [List.getD_eq_getElem?_getD, List.getElem?_eq_getElem hk]; rfl
    rw [this]; exact fun j u hj => hc k hk j u hj
/-- What is at hand. -/
structure EvAt (w W : World) (p : Po) (A : Option Addr) (cap : Nat) (l : List Dat) (B : Option Addr) : Prop where
  below : Below w.heap.size w W
  po : W.heap[w.heap.size]? = some (poO7 p A cap)
  rules : RulesL W p.rules A
  dats : DatsL W l B
  tab : Tab W
theorem EvAt.up {w W W' : World} {p : Po} {A : Option Addr} {cap : Nat} {l : List Dat} {B : Option Addr} (h : EvAt w W p A cap l B) (hb : Below W.heap.size W W') : EvAt w W' p A cap l B :=
  ⟨on7 h.below hb, keep7 h.po hb, h.rules.below hb, h.dats.below hb, h.tab.up hb⟩
theorem EvAt.drew {w W : World} {p : Po} {A : Option Addr} {cap : Nat} {l : List Dat} {B : Option Addr} (h : EvAt w W p A cap l B) : EvAt w W.drew p A cap l B := h.up (below_drawn (Below.refl _ _) 1)
/-- A rule at hand besides. -/
structure RuHand (W : World) (tb o : Nat) (r : Ru) (Ac : Option Addr) (capc : Nat) (Ar : Option Addr) (capr : Nat) : Prop where
  at_ : RuAt W tb o r Ac capc Ar capr
  lt : tb < W.heap.size
  ex : ExL W r.when_ Ar capr
theorem RuHand.up {W W' : World} {tb o : Nat} {r : Ru} {Ac : Option Addr} {capc : Nat} {Ar : Option Addr} {capr : Nat} (h : RuHand W tb o r Ac capc Ar capr) (hb : Below W.heap.size W W') : RuHand W' tb o r Ac capc Ar capr :=
  ⟨h.at_.up h.lt hb, Nat.lt_of_lt_of_le h.lt hb.size, h.ex.below hb⟩
theorem RuHand.drew {W : World} {tb o : Nat} {r : Ru} {Ac : Option Addr} {capc : Nat} {Ar : Option Addr} {capr : Nat} (h : RuHand W tb o r Ac capc Ar capr) : RuHand W.drew tb o r Ac capc Ar capr := h.up (below_drawn (Below.refl _ _) 1)
theorem hand_of {W : World} {l : List Ru} {A : Option Addr} (h : RulesL W l A) (k : Nat) (hk : k < l.length) : ∃ tb o Ac capc Ar capr, A = some ⟨tb, o, none⟩ ∧ RuHand W tb (o + k * 9) (l.getD k zeroR7) Ac capc Ar capr := by
  obtain ⟨tb, o, Ac, capc, Ar, capr, hA, htb, hru, hcc⟩ := rules_cells h (Below.refl _ _) k hk
  exact ⟨tb, o, Ac, capc, Ar, capr, hA, hcc, htb, hru.2⟩
end Go.Proofs.YtgeapkjegemkeaaDoor
