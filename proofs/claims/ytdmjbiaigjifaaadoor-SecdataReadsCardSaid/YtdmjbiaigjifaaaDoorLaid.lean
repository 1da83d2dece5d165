/-
  How a listed package-level table (an array of structs whose fields take a cell each) opens into its cells. No condition.
-/
import Derived.Test.YtdmjbiaigjifaaaDoorFrame
import Derived.LaidMore
import Derived.OpenShut
import Derived.Stop.Joined
import Derived.MakeChecks
namespace Go.Proofs.YtdmjbiaigjifaaaDoor
open Go Go.ChangeShapes Go.WideShapes Go.ChangeAt Go.RowKit Go.Deep

/-- An array of structs of one-cell fields: each cell, and how it reads. -/
theorem laid_rows {H : Type} {enc : TypeId × Value → H} {P : Program} {w : World} {base : Nat} {spare : Nat → Bool} {held : Bool} {t e : TypeId} {n : Nat} {fs : Array Field} {fuel : Nat} {cs : List Value} {x : DataW H × List MemPlace}
    (ht : P.underlying t = some (.array n e)) (he : P.underlying e = some (.struct fs)) (hone : oneCellFields P fs = true) (hC : P.cellsOf e = fs.size) (h : DataW.trod enc P w base spare held fuel t cs = some x) :
    ∃ rows : List (List (DataW H)), x.1 = .agg (rows.map .agg) ∧ rows.length = n ∧ ∀ (i : Nat) r, rows[i]? = some r → ∀ (j : Nat) d f, r[j]? = some d → fs[j]? = some f → ∃ v m q, cs[i * fs.size + j]? = some v ∧ DataW.trod enc P w base spare held m f.type [v] = some (d, q) := by
  obtain ⟨xs, m, _, rfl, hl, hn, hi⟩ := DataW.trod_array ht h
  have each : ∀ i, i < n → ∃ (ys : List (DataW H × List MemPlace)) (y : DataW H × List MemPlace), xs[i]? = some y ∧ y.1 = .agg (ys.map (·.1)) ∧ ys.length = fs.size ∧ ∀ (j : Nat) d f, (ys.map (·.1))[j]? = some d → fs[j]? = some f → ∃ v m q, cs[i * fs.size + j]? = some v ∧ DataW.trod enc P w base spare held m f.type [v] = some (d, q) := by
    intro i hin
    have h1 := hi i hin
    obtain ⟨y, hy⟩ : ∃ y, xs[i]? = some y := ⟨xs[i], List.getElem?_eq_getElem (by omega)⟩
    rw [hy] at h1
    obtain ⟨ys, m', _, rfl, hl', hlen, hf⟩ := DataW.trod_struct he h1
    refine ⟨ys, _, hy, rfl, hlen, fun j d f hj hfj => ?_⟩
    obtain ⟨ho, hk⟩ := hone_of hone j f hfj
    have hjs : j < fs.size := (Array.getElem?_eq_some_iff.1 hfj).1
    have hr := hf j f hfj
    obtain ⟨y', hy', rfl⟩ : ∃ y', ys[j]? = some y' ∧ y'.1 = d := by
      rw [List.getElem?_map] at hj
      cases hyj : ys[j]? with
      | none => rw [hyj] at hj; cases hj
      | some y' => rw [hyj] at hj; exact ⟨y', rfl, by simpa using hj⟩
    rw [hy', ho, hk] at hr
    rw [hC] at hl' hr
    have hlt : i * fs.size + j < cs.length := by
      rcases Nat.lt_or_ge (i * fs.size + j) cs.length with g | g
      · exact g
      · have : ((cs.drop (i * fs.size)).take fs.size).length ≤ j := by rw [List.length_take, List.length_drop]; omega
        omega
    have hone' : ((List.drop (i * fs.size) cs |>.take fs.size).drop j).take 1 = [cs[i * fs.size + j]] := by
      rw [List.drop_take, List.take_take, Nat.min_eq_left (by omega), List.drop_drop, List.drop_eq_getElem_cons hlt]
      rfl
    rw [hone'] at hr
    exact ⟨_, m', y'.2, List.getElem?_eq_getElem hlt, hr⟩
  clear hi h
  have step : ∀ k, k ≤ n → ∃ rows : List (List (DataW H)), (xs.take k).map (·.1) = rows.map .agg ∧ rows.length = k ∧ ∀ (i : Nat) r, rows[i]? = some r → ∀ (j : Nat) d f, r[j]? = some d → fs[j]? = some f → ∃ v m q, cs[i * fs.size + j]? = some v ∧ DataW.trod enc P w base spare held m f.type [v] = some (d, q) := by
    intro k
    induction k with
    | zero => intro _; exact ⟨[], by simp, rfl, fun i r hr => by simp at hr⟩
    | succ k ih =>
      intro hk
      obtain ⟨rows, h1, h2, h3⟩ := ih (by omega)
      obtain ⟨ys, y, hy, hd, _, hc⟩ := each k (by omega)
      refine ⟨rows ++ [ys.map (·.1)], ?_, by simp [h2], fun i r hr => ?_⟩
      · rw [List.take_add_one, hy, List.map_append, h1, List.map_append]; simp [hd]
      · rcases Nat.lt_or_ge i k with g | g
        · rw [List.getElem?_append_left (by omega)] at hr
          exact h3 i r hr
        · rw [List.getElem?_append_right (by omega)] at hr
          have : i = k := by
            rcases Nat.lt_or_ge (i - rows.length) 1 with g' | g'
            · omega
            · rw [List.getElem?_eq_none (by simpa using g')] at hr; cases hr
          subst this
          rw [h2, Nat.sub_self] at hr
          simp at hr
          subst hr
          exact hc
  obtain ⟨rows, h1, h2, h3⟩ := step n (Nat.le_refl _)
  rw [List.take_of_length_le (by omega)] at h1
  exact ⟨rows, by show DataW.agg _ = _; rw [h1], h2, h3⟩

/-- A listed variable that stands first: its cells, and how they read. -/
theorem laid_first {P : Program} {w : World} {nm : String} {d : DataW Unit} {r : List (String × DataW Unit)} {g : Nat} {t : TypeId} (hp : (((nm, d) :: r).all fun x => x.2.handleName?.isNone) = true) (h : laidMetH P ((nm, d) :: r) w)
    (hg : P.globalNamed nm = some g) (ht : (P.globals[g]?).map (·.type) = some t) :
    ∃ (cs : List Value) (fuel : Nat) (p : List MemPlace), (∀ i, w.cell? ⟨g, i, none⟩ = cs[i]?) ∧ DataW.trod (fun _ => ()) P w 0 (fun _ => true) false fuel t cs = some (d, p) := by
  rw [MakeChecks.laidMetH_plain _ _ _ hp] at h
  obtain ⟨ps, ⟨g0, t0, cs0, f0, p0, q0, hg0, ht0, hv0, hd0, _, _⟩, _, _⟩ := h
  obtain rfl := Option.some.inj (hg.symm.trans hg0)
  obtain rfl := Option.some.inj (ht.symm.trans ht0)
  exact ⟨cs0.toList, f0, p0, fun i => by rw [World.var?_cell hg0 hv0 i, Array.getElem?_toList], hd0⟩
end Go.Proofs.YtdmjbiaigjifaaaDoor
