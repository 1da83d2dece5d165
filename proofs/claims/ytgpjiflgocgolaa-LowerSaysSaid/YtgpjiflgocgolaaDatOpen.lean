/-
  What a frame hands its walk of an argument that is several data. No condition.
-/
import Derived.Test.YtgpjiflgocgolaaFrame
import Derived.OpenShut
import Derived.ChangeMaps5
namespace Go.Proofs.Ytgpjiflgocgolaa
open Go Go.ChangeShapes Go.WideShapes Go.ChangeAt Go.RowKit Go.Deep Go.Joins
set_option linter.unusedSimpArgs false
set_option linter.unusedVariables false
set_option maxRecDepth 100000

structure Dat where
  nr : Nat
  arch : Nat
  ip : Nat
  args : Nat → Nat
abbrev datV (d : Dat) : Value := .agg #[.int .u32 (d.nr : Int), .int .u32 (d.arch : Int), .int .u64 (d.ip : Int), .int .u64 (d.args 0 : Int), .int .u64 (d.args 1 : Int), .int .u64 (d.args 2 : Int), .int .u64 (d.args 3 : Int), .int .u64 (d.args 4 : Int), .int .u64 (d.args 5 : Int)]
theorem list_of {α : Type} {Q : Nat → α → Prop} : ∀ n, (∀ i, i < n → ∃ a, Q i a) → ∃ l : List α, l.length = n ∧ ∀ i (h : i < l.length), Q i l[i]
  | 0, _ => ⟨[], rfl, fun i h => absurd h (by simp)⟩
  | n + 1, h => by
    obtain ⟨a, ha⟩ := h 0 (by omega)
    obtain ⟨l, hl, hq⟩ := list_of (Q := fun i x => Q (i + 1) x) n (fun i hi => h (i + 1) (by omega))
    refine ⟨a :: l, by simp [hl], fun i hi => ?_⟩
    match i, hi with
    | 0, _ => exact ha
    | i + 1, hi => exact hq i (by simpa using hi)
theorem list9 {α : Type} {l : List α} (h : l.length = 9) : ∃ c0 c1 c2 c3 c4 c5 c6 c7 c8, l = [c0, c1, c2, c3, c4, c5, c6, c7, c8] := by
  match l, h with
  | [c0, c1, c2, c3, c4, c5, c6, c7, c8], _ => exact ⟨c0, c1, c2, c3, c4, c5, c6, c7, c8, rfl⟩
theorem u32_of {n : Int} (h : (Lit.int .u32 n).wf = true) : 0 ≤ n ∧ n < 4294967296 := by
  have : 0 ≤ n ∧ n ≤ 4294967295 := by simpa [Lit.wf, IntKind.min, IntKind.max, IntKind.bits, IntKind.signed] using h
  omega
theorem u64_of {n : Int} (h : (Lit.int .u64 n).wf = true) : 0 ≤ n ∧ n < 18446744073709551616 := by
  have : 0 ≤ n ∧ n ≤ 18446744073709551615 := by simpa [Lit.wf, IntKind.min, IntKind.max, IntKind.bits, IntKind.signed] using h
  omega
section
variable {H : Type} {enc : TypeId × Value → H} {w : World} {base : Nat} {spare : Nat → Bool} {held : Bool}
theorem struct_at {P : Program} {t : TypeId} {fs : Array Field} {fuel : Nat} {cs : List Value} {x : DataW H × List MemPlace} (ht : P.underlying t = some (.struct fs)) (h : DataW.trod enc P w base spare held fuel t cs = some x) :
    ∃ n, fuel = n + 1 ∧ cs.length = P.cellsOf t ∧ ∀ (i : Nat) (f : Field), fs[i]? = some f → ∃ y, DataW.trod enc P w base spare held n f.type ((cs.drop f.offset).take (P.cellsOf f.type)) = some y := by
  obtain ⟨xs, n, hn, _, hlen, hxl, hf⟩ := DataW.trod_struct ht h
  refine ⟨n, hn, hlen, fun i f hi => ?_⟩
  have hlt : i < fs.size := (Array.getElem?_eq_some_iff.1 hi).1
  exact ⟨xs[i], by rw [hf i f hi, List.getElem?_eq_getElem (by omega)]⟩
theorem slice_each {P : Program} {t e : TypeId} {fuel : Nat} {cs : List Value} {x : DataW H × List MemPlace} (ht : P.underlying t = some (.slice e)) (h : DataW.trod enc P w base spare held fuel t cs = some x) :
    cs = [.slice none 0 0] ∨ ∃ (a : Addr) (len cap n : Nat), fuel = n + 1 ∧ cs = [.slice (some a) len cap] ∧ len ≤ cap ∧ cap ≤ maxLen ∧
      ∀ i, i < len → ∃ cs' y, w.cells? base (a.add (i * P.cellsOf e)) (P.cellsOf e) = some cs' ∧ DataW.trod enc P w base spare held n e cs' = some y := by
  rcases DataW.trod_slice ht h with h0 | ⟨a, len, cap, elems, rest, n, hf, rfl, _, _, hl, hm, hlen, hel, _, _⟩
  · exact .inl h0.1
  · refine .inr ⟨a, len, cap, n, hf, rfl, hl, hm, fun i hi => ?_⟩
    have key := hel i hi
    rw [List.getElem?_eq_getElem (by omega)] at key
    obtain ⟨cs', h1, h2⟩ := Option.bind_eq_some_iff.1 key
    exact ⟨cs', _, h1, h2⟩
/-- Where an element's cells lie. -/
theorem cells_lie {a : Addr} {i K : Nat} {cs : List Value} (hK : 0 < K) (h00 : ∃ cs0, w.cells? base (a.add (0 * K)) K = some cs0) (h : w.cells? base (a.add (i * K)) K = some cs) : a.spot = none ∧ a.block < w.heap.size ∧ ∀ j u, cs[j]? = some u → w.cell? ⟨a.block, a.off + i * K + j, none⟩ = some u := by
  obtain ⟨_, hlen, hat⟩ := World.cells?_some h
  obtain ⟨cs0, h00⟩ := h00
  obtain ⟨_, hlen0, hat0⟩ := World.cells?_some h00
  obtain ⟨b, o, s⟩ := a
  have h0 := hat0 0 hK
  rw [List.getElem?_eq_getElem (by omega)] at h0
  have hs : s = none := by
    have h1 := World.cell?_spot h0
    rw [Nat.zero_mul] at h1
    exact h1
  subst hs
  have hc : ∀ j u, cs[j]? = some u → w.cell? ⟨b, o + i * K + j, none⟩ = some u := fun j u hj => by
    have := hat j (by rw [← hlen]; exact (List.getElem?_eq_some_iff.1 hj).1)
    rw [hj, addr_add, addr_add] at this
    exact this
  exact ⟨rfl, cell_lt (hc 0 _ (List.getElem?_eq_getElem (by omega))), hc⟩
theorem u64_nat {z : Int} (h : (Lit.int .u64 z).wf = true) : ∃ n : Nat, z = (n : Int) ∧ n < 18446744073709551616 := by
  have := u64_of h
  exact ⟨z.toNat, by omega, by omega⟩
/-- Data's nine cells. -/
def datC (d : Dat) : List Value := [.int .u32 (d.nr : Int), .int .u32 (d.arch : Int), .int .u64 (d.ip : Int), .int .u64 (d.args 0 : Int), .int .u64 (d.args 1 : Int), .int .u64 (d.args 2 : Int), .int .u64 (d.args 3 : Int), .int .u64 (d.args 4 : Int), .int .u64 (d.args 5 : Int)]
def DatW (d : Dat) : Prop := d.nr < 4294967296 ∧ d.arch < 4294967296 ∧ d.ip < 18446744073709551616 ∧ ∀ i, d.args i < 18446744073709551616
theorem u32_nat {z : Int} (h : (Lit.int .u32 z).wf = true) : ∃ n : Nat, z = (n : Int) ∧ n < 4294967296 := by
  have := u32_of h
  exact ⟨z.toNat, by omega, by omega⟩
theorem dat_open {fuel : Nat} {cs : List Value} {x : DataW H × List MemPlace} (h : DataW.trod enc Try.prog w base spare held fuel 40 cs = some x) : ∃ d : Dat, cs = datC d ∧ DatW d := by
  have hC : Try.prog.cellsOf 40 = 9 := by kernel_rfl
  have k32 : Try.prog.cellsOf 34 = 1 := by kernel_rfl
  have k64 : Try.prog.cellsOf 37 = 1 := by kernel_rfl
  have k6 : Try.prog.cellsOf 38 = 6 := by kernel_rfl
  obtain ⟨n, hn, hlen, hf⟩ := struct_at Try.underlying40 h
  obtain ⟨c0, c1, c2, c3, c4, c5, c6, c7, c8, rfl⟩ := list9 (hlen.trans hC)
  obtain ⟨y0, h0⟩ := hf 0 _ rfl
  obtain ⟨y1, h1⟩ := hf 1 _ rfl
  obtain ⟨y2, h2⟩ := hf 2 _ rfl
  obtain ⟨y3, h3⟩ := hf 3 _ rfl
  simp only [k32, k64, k6, List.getElem_toArray, List.getElem_cons_zero, List.getElem_cons_succ, List.drop_zero, List.drop_succ_cons, List.take_succ_cons, List.take_zero] at h0 h1 h2 h3
  obtain ⟨nr, e0, _, w0⟩ := DataW.trod_int Try.underlying34 h0
  obtain ⟨arch, e1, _, w1⟩ := DataW.trod_int Try.underlying34 h1
  obtain ⟨ip, e2, _, w2⟩ := DataW.trod_int Try.underlying37 h2
  obtain ⟨xs, m, _, _, _, hn, hi⟩ := DataW.trod_array Try.underlying38 h3
  have each : ∀ i c, i < 6 → (([c3, c4, c5, c6, c7, c8].drop (i * 1)).take 1) = [c] → ∃ z : Nat, c = .int .u64 (z : Int) ∧ z < 18446744073709551616 := fun i c hi6 hc => by
    have g := hi i hi6
    rw [k64, hc, List.getElem?_eq_getElem (by omega)] at g
    obtain ⟨z, e, _, wz⟩ := DataW.trod_int Try.underlying37 g
    obtain ⟨z', rfl, hz⟩ := u64_nat wz
    exact ⟨z', by simpa using e, hz⟩
  obtain ⟨z0, rfl, x0⟩ := each 0 c3 (by decide) rfl
  obtain ⟨z1, rfl, x1⟩ := each 1 c4 (by decide) rfl
  obtain ⟨z2, rfl, x2⟩ := each 2 c5 (by decide) rfl
  obtain ⟨z3, rfl, x3⟩ := each 3 c6 (by decide) rfl
  obtain ⟨z4, rfl, x4⟩ := each 4 c7 (by decide) rfl
  obtain ⟨z5, rfl, x5⟩ := each 5 c8 (by decide) rfl
  obtain ⟨nr, rfl, hnr⟩ := u32_nat w0
  obtain ⟨arch, rfl, harch⟩ := u32_nat w1
  obtain ⟨ip, rfl, hip⟩ := u64_nat w2
  simp only [List.cons.injEq, and_true] at e0 e1 e2
  subst e0; subst e1; subst e2
  refine ⟨⟨nr, arch, ip, fun i => match i with | 0 => z0 | 1 => z1 | 2 => z2 | 3 => z3 | 4 => z4 | 5 => z5 | _ => 0⟩, rfl, hnr, harch, hip, fun i => ?_⟩
  match i with
  | 0 => exact x0
  | 1 => exact x1
  | 2 => exact x2
  | 3 => exact x3
  | 4 => exact x4
  | 5 => exact x5
  | _ + 6 => show (0 : Nat) < 18446744073709551616; decide
/-- Several data. -/
def DatsL (w : World) (l : List Dat) (A : Option Addr) : Prop := l.length ≤ maxLen ∧ (l = [] ∨ ∃ tb o, A = some ⟨tb, o, none⟩ ∧ tb < w.heap.size ∧ ∀ k (h : k < l.length), ∀ j u, (datC l[k])[j]? = some u → w.cell? ⟨tb, o + k * 9 + j, none⟩ = some u)
theorem DatsL.below {w w' : World} {l : List Dat} {A : Option Addr} (h : DatsL w l A) (hb : Below w.heap.size w w') : DatsL w' l A := by
  refine ⟨h.1, ?_⟩
  rcases h.2 with h | ⟨tb, o, hA, ht, hc⟩
  · exact .inl h
  · exact .inr ⟨tb, o, hA, Nat.lt_of_lt_of_le ht hb.size, fun k hk j u hj => (World.cell?_of_block (a := ⟨tb, o + k * 9 + j, none⟩) (hb.block tb ht)).trans (hc k hk j u hj)⟩
theorem dats_open {fuel : Nat} {cs : List Value} {x : DataW H × List MemPlace} (h : DataW.trod enc Try.prog w base spare held fuel 24 cs = some x) :
    ∃ (l : List Dat) (A : Option Addr) (cap : Nat), cs = [.slice A l.length cap] ∧ DatsL w l A ∧ ∀ d ∈ l, DatW d := by
  have hC : Try.prog.cellsOf 40 = 9 := by kernel_rfl
  rcases slice_each Try.underlying24 h with rfl | ⟨a, len, cap, n', hn', rfl, hl, hmx, hi⟩
  · exact ⟨[], none, 0, rfl, ⟨Nat.zero_le _, .inl rfl⟩, fun c hc => absurd hc (by simp)⟩
  · obtain ⟨l, hll, hl'⟩ := list_of (Q := fun i (e : Dat) => DatW e ∧ (a.spot = none ∧ a.block < w.heap.size ∧ ∀ j u, (datC e)[j]? = some u → w.cell? ⟨a.block, a.off + i * 9 + j, none⟩ = some u)) len (fun i hil => by
      obtain ⟨cs', y, hc, hy⟩ := hi i hil
      obtain ⟨cs0, _, hc0, _⟩ := hi 0 (by omega)
      rw [hC] at hc hc0
      have lie := cells_lie (by decide) ⟨cs0, hc0⟩ hc
      obtain ⟨d, rfl, h1⟩ := dat_open hy
      exact ⟨d, h1, lie⟩)
    subst hll
    refine ⟨l, some a, cap, rfl, ⟨Nat.le_trans hl hmx, ?_⟩, fun c hc => by
      obtain ⟨k, hk, rfl⟩ := List.getElem_of_mem hc
      exact (hl' k hk).1⟩
    rcases Nat.eq_zero_or_pos l.length with h0 | h0
    · exact .inl (List.length_eq_zero_iff.1 h0)
    · obtain ⟨_, hs, hb, _⟩ := hl' 0 h0
      obtain ⟨b, off, s⟩ := a
      simp only at hs; subst hs
      exact .inr ⟨b, off, rfl, hb, fun k hk => (hl' k hk).2.2.2⟩
theorem open_dats {r : Reach} {b0 : Nat} {v : Value} {dd : DataW H} {pp : List MemPlace} (hv : Value.okWide Try.prog w r b0 24 v) (h : DataW.Trod enc Try.prog w base spare held 24 v dd pp) : ∃ (l : List Dat) (A : Option Addr) (cap : Nat), v = .slice A l.length cap ∧ DatsL w l A ∧ ∀ d ∈ l, DatW d := by
  obtain ⟨a, len, c, rfl⟩ := okWide_slice Try.underlying24 hv
  obtain ⟨fuel, hf⟩ := h
  obtain ⟨l, A, cap, hcs, hr, hw⟩ := dats_open hf
  simp [Value.cells] at hcs
  obtain ⟨rfl, rfl, rfl⟩ := hcs
  exact ⟨l, a, c, rfl, hr, hw⟩
end
end Go.Proofs.Ytgpjiflgocgolaa
