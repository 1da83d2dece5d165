/-
  What a frame hands its walk of an argument that is an expression, a rule, a policy, or several data: plain trees, and where they lie. No condition.
-/
import Derived.Test.YtgeapkjegemkeaaDoorSemMem
import Derived.OpenShut
import Derived.ChangeMaps5
namespace Go.Proofs.YtgeapkjegemkeaaDoor
open Go Go.ChangeShapes Go.WideShapes Go.ChangeAt Go.RowKit Go.Deep Go.Joins
set_option linter.unusedSimpArgs false
set_option linter.unusedVariables false
set_option maxRecDepth 100000

mutual
/-- Numbers of an expression that fit their kinds. -/
def ExW : Ex → Prop
  | .mk _ l _ m _ v => m < 18446744073709551616 ∧ v < 18446744073709551616 ∧ ExsW l
def ExsW : List Ex → Prop
  | [] => True
  | e :: l => ExW e ∧ ExsW l
end
theorem exsW_of : ∀ {l : List Ex}, (∀ k (h : k < l.length), ExW l[k]) → ExsW l
  | [], _ => trivial
  | e :: l, h => ⟨h 0 (by simp), exsW_of fun k hk => h (k + 1) (by simpa using hk)⟩
def RuW (r : Ru) : Prop := ExW r.when_ ∧ r.do_.2 < 18446744073709551616 ∧ ∀ c ∈ r.calls, c.1.size ≤ maxLen ∧ c.2 < 18446744073709551616
def PoW (p : Po) : Prop := p.arch.size ≤ maxLen ∧ p.foreign_.2 < 18446744073709551616 ∧ p.default_.2 < 18446744073709551616 ∧ ∀ r ∈ p.rules, RuW r

theorem list_of {α : Type} {Q : Nat → α → Prop} : ∀ n, (∀ i, i < n → ∃ a, Q i a) → ∃ l : List α, l.length = n ∧ ∀ i (h : i < l.length), Q i l[i]
  | 0, _ => ⟨[], rfl, fun i h => absurd h (by simp)⟩
  | n + 1, h => by
    obtain ⟨a, ha⟩ := h 0 (by omega)
    obtain ⟨l, hl, hq⟩ := list_of (Q := fun i x => Q (i + 1) x) n (fun i hi => h (i + 1) (by omega))
    refine ⟨a :: l, by simp [hl], fun i hi => ?_⟩
    match i, hi with
    | 0, _ => exact ha
    | i + 1, hi => exact hq i (by simpa using hi)
theorem rowL_mk {w : World} {tb : Nat} : ∀ {l : List Ex} {o : Nat}, (∀ k (h : k < l.length), ∃ A cap, ExL w l[k] A cap ∧ ∀ j u, (exC l[k] A cap)[j]? = some u → w.cell? ⟨tb, o + k * 6 + j, none⟩ = some u) → RowL w l tb o
  | [], _, _ => trivial
  | e :: l, o, h => ⟨by
      obtain ⟨A, cap, h1, h2⟩ := h 0 (by simp)
      exact ⟨A, cap, h1, fun j u hj => by have := h2 j u hj; rwa [Nat.zero_mul, Nat.add_zero] at this⟩, rowL_mk fun k hk => by
      obtain ⟨A, cap, h1, h2⟩ := h (k + 1) (by simpa using hk)
      exact ⟨A, cap, h1, fun j u hj => by have := h2 j u hj; rwa [show o + (k + 1) * 6 + j = o + 6 + k * 6 + j by omega] at this⟩⟩
theorem ruRowL_mk {w : World} {tb : Nat} : ∀ {l : List Ru} {o : Nat}, (∀ k (h : k < l.length), ∃ Ac capc A cap, RuL w l[k] Ac A cap ∧ ∀ j u, (ruL l[k] Ac capc A cap)[j]? = some u → w.cell? ⟨tb, o + k * 9 + j, none⟩ = some u) → RuRowL w l tb o
  | [], _, _ => trivial
  | e :: l, o, h => ⟨by
      obtain ⟨Ac, capc, A, cap, h1, h2⟩ := h 0 (by simp)
      exact ⟨Ac, capc, A, cap, h1, fun j u hj => by have := h2 j u hj; rwa [Nat.zero_mul, Nat.add_zero] at this⟩, ruRowL_mk fun k hk => by
      obtain ⟨Ac, capc, A, cap, h1, h2⟩ := h (k + 1) (by simpa using hk)
      exact ⟨Ac, capc, A, cap, h1, fun j u hj => by have := h2 j u hj; rwa [show o + (k + 1) * 9 + j = o + 9 + k * 9 + j by omega] at this⟩⟩
theorem callsC_mk {w : World} {tb : Nat} : ∀ {l : List (ByteArray × Nat)} {o : Nat}, (∀ k (h : k < l.length), ∀ j u, (callC l[k])[j]? = some u → w.cell? ⟨tb, o + k * 2 + j, none⟩ = some u) → ∀ j u, (callsC l)[j]? = some u → w.cell? ⟨tb, o + j, none⟩ = some u
  | [], _, _, j, u, h => by simp [callsC] at h
  | x :: l, o, h, 0, u, hj => by have := h 0 (by simp) 0 u (by simpa [callsC, callC] using hj); rwa [Nat.zero_mul, Nat.add_zero] at this
  | x :: l, o, h, 1, u, hj => by have := h 0 (by simp) 1 u (by simpa [callsC, callC] using hj); rwa [Nat.zero_mul, Nat.add_zero] at this
  | x :: l, o, h, j + 2, u, hj => by
    have := callsC_mk (w := w) (tb := tb) (l := l) (o := o + 2) (fun k hk i v hv => by have := h (k + 1) (by simpa using hk) i v hv; rwa [show o + (k + 1) * 2 + i = o + 2 + k * 2 + i by omega] at this) j u (by simpa [callsC, callC] using hj)
    rwa [show o + 2 + j = o + (j + 2) by omega] at this

theorem list9 {α : Type} {l : List α} (h : l.length = 9) : ∃ c0 c1 c2 c3 c4 c5 c6 c7 c8, l = [c0, c1, c2, c3, c4, c5, c6, c7, c8] := by
  match l, h with
  | [c0, c1, c2, c3, c4, c5, c6, c7, c8], _ => exact ⟨c0, c1, c2, c3, c4, c5, c6, c7, c8, rfl⟩
theorem u32_of {n : Int} (h : (Lit.int .u32 n).wf = true) : 0 ≤ n ∧ n < 4294967296 := by
  have : 0 ≤ n ∧ n ≤ 4294967295 := by simpa [Lit.wf, IntKind.min, IntKind.max, IntKind.bits, IntKind.signed] using h
  omega
theorem u64_of {n : Int} (h : (Lit.int .u64 n).wf = true) : 0 ≤ n ∧ n < 18446744073709551616 := by
  have : 0 ≤ n ∧ n ≤ 18446744073709551615 := by simpa [Lit.wf, IntKind.min, IntKind.max, IntKind.bits, IntKind.signed] using h
  omega
theorem list6 {α : Type} {l : List α} (h : l.length = 6) : ∃ c0 c1 c2 c3 c4 c5, l = [c0, c1, c2, c3, c4, c5] := by
  match l, h with
  | [c0, c1, c2, c3, c4, c5], _ => exact ⟨c0, c1, c2, c3, c4, c5, rfl⟩
theorem list2 {α : Type} {l : List α} (h : l.length = 2) : ∃ c0 c1, l = [c0, c1] := by
  match l, h with
  | [c0, c1], _ => exact ⟨c0, c1, rfl⟩
section
variable {H : Type} {enc : TypeId × Value → H} {w : World} {base : Nat} {spare : Nat → Bool} {held : Bool}
theorem struct_at {P : Program} {t : TypeId} {fs : Array Field} {fuel : Nat} {cs : List Value} {x : DataW H × List MemPlace} (ht : P.underlying t = some (.struct fs)) (h : DataW.trod enc P w base spare held fuel t cs = some x) :
    ∃ n, fuel = n + 1 ∧ cs.length = P.cellsOf t ∧ ∀ (i : Nat) (f : Field), fs[i]? = some f → ∃ y, DataW.trod enc P w base spare held n f.type ((cs.drop f.offset).take (P.cellsOf f.type)) = some y := by
  obtain ⟨xs, n, hn, _, hlen, hxl, hf⟩ := DataW.trod_struct ht h
  refine ⟨n, hn, hlen, fun i f hi => ?_⟩
  have hlt : i < fs.size := (Array.getElem?_eq_some_iff.1 hi).1
  exact ⟨xs[i], by rw [hf i f hi, List.getElem?_eq_getElem (by omega)]⟩
theorem slice_each {P : Program} {t e : TypeId} {fuel : Nat} {cs : List Value} {x : DataW H × List MemPlace} (ht : P.underlying t = some (.slice e)) (h : DataW.trod enc P w base spare held fuel t cs = some x) :
    cs = [.slice none 0 0] ∨ ∃ (a : Addr) (len cap n : Nat), fuel = n + 1 ∧ cs = [.slice (some a) len cap] ∧ len ≤ cap ∧ cap ≤ maxLen ∧
      ∀ i, i < len → ∃ cs' y, w.cells? base (a.add (i * P.cellsOf e)) (P.cellsOf e) = some cs' ∧ DataW.trod enc P w base spare held n e cs' = some y := by
  rcases DataW.trod_slice ht h with h0 | ⟨a, len, cap, elems, rest, n, hf, rfl, _, _, hl, hm, hlen, hel, _, _⟩
  · exact .inl h0.1
  · refine .inr ⟨a, len, cap, n, hf, rfl, hl, hm, fun i hi => ?_⟩
    have key := hel i hi
    rw [List.getElem?_eq_getElem (by omega)] at key
    obtain ⟨cs', h1, h2⟩ := Option.bind_eq_some_iff.1 key
    exact ⟨cs', _, h1, h2⟩
/-- Where an element's cells lie. -/
theorem cells_lie {a : Addr} {i K : Nat} {cs : List Value} (hK : 0 < K) (h00 : ∃ cs0, w.cells? base (a.add (0 * K)) K = some cs0) (h : w.cells? base (a.add (i * K)) K = some cs) : a.spot = none ∧ a.block < w.heap.size ∧ ∀ j u, cs[j]? = some u → w.cell? ⟨a.block, a.off + i * K + j, none⟩ = some u := by
  obtain ⟨_, hlen, hat⟩ := World.cells?_some h
  obtain ⟨cs0, h00⟩ := h00
  obtain ⟨_, hlen0, hat0⟩ := World.cells?_some h00
  obtain ⟨b, o, s⟩ := a
  have h0 := hat0 0 hK
  rw [List.getElem?_eq_getElem (by omega)] at h0
  have hs : s = none := by
    have h1 := World.cell?_spot h0
    rw [Nat.zero_mul] at h1
    exact h1
  subst hs
  have hc : ∀ j u, cs[j]? = some u → w.cell? ⟨b, o + i * K + j, none⟩ = some u := fun j u hj => by
    have := hat j (by rw [← hlen]; exact (List.getElem?_eq_some_iff.1 hj).1)
    rw [hj, addr_add, addr_add] at this
    exact this
  exact ⟨rfl, cell_lt (hc 0 _ (List.getElem?_eq_getElem (by omega))), hc⟩
theorem u64_nat {z : Int} (h : (Lit.int .u64 z).wf = true) : ∃ n : Nat, z = (n : Int) ∧ n < 18446744073709551616 := by
  have := u64_of h
  exact ⟨z.toNat, by omega, by omega⟩
theorem ex_open : ∀ (fuel : Nat) {cs : List Value} {x : DataW H × List MemPlace}, DataW.trod enc Tryd.prog w base spare held fuel 44 cs = some x → ∃ (e : Ex) (A : Option Addr) (cap : Nat), cs = exC e A cap ∧ ExL w e A cap ∧ ExW e := fun fuel cs x h => by
  obtain ⟨n, hn, hlen, hf⟩ := struct_at Tryd.underlying44 h
  have hC : Tryd.prog.cellsOf 44 = 6 := by kernel_rfl
  obtain ⟨c0, c1, c2, c3, c4, c5, rfl⟩ := list6 (hlen.trans hC)
  obtain ⟨y0, f0⟩ := hf 0 _ rfl
  obtain ⟨y1, f1⟩ := hf 1 _ rfl
  obtain ⟨y2, f2⟩ := hf 2 _ rfl
  obtain ⟨y3, f3⟩ := hf 3 _ rfl
  obtain ⟨y4, f4⟩ := hf 4 _ rfl
  obtain ⟨y5, f5⟩ := hf 5 _ rfl
  have k0 : Tryd.prog.cellsOf 40 = 1 := by kernel_rfl
  have k1 : Tryd.prog.cellsOf 41 = 1 := by kernel_rfl
  have k2 : Tryd.prog.cellsOf 3 = 1 := by kernel_rfl
  have k3 : Tryd.prog.cellsOf 23 = 1 := by kernel_rfl
  have k4 : Tryd.prog.cellsOf 42 = 1 := by kernel_rfl
  simp only [k0, k1, k2, k3, k4, List.getElem_toArray, List.getElem_cons_zero, List.getElem_cons_succ, List.drop_zero, List.drop_succ_cons, List.take_succ_cons, List.take_zero] at f0 f1 f2 f3 f4 f5
  obtain ⟨o, e0, _, w0⟩ := DataW.trod_int Tryd.underlying40 f0
  obtain ⟨fd, e2, _, w2⟩ := DataW.trod_int Tryd.underlying3 f2
  obtain ⟨m', e3, _, w3⟩ := DataW.trod_int Tryd.underlying23 f3
  obtain ⟨rl, e4, _, w4⟩ := DataW.trod_int Tryd.underlying42 f4
  obtain ⟨v', e5, _, w5⟩ := DataW.trod_int Tryd.underlying23 f5
  obtain ⟨m, rfl, hm64⟩ := u64_nat w3
  obtain ⟨v, rfl, hv64⟩ := u64_nat w5
  simp only [List.cons.injEq, and_true] at e0 e2 e3 e4 e5
  subst e0; subst e2; subst e3; subst e4; subst e5
  rcases slice_each Tryd.underlying41 f1 with e1 | ⟨a, len, cap, n', hn', e1, hl, hmx, hi⟩
  · simp only [List.cons.injEq, and_true] at e1
    subst e1
    exact ⟨.mk o [] fd m rl v, none, 0, rfl, ⟨Nat.zero_le _, .inl rfl⟩, hm64, hv64, trivial⟩
  · simp only [List.cons.injEq, and_true] at e1
    subst e1
    obtain ⟨l, hll, hl'⟩ := list_of (Q := fun i (e : Ex) => ∃ A cap, (ExL w e A cap ∧ ExW e) ∧ (a.spot = none ∧ a.block < w.heap.size ∧ ∀ j u, (exC e A cap)[j]? = some u → w.cell? ⟨a.block, a.off + i * 6 + j, none⟩ = some u)) len (fun i hil => by
      obtain ⟨cs', y, hc, hy⟩ := hi i hil
      obtain ⟨cs0, _, hc0, _⟩ := hi 0 (by omega)
      rw [hC] at hc hc0
      have lie := cells_lie (by decide) ⟨cs0, hc0⟩ hc
      obtain ⟨e, A, cap, rfl, h1, h2⟩ := ex_open n' hy
      exact ⟨e, A, cap, ⟨h1, h2⟩, lie⟩)
    subst hll
    refine ⟨.mk o l fd m rl v, some a, cap, rfl, ⟨Nat.le_trans hl hmx, ?_⟩, hm64, hv64, exsW_of fun k hk => by obtain ⟨_, _, h, _⟩ := hl' k hk; exact h.2⟩
    rcases Nat.eq_zero_or_pos l.length with h0 | h0
    · exact .inl (List.length_eq_zero_iff.1 h0)
    · obtain ⟨_, _, _, hs, hb, _⟩ := hl' 0 h0
      obtain ⟨b, off, s⟩ := a
      simp only at hs; subst hs
      exact .inr ⟨b, off, rfl, hb, rowL_mk fun k hk => by obtain ⟨A, c, h, _, _, hc⟩ := hl' k hk; exact ⟨A, c, h.1, hc⟩⟩
termination_by fuel => fuel
decreasing_by omega
theorem calls_open {fuel : Nat} {cs : List Value} {x : DataW H × List MemPlace} (h : DataW.trod enc Tryd.prog w base spare held fuel 39 cs = some x) :
    ∃ (l : List (ByteArray × Nat)) (A : Option Addr) (cap : Nat), cs = [.slice A l.length cap] ∧ CallsL w l A ∧ ∀ c ∈ l, c.1.size ≤ maxLen ∧ c.2 < 18446744073709551616 := by
  have hC : Tryd.prog.cellsOf 100 = 2 := by kernel_rfl
  rcases slice_each Tryd.underlying39 h with rfl | ⟨a, len, cap, n', hn', rfl, hl, hmx, hi⟩
  · exact ⟨[], none, 0, rfl, ⟨Nat.zero_le _, .inl rfl⟩, fun c hc => absurd hc (by simp)⟩
  · obtain ⟨l, hll, hl'⟩ := list_of (Q := fun i (e : ByteArray × Nat) => (e.1.size ≤ maxLen ∧ e.2 < 18446744073709551616) ∧ (a.spot = none ∧ a.block < w.heap.size ∧ ∀ j u, (callC e)[j]? = some u → w.cell? ⟨a.block, a.off + i * 2 + j, none⟩ = some u)) len (fun i hil => by
      obtain ⟨cs', y, hc, hy⟩ := hi i hil
      obtain ⟨cs0, _, hc0, _⟩ := hi 0 (by omega)
      rw [hC] at hc hc0
      have lie := cells_lie (by decide) ⟨cs0, hc0⟩ hc
      obtain ⟨n, hn, hlen, hf⟩ := struct_at Tryd.underlying100 hy
      obtain ⟨c0, c1, rfl⟩ := list2 (hlen.trans hC)
      obtain ⟨y0, f0⟩ := hf 0 _ rfl
      obtain ⟨y1, f1⟩ := hf 1 _ rfl
      have k0 : Tryd.prog.cellsOf 9 = 1 := by kernel_rfl
      have k1 : Tryd.prog.cellsOf 23 = 1 := by kernel_rfl
      simp only [k0, k1, List.getElem_toArray, List.getElem_cons_zero, List.getElem_cons_succ, List.drop_zero, List.drop_succ_cons, List.take_succ_cons, List.take_zero] at f0 f1
      obtain ⟨s, e0, _, w0⟩ := DataW.trod_string Tryd.underlying9 f0
      obtain ⟨m', e1, _, w1⟩ := DataW.trod_int Tryd.underlying23 f1
      obtain ⟨m, rfl, hm64⟩ := u64_nat w1
      simp only [List.cons.injEq, and_true] at e0 e1
      subst e0; subst e1
      exact ⟨(s, m), ⟨w0, hm64⟩, lie⟩)
    subst hll
    refine ⟨l, some a, cap, rfl, ⟨Nat.le_trans hl hmx, ?_⟩, fun c hc => by
      obtain ⟨k, hk, rfl⟩ := List.getElem_of_mem hc
      exact (hl' k hk).1⟩
    rcases Nat.eq_zero_or_pos l.length with h0 | h0
    · exact .inl (List.length_eq_zero_iff.1 h0)
    · obtain ⟨_, hs, hb, _⟩ := hl' 0 h0
      obtain ⟨b, off, s⟩ := a
      simp only at hs; subst hs
      exact .inr ⟨b, off, rfl, hb, callsC_mk fun k hk => (hl' k hk).2.2.2⟩
theorem verd_open {fuel : Nat} {cs : List Value} {x : DataW H × List MemPlace} (h : DataW.trod enc Tryd.prog w base spare held fuel 25 cs = some x) : ∃ (k : Int) (d : Nat), cs = [.int .i64 k, .int .u64 (d : Int)] ∧ d < 18446744073709551616 := by
  have hC : Tryd.prog.cellsOf 25 = 2 := by kernel_rfl
  obtain ⟨n, hn, hlen, hf⟩ := struct_at Tryd.underlying25 h
  obtain ⟨c0, c1, rfl⟩ := list2 (hlen.trans hC)
  obtain ⟨y0, f0⟩ := hf 0 _ rfl
  obtain ⟨y1, f1⟩ := hf 1 _ rfl
  have k0 : Tryd.prog.cellsOf 22 = 1 := by kernel_rfl
  have k1 : Tryd.prog.cellsOf 23 = 1 := by kernel_rfl
  simp only [k0, k1, List.getElem_toArray, List.getElem_cons_zero, List.getElem_cons_succ, List.drop_zero, List.drop_succ_cons, List.take_succ_cons, List.take_zero] at f0 f1
  obtain ⟨k, e0, _, w0⟩ := DataW.trod_int Tryd.underlying22 f0
  obtain ⟨m', e1, _, w1⟩ := DataW.trod_int Tryd.underlying23 f1
  obtain ⟨m, rfl, hm64⟩ := u64_nat w1
  simp only [List.cons.injEq, and_true] at e0 e1
  subst e0; subst e1
  exact ⟨k, m, rfl, hm64⟩
theorem ru_open {fuel : Nat} {cs : List Value} {x : DataW H × List MemPlace} (h : DataW.trod enc Tryd.prog w base spare held fuel 46 cs = some x) :
    ∃ (r : Ru) (Ac : Option Addr) (capc : Nat) (A : Option Addr) (cap : Nat), cs = ruL r Ac capc A cap ∧ RuL w r Ac A cap ∧ RuW r := by
  have hC : Tryd.prog.cellsOf 46 = 9 := by kernel_rfl
  obtain ⟨n, hn, hlen, hf⟩ := struct_at Tryd.underlying46 h
  obtain ⟨c0, c1, c2, c3, c4, c5, c6, c7, c8, rfl⟩ := list9 (hlen.trans hC)
  obtain ⟨y0, f0⟩ := hf 0 _ rfl
  obtain ⟨y1, f1⟩ := hf 1 _ rfl
  obtain ⟨y2, f2⟩ := hf 2 _ rfl
  have k0 : Tryd.prog.cellsOf 39 = 1 := by kernel_rfl
  have k1 : Tryd.prog.cellsOf 44 = 6 := by kernel_rfl
  have k2 : Tryd.prog.cellsOf 25 = 2 := by kernel_rfl
  simp only [k0, k1, k2, List.getElem_toArray, List.getElem_cons_zero, List.getElem_cons_succ, List.drop_zero, List.drop_succ_cons, List.take_succ_cons, List.take_zero] at f0 f1 f2
  obtain ⟨cl, Ac, capc, e0, g0, g1⟩ := calls_open f0
  obtain ⟨e, A, cap, e1, g2, g3⟩ := ex_open n f1
  obtain ⟨k, d, e2, g4⟩ := verd_open f2
  simp only [List.cons.injEq, and_true, exC] at e0 e1 e2
  obtain ⟨rfl, rfl, rfl, rfl, rfl, rfl⟩ := e1
  obtain ⟨rfl, rfl⟩ := e2
  subst e0
  exact ⟨⟨cl, e, (k, d)⟩, Ac, capc, A, cap, rfl, ⟨g0, g2⟩, g3, g4, g1⟩
theorem rules_open {fuel : Nat} {cs : List Value} {x : DataW H × List MemPlace} (h : DataW.trod enc Tryd.prog w base spare held fuel 26 cs = some x) :
    ∃ (l : List Ru) (A : Option Addr) (cap : Nat), cs = [.slice A l.length cap] ∧ RulesL w l A ∧ ∀ r ∈ l, RuW r := by
  have hC : Tryd.prog.cellsOf 46 = 9 := by kernel_rfl
  rcases slice_each Tryd.underlying26 h with rfl | ⟨a, len, cap, n', hn', rfl, hl, hmx, hi⟩
  · exact ⟨[], none, 0, rfl, ⟨Nat.zero_le _, .inl rfl⟩, fun c hc => absurd hc (by simp)⟩
  · obtain ⟨l, hll, hl'⟩ := list_of (Q := fun i (e : Ru) => ∃ Ac capc A cap, (RuL w e Ac A cap ∧ RuW e) ∧ (a.spot = none ∧ a.block < w.heap.size ∧ ∀ j u, (ruL e Ac capc A cap)[j]? = some u → w.cell? ⟨a.block, a.off + i * 9 + j, none⟩ = some u)) len (fun i hil => by
      obtain ⟨cs', y, hc, hy⟩ := hi i hil
      obtain ⟨cs0, _, hc0, _⟩ := hi 0 (by omega)
      rw [hC] at hc hc0
      have lie := cells_lie (by decide) ⟨cs0, hc0⟩ hc
      obtain ⟨r, Ac, capc, A, cap, rfl, h1, h2⟩ := ru_open hy
      exact ⟨r, Ac, capc, A, cap, ⟨h1, h2⟩, lie⟩)
    subst hll
    refine ⟨l, some a, cap, rfl, ⟨Nat.le_trans hl hmx, ?_⟩, fun c hc => by
      obtain ⟨k, hk, rfl⟩ := List.getElem_of_mem hc
      obtain ⟨_, _, _, _, h, _⟩ := hl' k hk
      exact h.2⟩
    rcases Nat.eq_zero_or_pos l.length with h0 | h0
    · exact .inl (List.length_eq_zero_iff.1 h0)
    · obtain ⟨_, _, _, _, _, hs, hb, _⟩ := hl' 0 h0
      obtain ⟨b, off, s⟩ := a
      simp only at hs; subst hs
      exact .inr ⟨b, off, rfl, hb, ruRowL_mk fun k hk => by obtain ⟨Ac, cc, A, c, h, _, _, hc⟩ := hl' k hk; exact ⟨Ac, cc, A, c, h.1, hc⟩⟩
/-- A policy's six cells. -/
def poC (p : Po) (A : Option Addr) (cap : Nat) : List Value := [.string p.arch, .int .i64 p.foreign_.1, .int .u64 (p.foreign_.2 : Int), .int .i64 p.default_.1, .int .u64 (p.default_.2 : Int), .slice A p.rules.length cap]
abbrev poA (p : Po) (A : Option Addr) (cap : Nat) : Value := .agg #[.string p.arch, .int .i64 p.foreign_.1, .int .u64 (p.foreign_.2 : Int), .int .i64 p.default_.1, .int .u64 (p.default_.2 : Int), .slice A p.rules.length cap]
theorem po_open {fuel : Nat} {cs : List Value} {x : DataW H × List MemPlace} (h : DataW.trod enc Tryd.prog w base spare held fuel 28 cs = some x) :
    ∃ (p : Po) (A : Option Addr) (cap : Nat), cs = poC p A cap ∧ RulesL w p.rules A ∧ PoW p := by
  have hC : Tryd.prog.cellsOf 28 = 6 := by kernel_rfl
  obtain ⟨n, hn, hlen, hf⟩ := struct_at Tryd.underlying28 h
  obtain ⟨c0, c1, c2, c3, c4, c5, rfl⟩ := list6 (hlen.trans hC)
  obtain ⟨y0, f0⟩ := hf 0 _ rfl
  obtain ⟨y1, f1⟩ := hf 1 _ rfl
  obtain ⟨y2, f2⟩ := hf 2 _ rfl
  obtain ⟨y3, f3⟩ := hf 3 _ rfl
  have k0 : Tryd.prog.cellsOf 9 = 1 := by kernel_rfl
  have k1 : Tryd.prog.cellsOf 25 = 2 := by kernel_rfl
  have k2 : Tryd.prog.cellsOf 26 = 1 := by kernel_rfl
  simp only [k0, k1, k2, List.getElem_toArray, List.getElem_cons_zero, List.getElem_cons_succ, List.drop_zero, List.drop_succ_cons, List.take_succ_cons, List.take_zero] at f0 f1 f2 f3
  obtain ⟨s, e0, _, w0⟩ := DataW.trod_string Tryd.underlying9 f0
  obtain ⟨fk, fn, e1, g1⟩ := verd_open f1
  obtain ⟨dk, dn, e2, g2⟩ := verd_open f2
  obtain ⟨l, A, cap, e3, g3, g4⟩ := rules_open f3
  simp only [List.cons.injEq, and_true] at e0 e1 e2 e3
  obtain ⟨rfl, rfl⟩ := e1
  obtain ⟨rfl, rfl⟩ := e2
  subst e0; subst e3
  exact ⟨⟨s, (fk, fn), (dk, dn), l⟩, A, cap, rfl, g3, w0, g1, g2, g4⟩
/-- Data's nine cells. -/
def datC (d : Dat) : List Value := [.int .u32 (d.nr : Int), .int .u32 (d.arch : Int), .int .u64 (d.ip : Int), .int .u64 (d.args 0 : Int), .int .u64 (d.args 1 : Int), .int .u64 (d.args 2 : Int), .int .u64 (d.args 3 : Int), .int .u64 (d.args 4 : Int), .int .u64 (d.args 5 : Int)]
def DatW (d : Dat) : Prop := d.nr < 4294967296 ∧ d.arch < 4294967296 ∧ d.ip < 18446744073709551616 ∧ ∀ i, d.args i < 18446744073709551616
theorem u32_nat {z : Int} (h : (Lit.int .u32 z).wf = true) : ∃ n : Nat, z = (n : Int) ∧ n < 4294967296 := by
  have := u32_of h
  exact ⟨z.toNat, by omega, by omega⟩
theorem dat_open {fuel : Nat} {cs : List Value} {x : DataW H × List MemPlace} (h : DataW.trod enc Tryd.prog w base spare held fuel 32 cs = some x) : ∃ d : Dat, cs = datC d ∧ DatW d := by
  have hC : Tryd.prog.cellsOf 32 = 9 := by kernel_rfl
  have k32 : Tryd.prog.cellsOf 29 = 1 := by kernel_rfl
  have k64 : Tryd.prog.cellsOf 23 = 1 := by kernel_rfl
  have k6 : Tryd.prog.cellsOf 30 = 6 := by kernel_rfl
  obtain ⟨n, hn, hlen, hf⟩ := struct_at Tryd.underlying32 h
  obtain ⟨c0, c1, c2, c3, c4, c5, c6, c7, c8, rfl⟩ := list9 (hlen.trans hC)
  obtain ⟨y0, h0⟩ := hf 0 _ rfl
  obtain ⟨y1, h1⟩ := hf 1 _ rfl
  obtain ⟨y2, h2⟩ := hf 2 _ rfl
  obtain ⟨y3, h3⟩ := hf 3 _ rfl
  simp only [k32, k64, k6, List.getElem_toArray, List.getElem_cons_zero, List.getElem_cons_succ, List.drop_zero, List.drop_succ_cons, List.take_succ_cons, List.take_zero] at h0 h1 h2 h3
  obtain ⟨nr, e0, _, w0⟩ := DataW.trod_int Tryd.underlying29 h0
  obtain ⟨arch, e1, _, w1⟩ := DataW.trod_int Tryd.underlying29 h1
  obtain ⟨ip, e2, _, w2⟩ := DataW.trod_int Tryd.underlying23 h2
  obtain ⟨xs, m, _, _, _, hn, hi⟩ := DataW.trod_array Tryd.underlying30 h3
  have each : ∀ i c, i < 6 → (([c3, c4, c5, c6, c7, c8].drop (i * 1)).take 1) = [c] → ∃ z : Nat, c = .int .u64 (z : Int) ∧ z < 18446744073709551616 := fun i c hi6 hc => by
    have g := hi i hi6
    rw [k64, hc, List.getElem?_eq_getElem (by omega)] at g
    obtain ⟨z, e, _, wz⟩ := DataW.trod_int Tryd.underlying23 g
    obtain ⟨z', rfl, hz⟩ := u64_nat wz
    exact ⟨z', by simpa using e, hz⟩
  obtain ⟨z0, rfl, x0⟩ := each 0 c3 (by decide) rfl
  obtain ⟨z1, rfl, x1⟩ := each 1 c4 (by decide) rfl
  obtain ⟨z2, rfl, x2⟩ := each 2 c5 (by decide) rfl
  obtain ⟨z3, rfl, x3⟩ := each 3 c6 (by decide) rfl
  obtain ⟨z4, rfl, x4⟩ := each 4 c7 (by decide) rfl
  obtain ⟨z5, rfl, x5⟩ := each 5 c8 (by decide) rfl
  obtain ⟨nr, rfl, hnr⟩ := u32_nat w0
  obtain ⟨arch, rfl, harch⟩ := u32_nat w1
  obtain ⟨ip, rfl, hip⟩ := u64_nat w2
  simp only [List.cons.injEq, and_true] at e0 e1 e2
  subst e0; subst e1; subst e2
  refine ⟨⟨nr, arch, ip, fun i => match i with | 0 => z0 | 1 => z1 | 2 => z2 | 3 => z3 | 4 => z4 | 5 => z5 | _ => 0⟩, rfl, hnr, harch, hip, fun i => ?_⟩
  match i with
  | 0 => exact x0
  | 1 => exact x1
  | 2 => exact x2
  | 3 => exact x3
  | 4 => exact x4
  | 5 => exact x5
  | _ + 6 => show (0 : Nat) < 18446744073709551616; decide
/-- Several data. -/
def DatsL (w : World) (l : List Dat) (A : Option Addr) : Prop := l.length ≤ maxLen ∧ (l = [] ∨ ∃ tb o, A = some ⟨tb, o, none⟩ ∧ tb < w.heap.size ∧ ∀ k (h : k < l.length), ∀ j u, (datC l[k])[j]? = some u → w.cell? ⟨tb, o + k * 9 + j, none⟩ = some u)
theorem DatsL.below {w w' : World} {l : List Dat} {A : Option Addr} (h : DatsL w l A) (hb : Below w.heap.size w w') : DatsL w' l A := by
  refine ⟨h.1, ?_⟩
  rcases h.2 with h | ⟨tb, o, hA, ht, hc⟩
  · exact .inl h
  · exact .inr ⟨tb, o, hA, Nat.lt_of_lt_of_le ht hb.size, fun k hk j u hj => (World.cell?_of_block (a := ⟨tb, o + k * 9 + j, none⟩) (hb.block tb ht)).trans (hc k hk j u hj)⟩
end
end Go.Proofs.YtgeapkjegemkeaaDoor
