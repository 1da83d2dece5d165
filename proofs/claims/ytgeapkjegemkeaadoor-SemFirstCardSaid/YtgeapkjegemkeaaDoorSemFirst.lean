/-
  'SemFirst': for every policy, place, and two data, the law of layer 7 that a rule behind one that has all its calls and holds always changes nothing, nor data that nobody looks at, returns true, and leaves memory as it was. Condition: the table of the kinds reads as the program's text lays it (the card ties it).
-/
import Derived.Test.YtgeapkjegemkeaaDoorSemFst
import Derived.Test.YtgeapkjegemkeaaDoorGSemEnd
import Derived.Test.YtgeapkjegemkeaaDoorCards
import Derived.SevenTiedAt
import Derived.Deep.Cut
import Derived.OwnWalk
namespace Go.Proofs.YtgeapkjegemkeaaDoor.semFirst
open Go Go.ChangeShapes Go.WideShapes Go.ChangeAt Go.RowKit
set_option linter.unusedSimpArgs false
set_option linter.unusedVariables false

theorem own_form7 {w : World} {lo : Nat} {e : TypeId} {sz : Nat} {v : Value} {n : Nat} {xs : List Value} (h : w.ownsRow lo e sz v n xs) : ∃ A c, v = .slice A n c := by
  obtain ⟨_, h⟩ := h
  rcases h with ⟨rfl, rfl⟩ | ⟨g, cap, cur, rfl, _⟩
  · exact ⟨_, _, rfl⟩
  · exact ⟨_, _, rfl⟩
abbrev firO (p : Po) (A : Option Addr) (cap : Nat) (n : Int) (d e : Dat) : Obj := .cells #[.string p.arch, .int .i64 p.foreign_.1, .int .u64 (p.foreign_.2 : Int), .int .i64 p.default_.1, .int .u64 (p.default_.2 : Int), .slice A p.rules.length cap, .int .i64 n,
  .int .u32 (d.nr : Int), .int .u32 (d.arch : Int), .int .u64 (d.ip : Int), .int .u64 (d.args 0 : Int), .int .u64 (d.args 1 : Int), .int .u64 (d.args 2 : Int), .int .u64 (d.args 3 : Int), .int .u64 (d.args 4 : Int), .int .u64 (d.args 5 : Int),
  .int .u32 (e.nr : Int), .int .u32 (e.arch : Int), .int .u64 (e.ip : Int), .int .u64 (e.args 0 : Int), .int .u64 (e.args 1 : Int), .int .u64 (e.args 2 : Int), .int .u64 (e.args 3 : Int), .int .u64 (e.args 4 : Int), .int .u64 (e.args 5 : Int)] 34
theorem po_cells_a {W : World} {b : Nat} {p : Po} {A : Option Addr} {cap : Nat} (h : W.heap[b]? = some (poO7 p A cap)) :
    (∀ o, (W.alloc o).cell? ⟨b, 0, none⟩ = some (.string p.arch)) ∧ (∀ o, (W.alloc o).cell? ⟨b, 1, none⟩ = some (.int .i64 p.foreign_.1)) ∧ (∀ o, (W.alloc o).cell? ⟨b, 2, none⟩ = some (.int .u64 (p.foreign_.2 : Int))) ∧ (∀ o, (W.alloc o).cell? ⟨b, 3, none⟩ = some (.int .i64 p.default_.1)) ∧ (∀ o, (W.alloc o).cell? ⟨b, 4, none⟩ = some (.int .u64 (p.default_.2 : Int))) ∧ (∀ o, (W.alloc o).cell? ⟨b, 5, none⟩ = some (.slice A p.rules.length cap)) :=
  ⟨fun o => cell6 (kept_alloc h o) 0 rfl, fun o => cell6 (kept_alloc h o) 1 rfl, fun o => cell6 (kept_alloc h o) 2 rfl, fun o => cell6 (kept_alloc h o) 3 rfl, fun o => cell6 (kept_alloc h o) 4 rfl, fun o => cell6 (kept_alloc h o) 5 rfl⟩
theorem chunksN_one {W0 w : World} {F : Nat → Prop} : ∀ {l : List Ru} {xs : List Value}, ChunksN W0 w F l xs → ∀ u ∈ xs, u.oneCell' = true
  | [], xs, h, u, hu => by
    have : xs = [] := h
    rw [this] at hu; exact absurd hu (by simp)
  | r :: l, xs, ⟨Ac, c, A, cap, ys, _, _, h3, h4⟩, u, hu => by
    rw [h3] at hu
    rcases List.mem_append.1 hu with g | g
    · exact ruL_one u g
    · exact chunksN_one h4 u g
theorem rules2 {W0 W : World} {p : Po} {l : List Ru} {v : Value} {xs : List Value} (h : BuiltF W0 W p l v xs) (h0 : 0 < l.length) : ∃ tb cap, v = .slice (some ⟨tb, 0, none⟩) l.length cap ∧ l.length ≤ cap ∧ (W0.heap.size < tb ∧ tb < W.heap.size) ∧ RulesL W l (some ⟨tb, 0, none⟩) ∧ (∀ j u, xs[j]? = some u → W.cell? ⟨tb, j, none⟩ = some u) ∧ xs.length = l.length * 9 ∧ ∀ u ∈ xs, u.oneCell' = true := by
  rcases h.own.2 with ⟨hv, h1⟩ | ⟨tb, cap, cur, hv, hlo, hh, hl, hm, hs, ht⟩
  · omega
  · have hc : ∀ j u, xs[j]? = some u → W.cell? ⟨tb, j, none⟩ = some u := fun j u hj => by
      subst hv
      rw [World.ownsRow.cellAt h.own j (by rw [← h.own.1]; exact (List.getElem?_eq_some_iff.1 hj).1)]
      exact hj
    refine ⟨tb, cap, hv, hl, ⟨by omega, (Array.getElem?_eq_some_iff.1 hh).1⟩, ⟨by omega, .inr ⟨tb, 0, rfl, (Array.getElem?_eq_some_iff.1 hh).1, ?_⟩⟩, hc, h.own.1, chunksN_one h.chunks⟩
    exact h.chunks.row h.below (fun j u hj => by rw [Nat.zero_add]; exact hc j u hj)
theorem eval_at {p : Po} {rs : List Ru} {m : Nat} (hm : m = rs.length) (d : Dat) (A : Option Addr) (cap : Nat) (V : World) (hr : RulesL V rs A) (ht : Tab V) :
    Calls Tryd.prog 6 #[.agg #[.string p.arch, .int .i64 p.foreign_.1, .int .u64 (p.foreign_.2 : Int), .int .i64 p.default_.1, .int .u64 (p.default_.2 : Int), .slice A m cap], datV d] V fun e' w' => e' = .returned (.int .u32 (evalF ⟨p.arch, p.foreign_, p.default_, rs⟩ d : Int)) ∧ Below V.heap.size V w' := by
  subst hm
  exact p_Eval7 ⟨p.arch, p.foreign_, p.default_, rs⟩ d A cap V hr ht
abbrev aheadO (r : Ru) (Ac : Option Addr) (capc : Nat) : Obj := .cells #[.slice Ac r.calls.length capc, .int .i64 1, .slice none 0 0, .int .i64 0, .int .u64 0, .int .i64 0, .int .u64 0, .int .i64 r.do_.1, .int .u64 (r.do_.2 : Int)] 46
theorem ahead_cells {w : World} {b : Nat} {r : Ru} {Ac : Option Addr} {capc : Nat} (h : w.heap[b]? = some (aheadO r Ac capc)) :
    w.cell? ⟨b, 0, none⟩ = some (.slice Ac r.calls.length capc) ∧ w.cell? ⟨b, 1, none⟩ = some (.int .i64 1) ∧ w.cell? ⟨b, 2, none⟩ = some (.slice none 0 0) ∧ w.cell? ⟨b, 3, none⟩ = some (.int .i64 0) ∧ w.cell? ⟨b, 4, none⟩ = some (.int .u64 0) ∧ w.cell? ⟨b, 5, none⟩ = some (.int .i64 0) ∧ w.cell? ⟨b, 6, none⟩ = some (.int .u64 0) ∧ w.cell? ⟨b, 7, none⟩ = some (.int .i64 r.do_.1) ∧ w.cell? ⟨b, 8, none⟩ = some (.int .u64 (r.do_.2 : Int)) :=
  ⟨cell6 h 0 rfl, cell6 h 1 rfl, cell6 h 2 rfl, cell6 h 3 rfl, cell6 h 4 rfl, cell6 h 5 rfl, cell6 h 6 rfl, cell6 h 7 rfl, cell6 h 8 rfl⟩
theorem ahead_frozen {w : World} {b : Nat} {r : Ru} {Ac : Option Addr} {capc : Nat} (h : w.heap[b]? = some (aheadO r Ac capc)) : ∀ i, w.frozen? ⟨b, i, none⟩ = false := fun i => frozen6 h i
abbrev put9W (W : World) (b : Nat) (r : Ru) (Ac : Option Addr) (capc : Nat) (A : Option Addr) (cap : Nat) : World := (((((((((W.setCell ⟨b, 0, none⟩ (.slice Ac r.calls.length capc)).setCell ⟨b, 1, none⟩ (.int .i64 r.when_.op)).setCell ⟨b, 2, none⟩ (.slice A r.when_.args.length cap)).setCell ⟨b, 3, none⟩ (.int .i64 r.when_.field)).setCell ⟨b, 4, none⟩ (.int .u64 (r.when_.mask : Int))).setCell ⟨b, 5, none⟩ (.int .i64 r.when_.rel)).setCell ⟨b, 6, none⟩ (.int .u64 (r.when_.value : Int))).setCell ⟨b, 7, none⟩ (.int .i64 r.do_.1)).setCell ⟨b, 8, none⟩ (.int .u64 (r.do_.2 : Int)))
theorem put9 {W0 W : World} {p : Po} {l : List Ru} {v : Value} {xs : List Value} {b : Nat} {r : Ru} {Ac : Option Addr} {capc : Nat} (A : Option Addr) (cap : Nat) (h : BuiltF W0 W p l v xs) (hx : W.heap[b]? = some (aheadO r Ac capc)) (hb : W0.heap.size < b) (hn : some b ≠ v.ownBlock) :
    BuiltF W0 (put9W W b r Ac capc A cap) p l v xs ∧ (put9W W b r Ac capc A cap).heap[b]? = some (ruO7 r Ac capc A cap) := by
  have b0 := BuiltF.set (W := W) h hb hn 0 (.slice Ac r.calls.length capc)
  have x0 : (W.setCell ⟨b, 0, none⟩ (.slice Ac r.calls.length capc)).heap[b]? = some (.cells #[.slice Ac r.calls.length capc, .int .i64 1, .slice none 0 0, .int .i64 0, .int .u64 0, .int .i64 0, .int .u64 0, .int .i64 r.do_.1, .int .u64 (r.do_.2 : Int)] 46) := heap_set1 hx 0 (.slice Ac r.calls.length capc)
  have b1 := BuiltF.set (W := (W.setCell ⟨b, 0, none⟩ (.slice Ac r.calls.length capc))) b0 hb hn 1 (.int .i64 r.when_.op)
  have x1 : ((W.setCell ⟨b, 0, none⟩ (.slice Ac r.calls.length capc)).setCell ⟨b, 1, none⟩ (.int .i64 r.when_.op)).heap[b]? = some (.cells #[.slice Ac r.calls.length capc, .int .i64 r.when_.op, .slice none 0 0, .int .i64 0, .int .u64 0, .int .i64 0, .int .u64 0, .int .i64 r.do_.1, .int .u64 (r.do_.2 : Int)] 46) := heap_set1 x0 1 (.int .i64 r.when_.op)
  have b2 := BuiltF.set (W := ((W.setCell ⟨b, 0, none⟩ (.slice Ac r.calls.length capc)).setCell ⟨b, 1, none⟩ (.int .i64 r.when_.op))) b1 hb hn 2 (.slice A r.when_.args.length cap)
  have x2 : (((W.setCell ⟨b, 0, none⟩ (.slice Ac r.calls.length capc)).setCell ⟨b, 1, none⟩ (.int .i64 r.when_.op)).setCell ⟨b, 2, none⟩ (.slice A r.when_.args.length cap)).heap[b]? = some (.cells #[.slice Ac r.calls.length capc, .int .i64 r.when_.op, .slice A r.when_.args.length cap, .int .i64 0, .int .u64 0, .int .i64 0, .int .u64 0, .int .i64 r.do_.1, .int .u64 (r.do_.2 : Int)] 46) := heap_set1 x1 2 (.slice A r.when_.args.length cap)
  have b3 := BuiltF.set (W := (((W.setCell ⟨b, 0, none⟩ (.slice Ac r.calls.length capc)).setCell ⟨b, 1, none⟩ (.int .i64 r.when_.op)).setCell ⟨b, 2, none⟩ (.slice A r.when_.args.length cap))) b2 hb hn 3 (.int .i64 r.when_.field)
  have x3 : ((((W.setCell ⟨b, 0, none⟩ (.slice Ac r.calls.length capc)).setCell ⟨b, 1, none⟩ (.int .i64 r.when_.op)).setCell ⟨b, 2, none⟩ (.slice A r.when_.args.length cap)).setCell ⟨b, 3, none⟩ (.int .i64 r.when_.field)).heap[b]? = some (.cells #[.slice Ac r.calls.length capc, .int .i64 r.when_.op, .slice A r.when_.args.length cap, .int .i64 r.when_.field, .int .u64 0, .int .i64 0, .int .u64 0, .int .i64 r.do_.1, .int .u64 (r.do_.2 : Int)] 46) := heap_set1 x2 3 (.int .i64 r.when_.field)
  have b4 := BuiltF.set (W := ((((W.setCell ⟨b, 0, none⟩ (.slice Ac r.calls.length capc)).setCell ⟨b, 1, none⟩ (.int .i64 r.when_.op)).setCell ⟨b, 2, none⟩ (.slice A r.when_.args.length cap)).setCell ⟨b, 3, none⟩ (.int .i64 r.when_.field))) b3 hb hn 4 (.int .u64 (r.when_.mask : Int))
  have x4 : (((((W.setCell ⟨b, 0, none⟩ (.slice Ac r.calls.length capc)).setCell ⟨b, 1, none⟩ (.int .i64 r.when_.op)).setCell ⟨b, 2, none⟩ (.slice A r.when_.args.length cap)).setCell ⟨b, 3, none⟩ (.int .i64 r.when_.field)).setCell ⟨b, 4, none⟩ (.int .u64 (r.when_.mask : Int))).heap[b]? = some (.cells #[.slice Ac r.calls.length capc, .int .i64 r.when_.op, .slice A r.when_.args.length cap, .int .i64 r.when_.field, .int .u64 (r.when_.mask : Int), .int .i64 0, .int .u64 0, .int .i64 r.do_.1, .int .u64 (r.do_.2 : Int)] 46) := heap_set1 x3 4 (.int .u64 (r.when_.mask : Int))
  have b5 := BuiltF.set (W := (((((W.setCell ⟨b, 0, none⟩ (.slice Ac r.calls.length capc)).setCell ⟨b, 1, none⟩ (.int .i64 r.when_.op)).setCell ⟨b, 2, none⟩ (.slice A r.when_.args.length cap)).setCell ⟨b, 3, none⟩ (.int .i64 r.when_.field)).setCell ⟨b, 4, none⟩ (.int .u64 (r.when_.mask : Int)))) b4 hb hn 5 (.int .i64 r.when_.rel)
  have x5 : ((((((W.setCell ⟨b, 0, none⟩ (.slice Ac r.calls.length capc)).setCell ⟨b, 1, none⟩ (.int .i64 r.when_.op)).setCell ⟨b, 2, none⟩ (.slice A r.when_.args.length cap)).setCell ⟨b, 3, none⟩ (.int .i64 r.when_.field)).setCell ⟨b, 4, none⟩ (.int .u64 (r.when_.mask : Int))).setCell ⟨b, 5, none⟩ (.int .i64 r.when_.rel)).heap[b]? = some (.cells #[.slice Ac r.calls.length capc, .int .i64 r.when_.op, .slice A r.when_.args.length cap, .int .i64 r.when_.field, .int .u64 (r.when_.mask : Int), .int .i64 r.when_.rel, .int .u64 0, .int .i64 r.do_.1, .int .u64 (r.do_.2 : Int)] 46) := heap_set1 x4 5 (.int .i64 r.when_.rel)
  have b6 := BuiltF.set (W := ((((((W.setCell ⟨b, 0, none⟩ (.slice Ac r.calls.length capc)).setCell ⟨b, 1, none⟩ (.int .i64 r.when_.op)).setCell ⟨b, 2, none⟩ (.slice A r.when_.args.length cap)).setCell ⟨b, 3, none⟩ (.int .i64 r.when_.field)).setCell ⟨b, 4, none⟩ (.int .u64 (r.when_.mask : Int))).setCell ⟨b, 5, none⟩ (.int .i64 r.when_.rel))) b5 hb hn 6 (.int .u64 (r.when_.value : Int))
  have x6 : (((((((W.setCell ⟨b, 0, none⟩ (.slice Ac r.calls.length capc)).setCell ⟨b, 1, none⟩ (.int .i64 r.when_.op)).setCell ⟨b, 2, none⟩ (.slice A r.when_.args.length cap)).setCell ⟨b, 3, none⟩ (.int .i64 r.when_.field)).setCell ⟨b, 4, none⟩ (.int .u64 (r.when_.mask : Int))).setCell ⟨b, 5, none⟩ (.int .i64 r.when_.rel)).setCell ⟨b, 6, none⟩ (.int .u64 (r.when_.value : Int))).heap[b]? = some (.cells #[.slice Ac r.calls.length capc, .int .i64 r.when_.op, .slice A r.when_.args.length cap, .int .i64 r.when_.field, .int .u64 (r.when_.mask : Int), .int .i64 r.when_.rel, .int .u64 (r.when_.value : Int), .int .i64 r.do_.1, .int .u64 (r.do_.2 : Int)] 46) := heap_set1 x5 6 (.int .u64 (r.when_.value : Int))
  have b7 := BuiltF.set (W := (((((((W.setCell ⟨b, 0, none⟩ (.slice Ac r.calls.length capc)).setCell ⟨b, 1, none⟩ (.int .i64 r.when_.op)).setCell ⟨b, 2, none⟩ (.slice A r.when_.args.length cap)).setCell ⟨b, 3, none⟩ (.int .i64 r.when_.field)).setCell ⟨b, 4, none⟩ (.int .u64 (r.when_.mask : Int))).setCell ⟨b, 5, none⟩ (.int .i64 r.when_.rel)).setCell ⟨b, 6, none⟩ (.int .u64 (r.when_.value : Int)))) b6 hb hn 7 (.int .i64 r.do_.1)
  have x7 : ((((((((W.setCell ⟨b, 0, none⟩ (.slice Ac r.calls.length capc)).setCell ⟨b, 1, none⟩ (.int .i64 r.when_.op)).setCell ⟨b, 2, none⟩ (.slice A r.when_.args.length cap)).setCell ⟨b, 3, none⟩ (.int .i64 r.when_.field)).setCell ⟨b, 4, none⟩ (.int .u64 (r.when_.mask : Int))).setCell ⟨b, 5, none⟩ (.int .i64 r.when_.rel)).setCell ⟨b, 6, none⟩ (.int .u64 (r.when_.value : Int))).setCell ⟨b, 7, none⟩ (.int .i64 r.do_.1)).heap[b]? = some (.cells #[.slice Ac r.calls.length capc, .int .i64 r.when_.op, .slice A r.when_.args.length cap, .int .i64 r.when_.field, .int .u64 (r.when_.mask : Int), .int .i64 r.when_.rel, .int .u64 (r.when_.value : Int), .int .i64 r.do_.1, .int .u64 (r.do_.2 : Int)] 46) := heap_set1 x6 7 (.int .i64 r.do_.1)
  have b8 := BuiltF.set (W := ((((((((W.setCell ⟨b, 0, none⟩ (.slice Ac r.calls.length capc)).setCell ⟨b, 1, none⟩ (.int .i64 r.when_.op)).setCell ⟨b, 2, none⟩ (.slice A r.when_.args.length cap)).setCell ⟨b, 3, none⟩ (.int .i64 r.when_.field)).setCell ⟨b, 4, none⟩ (.int .u64 (r.when_.mask : Int))).setCell ⟨b, 5, none⟩ (.int .i64 r.when_.rel)).setCell ⟨b, 6, none⟩ (.int .u64 (r.when_.value : Int))).setCell ⟨b, 7, none⟩ (.int .i64 r.do_.1))) b7 hb hn 8 (.int .u64 (r.do_.2 : Int))
  have x8 : (((((((((W.setCell ⟨b, 0, none⟩ (.slice Ac r.calls.length capc)).setCell ⟨b, 1, none⟩ (.int .i64 r.when_.op)).setCell ⟨b, 2, none⟩ (.slice A r.when_.args.length cap)).setCell ⟨b, 3, none⟩ (.int .i64 r.when_.field)).setCell ⟨b, 4, none⟩ (.int .u64 (r.when_.mask : Int))).setCell ⟨b, 5, none⟩ (.int .i64 r.when_.rel)).setCell ⟨b, 6, none⟩ (.int .u64 (r.when_.value : Int))).setCell ⟨b, 7, none⟩ (.int .i64 r.do_.1)).setCell ⟨b, 8, none⟩ (.int .u64 (r.do_.2 : Int))).heap[b]? = some (.cells #[.slice Ac r.calls.length capc, .int .i64 r.when_.op, .slice A r.when_.args.length cap, .int .i64 r.when_.field, .int .u64 (r.when_.mask : Int), .int .i64 r.when_.rel, .int .u64 (r.when_.value : Int), .int .i64 r.do_.1, .int .u64 (r.do_.2 : Int)] 46) := heap_set1 x7 8 (.int .u64 (r.do_.2 : Int))
  exact ⟨b8, x8⟩
theorem put2 {W0 W : World} {p : Po} {l : List Ru} {v : Value} {xs : List Value} {b : Nat} {r : Ru} {Ac : Option Addr} {capc : Nat} {A : Option Addr} {cap : Nat} (h : BuiltF W0 W p l v xs) (hx : W.heap[b]? = some (ruO7 r Ac capc A cap)) (hb : W0.heap.size < b) (hn : some b ≠ v.ownBlock) :
    BuiltF W0 ((W.setCell ⟨b, 7, none⟩ (.int .i64 6)).setCell ⟨b, 8, none⟩ (.int .u64 7)) p l v xs ∧ ((W.setCell ⟨b, 7, none⟩ (.int .i64 6)).setCell ⟨b, 8, none⟩ (.int .u64 7)).heap[b]? = some (ruO7 (behindR r) Ac capc A cap) :=
  ⟨(h.set hb hn 7 _).set hb hn 8 _, heap_set1 (heap_set1 hx 7 _) 8 _⟩
theorem ru7_cells {w : World} {b : Nat} {r : Ru} {Ac : Option Addr} {capc : Nat} {A : Option Addr} {cap : Nat} (h : w.heap[b]? = some (ruO7 r Ac capc A cap)) : RuAt w b 0 r Ac capc A cap := fun j u hj => by
  rw [Nat.zero_add]
  refine cell6 h j ?_
  rw [← List.getElem?_toArray] at hj
  exact hj
theorem ru7_c {w : World} {b : Nat} {r : Ru} {Ac : Option Addr} {capc : Nat} {A : Option Addr} {cap : Nat} (h : w.heap[b]? = some (ruO7 r Ac capc A cap)) :
    w.cell? ⟨b, 0, none⟩ = some (.slice Ac r.calls.length capc) ∧ w.cell? ⟨b, 1, none⟩ = some (.int .i64 r.when_.op) ∧ w.cell? ⟨b, 2, none⟩ = some (.slice A r.when_.args.length cap) ∧ w.cell? ⟨b, 3, none⟩ = some (.int .i64 r.when_.field) ∧ w.cell? ⟨b, 4, none⟩ = some (.int .u64 (r.when_.mask : Int)) ∧ w.cell? ⟨b, 5, none⟩ = some (.int .i64 r.when_.rel) ∧ w.cell? ⟨b, 6, none⟩ = some (.int .u64 (r.when_.value : Int)) ∧ w.cell? ⟨b, 7, none⟩ = some (.int .i64 r.do_.1) ∧ w.cell? ⟨b, 8, none⟩ = some (.int .u64 (r.do_.2 : Int)) :=
  ⟨cell6 h 0 rfl, cell6 h 1 rfl, cell6 h 2 rfl, cell6 h 3 rfl, cell6 h 4 rfl, cell6 h 5 rfl, cell6 h 6 rfl, cell6 h 7 rfl, cell6 h 8 rfl⟩
theorem beh7_c {w : World} {b : Nat} {r : Ru} {Ac : Option Addr} {capc : Nat} {A : Option Addr} {cap : Nat} (h : w.heap[b]? = some (ruO7 (behindR r) Ac capc A cap)) :
    w.cell? ⟨b, 0, none⟩ = some (.slice Ac r.calls.length capc) ∧ w.cell? ⟨b, 1, none⟩ = some (.int .i64 r.when_.op) ∧ w.cell? ⟨b, 2, none⟩ = some (.slice A r.when_.args.length cap) ∧ w.cell? ⟨b, 3, none⟩ = some (.int .i64 r.when_.field) ∧ w.cell? ⟨b, 4, none⟩ = some (.int .u64 (r.when_.mask : Int)) ∧ w.cell? ⟨b, 5, none⟩ = some (.int .i64 r.when_.rel) ∧ w.cell? ⟨b, 6, none⟩ = some (.int .u64 (r.when_.value : Int)) ∧ w.cell? ⟨b, 7, none⟩ = some (.int .i64 6) ∧ w.cell? ⟨b, 8, none⟩ = some (.int .u64 7) :=
  ⟨cell6 h 0 rfl, cell6 h 1 rfl, cell6 h 2 rfl, cell6 h 3 rfl, cell6 h 4 rfl, cell6 h 5 rfl, cell6 h 6 rfl, cell6 h 7 rfl, cell6 h 8 rfl⟩
theorem set_size7 (w : World) (b i : Nat) (u : Value) : (w.setCell ⟨b, i, none⟩ u).heap.size = w.heap.size := by simp [World.setCell]
theorem callsF_up {W0 W : World} {l : List (ByteArray × Nat)} {A : Option Addr} (h : CallsL W0 l A) (hb : Below W0.heap.size W0 W) : CallsF W (fun k => k < W0.heap.size) l A := (CallsF.of h).keep hb.size (fun _ hk _ => hk) (fun k hk _ => hb.block k hk)
theorem ru_cells_a {W : World} {tb o : Nat} {r : Ru} {Ac : Option Addr} {capc : Nat} {A : Option Addr} {cap : Nat} (h : RuAt W tb o r Ac capc A cap) (hl : tb < W.heap.size) :
    (∀ x, (W.alloc x).cell? ⟨tb, o, none⟩ = some (.slice Ac r.calls.length capc)) ∧ (∀ x, (W.alloc x).cell? ⟨tb, o + 1, none⟩ = some (.int .i64 r.when_.op)) ∧ (∀ x, (W.alloc x).cell? ⟨tb, o + 2, none⟩ = some (.slice A r.when_.args.length cap)) ∧ (∀ x, (W.alloc x).cell? ⟨tb, o + 3, none⟩ = some (.int .i64 r.when_.field)) ∧ (∀ x, (W.alloc x).cell? ⟨tb, o + 4, none⟩ = some (.int .u64 (r.when_.mask : Int))) ∧ (∀ x, (W.alloc x).cell? ⟨tb, o + 5, none⟩ = some (.int .i64 r.when_.rel)) ∧ (∀ x, (W.alloc x).cell? ⟨tb, o + 6, none⟩ = some (.int .u64 (r.when_.value : Int))) ∧ (∀ x, (W.alloc x).cell? ⟨tb, o + 7, none⟩ = some (.int .i64 r.do_.1)) ∧ (∀ x, (W.alloc x).cell? ⟨tb, o + 8, none⟩ = some (.int .u64 (r.do_.2 : Int))) := by
  have k := fun x => RuAt.cells (h.up hl (lbox W x))
  exact ⟨fun x => (k x).1, fun x => (k x).2.1, fun x => (k x).2.2.1, fun x => (k x).2.2.2.1, fun x => (k x).2.2.2.2.1, fun x => (k x).2.2.2.2.2.1, fun x => (k x).2.2.2.2.2.2.1, fun x => (k x).2.2.2.2.2.2.2.1, fun x => (k x).2.2.2.2.2.2.2.2⟩
theorem fir_cells {W : World} {b : Nat} {p : Po} {A : Option Addr} {cap : Nat} {n : Int} {d e : Dat} (h : W.heap[b]? = some (firO p A cap n d e)) :
    W.cell? ⟨b, 0, none⟩ = some (.string p.arch) ∧ W.cell? ⟨b, 1, none⟩ = some (.int .i64 p.foreign_.1) ∧ W.cell? ⟨b, 2, none⟩ = some (.int .u64 (p.foreign_.2 : Int)) ∧ W.cell? ⟨b, 3, none⟩ = some (.int .i64 p.default_.1) ∧ W.cell? ⟨b, 4, none⟩ = some (.int .u64 (p.default_.2 : Int)) ∧ W.cell? ⟨b, 5, none⟩ = some (.slice A p.rules.length cap) :=
  ⟨cell6 h 0 rfl, cell6 h 1 rfl, cell6 h 2 rfl, cell6 h 3 rfl, cell6 h 4 rfl, cell6 h 5 rfl⟩
theorem fir_cells1 {W : World} {b : Nat} {p : Po} {A : Option Addr} {cap : Nat} {n : Int} {d e : Dat} (h : W.heap[b]? = some (firO p A cap n d e)) :
    (∀ o, (W.alloc o).cell? ⟨b, 7, none⟩ = some (.int .u32 (d.nr : Int))) ∧ (∀ o, (W.alloc o).cell? ⟨b, 8, none⟩ = some (.int .u32 (d.arch : Int))) ∧ (∀ o, (W.alloc o).cell? ⟨b, 9, none⟩ = some (.int .u64 (d.ip : Int))) ∧ (∀ o, (W.alloc o).cell? ⟨b, 10, none⟩ = some (.int .u64 (d.args 0 : Int))) ∧ (∀ o, (W.alloc o).cell? ⟨b, 11, none⟩ = some (.int .u64 (d.args 1 : Int))) ∧ (∀ o, (W.alloc o).cell? ⟨b, 12, none⟩ = some (.int .u64 (d.args 2 : Int))) ∧ (∀ o, (W.alloc o).cell? ⟨b, 13, none⟩ = some (.int .u64 (d.args 3 : Int))) ∧ (∀ o, (W.alloc o).cell? ⟨b, 14, none⟩ = some (.int .u64 (d.args 4 : Int))) ∧ (∀ o, (W.alloc o).cell? ⟨b, 15, none⟩ = some (.int .u64 (d.args 5 : Int))) :=
  ⟨fun o => cell6 (kept_alloc h o) 7 rfl, fun o => cell6 (kept_alloc h o) 8 rfl, fun o => cell6 (kept_alloc h o) 9 rfl, fun o => cell6 (kept_alloc h o) 10 rfl, fun o => cell6 (kept_alloc h o) 11 rfl, fun o => cell6 (kept_alloc h o) 12 rfl, fun o => cell6 (kept_alloc h o) 13 rfl, fun o => cell6 (kept_alloc h o) 14 rfl, fun o => cell6 (kept_alloc h o) 15 rfl⟩
theorem fir_cells2 {W : World} {b : Nat} {p : Po} {A : Option Addr} {cap : Nat} {n : Int} {d e : Dat} (h : W.heap[b]? = some (firO p A cap n d e)) :
    (∀ o o2, ((W.alloc o).alloc o2).cell? ⟨b, 16, none⟩ = some (.int .u32 (e.nr : Int))) ∧ (∀ o o2, ((W.alloc o).alloc o2).cell? ⟨b, 17, none⟩ = some (.int .u32 (e.arch : Int))) ∧ (∀ o o2, ((W.alloc o).alloc o2).cell? ⟨b, 18, none⟩ = some (.int .u64 (e.ip : Int))) ∧ (∀ o o2, ((W.alloc o).alloc o2).cell? ⟨b, 19, none⟩ = some (.int .u64 (e.args 0 : Int))) ∧ (∀ o o2, ((W.alloc o).alloc o2).cell? ⟨b, 20, none⟩ = some (.int .u64 (e.args 1 : Int))) ∧ (∀ o o2, ((W.alloc o).alloc o2).cell? ⟨b, 21, none⟩ = some (.int .u64 (e.args 2 : Int))) ∧ (∀ o o2, ((W.alloc o).alloc o2).cell? ⟨b, 22, none⟩ = some (.int .u64 (e.args 3 : Int))) ∧ (∀ o o2, ((W.alloc o).alloc o2).cell? ⟨b, 23, none⟩ = some (.int .u64 (e.args 4 : Int))) ∧ (∀ o o2, ((W.alloc o).alloc o2).cell? ⟨b, 24, none⟩ = some (.int .u64 (e.args 5 : Int))) :=
  ⟨fun o o2 => cell6 (kept_alloc (kept_alloc h o) o2) 16 rfl, fun o o2 => cell6 (kept_alloc (kept_alloc h o) o2) 17 rfl, fun o o2 => cell6 (kept_alloc (kept_alloc h o) o2) 18 rfl, fun o o2 => cell6 (kept_alloc (kept_alloc h o) o2) 19 rfl, fun o o2 => cell6 (kept_alloc (kept_alloc h o) o2) 20 rfl, fun o o2 => cell6 (kept_alloc (kept_alloc h o) o2) 21 rfl, fun o o2 => cell6 (kept_alloc (kept_alloc h o) o2) 22 rfl, fun o o2 => cell6 (kept_alloc (kept_alloc h o) o2) 23 rfl, fun o o2 => cell6 (kept_alloc (kept_alloc h o) o2) 24 rfl⟩
/-- What is at hand, behind W1: the policy's box, both data's. -/
structure FsAt (w W1 W : World) (p : Po) (A : Option Addr) (cap : Nat) (d e : Dat) : Prop where
  below : Below w.heap.size w W1
  b0 : Below W1.heap.size W1 W
  po : W.heap[W1.heap.size]? = some (poO7 p A cap)
  dat : W.heap[W1.heap.size + 1]? = some (datO d)
  oth : W.heap[W1.heap.size + 1 + 1]? = some (datO e)
  r0 : RulesL W1 p.rules A
  t0 : Tab W1
section
variable {w W1 W W' : World} {p : Po} {A : Option Addr} {cap : Nat} {d e : Dat}
theorem FsAt.up (h : FsAt w W1 W p A cap d e) (hb : Below W.heap.size W W') : FsAt w W1 W' p A cap d e := ⟨h.below, on7 h.b0 hb, keep7 h.po hb, keep7 h.dat hb, keep7 h.oth hb, h.r0, h.t0⟩
theorem FsAt.rules (h : FsAt w W1 W p A cap d e) : RulesL W p.rules A := h.r0.below h.b0
theorem FsAt.tab (h : FsAt w W1 W p A cap d e) : Tab W := h.t0.up h.b0
theorem FsAt.all (h : FsAt w W1 W p A cap d e) : Below w.heap.size w W := on7 h.below h.b0
theorem fsAt_new (d e : Dat) (hr : RulesL W p.rules A) (hb : Below w.heap.size w W) (ht : Tab W) : FsAt w W (((W.alloc (poO7 p A cap)).alloc (datO d)).alloc (datO e)) p A cap d e := by
  have h1 := below_of W _ (datO e) (below_of W _ (datO d) (lbox W (poO7 p A cap)))
  refine ⟨hb, h1, kept_alloc (kept_alloc (World.alloc_heap_new W _) _) _, kept_alloc (by simpa using World.alloc_heap_new (W.alloc (poO7 p A cap)) (datO d)) _, by simpa using World.alloc_heap_new ((W.alloc (poO7 p A cap)).alloc (datO d)) (datO e), hr, ht⟩
end
abbrev Fs5 (w W1 W : World) (p : Po) (A : Option Addr) (cap : Nat) (d e : Dat) (b1 b2 : Nat) (o1 o2 : Obj) (r1 r2 : List Ru) (A1 A2 : Option Addr) : Prop := FsAt w W1 W p A cap d e ∧ W.heap[b1]? = some o1 ∧ RulesL W r1 A1 ∧ W.heap[b2]? = some o2 ∧ RulesL W r2 A2
theorem fs_up {w W1 W W' : World} {p : Po} {A : Option Addr} {cap : Nat} {d e : Dat} {b1 b2 : Nat} {o1 o2 : Obj} {r1 r2 : List Ru} {A1 A2 : Option Addr} (h : FsAt w W1 W p A cap d e ∧ W.heap[b1]? = some o1 ∧ RulesL W r1 A1 ∧ W.heap[b2]? = some o2 ∧ RulesL W r2 A2) (hb : Below W.heap.size W W') : FsAt w W1 W' p A cap d e ∧ W'.heap[b1]? = some o1 ∧ RulesL W' r1 A1 ∧ W'.heap[b2]? = some o2 ∧ RulesL W' r2 A2 :=
  ⟨h.1.up hb, keep7 h.2.1 hb, h.2.2.1.below hb, keep7 h.2.2.2.1 hb, h.2.2.2.2.below hb⟩
/-- Does a rule ask for a field? The data once the first f fields have been gone through. -/
def askedR (l : List Ru) (f : Nat) : Bool := l.any (fun r => asksF (f : Int) r.when_)
def mixD (l : List Ru) (d e : Dat) (f : Nat) : Dat := ⟨d.nr, d.arch, d.ip, fun k => if k < f ∧ askedR l k = false then e.args k else d.args k⟩
theorem mix_zero (l : List Ru) (d e : Dat) : mixD l d e 0 = d := by
  unfold mixD
  have : (fun k => if k < 0 ∧ askedR l k = false then e.args k else d.args k) = d.args := funext fun k => if_neg (fun h => absurd h.1 (by omega))
  rw [this]
theorem mix_on {l : List Ru} {d e : Dat} {f : Nat} (h : askedR l f = true) : mixD l d e (f + 1) = mixD l d e f := by
  unfold mixD
  have : (fun k => if k < f + 1 ∧ askedR l k = false then e.args k else d.args k) = fun k => if k < f ∧ askedR l k = false then e.args k else d.args k := by
    funext k
    by_cases hk : k = f
    · subst hk; rw [if_neg (fun g => by rw [h] at g; cases g.2), if_neg (fun g => by rw [h] at g; cases g.2)]
    · by_cases hl : k < f ∧ askedR l k = false
      · rw [if_pos hl, if_pos ⟨by omega, hl.2⟩]
      · rw [if_neg hl, if_neg (fun g => hl ⟨by omega, g.2⟩)]
  rw [this]
theorem mix_arg {l : List Ru} {d e : Dat} {f : Nat} (h : askedR l f = false) (k : Nat) : (mixD l d e (f + 1)).args k = if k = f then e.args f else (mixD l d e f).args k := by
  show (if k < f + 1 ∧ askedR l k = false then e.args k else d.args k) = if k = f then e.args f else (if k < f ∧ askedR l k = false then e.args k else d.args k)
  by_cases hk : k = f
  · subst hk; rw [if_pos ⟨by omega, h⟩, if_pos rfl]
  · rw [if_neg hk]
    by_cases hl : k < f ∧ askedR l k = false
    · rw [if_pos hl, if_pos ⟨by omega, hl.2⟩]
    · rw [if_neg hl, if_neg (fun g => hl ⟨by omega, g.2⟩)]
theorem mix_put {W : World} {b f : Nat} {l : List Ru} {d e : Dat} (hf : f < 6) (h : W.heap[b]? = some (datO (mixD l d e f))) (ha : askedR l f = false) :
    (W.setCell ⟨b, 3 + f, none⟩ (.int .u64 (e.args f : Int))).heap[b]? = some (datO (mixD l d e (f + 1))) := by
  have hs := heap_set1 h (3 + f) (.int .u64 (e.args f : Int))
  rw [hs]
  have a := mix_arg (d := d) (e := e) ha
  show some (Obj.cells _ _ _) = some (Obj.cells #[.int .u32 (d.nr : Int), .int .u32 (d.arch : Int), .int .u64 (d.ip : Int), .int .u64 ((mixD l d e (f + 1)).args 0 : Int), .int .u64 ((mixD l d e (f + 1)).args 1 : Int), .int .u64 ((mixD l d e (f + 1)).args 2 : Int), .int .u64 ((mixD l d e (f + 1)).args 3 : Int), .int .u64 ((mixD l d e (f + 1)).args 4 : Int), .int .u64 ((mixD l d e (f + 1)).args 5 : Int)] _ _)
  rw [a 0, a 1, a 2, a 3, a 4, a 5]
  clear a hs h ha
  have : f = 0 ∨ f = 1 ∨ f = 2 ∨ f = 3 ∨ f = 4 ∨ f = 5 := by omega
  rcases this with rfl | rfl | rfl | rfl | rfl | rfl <;> rfl
theorem asked_in {l : List Ru} {r : Ru} (h : r ∈ l) {f : Int} (h0 : 0 ≤ f) (ha : asksF f r.when_ = true) : askedR l f.toNat = true := by
  refine List.any_eq_true.2 ⟨r, h, ?_⟩
  have : ((f.toNat : Nat) : Int) = f := by omega
  rw [this]; exact ha
theorem mix_field {l : List Ru} {d e : Dat} {n : Nat} {r : Ru} (h : r ∈ l) {f : Int} (h0 : 0 ≤ f) (ha : asksF f r.when_ = true) : fieldN d f = fieldN (mixD l d e n) f := by
  unfold fieldN mixD
  by_cases h6 : f = 6
  · rw [if_pos h6, if_pos h6]
  · rw [if_neg h6, if_neg h6]
    show _ = if f.toNat < n ∧ askedR l f.toNat = false then _ else _
    rw [if_neg (fun g => by rw [asked_in h h0 ha] at g; cases g.2)]
theorem mix_eval {p : Po} (h : (checkF p).1 = 0) (d e : Dat) (n : Nat) : evalF p d = evalF p (mixD p.rules d e n) :=
  eval_alike h rfl rfl (fun r hr f h0 _ ha => mix_field hr h0 ha)
theorem any_at (f : Int) (l : List Ru) (k : Nat) (hk : k < l.length) : (l.drop k).any (fun r => asksF f r.when_) = (asksF f (l.getD k zeroR7).when_ || (l.drop (k + 1)).any (fun r => asksF f r.when_)) := by
  rw [List.drop_eq_getElem_cons hk, List.any_cons]
  have : l.getD k zeroR7 = l[k] := by rw [List.getD_eq_getElem?_getD, List.getElem?_eq_getElem hk]; rfl
  rw [this]
theorem FsAt.set {w W1 W : World} {p : Po} {A : Option Addr} {cap : Nat} {d e : Dat} (h : FsAt w W1 W p A cap d e) {b : Nat} (hb : W1.heap.size + 1 + 1 < b) (i : Nat) (u : Value) : FsAt w W1 (W.setCell ⟨b, i, none⟩ u) p A cap d e :=
  ⟨h.below, h.b0.setCell (p := ⟨b, i, none⟩) (show W1.heap.size ≤ b by omega) u, kept_set h.po (by omega) i u, kept_set h.dat (by omega) i u, kept_set h.oth (by omega) i u, h.r0, h.t0⟩
theorem dat_arg {W : World} {b f : Nat} {d : Dat} (hf : f < 6) (h : W.heap[b]? = some (datO d)) : W.cell? ⟨b, 3 + f, none⟩ = some (.int .u64 (d.args f : Int)) := by
  refine cell6 h (3 + f) ?_
  have : f = 0 ∨ f = 1 ∨ f = 2 ∨ f = 3 ∨ f = 4 ∨ f = 5 := by omega
  rcases this with rfl | rfl | rfl | rfl | rfl | rfl <;> rfl
set_option maxRecDepth 100000 in
set_option maxHeartbeats 16000000 in
theorem walk (p : Po) (A : Option Addr) (cap : Nat) (n : Int) (d e : Dat) (w : World) (h : RulesL w p.rules A) (hw : PoW p) (wn : (Lit.int .i64 n).wf = true) (hd : DatW d) (he : DatW e) (hTab : Tab w) :
    Calls Tryd.prog 3 #[firV p A cap n d e] w fun e w' => e = .returned (.bool true) ∧ Below w.heap.size w w' := by
  have hb := lbox w (firO p A cap n d e)
  have HB := Lib.hid (And.intro hb (And.intro (h.below hb) (And.intro (hTab.up hb) (World.alloc_heap_new w (firO p A cap n d e)))))
  have HL := Lib.hid (fun V hV => lives7 V hV)
  have HCK := Lib.hid (fun V hr ht => p_Check7 p A cap V hr ht)
  have hlen : p.rules.length ≤ maxLen := h.1
  unfold maxLen at hlen
  have hwn : -9223372036854775808 ≤ n ∧ n ≤ 9223372036854775807 := by simpa [Lit.wf, IntKind.min, IntKind.max, IntKind.bits, IntKind.signed] using wn
  clear hb h hw hd he hTab wn
  obtain ⟨ck, hck⟩ : ∃ ck, checkF p = ck := ⟨_, rfl⟩
  obtain ⟨c, at_⟩ := ck
  rw [hck] at HCK
  have HCE := Lib.hid hck
  clear hck
  by_cases hc0 : c = 0
  · subst hc0
    have q0 : ((0 : Int) != 0) = false := rfl
    by_cases hpos : p.rules.length = 0
    · have q1 : ((p.rules.length : Int) == 0) = true := beq_iff_eq.2 (by omega)
      clear hpos
      go_enter Tryd.func3, Tryd.ntmps3
      go_wp2_with (first
        | (go_at_call 4; (with_reducible refine (HL.out _ HB.out.2.2.1).mono ?_); rintro e' w1 ⟨rfl, hb⟩; have hfx := keep7 HB.out.2.2.2 hb; obtain ⟨fx0, fx1, fx2, fx3, fx4, fx5⟩ := fir_cells hfx; obtain ⟨gx0, gx1, gx2, gx3, gx4, gx5, gx6, gx7, gx8⟩ := fir_cells1 hfx; obtain ⟨hx0, hx1, hx2, hx3, hx4, hx5, hx6, hx7, hx8⟩ := fir_cells2 hfx; have HB1 : Hid (FsAt w w1 (((w1.alloc (poO7 p A cap)).alloc (datO d)).alloc (datO e)) p A cap d e) := Lib.hid (fsAt_new d e (HB.out.2.1.below hb) (on7 HB.out.1 hb) (HB.out.2.2.1.up hb)); clear hb)
        | (go_at_call 5; (with_reducible refine (HCK.out _ HB1.out.rules HB1.out.tab).mono ?_); rintro e' w2 ⟨rfl, hb⟩; have HB2 := Lib.hid (FsAt.up HB1.out hb); clear hb; obtain ⟨x0, x1, x2, x3, x4, x5⟩ := po_cells HB2.out.po))
      go_ret
      exact ⟨rfl, HB2.out.all⟩
    · --REST
      have q1 : ((p.rules.length : Int) == 0) = false := beq_false_of_ne (by omega)
      have hnz : ¬ (p.rules.length : Int) = 0 := by omega
      have hab : (n.tmod (p.rules.length : Int)).natAbs < p.rules.length := by
        rw [Int.natAbs_tmod]
        exact Nat.mod_lt _ (by omega)
      obtain ⟨r, hr⟩ : ∃ r, n.tmod (p.rules.length : Int) = r := ⟨_, rfl⟩
      rw [hr] at hab
      have hlp : 0 < p.rules.length := by omega
      have hrl512 : p.rules.length ≤ 512 := (check_parts (p := p) (by rw [HCE.out])).2.2.2.1
      have HPRE := Lib.hid (show (checkF p).1 = 0 by rw [HCE.out])
      clear hpos HCE
      by_cases hr0 : r < 0
      · obtain ⟨N, hN⟩ : ∃ N : Nat, (N : Int) = -r := ⟨r.natAbs, by omega⟩
        have hNl : N < p.rules.length := by omega
        have hwr : IntKind.i64.wrap (-r) = (N : Int) := by rw [IntWalk.i64_in _ (by omega)]; omega
        clear hN hab
        go_enter Tryd.func3, Tryd.ntmps3
        go_wp2_with (first
        | (go_at_call 4; (with_reducible refine (HL.out _ HB.out.2.2.1).mono ?_); rintro e' w1 ⟨rfl, hb⟩; have hfx := keep7 HB.out.2.2.2 hb; obtain ⟨fx0, fx1, fx2, fx3, fx4, fx5⟩ := fir_cells hfx; obtain ⟨gx0, gx1, gx2, gx3, gx4, gx5, gx6, gx7, gx8⟩ := fir_cells1 hfx; obtain ⟨hx0, hx1, hx2, hx3, hx4, hx5, hx6, hx7, hx8⟩ := fir_cells2 hfx; have HB1 : Hid (FsAt w w1 (((w1.alloc (poO7 p A cap)).alloc (datO d)).alloc (datO e)) p A cap d e ∧ (((w1.alloc (poO7 p A cap)).alloc (datO d)).alloc (datO e)).heap[w.heap.size]? = some (firO p A cap n d e)) := Lib.hid ⟨fsAt_new d e (HB.out.2.1.below hb) (on7 HB.out.1 hb) (HB.out.2.2.1.up hb), kept_alloc (kept_alloc (kept_alloc hfx _) _) _⟩; clear hb)
        | (go_at_call 5; (with_reducible refine (HCK.out _ HB1.out.1.rules HB1.out.1.tab).mono ?_); rintro e' w2 ⟨rfl, hb⟩; have HB2 := Lib.hid (FsAt.up HB1.out.1 hb); have n6 := cell6 (keep7 HB1.out.2 hb) 6 (v := .int .i64 n) rfl; clear hb; obtain ⟨x0, x1, x2, x3, x4, x5⟩ := po_cells HB2.out.po; obtain ⟨xa0, xa1, xa2, xa3, xa4, xa5⟩ := po_cells_a HB2.out.po))
        clear fx0 fx1 fx2 fx3 fx4 fx5 gx0 gx1 gx2 gx3 gx4 gx5 gx6 gx7 gx8 hx0 hx1 hx2 hx3 hx4 hx5 hx6 hx7 hx8 x0 x1 x2 x3 x4 x5 xa0 xa1 xa2 xa3 xa4 xa5 n6 hwr hr0 hr q1 q0 HB1 HL HB
        have HP2 := Lib.hid (show BuiltF w2 (w2.alloc (poQ p (.slice none 0 0))) p (seqR p.rules N 0) (.slice none 0 0) [] by rw [seq_zero]; exact BuiltF.first p w2)
        go_loopw [11] (fun v wr => ∃ (i : Nat) (v2 : Value) (l : List Ru) (xs : List Value), i ≤ p.rules.length ∧ v = .int .i64 (i : Int) ∧ (l = seqR p.rules N i ∧ l.length ≤ i + 1 ∧ (i ≤ N → l.length ≤ i)) ∧ BuiltF w2 wr p l v2 xs) (fun v _ => p.rules.length - (intOf v).toNat)
        case atStart => exact ⟨0, _, _, _, Nat.zero_le _, rfl, ⟨rfl, by rw [seq_zero]; exact Nat.zero_le _, fun _ => by rw [seq_zero]; exact Nat.le_refl _⟩, HP2.out⟩
        case round =>
          obtain ⟨i, v2, l, xs, hi, rfl, hl, hB⟩ := hrel
          have hF := FsAt.up HB2.out (show Below w2.heap.size w2 wr from hB.below)
          obtain ⟨p0, p1, p2, p3, p4, p5⟩ := po_cells hF.po
          by_cases hil : i < p.rules.length
          · have hil' : (i : Int) < (p.rules.length : Int) := by omega
            have hwi : IntKind.i64.wrap ((i : Int) + 1) = ((i + 1 : Nat) : Int) := by rw [IntWalk.i64_in _ (by omega)]; omega
            obtain ⟨tb, o, Ac, capc, Ar, capr, rfl, hru, hh0⟩ := rules_both HB2.out.rules (Below.refl _ _) i hil
            have hh := hh0.up hB.below
            obtain ⟨hl1, hl2, hl3⟩ := hl
            have hs2 := hB.size
            by_cases hiN : i = N
            · subst hiN
              have hsn := seq_at p.rules i
              generalize p.rules.getD i zeroR7 = r at hru hh0 hh hsn
              rw [← hl1] at hsn
              have HSN := Lib.hid hsn
              obtain ⟨e0, e1, e2, e3, e4, e5, e6, e7, e8⟩ := RuAt.cells hh.at_
              have hB1 := BuiltF.up hB (lbox wr (aheadO r Ac capc))
              have k5 := cell6 hB1.box 5 (v := v2) rfl
              have HOW := Lib.hid (own_below hB1.own (lbox _ (aheadO r Ac capc)))
              have HCO := Lib.hid (show ∀ j u, (ruL (aheadR r) Ac capc none 0)[j]? = some u → ((wr.alloc (aheadO r Ac capc)).alloc (aheadO r Ac capc)).cell? ((⟨wr.heap.size + 1, 0, none⟩ : Addr).add j) = some u from ruL_cells (wr.alloc (aheadO r Ac capc)) (wr.heap.size + 1) (by simp) (aheadR r) Ac capc none 0)
              have HV := Lib.hid (And.intro hB1 (And.intro (show CallsF _ _ (aheadR r).calls Ac from callsF_up hru.1 hB1.below) (And.intro hru.2 (And.intro (World.alloc_heap_new wr (aheadO r Ac capc)) (And.intro (show some wr.heap.size ≠ v2.ownBlock from fun e => by have := (hB.own.lt _ e.symm).2; omega) (And.intro hh0 hru.1))))))
              have HL3 := Lib.hid (And.intro hl2 (hl3 (Nat.le_refl _)))
              have hlb : l.length ≤ 512 := by omega
              clear hsn hl1 hl3 hB hF hru hh hh0 hB1
              go_upto_region 22 with (refine wpList_append_own _ rfl (.tmp 77) (.tmp 79) 26 rfl 46 _ 9 104 Tryd.underlying26 info_ru7 rfl (by decide) (w2.heap.size + 1) v2 l.length xs rfl HOW.out ⟨wr.heap.size + 1, 0, none⟩ 1 1 (ruL (aheadR r) Ac capc none 0) rfl rfl HCO.out ruL_one (by unfold maxLen; omega) (by omega) (by simp; omega) ?_; intro v' wd ho hg hv; obtain ⟨Av, cv, rfl⟩ := own_form7 ho; have hT := BuiltF.turn (x := aheadR r) HV.out.1 HV.out.2.1 ⟨Nat.zero_le _, .inl rfl⟩ ho hg hv; have t0 := cell6 hT.2.1 5 (v := v2) rfl; have u0 := frozen6 hT.2.1 5; have HT2 := Lib.hid (And.intro hT.1 (hT.2.2 wr.heap.size _ hs2 HV.out.2.2.2.1 HV.out.2.2.2.2.1)); clear ho hg hv hT)
              clear t0 u0 HOW HCO
              generalize wd.setCell ⟨w2.heap.size, 5, none⟩ (.slice Av (l.length + 1) cv) = W3 at HT2 ⊢
              obtain ⟨y0, y1, y2, y3, y4, y5, y6, y7, y8⟩ := ahead_cells HT2.out.2.1
              have z0 := ahead_frozen HT2.out.2.1 0
              have z1 := ahead_frozen HT2.out.2.1 1
              have z2 := ahead_frozen HT2.out.2.1 2
              have z3 := ahead_frozen HT2.out.2.1 3
              have z4 := ahead_frozen HT2.out.2.1 4
              have z5 := ahead_frozen HT2.out.2.1 5
              have z6 := ahead_frozen HT2.out.2.1 6
              have z7 := ahead_frozen HT2.out.2.1 7
              have z8 := ahead_frozen HT2.out.2.1 8
              obtain ⟨f0, f1, f2, f3, f4, f5, f6, f7, f8⟩ := RuAt.cells (HV.out.2.2.2.2.2.1.up HT2.out.1.below).at_
              have g5 := cell6 (FsAt.up HB2.out HT2.out.1.below).po 5 (v := .slice (some ⟨tb, o, none⟩) p.rules.length cap) rfl
              go_upto_region 23 with fail
              have HT4 : Hid ((BuiltF w2 (((((((((W3.setCell ⟨wr.heap.size, 0, none⟩ (.slice Ac r.calls.length capc)).setCell ⟨wr.heap.size, 1, none⟩ (.int .i64 r.when_.op)).setCell ⟨wr.heap.size, 2, none⟩ (.slice Ar r.when_.args.length capr)).setCell ⟨wr.heap.size, 3, none⟩ (.int .i64 r.when_.field)).setCell ⟨wr.heap.size, 4, none⟩ (.int .u64 (r.when_.mask : Int))).setCell ⟨wr.heap.size, 5, none⟩ (.int .i64 r.when_.rel)).setCell ⟨wr.heap.size, 6, none⟩ (.int .u64 (r.when_.value : Int))).setCell ⟨wr.heap.size, 7, none⟩ (.int .i64 r.do_.1)).setCell ⟨wr.heap.size, 8, none⟩ (.int .u64 (r.do_.2 : Int))) p (l ++ [aheadR r]) (.slice Av (l.length + 1) cv) (xs ++ ruL (aheadR r) Ac capc none 0) ∧ (((((((((W3.setCell ⟨wr.heap.size, 0, none⟩ (.slice Ac r.calls.length capc)).setCell ⟨wr.heap.size, 1, none⟩ (.int .i64 r.when_.op)).setCell ⟨wr.heap.size, 2, none⟩ (.slice Ar r.when_.args.length capr)).setCell ⟨wr.heap.size, 3, none⟩ (.int .i64 r.when_.field)).setCell ⟨wr.heap.size, 4, none⟩ (.int .u64 (r.when_.mask : Int))).setCell ⟨wr.heap.size, 5, none⟩ (.int .i64 r.when_.rel)).setCell ⟨wr.heap.size, 6, none⟩ (.int .u64 (r.when_.value : Int))).setCell ⟨wr.heap.size, 7, none⟩ (.int .i64 r.do_.1)).setCell ⟨wr.heap.size, 8, none⟩ (.int .u64 (r.do_.2 : Int))).heap[wr.heap.size]? = some (ruO7 r Ac capc Ar capr)) ∧ some wr.heap.size ≠ (Value.slice Av (l.length + 1) cv).ownBlock) := Lib.hid (And.intro (put9 Ar capr HT2.out.1 HT2.out.2.1 hs2 HT2.out.2.2) HT2.out.2.2)
              clear y0 y1 y2 y3 y4 y5 y6 y7 y8 z0 z1 z2 z3 z4 z5 z6 z7 z8 f0 f1 f2 f3 f4 f5 f6 f7 f8 g5 HT2
              generalize (((((((((W3.setCell ⟨wr.heap.size, 0, none⟩ (.slice Ac r.calls.length capc)).setCell ⟨wr.heap.size, 1, none⟩ (.int .i64 r.when_.op)).setCell ⟨wr.heap.size, 2, none⟩ (.slice Ar r.when_.args.length capr)).setCell ⟨wr.heap.size, 3, none⟩ (.int .i64 r.when_.field)).setCell ⟨wr.heap.size, 4, none⟩ (.int .u64 (r.when_.mask : Int))).setCell ⟨wr.heap.size, 5, none⟩ (.int .i64 r.when_.rel)).setCell ⟨wr.heap.size, 6, none⟩ (.int .u64 (r.when_.value : Int))).setCell ⟨wr.heap.size, 7, none⟩ (.int .i64 r.do_.1)).setCell ⟨wr.heap.size, 8, none⟩ (.int .u64 (r.do_.2 : Int))) = W4 at HT4 ⊢
              obtain ⟨y0, y1, y2, y3, y4, y5, y6, y7, y8⟩ := ru7_c HT4.out.1.2
              have z7 := frozen6 HT4.out.1.2 7
              have z8 := frozen6 HT4.out.1.2 8
              go_upto_region 25 with fail
              have HT5 : Hid (BuiltF w2 ((W4.setCell ⟨wr.heap.size, 7, none⟩ (.int .i64 6)).setCell ⟨wr.heap.size, 8, none⟩ (.int .u64 7)) p (l ++ [aheadR r]) (.slice Av (l.length + 1) cv) (xs ++ ruL (aheadR r) Ac capc none 0) ∧ ((W4.setCell ⟨wr.heap.size, 7, none⟩ (.int .i64 6)).setCell ⟨wr.heap.size, 8, none⟩ (.int .u64 7)).heap[wr.heap.size]? = some (ruO7 (behindR r) Ac capc Ar capr)) := Lib.hid (put2 HT4.out.1.1 HT4.out.1.2 hs2 HT4.out.2)
              clear y0 y1 y2 y3 y4 y5 y6 y7 y8 z7 z8 HT4
              generalize ((W4.setCell ⟨wr.heap.size, 7, none⟩ (.int .i64 6)).setCell ⟨wr.heap.size, 8, none⟩ (.int .u64 7)) = W5 at HT5 ⊢
              obtain ⟨y0, y1, y2, y3, y4, y5, y6, y7, y8⟩ := beh7_c HT5.out.2
              have k6 := cell6 HT5.out.1.box 5 (v := .slice Av (l.length + 1) cv) rfl
              have hs5 := HT5.out.1.size
              have hl7 : (l ++ [aheadR r]).length = l.length + 1 := by simp
              have HOW5 := Lib.hid (own_below HT5.out.1.own (lbox W5 (.cells #[.slice Ac r.calls.length capc, .int .i64 r.when_.op, .slice Ar r.when_.args.length capr, .int .i64 r.when_.field, .int .u64 (r.when_.mask : Int), .int .i64 r.when_.rel, .int .u64 (r.when_.value : Int), .int .i64 6, .int .u64 7] 46)))
              rw [hl7] at HOW5
              have HCO5 := Lib.hid (show ∀ j u, (ruL (behindR r) Ac capc Ar capr)[j]? = some u → (W5.alloc (.cells #[.slice Ac r.calls.length capc, .int .i64 r.when_.op, .slice Ar r.when_.args.length capr, .int .i64 r.when_.field, .int .u64 (r.when_.mask : Int), .int .i64 r.when_.rel, .int .u64 (r.when_.value : Int), .int .i64 6, .int .u64 7] 46)).cell? ((⟨W5.heap.size, 0, none⟩ : Addr).add j) = some u from ruL_cells W5 W5.heap.size rfl (behindR r) Ac capc Ar capr)
              go_wp2_with (refine wpList_append_own _ rfl (.tmp 93) (.tmp 95) 26 rfl 46 _ 9 104 Tryd.underlying26 info_ru7 rfl (by decide) (w2.heap.size + 1) (.slice Av (l.length + 1) cv) (l.length + 1) (xs ++ ruL (aheadR r) Ac capc none 0) rfl HOW5.out ⟨W5.heap.size, 0, none⟩ 1 1 (ruL (behindR r) Ac capc Ar capr) rfl rfl HCO5.out ruL_one (by unfold maxLen; omega) (by omega) (by simp; omega) ?_; go_loud (intro v' wd2 ho hg hv); go_loud (obtain ⟨Av2, cv2, rfl⟩ := own_form7 ho); go_loud (have ho2 : wd2.ownsRow (w2.heap.size + 1) 46 9 (.slice Av2 (l.length + 1 + 1) cv2) ((l ++ [aheadR r]).length + 1) ((xs ++ ruL (aheadR r) Ac capc none 0) ++ ruL (behindR r) Ac capc Ar capr) := by (rw [hl7]; exact ho)); go_loud (have hT := BuiltF.turn (x := behindR r) HT5.out.1 (show CallsF _ _ (behindR r).calls Ac from callsF_up HV.out.2.2.2.2.2.2 HT5.out.1.below) HV.out.2.2.1 ho2 hg hv); go_loud (have t0 := cell6 hT.2.1 5 (v := .slice Av (l.length + 1) cv) rfl); go_loud (have u0 := frozen6 hT.2.1 5); go_loud (have HT6 := Lib.hid hT.1); go_loud (clear ho ho2 hg hv hT))
              have h9 := HT6.out
              exact ⟨⟨i + 1, _, (l ++ [aheadR r]) ++ [behindR r], _, by omega, by go_num, ⟨HSN.out.symm, by rw [List.length_append, hl7]; simp only [List.length_cons, List.length_nil]; have := HL3.out.2; omega, fun h => by omega⟩, h9⟩, by simp [intOf]; omega⟩
            · have hsn := seq_on p.rules N i hil hiN
              generalize p.rules.getD i zeroR7 = r at hru hh0 hh hsn
              rw [← hl1] at hsn
              have HSN := Lib.hid hsn
              have qn : ((i : Int) == (N : Int)) = false := beq_false_of_ne (by omega)
              obtain ⟨e0, e1, e2, e3, e4, e5, e6, e7, e8⟩ := RuAt.cells hh.at_
              obtain ⟨b0, b1, b2, b3, b4, b5, b6, b7, b8⟩ := ru_cells_a hh.at_ hh.lt
              have pa5 := fun x => cell6 (kept_alloc hF.po x) 5 (v := .slice (some ⟨tb, o, none⟩) p.rules.length cap) rfl
              have hB1 := BuiltF.up hB (lbox wr (ruO7 r Ac capc Ar capr))
              have k5 := cell6 hB1.box 5 (v := v2) rfl
              have HOW := Lib.hid (own_below hB1.own (lbox _ (ruO7 r Ac capc Ar capr)))
              have hco := ruL_cells (wr.alloc (ruO7 r Ac capc Ar capr)) (wr.heap.size + 1) (by simp) r Ac capc Ar capr
              have HCO := Lib.hid hco
              have HV := Lib.hid (And.intro hB1 (And.intro (callsF_up hru.1 hB1.below) hru.2))
              have HL3 := Lib.hid (And.intro hl2 hl3)
              have hlb : l.length ≤ 512 := by omega
              clear hsn hl1 hl3 hiN hB hF hru hh hh0 hB1 hco
              go_wp2_with (refine wpList_append_own _ rfl (.tmp 93) (.tmp 95) 26 rfl 46 _ 9 104 Tryd.underlying26 info_ru7 rfl (by decide) (w2.heap.size + 1) v2 l.length xs rfl HOW.out ⟨wr.heap.size + 1, 0, none⟩ 1 1 (ruL r Ac capc Ar capr) rfl rfl HCO.out ruL_one (by unfold maxLen; omega) (by omega) (by simp; omega) ?_; intro v' wd ho hg hv; obtain ⟨Av, cv, rfl⟩ := own_form7 ho; have hT := BuiltF.turn (x := r) HV.out.1 HV.out.2.1 HV.out.2.2 ho hg hv; have t0 := cell6 hT.2.1 5 (v := v2) rfl; have u0 := frozen6 hT.2.1 5; have HT2 := Lib.hid hT.1; clear ho hg hv hT)
              exact ⟨⟨i + 1, _, l ++ [r], _, by omega, by go_num, ⟨HSN.out.symm, by rw [List.length_append]; simp only [List.length_cons, List.length_nil]; omega, fun h => by have := HL3.out.2 (by omega); rw [List.length_append]; simp only [List.length_cons, List.length_nil]; omega⟩, HT2.out⟩, by simp [intOf]; omega⟩
          · have hil' : ¬ (i : Int) < (p.rules.length : Int) := by omega
            obtain ⟨hl1, hl2, hl3⟩ := hl
            obtain rfl : i = p.rules.length := by omega
            rw [seq_end p.rules N hNl] at hl1
            have hput : (putR p.rules N).length = p.rules.length + 1 := by unfold putR; rw [List.length_append, List.length_append, List.length_take, List.length_drop]; simp only [List.length_cons, List.length_nil]; omega
            obtain ⟨tq, cap', rfl, hcap, htq, hR, hxs, hxl, hxo⟩ := rules2 hB (by rw [hl1, hput]; omega)
            have hlen2 : l.length = p.rules.length + 1 := by rw [hl1, hput]
            rw [hlen2] at hcap hxl
            rw [hl1] at hR
            have hbx : wr.heap[w2.heap.size]? = some (poQ p (.slice (some ⟨tq, 0, none⟩) (p.rules.length + 1) cap')) := by have := hB.box; rwa [hlen2] at this
            obtain ⟨b0, b1, b2, b3, b4, b5⟩ := poQ_cells hbx
            have HPL := Lib.hid hput
            have hchunks := hB.chunks
            rw [hl1] at hchunks
            have HCH := Lib.hid hchunks
            clear hchunks
            have HXS := Lib.hid (And.intro hxs (And.intro hxl (And.intro hxo htq)))
            clear hxs hxl hxo htq
            have HV := Lib.hid (And.intro hF (And.intro hbx (And.intro hR (And.intro hB.size hB.below))))
            clear hl1 hl2 hl3 hput hB hF hR hbx hlen2
            by_cases h5 : 512 < p.rules.length + 1
            · have h5' : (512 : Int) < (p.rules.length : Int) + 1 := by omega
              go_wp2
              go_ret
              exact ⟨rfl, HV.out.1.all⟩
            · have h5' : ¬ (512 : Int) < (p.rules.length : Int) + 1 := by omega
              go_upto_region 29 with fail
              have HV2 : Hid (FsAt w w1 (wr.alloc (poQ p (.slice (some ⟨tq, 0, none⟩) (p.rules.length + 1) cap'))) p A cap d e ∧ (wr.alloc (poQ p (.slice (some ⟨tq, 0, none⟩) (p.rules.length + 1) cap'))).heap[w2.heap.size]? = some (poQ p (.slice (some ⟨tq, 0, none⟩) (p.rules.length + 1) cap')) ∧ (wr.alloc (poQ p (.slice (some ⟨tq, 0, none⟩) (p.rules.length + 1) cap'))).heap[wr.heap.size]? = some (poQ p (.slice (some ⟨tq, 0, none⟩) (p.rules.length + 1) cap')) ∧ RulesL (wr.alloc (poQ p (.slice (some ⟨tq, 0, none⟩) (p.rules.length + 1) cap'))) (putR p.rules N) (some ⟨tq, 0, none⟩)) := Lib.hid ⟨FsAt.up HV.out.1 (lbox wr _), kept_alloc HV.out.2.1 _, World.alloc_heap_new wr _, HV.out.2.2.1.below (lbox wr _)⟩
              have HXV : Hid ((∀ j u, xs[j]? = some u → (wr.alloc (poQ p (.slice (some ⟨tq, 0, none⟩) (p.rules.length + 1) cap'))).cell? ⟨tq, j, none⟩ = some u) ∧ tq < (wr.alloc (poQ p (.slice (some ⟨tq, 0, none⟩) (p.rules.length + 1) cap'))).heap.size) := Lib.hid ⟨fun j u hj => ((lbox wr _).cell (p := ⟨tq, j, none⟩) HXS.out.2.2.2.2).trans (HXS.out.1 j u hj), by have := HXS.out.2.2.2.2; simp; omega⟩
              have HVW : Hid (Below wr.heap.size wr (wr.alloc (poQ p (.slice (some ⟨tq, 0, none⟩) (p.rules.length + 1) cap')))) := Lib.hid (lbox wr _)
              clear b0 b1 b2 b3 b4 b5
              have hwr1 : wr.heap.size < (wr.alloc (poQ p (.slice (some ⟨tq, 0, none⟩) (p.rules.length + 1) cap'))).heap.size := by simp
              generalize wr.alloc (poQ p (.slice (some ⟨tq, 0, none⟩) (p.rules.length + 1) cap')) = V at HV2 HXV HVW hwr1 ⊢
              have hN1 : IntKind.i64.wrap ((N : Int) + 1) = (N : Int) + 1 := IntWalk.i64_in _ (by omega)
              have hN2 : IntKind.i64.wrap ((N : Int) + 2) = (N : Int) + 2 := IntWalk.i64_in _ (by omega)
              refine wp_region_held_drew (S := fun W' => Below wr.heap.size wr W') (by kernel_rfl) (below_drawn HVW.out 1) (fun hHeld => ?_)
              have HD0 : Hid (Below V.heap.size V V.drew) := Lib.hid (below_drawn (Below.refl _ _) 1)
              generalize V.drew = Y1 at HD0 hHeld ⊢
              clear hHeld
              have hHeld := on7 HVW.out HD0.out
              have hcap' : (p.rules.length : Int) + 1 ≤ (cap' : Int) := by omega
              have hNl' : (N : Int) + 1 ≤ (p.rules.length : Int) := by omega
              have hq1 : (0 : Int) ≤ (N : Int) + 1 := by omega
              have hq2 : (N : Int) + 1 ≤ (cap' : Int) := by omega
              have hq3 : (0 : Int) ≤ (N : Int) + 2 := by omega
              have hq4 : (N : Int) + 2 ≤ (p.rules.length : Int) + 1 := by omega
              have hq5 : ((N : Int) + 2).toNat = N + 2 := by omega
              obtain ⟨ad, had⟩ : ∃ ad : Addr, (if cap' = N + 2 then (some ⟨tq, 0, none⟩ : Option Addr) else some ⟨tq, (N + 2) * 9, none⟩) = some ad ∧ (p.rules.length - (N + 1) ≠ 0 → ad = ⟨tq, (N + 2) * 9, none⟩) := by
                by_cases hq : cap' = N + 2
                · exact ⟨_, if_pos hq, fun h => absurd (show p.rules.length - (N + 1) = 0 by omega) h⟩
                · exact ⟨_, if_neg hq, fun _ => rfl⟩
              have hq6 := had.1
              refine wpAnyH_take (i := 1) (v := ?_) rfl (by kernel_rfl) (by kernel_rfl) (by kernel_rfl) (fun _ _ _ h => h) (Or.inl ⟨by rfl, ?_⟩) (by assumption) ?_
              rotate_left
              · intro wS hSw
                (obtain ⟨b0, b1, b2, b3, b4, b5⟩ := poQ_cells (keep7 HV.out.2.1 hSw))
                go_simp
                all_goals with_reducible rfl
              (try simp only [List.getElem_toArray, List.getElem_cons_zero, List.getElem_cons_succ, Act.put, List.setIfInBounds_toArray, List.set_cons_zero, List.set_cons_succ])
              refine wpAnyH_take (i := 2) (v := ?_) rfl (by kernel_rfl) (by kernel_rfl) (by kernel_rfl) (fun _ _ _ h => h) (Or.inl ⟨by rfl, ?_⟩) (by assumption) ?_
              rotate_left
              · intro wS hSw
                (obtain ⟨b0, b1, b2, b3, b4, b5⟩ := poQ_cells (keep7 HV.out.2.1 hSw))
                go_simp
                all_goals with_reducible rfl
              (try simp only [List.getElem_toArray, List.getElem_cons_zero, List.getElem_cons_succ, Act.put, List.setIfInBounds_toArray, List.set_cons_zero, List.set_cons_succ])
              refine wpAnyH_take (i := 3) (v := ?_) rfl (by kernel_rfl) (by kernel_rfl) (by kernel_rfl) (fun _ _ _ h => h) (Or.inl ⟨by rfl, ?_⟩) (by assumption) ?_
              rotate_left
              · intro wS hSw
                (obtain ⟨b0, b1, b2, b3, b4, b5⟩ := poQ_cells (keep7 HV.out.2.1 hSw))
                go_simp
                all_goals with_reducible rfl
              (try simp only [List.getElem_toArray, List.getElem_cons_zero, List.getElem_cons_succ, Act.put, List.setIfInBounds_toArray, List.set_cons_zero, List.set_cons_succ])
              refine wpAnyH_take (i := 4) (v := ?_) rfl (by kernel_rfl) (by kernel_rfl) (by kernel_rfl) (fun _ _ _ h => h) (Or.inl ⟨by rfl, ?_⟩) (by assumption) ?_
              rotate_left
              · intro wS hSw
                (obtain ⟨b0, b1, b2, b3, b4, b5⟩ := poQ_cells (keep7 HV.out.2.1 hSw))
                go_simp
                all_goals with_reducible rfl
              (try simp only [List.getElem_toArray, List.getElem_cons_zero, List.getElem_cons_succ, Act.put, List.setIfInBounds_toArray, List.set_cons_zero, List.set_cons_succ])
              refine wpAnyH_take (i := 5) (v := ?_) rfl (by kernel_rfl) (by kernel_rfl) (by kernel_rfl) (fun _ _ _ h => h) (Or.inl ⟨by rfl, ?_⟩) (by assumption) ?_
              rotate_left
              · intro wS hSw
                (obtain ⟨b0, b1, b2, b3, b4, b5⟩ := poQ_cells (keep7 HV.out.2.1 hSw))
                go_simp
                all_goals with_reducible rfl
              (try simp only [List.getElem_toArray, List.getElem_cons_zero, List.getElem_cons_succ, Act.put, List.setIfInBounds_toArray, List.set_cons_zero, List.set_cons_succ])
              refine wpAnyH_take (i := 7) (v := ?_) rfl (by kernel_rfl) (by kernel_rfl) (by kernel_rfl) (fun _ _ _ h => h) (Or.inl ⟨by rfl, ?_⟩) (by assumption) ?_
              rotate_left
              · intro wS hSw
                (obtain ⟨b0, b1, b2, b3, b4, b5⟩ := poQ_cells (keep7 HV.out.2.1 hSw))
                go_simp
                all_goals with_reducible rfl
              (try simp only [List.getElem_toArray, List.getElem_cons_zero, List.getElem_cons_succ, Act.put, List.setIfInBounds_toArray, List.set_cons_zero, List.set_cons_succ])
              refine wpAnyH_take (i := 8) (v := ?_) rfl (by kernel_rfl) (by kernel_rfl) (by kernel_rfl) (fun _ _ _ h => h) (Or.inl ⟨by rfl, ?_⟩) (by assumption) ?_
              rotate_left
              · intro wS hSw
                (obtain ⟨b0, b1, b2, b3, b4, b5⟩ := poQ_cells (keep7 HV.out.2.1 hSw))
                go_simp
                all_goals with_reducible rfl
              (try simp only [List.getElem_toArray, List.getElem_cons_zero, List.getElem_cons_succ, Act.put, List.setIfInBounds_toArray, List.set_cons_zero, List.set_cons_succ])
              refine wpAnyH_take (i := 9) (v := ?_) rfl (by kernel_rfl) (by kernel_rfl) (by kernel_rfl) (fun _ _ _ h => h) (Or.inl ⟨by rfl, ?_⟩) (by assumption) ?_
              rotate_left
              · intro wS hSw
                (obtain ⟨b0, b1, b2, b3, b4, b5⟩ := poQ_cells (keep7 HV.out.2.1 hSw))
                go_simp
                all_goals with_reducible rfl
              (try simp only [List.getElem_toArray, List.getElem_cons_zero, List.getElem_cons_succ, Act.put, List.setIfInBounds_toArray, List.set_cons_zero, List.set_cons_succ])
              refine wpAnyH_take (i := 10) (v := ?_) rfl (by kernel_rfl) (by kernel_rfl) (by kernel_rfl) (fun _ _ _ h => h) (Or.inl ⟨by rfl, ?_⟩) (by assumption) ?_
              rotate_left
              · intro wS hSw
                (obtain ⟨b0, b1, b2, b3, b4, b5⟩ := poQ_cells (keep7 HV.out.2.1 hSw))
                go_simp
                all_goals with_reducible rfl
              (try simp only [List.getElem_toArray, List.getElem_cons_zero, List.getElem_cons_succ, Act.put, List.setIfInBounds_toArray, List.set_cons_zero, List.set_cons_succ])
              refine wpAnyH_take (i := 11) (v := ?_) rfl (by kernel_rfl) (by kernel_rfl) (by kernel_rfl) (fun _ _ _ h => h) (Or.inl ⟨by rfl, ?_⟩) (by assumption) ?_
              rotate_left
              · intro wS hSw
                (obtain ⟨b0, b1, b2, b3, b4, b5⟩ := poQ_cells (keep7 HV.out.2.1 hSw))
                go_simp
                all_goals with_reducible rfl
              (try simp only [List.getElem_toArray, List.getElem_cons_zero, List.getElem_cons_succ, Act.put, List.setIfInBounds_toArray, List.set_cons_zero, List.set_cons_succ])
              refine held_one (i := 0) (by kernel_rfl) rfl (fun K hK => ?_)
              go_simp
              have HE1 : Hid (Below V.heap.size V (Y1.alloc (.cells #[] 46)) ∧ (Y1.alloc (.cells #[] 46)).ownsRow V.heap.size 46 9 (.slice (some ⟨Y1.heap.size, 0, none⟩) 0 0) 0 []) := Lib.hid ⟨below_of _ _ _ HD0.out, ⟨rfl, .inr ⟨Y1.heap.size, 0, _, rfl, HD0.out.size, World.alloc_heap_new Y1 _, Nat.le_refl _, Nat.zero_le _, rfl, rfl⟩⟩⟩
              refine hK.out _ _ (on7 HVW.out HE1.out.1) (fun hH2 => ?_)
              clear hK K hHeld HD0 hH2
              (try simp only [Act.put, List.setIfInBounds_toArray, List.set_cons_zero, List.set_cons_succ, List.getElem_toArray, List.getElem_cons_zero, List.getElem_cons_succ])
              generalize Y1.alloc (.cells #[] 46) = Y2 at HE1 ⊢
              have hHeld := on7 HVW.out HE1.out.1
              obtain ⟨i8, hi8, hz8, hs8, hb8⟩ := info_parts6 info_ru7
              have hk1 : ∀ j u, (xs.take ((N + 1) * 9))[j]? = some u → Y2.cell? ((⟨tq, 0, none⟩ : Addr).add j) = some u := fun j u hj => by
                rw [addr_add, Nat.zero_add]
                rw [List.getElem?_take] at hj
                split at hj
                · exact (HE1.out.1.cell (p := ⟨tq, j, none⟩) HXV.out.2).trans (HXV.out.1 j u hj)
                · cases hj
              have hk2 : (xs.take ((N + 1) * 9)).length = (N + 1) * 9 := by rw [List.length_take, HXS.out.2.1]; omega
              have HK1 := Lib.hid (And.intro hk1 hk2)
              clear hk1 hk2
              refine held_one (i := 6) (by kernel_rfl) rfl (fun K hK => ?_)
              rw [if_pos (by kernel_rfl)]
              refine oper_append6 (.tmp 104) (.tmp 109) 26 rfl V.heap.size 46 i8 _ 9 104 Tryd.underlying26 hi8 hz8 hs8 hb8 rfl (by decide) (.slice (some ⟨Y1.heap.size, 0, none⟩) 0 0) 0 [] rfl HE1.out.2 ⟨tq, 0, none⟩ (N + 1) cap' (xs.take ((N + 1) * 9)) rfl HK1.out.2 HK1.out.1 (fun u hu => HXS.out.2.2.1 u (List.mem_of_mem_take hu)) (by unfold maxLen; omega) (by omega) HE1.out.1.size ?_
              intro v' Y3 ho hg hv
              have HE3 := Lib.hid (And.intro (below_own HE1.out.1 HE1.out.2 hg (Nat.le_refl _)) ho)
              refine hK.out _ _ (on7 HVW.out HE3.out.1) (fun hH2 => ?_)
              clear hK K hHeld hH2 ho hg hv HK1
              (try simp only [Act.put, List.setIfInBounds_toArray, List.set_cons_zero, List.set_cons_succ, List.getElem_toArray, List.getElem_cons_zero, List.getElem_cons_succ])
              have hk2 : (xs.drop ((N + 2) * 9)).length = (p.rules.length - (N + 1)) * 9 := by rw [List.length_drop, HXS.out.2.1]; omega
              have hk1 : ∀ j u, (xs.drop ((N + 2) * 9))[j]? = some u → Y3.cell? (ad.add j) = some u := fun j u hj => by
                have hlt := (List.getElem?_eq_some_iff.1 hj).1
                rw [hk2] at hlt
                rw [had.2 (fun h => by rw [h] at hlt; omega), addr_add]
                rw [List.getElem?_drop] at hj
                exact (HE3.out.1.cell (p := ⟨tq, (N + 2) * 9 + j, none⟩) HXV.out.2).trans (HXV.out.1 _ u hj)
              have HK2 := Lib.hid (And.intro hk1 hk2)
              clear hk1 hk2
              refine held_one (i := 12) (by kernel_rfl) rfl (fun K hK => ?_)
              rw [if_pos (by kernel_rfl)]
              refine oper_append6 (.tmp 110) (.tmp 115) 26 rfl V.heap.size 46 i8 _ 9 104 Tryd.underlying26 hi8 hz8 hs8 hb8 rfl (by decide) v' (0 + (N + 1)) ([] ++ xs.take ((N + 1) * 9)) rfl HE3.out.2 ad (p.rules.length - (N + 1)) (cap' - (N + 2)) (xs.drop ((N + 2) * 9)) (by first | rfl | (show Value.slice (if cap' = N + 2 then some ⟨tq, 0, none⟩ else some ⟨tq, (N + 2) * 9, none⟩) (p.rules.length - (N + 1)) (cap' - (N + 2)) = _; rw [hq6])) HK2.out.2 HK2.out.1 (fun u hu => HXS.out.2.2.1 u (List.mem_of_mem_drop hu)) (by unfold maxLen; omega) (by omega) HE3.out.1.size ?_
              intro v4 Y4 ho hg hv
              have hM : N + 1 + (p.rules.length - (N + 1)) = p.rules.length := by omega
              rw [Nat.zero_add, hM] at ho
              obtain ⟨A4, c4, rfl⟩ := own_form7 ho
              have HE4 := Lib.hid (And.intro (below_own HE3.out.1 HE3.out.2 hg (Nat.le_refl _)) ho)
              refine hK.out _ _ (on7 HVW.out HE4.out.1) (fun hH2 => ?_)
              clear hK K hH2 ho hg hv HK2 HE3
              (try simp only [Act.put, List.setIfInBounds_toArray, List.set_cons_zero, List.set_cons_succ, List.getElem_toArray, List.getElem_cons_zero, List.getElem_cons_succ])
              have m5 := cell6 (keep7 HV2.out.2.2.1 HE4.out.1) 5 (v := .slice (some ⟨tq, 0, none⟩) (p.rules.length + 1) cap') rfl
              have n5 := frozen6 (keep7 HV2.out.2.2.1 HE4.out.1) 5
              have hbY5 : Below wr.heap.size wr (Y4.setCell ⟨wr.heap.size, 5, none⟩ (.slice A4 p.rules.length c4)) := (on7 HVW.out HE4.out.1).setCell (p := ⟨wr.heap.size, 5, none⟩) (Nat.le_refl _) _
              have hn4 : p.rules.length = (putS p.rules N).length := by rw [putS_is _ _ hNl, List.length_append, List.length_take, List.length_drop, HPL.out]; omega
              have hch : ChunksN w2 (Y4.setCell ⟨wr.heap.size, 5, none⟩ (.slice A4 p.rules.length c4)) (fun k => k < w2.heap.size) (putS p.rules N) (([] ++ xs.take ((N + 1) * 9)) ++ xs.drop ((N + 2) * 9)) := by
                rw [putS_is _ _ hNl, List.nil_append]
                exact ChunksN.keep hbY5.size (fun _ hk _ => hk) (fun k hk _ => hbY5.block k (Nat.lt_trans hk HV.out.2.2.2.1)) (chunksN_append (chunksN_take (N + 1) HCH.out) (chunksN_drop (N + 2) HCH.out))
              have hrb : (Y4.setCell ⟨wr.heap.size, 5, none⟩ (.slice A4 p.rules.length c4)).heap[wr.heap.size]? = some (poQ p (.slice A4 p.rules.length c4)) := heap_set1 (keep7 HV2.out.2.2.1 HE4.out.1) 5 _
              have hoY : (Y4.setCell ⟨wr.heap.size, 5, none⟩ (.slice A4 p.rules.length c4)).ownsRow V.heap.size 46 9 (.slice A4 p.rules.length c4) p.rules.length (([] ++ xs.take ((N + 1) * 9)) ++ xs.drop ((N + 2) * 9)) :=
                World.ownsRow.kept (row := some wr.heap.size) HE4.out.2 (grown_set (World.grownBy.refl Y4 _) 5 _) (.inr (fun e => by have := (HE4.out.2.lt _ e).1; omega))
              obtain ⟨t4, c5, he4, ht4, hR4⟩ := rules_of_own (W0 := w2) (on7 HV.out.2.2.2.2 hbY5) hoY hn4 (by omega) hch
              injection he4 with e1 e2 e3
              subst e1
              have HG : Hid (FsAt w w1 (Y4.setCell ⟨wr.heap.size, 5, none⟩ (.slice (some ⟨t4, 0, none⟩) p.rules.length c4)) p A cap d e ∧ (Y4.setCell ⟨wr.heap.size, 5, none⟩ (.slice (some ⟨t4, 0, none⟩) p.rules.length c4)).heap[w2.heap.size]? = some (poQ p (.slice (some ⟨tq, 0, none⟩) (p.rules.length + 1) cap')) ∧ RulesL (Y4.setCell ⟨wr.heap.size, 5, none⟩ (.slice (some ⟨t4, 0, none⟩) p.rules.length c4)) (putR p.rules N) (some ⟨tq, 0, none⟩) ∧ (Y4.setCell ⟨wr.heap.size, 5, none⟩ (.slice (some ⟨t4, 0, none⟩) p.rules.length c4)).heap[wr.heap.size]? = some (poQ p (.slice (some ⟨t4, 0, none⟩) p.rules.length c4)) ∧ RulesL (Y4.setCell ⟨wr.heap.size, 5, none⟩ (.slice (some ⟨t4, 0, none⟩) p.rules.length c4)) (putS p.rules N) (some ⟨t4, 0, none⟩)) :=
                Lib.hid ⟨FsAt.up HV.out.1 hbY5, keep7 HV.out.2.1 hbY5, HV.out.2.2.1.below hbY5, hrb, hR4⟩
              have HB5 := Lib.hid hbY5
              clear hch ht4 hR4 e2 e3 hrb hoY hbY5
              have HN4 := Lib.hid hn4
              clear hn4
              have hHeld := HB5.out
              have hHeld := on7 HVW.out HE4.out.1
              refine wpAnyH_take (i := 13) (v := ?_) rfl (by kernel_rfl) (by kernel_rfl) (by kernel_rfl) (fun _ _ _ h => h) (Or.inl ⟨by rfl, ?_⟩) (by assumption) ?_
              rotate_left
              · intro wS hSw
                (skip)
                go_simp
                all_goals with_reducible rfl
              (try simp only [List.getElem_toArray, List.getElem_cons_zero, List.getElem_cons_succ, Act.put, List.setIfInBounds_toArray, List.set_cons_zero, List.set_cons_succ])
              refine held_one (i := 14) (by kernel_rfl) rfl (fun K hK => ?_)
              go_simp
              refine hK.out _ _ HB5.out (fun hH2 => ?_)
              clear hK K hH2 m5 n5 HB5 HE4 HXV HVW HV2 HE1
              (try simp only [Act.put, List.setIfInBounds_toArray, List.set_cons_zero, List.set_cons_succ, List.getElem_toArray, List.getElem_cons_zero, List.getElem_cons_succ])
              refine wpAnyH_done (by kernel_rfl) ?_ _
              generalize Y4.setCell ⟨wr.heap.size, 5, none⟩ (.slice (some ⟨t4, 0, none⟩) p.rules.length c4) = Y5 at HG ⊢
              go_upto_region 30 with fail
              have HE1 := Lib.hid (fun V hr ht => eval_at (p := p) HPL.out.symm d (some ⟨tq, 0, none⟩) cap' V hr ht)
              have he2 := fun V hr ht => eval_at (p := p) HN4.out d (some ⟨t4, 0, none⟩) c4 V hr ht
              rw [← eval_put HPRE.out N hNl (by omega) d] at he2
              have HE2 := Lib.hid he2
              clear he2
              generalize evalF ⟨p.arch, p.foreign_, p.default_, putR p.rules N⟩ d = ev at HE1 HE2
              have HD0 : Hid (Fs5 w w1 Y5.drew p A cap d e w2.heap.size wr.heap.size (poQ p (.slice (some ⟨tq, 0, none⟩) (p.rules.length + 1) cap')) (poQ p (.slice (some ⟨t4, 0, none⟩) p.rules.length c4)) (putR p.rules N) (putS p.rules N) (some ⟨tq, 0, none⟩) (some ⟨t4, 0, none⟩)) := Lib.hid (fs_up HG.out (below_drawn (Below.refl _ _) 1))
              refine wp_region_held_drew (S := fun W' => Fs5 w w1 W' p A cap d e w2.heap.size wr.heap.size (poQ p (.slice (some ⟨tq, 0, none⟩) (p.rules.length + 1) cap')) (poQ p (.slice (some ⟨t4, 0, none⟩) p.rules.length c4)) (putR p.rules N) (putS p.rules N) (some ⟨tq, 0, none⟩) (some ⟨t4, 0, none⟩)) (by kernel_rfl) HD0.out (fun hHeld => ?_)
              generalize Y5.drew = Y6 at HD0 hHeld ⊢
              clear hHeld
              have hHeld := HD0.out
              refine wpAnyH_take (i := 0) (v := ?_) rfl (by kernel_rfl) (by kernel_rfl) (by kernel_rfl) (fun _ _ _ h => h) (Or.inl ⟨by rfl, ?_⟩) (by assumption) ?_
              rotate_left
              · intro wS hSw
                (obtain ⟨b0, b1, b2, b3, b4, b5⟩ := poQ_cells hSw.2.1; obtain ⟨z0, z1, z2, z3, z4, z5, z6, z7, z8⟩ := dat_cells hSw.1.dat; obtain ⟨g0, g1, g2, g3, g4, g5⟩ := poQ_cells hSw.2.2.2.1)
                go_simp
                all_goals with_reducible rfl
              (try simp only [List.getElem_toArray, List.getElem_cons_zero, List.getElem_cons_succ, Act.put, List.setIfInBounds_toArray, List.set_cons_zero, List.set_cons_succ])
              refine wpAnyH_take (i := 1) (v := ?_) rfl (by kernel_rfl) (by kernel_rfl) (by kernel_rfl) (fun _ _ _ h => h) (Or.inl ⟨by rfl, ?_⟩) (by assumption) ?_
              rotate_left
              · intro wS hSw
                (obtain ⟨b0, b1, b2, b3, b4, b5⟩ := poQ_cells hSw.2.1; obtain ⟨z0, z1, z2, z3, z4, z5, z6, z7, z8⟩ := dat_cells hSw.1.dat; obtain ⟨g0, g1, g2, g3, g4, g5⟩ := poQ_cells hSw.2.2.2.1)
                go_simp
                all_goals with_reducible rfl
              (try simp only [List.getElem_toArray, List.getElem_cons_zero, List.getElem_cons_succ, Act.put, List.setIfInBounds_toArray, List.set_cons_zero, List.set_cons_succ])
              refine wpAnyH_take (i := 3) (v := ?_) rfl (by kernel_rfl) (by kernel_rfl) (by kernel_rfl) (fun _ _ _ h => h) (Or.inl ⟨by rfl, ?_⟩) (by assumption) ?_
              rotate_left
              · intro wS hSw
                (obtain ⟨b0, b1, b2, b3, b4, b5⟩ := poQ_cells hSw.2.1; obtain ⟨z0, z1, z2, z3, z4, z5, z6, z7, z8⟩ := dat_cells hSw.1.dat; obtain ⟨g0, g1, g2, g3, g4, g5⟩ := poQ_cells hSw.2.2.2.1)
                go_simp
                all_goals with_reducible rfl
              (try simp only [List.getElem_toArray, List.getElem_cons_zero, List.getElem_cons_succ, Act.put, List.setIfInBounds_toArray, List.set_cons_zero, List.set_cons_succ])
              refine wpAnyH_take (i := 4) (v := ?_) rfl (by kernel_rfl) (by kernel_rfl) (by kernel_rfl) (fun _ _ _ h => h) (Or.inl ⟨by rfl, ?_⟩) (by assumption) ?_
              rotate_left
              · intro wS hSw
                (obtain ⟨b0, b1, b2, b3, b4, b5⟩ := poQ_cells hSw.2.1; obtain ⟨z0, z1, z2, z3, z4, z5, z6, z7, z8⟩ := dat_cells hSw.1.dat; obtain ⟨g0, g1, g2, g3, g4, g5⟩ := poQ_cells hSw.2.2.2.1)
                go_simp
                all_goals with_reducible rfl
              (try simp only [List.getElem_toArray, List.getElem_cons_zero, List.getElem_cons_succ, Act.put, List.setIfInBounds_toArray, List.set_cons_zero, List.set_cons_succ])
              refine held_one (i := 2) (by kernel_rfl) rfl (fun K hK => ?_)
              go_simp
              go_at_call 6
              refine (HE1.out _ hHeld.2.2.1 hHeld.1.tab).mono ?_
              rintro e' w7 ⟨rfl, hb3⟩
              have HE0 : Hid (Fs5 w w1 w7 p A cap d e w2.heap.size wr.heap.size (poQ p (.slice (some ⟨tq, 0, none⟩) (p.rules.length + 1) cap')) (poQ p (.slice (some ⟨t4, 0, none⟩) p.rules.length c4)) (putR p.rules N) (putS p.rules N) (some ⟨tq, 0, none⟩) (some ⟨t4, 0, none⟩)) := Lib.hid (fs_up hHeld hb3)
              refine hK.out _ _ HE0.out (fun hH2 => ?_)
              clear hK K hHeld hb3 hH2 HD0
              (try simp only [Act.put, List.setIfInBounds_toArray, List.set_cons_zero, List.set_cons_succ, List.getElem_toArray, List.getElem_cons_zero, List.getElem_cons_succ])
              refine held_one (i := 5) (by kernel_rfl) rfl (fun K hK => ?_)
              go_simp
              go_at_call 6
              refine (HE2.out _ HE0.out.2.2.2.2 HE0.out.1.tab).mono ?_
              rintro e' w8 ⟨rfl, hb3⟩
              have HE8 := Lib.hid (FsAt.up HE0.out.1 hb3)
              have hHeld : Fs5 w w1 w8 p A cap d e w2.heap.size wr.heap.size (poQ p (.slice (some ⟨tq, 0, none⟩) (p.rules.length + 1) cap')) (poQ p (.slice (some ⟨t4, 0, none⟩) p.rules.length c4)) (putR p.rules N) (putS p.rules N) (some ⟨tq, 0, none⟩) (some ⟨t4, 0, none⟩) := fs_up HE0.out hb3
              refine hK.out _ _ hHeld (fun hH2 => ?_)
              clear hK K hb3 hH2 HE0
              (try simp only [Act.put, List.setIfInBounds_toArray, List.set_cons_zero, List.set_cons_succ, List.getElem_toArray, List.getElem_cons_zero, List.getElem_cons_succ])
              refine wpAnyH_take (i := 6) (v := ?_) rfl (by kernel_rfl) (by kernel_rfl) (by kernel_rfl) (fun _ _ _ h => h) (Or.inl ⟨by rfl, ?_⟩) (by assumption) ?_
              rotate_left
              · intro wS hSw
                (skip)
                go_simp
                all_goals with_reducible rfl
              (try simp only [List.getElem_toArray, List.getElem_cons_zero, List.getElem_cons_succ, Act.put, List.setIfInBounds_toArray, List.set_cons_zero, List.set_cons_succ])
              refine wpAnyH_done (by kernel_rfl) ?_ _
              go_upto_region 32 with fail
              obtain ⟨z0, z1, z2, z3, z4, z5, z6, z7, z8⟩ := dat_cells HE8.out.dat
              have HM0 : Hid (FsAt w w1 (w8.alloc (datO d)) p A cap d e ∧ (w8.alloc (datO d)).heap[w8.heap.size]? = some (datO (mixD p.rules d e 0)) ∧ w1.heap.size + 1 + 1 < w8.heap.size) := Lib.hid ⟨FsAt.up HE8.out (lbox w8 (datO d)), by rw [mix_zero]; exact World.alloc_heap_new w8 (datO d), (Array.getElem?_eq_some_iff.1 HE8.out.oth).1⟩
              clear hHeld HE1 HE2
              go_wp2
              clear z0 z1 z2 z3 z4 z5 z6 z7 z8
              go_loopw [15] (fun v wr => ∃ f : Nat, f ≤ 6 ∧ v = .int .i64 (f : Int) ∧ FsAt w w1 wr p A cap d e ∧ wr.heap[w8.heap.size]? = some (datO (mixD p.rules d e f))) (fun v _ => 6 - (intOf v).toNat)
              case atStart => exact ⟨0, by omega, rfl, HM0.out.1, HM0.out.2.1⟩
              case round =>
                obtain ⟨f, hf6, rfl, hF, hM⟩ := hrel
                by_cases hfl : f < 6
                · have hfl' : (f : Int) < 6 := by omega
                  obtain ⟨ak, hak⟩ : ∃ ak, askedR p.rules f = ak := ⟨_, rfl⟩
                  have HF := Lib.hid (And.intro hF hM)
                  have HAK := Lib.hid hak
                  have HASK := Lib.hid (fun (x : Ex) (Ax : Option Addr) (cx : Nat) (V : World) (hV : ExL V x Ax cx) => law_asks (f : Int) _ x (Nat.lt_succ_self _) Ax cx V hV)
                  have hw : IntKind.i64.wrap ((f : Int) + 1) = ((f + 1 : Nat) : Int) := by rw [IntWalk.i64_in _ (by omega)]; omega
                  clear hF hM hak
                  go_wp2
                  go_loopw [16, 17] (fun a v wr => ∃ (k : Nat) (b : Bool), k ≤ p.rules.length ∧ a = .bool b ∧ v = .int .i64 (k : Int) ∧ ak = (b || (p.rules.drop k).any (fun r => asksF (f : Int) r.when_)) ∧ FsAt w w1 wr p A cap d e ∧ wr.heap[w8.heap.size]? = some (datO (mixD p.rules d e f))) (fun _ v _ => p.rules.length - (intOf v).toNat)
                  case atStart => exact ⟨0, false, Nat.zero_le _, rfl, rfl, by rw [← HAK.out]; rfl, HF.out.1, HF.out.2⟩
                  case round =>
                    obtain ⟨k, b, hk, rfl, rfl, hak, hF, hM⟩ := hrel
                    obtain ⟨p0, p1, p2, p3, p4, p5⟩ := po_cells hF.po
                    by_cases hkl : k < p.rules.length
                    · have hkl' : (k : Int) < (p.rules.length : Int) := by omega
                      have hwk : IntKind.i64.wrap ((k : Int) + 1) = ((k + 1 : Nat) : Int) := by rw [IntWalk.i64_in _ (by omega)]; omega
                      rw [any_at _ _ _ hkl] at hak
                      obtain ⟨tb, o, Ac, capc, Ar, capr, hA, hh⟩ := hand_of hF.rules k hkl
                      generalize p.rules.getD k zeroR7 = r at hak hh
                      obtain ⟨e0, e1, e2, e3, e4, e5, e6, e7, e8⟩ := RuAt.cells hh.at_
                      have HH := Lib.hid (And.intro hh.ex (And.intro hF hM))
                      have HAr := Lib.hid (fun V hV => HASK.out r.when_ Ar capr V hV)
                      clear hh hF hM HASK HF HAK
                      generalize asksF (f : Int) r.when_ = c at hak HAr
                      have HA2 := Lib.hid hak
                      clear hak
                      subst hA
                      cases b <;> cases c <;> (
                        go_wp2_with (go_at_call 7; (with_reducible refine (HAr.out _ HH.out.1).mono ?_); rintro e' w9 ⟨rfl, hb⟩; have HB9 := Lib.hid (And.intro (FsAt.up HH.out.2.1 hb) (keep7 HH.out.2.2 hb)); clear hb)
                        exact ⟨⟨k + 1, _, by omega, rfl, by go_num, by simpa using HA2.out, HB9.out.1, HB9.out.2⟩, by simp [intOf]; omega⟩)
                    · have hkl' : ¬ (k : Int) < (p.rules.length : Int) := by omega
                      rw [List.drop_of_length_le (by omega), List.any_nil, Bool.or_false] at hak
                      have HH := Lib.hid (And.intro hF hM)
                      subst hak
                      cases ak with
                      | true =>
                        clear hF hM
                        go_wp2
                        exact ⟨⟨f + 1, by omega, by go_num, HH.out.1, by rw [mix_on HAK.out]; exact HH.out.2⟩, by simp [intOf]; omega⟩
                      | false =>
                        have y1 := dat_arg hfl hF.oth
                        have y2 := dat_arg hfl hM
                        have y3 := frozen6 hM (3 + f)
                        have y4 : (0 : Int) ≤ (f : Int) := by omega
                        have y5 : (f : Int).toNat = f := by omega
                        clear hF hM
                        go_wp2
                        exact ⟨⟨f + 1, by omega, by go_num, HH.out.1.set HM0.out.2.2 _ _, mix_put hfl HH.out.2 HAK.out⟩, by simp [intOf]; omega⟩
                · have hfl' : ¬ (f : Int) < 6 := by omega
                  go_upto_region 44 with fail
                  have hev := mix_eval HPRE.out d e f
                  generalize mixD p.rules d e f = m at hM hev
                  have HE1 := Lib.hid (fun V hr ht => p_Eval7 p d A cap V hr ht)
                  have he2 := fun V hr ht => p_Eval7 p m A cap V hr ht
                  rw [← hev] at he2
                  have HE2 := Lib.hid he2
                  clear he2 hev
                  generalize evalF p d = ev at HE1 HE2
                  have HD0 : Hid (FsAt w w1 wr.drew p A cap d e ∧ wr.drew.heap[w8.heap.size]? = some (datO m)) := Lib.hid ⟨FsAt.up hF (below_drawn (Below.refl _ _) 1), keep7 hM (below_drawn (Below.refl _ _) 1)⟩
                  refine wp_region_held_drew (S := fun W' => FsAt w w1 W' p A cap d e ∧ W'.heap[w8.heap.size]? = some (datO m)) (by kernel_rfl) HD0.out (fun hHeld => ?_)
                  clear hF hM
                  generalize wr.drew = Y7 at HD0 hHeld ⊢
                  clear hHeld
                  have hHeld := HD0.out
                  refine wpAnyH_take (i := 0) (v := ?_) rfl (by kernel_rfl) (by kernel_rfl) (by kernel_rfl) (fun _ _ _ h => h) (Or.inl ⟨by rfl, ?_⟩) (by assumption) ?_
                  rotate_left
                  · intro wS hSw
                    (obtain ⟨b0, b1, b2, b3, b4, b5⟩ := po_cells hSw.1.po; obtain ⟨z0, z1, z2, z3, z4, z5, z6, z7, z8⟩ := dat_cells hSw.1.dat; obtain ⟨g0, g1, g2, g3, g4, g5, g6, g7, g8⟩ := dat_cells hSw.2)
                    go_simp
                    all_goals with_reducible rfl
                  (try simp only [List.getElem_toArray, List.getElem_cons_zero, List.getElem_cons_succ, Act.put, List.setIfInBounds_toArray, List.set_cons_zero, List.set_cons_succ])
                  refine wpAnyH_take (i := 1) (v := ?_) rfl (by kernel_rfl) (by kernel_rfl) (by kernel_rfl) (fun _ _ _ h => h) (Or.inl ⟨by rfl, ?_⟩) (by assumption) ?_
                  rotate_left
                  · intro wS hSw
                    (obtain ⟨b0, b1, b2, b3, b4, b5⟩ := po_cells hSw.1.po; obtain ⟨z0, z1, z2, z3, z4, z5, z6, z7, z8⟩ := dat_cells hSw.1.dat; obtain ⟨g0, g1, g2, g3, g4, g5, g6, g7, g8⟩ := dat_cells hSw.2)
                    go_simp
                    all_goals with_reducible rfl
                  (try simp only [List.getElem_toArray, List.getElem_cons_zero, List.getElem_cons_succ, Act.put, List.setIfInBounds_toArray, List.set_cons_zero, List.set_cons_succ])
                  refine wpAnyH_take (i := 2) (v := ?_) rfl (by kernel_rfl) (by kernel_rfl) (by kernel_rfl) (fun _ _ _ h => h) (Or.inl ⟨by rfl, ?_⟩) (by assumption) ?_
                  rotate_left
                  · intro wS hSw
                    (obtain ⟨b0, b1, b2, b3, b4, b5⟩ := po_cells hSw.1.po; obtain ⟨z0, z1, z2, z3, z4, z5, z6, z7, z8⟩ := dat_cells hSw.1.dat; obtain ⟨g0, g1, g2, g3, g4, g5, g6, g7, g8⟩ := dat_cells hSw.2)
                    go_simp
                    all_goals with_reducible rfl
                  (try simp only [List.getElem_toArray, List.getElem_cons_zero, List.getElem_cons_succ, Act.put, List.setIfInBounds_toArray, List.set_cons_zero, List.set_cons_succ])
                  refine wpAnyH_take (i := 3) (v := ?_) rfl (by kernel_rfl) (by kernel_rfl) (by kernel_rfl) (fun _ _ _ h => h) (Or.inl ⟨by rfl, ?_⟩) (by assumption) ?_
                  rotate_left
                  · intro wS hSw
                    (obtain ⟨b0, b1, b2, b3, b4, b5⟩ := po_cells hSw.1.po; obtain ⟨z0, z1, z2, z3, z4, z5, z6, z7, z8⟩ := dat_cells hSw.1.dat; obtain ⟨g0, g1, g2, g3, g4, g5, g6, g7, g8⟩ := dat_cells hSw.2)
                    go_simp
                    all_goals with_reducible rfl
                  (try simp only [List.getElem_toArray, List.getElem_cons_zero, List.getElem_cons_succ, Act.put, List.setIfInBounds_toArray, List.set_cons_zero, List.set_cons_succ])
                  refine wpAnyH_take (i := 5) (v := ?_) rfl (by kernel_rfl) (by kernel_rfl) (by kernel_rfl) (fun _ _ _ h => h) (Or.inl ⟨by rfl, ?_⟩) (by assumption) ?_
                  rotate_left
                  · intro wS hSw
                    (obtain ⟨b0, b1, b2, b3, b4, b5⟩ := po_cells hSw.1.po; obtain ⟨z0, z1, z2, z3, z4, z5, z6, z7, z8⟩ := dat_cells hSw.1.dat; obtain ⟨g0, g1, g2, g3, g4, g5, g6, g7, g8⟩ := dat_cells hSw.2)
                    go_simp
                    all_goals with_reducible rfl
                  (try simp only [List.getElem_toArray, List.getElem_cons_zero, List.getElem_cons_succ, Act.put, List.setIfInBounds_toArray, List.set_cons_zero, List.set_cons_succ])
                  refine wpAnyH_take (i := 6) (v := ?_) rfl (by kernel_rfl) (by kernel_rfl) (by kernel_rfl) (fun _ _ _ h => h) (Or.inl ⟨by rfl, ?_⟩) (by assumption) ?_
                  rotate_left
                  · intro wS hSw
                    (obtain ⟨b0, b1, b2, b3, b4, b5⟩ := po_cells hSw.1.po; obtain ⟨z0, z1, z2, z3, z4, z5, z6, z7, z8⟩ := dat_cells hSw.1.dat; obtain ⟨g0, g1, g2, g3, g4, g5, g6, g7, g8⟩ := dat_cells hSw.2)
                    go_simp
                    all_goals with_reducible rfl
                  (try simp only [List.getElem_toArray, List.getElem_cons_zero, List.getElem_cons_succ, Act.put, List.setIfInBounds_toArray, List.set_cons_zero, List.set_cons_succ])
                  refine held_one (i := 4) (by kernel_rfl) rfl (fun K hK => ?_)
                  rw [if_pos (by kernel_rfl)]
                  go_simp
                  go_at_call 6
                  refine (HE1.out _ hHeld.1.rules hHeld.1.tab).mono ?_
                  rintro e' w9 ⟨rfl, hb3⟩
                  have HE0 := Lib.hid (And.intro (FsAt.up hHeld.1 hb3) (keep7 hHeld.2 hb3))
                  refine hK.out _ _ HE0.out (fun hH2 => ?_)
                  clear hK K hHeld hb3 hH2 HD0
                  (try simp only [Act.put, List.setIfInBounds_toArray, List.set_cons_zero, List.set_cons_succ, List.getElem_toArray, List.getElem_cons_zero, List.getElem_cons_succ])
                  refine held_one (i := 7) (by kernel_rfl) rfl (fun K hK => ?_)
                  rw [if_pos (by kernel_rfl)]
                  go_simp
                  go_at_call 6
                  refine (HE2.out _ HE0.out.1.rules HE0.out.1.tab).mono ?_
                  rintro e' w10 ⟨rfl, hb3⟩
                  have HE9 := Lib.hid (And.intro (FsAt.up HE0.out.1 hb3) (keep7 HE0.out.2 hb3))
                  have hHeld := HE9.out
                  refine hK.out _ _ HE9.out (fun hH2 => ?_)
                  clear hK K hb3 hH2 HE0
                  (try simp only [Act.put, List.setIfInBounds_toArray, List.set_cons_zero, List.set_cons_succ, List.getElem_toArray, List.getElem_cons_zero, List.getElem_cons_succ])
                  refine wpAnyH_take (i := 8) (v := ?_) rfl (by kernel_rfl) (by kernel_rfl) (by kernel_rfl) (fun _ _ _ h => h) (Or.inl ⟨by rfl, ?_⟩) (by assumption) ?_
                  rotate_left
                  · intro wS hSw
                    (skip)
                    go_simp
                    all_goals with_reducible rfl
                  (try simp only [List.getElem_toArray, List.getElem_cons_zero, List.getElem_cons_succ, Act.put, List.setIfInBounds_toArray, List.set_cons_zero, List.set_cons_succ])
                  refine wpAnyH_take (i := 9) (v := ?_) rfl (by kernel_rfl) (by kernel_rfl) (by kernel_rfl) (fun _ _ _ h => h) (Or.inl ⟨by rfl, ?_⟩) (by assumption) ?_
                  rotate_left
                  · intro wS hSw
                    (skip)
                    go_simp
                    all_goals with_reducible rfl
                  (try simp only [List.getElem_toArray, List.getElem_cons_zero, List.getElem_cons_succ, Act.put, List.setIfInBounds_toArray, List.set_cons_zero, List.set_cons_succ])
                  refine wpAnyH_take (i := 10) (v := ?_) rfl (by kernel_rfl) (by kernel_rfl) (by kernel_rfl) (fun _ _ _ h => h) (Or.inl ⟨by rfl, ?_⟩) (by assumption) ?_
                  rotate_left
                  · intro wS hSw
                    (skip)
                    go_simp
                    all_goals with_reducible rfl
                  (try simp only [List.getElem_toArray, List.getElem_cons_zero, List.getElem_cons_succ, Act.put, List.setIfInBounds_toArray, List.set_cons_zero, List.set_cons_succ])
                  refine wpAnyH_done (by kernel_rfl) ?_ _
                  go_wp2
                  go_ret
                  exact ⟨rfl, HE9.out.1.all⟩
      · obtain ⟨N, rfl⟩ : ∃ N : Nat, r = (N : Int) := ⟨r.natAbs, by omega⟩
        have hNl : N < p.rules.length := by omega
        clear hab
        go_enter Tryd.func3, Tryd.ntmps3
        go_wp2_with (first
        | (go_at_call 4; (with_reducible refine (HL.out _ HB.out.2.2.1).mono ?_); rintro e' w1 ⟨rfl, hb⟩; have hfx := keep7 HB.out.2.2.2 hb; obtain ⟨fx0, fx1, fx2, fx3, fx4, fx5⟩ := fir_cells hfx; obtain ⟨gx0, gx1, gx2, gx3, gx4, gx5, gx6, gx7, gx8⟩ := fir_cells1 hfx; obtain ⟨hx0, hx1, hx2, hx3, hx4, hx5, hx6, hx7, hx8⟩ := fir_cells2 hfx; have HB1 : Hid (FsAt w w1 (((w1.alloc (poO7 p A cap)).alloc (datO d)).alloc (datO e)) p A cap d e ∧ (((w1.alloc (poO7 p A cap)).alloc (datO d)).alloc (datO e)).heap[w.heap.size]? = some (firO p A cap n d e)) := Lib.hid ⟨fsAt_new d e (HB.out.2.1.below hb) (on7 HB.out.1 hb) (HB.out.2.2.1.up hb), kept_alloc (kept_alloc (kept_alloc hfx _) _) _⟩; clear hb)
        | (go_at_call 5; (with_reducible refine (HCK.out _ HB1.out.1.rules HB1.out.1.tab).mono ?_); rintro e' w2 ⟨rfl, hb⟩; have HB2 := Lib.hid (FsAt.up HB1.out.1 hb); have n6 := cell6 (keep7 HB1.out.2 hb) 6 (v := .int .i64 n) rfl; clear hb; obtain ⟨x0, x1, x2, x3, x4, x5⟩ := po_cells HB2.out.po; obtain ⟨xa0, xa1, xa2, xa3, xa4, xa5⟩ := po_cells_a HB2.out.po))
        clear fx0 fx1 fx2 fx3 fx4 fx5 gx0 gx1 gx2 gx3 gx4 gx5 gx6 gx7 gx8 hx0 hx1 hx2 hx3 hx4 hx5 hx6 hx7 hx8 x0 x1 x2 x3 x4 x5 xa0 xa1 xa2 xa3 xa4 xa5 n6 hr0 hr q1 q0 HB1 HL HB
        have HP2 := Lib.hid (show BuiltF w2 (w2.alloc (poQ p (.slice none 0 0))) p (seqR p.rules N 0) (.slice none 0 0) [] by rw [seq_zero]; exact BuiltF.first p w2)
        go_loopw [11] (fun v wr => ∃ (i : Nat) (v2 : Value) (l : List Ru) (xs : List Value), i ≤ p.rules.length ∧ v = .int .i64 (i : Int) ∧ (l = seqR p.rules N i ∧ l.length ≤ i + 1 ∧ (i ≤ N → l.length ≤ i)) ∧ BuiltF w2 wr p l v2 xs) (fun v _ => p.rules.length - (intOf v).toNat)
        case atStart => exact ⟨0, _, _, _, Nat.zero_le _, rfl, ⟨rfl, by rw [seq_zero]; exact Nat.zero_le _, fun _ => by rw [seq_zero]; exact Nat.le_refl _⟩, HP2.out⟩
        case round =>
          obtain ⟨i, v2, l, xs, hi, rfl, hl, hB⟩ := hrel
          have hF := FsAt.up HB2.out (show Below w2.heap.size w2 wr from hB.below)
          obtain ⟨p0, p1, p2, p3, p4, p5⟩ := po_cells hF.po
          by_cases hil : i < p.rules.length
          · have hil' : (i : Int) < (p.rules.length : Int) := by omega
            have hwi : IntKind.i64.wrap ((i : Int) + 1) = ((i + 1 : Nat) : Int) := by rw [IntWalk.i64_in _ (by omega)]; omega
            obtain ⟨tb, o, Ac, capc, Ar, capr, rfl, hru, hh0⟩ := rules_both HB2.out.rules (Below.refl _ _) i hil
            have hh := hh0.up hB.below
            obtain ⟨hl1, hl2, hl3⟩ := hl
            have hs2 := hB.size
            by_cases hiN : i = N
            · subst hiN
              have hsn := seq_at p.rules i
              generalize p.rules.getD i zeroR7 = r at hru hh0 hh hsn
              rw [← hl1] at hsn
              have HSN := Lib.hid hsn
              obtain ⟨e0, e1, e2, e3, e4, e5, e6, e7, e8⟩ := RuAt.cells hh.at_
              have hB1 := BuiltF.up hB (lbox wr (aheadO r Ac capc))
              have k5 := cell6 hB1.box 5 (v := v2) rfl
              have HOW := Lib.hid (own_below hB1.own (lbox _ (aheadO r Ac capc)))
              have HCO := Lib.hid (show ∀ j u, (ruL (aheadR r) Ac capc none 0)[j]? = some u → ((wr.alloc (aheadO r Ac capc)).alloc (aheadO r Ac capc)).cell? ((⟨wr.heap.size + 1, 0, none⟩ : Addr).add j) = some u from ruL_cells (wr.alloc (aheadO r Ac capc)) (wr.heap.size + 1) (by simp) (aheadR r) Ac capc none 0)
              have HV := Lib.hid (And.intro hB1 (And.intro (show CallsF _ _ (aheadR r).calls Ac from callsF_up hru.1 hB1.below) (And.intro hru.2 (And.intro (World.alloc_heap_new wr (aheadO r Ac capc)) (And.intro (show some wr.heap.size ≠ v2.ownBlock from fun e => by have := (hB.own.lt _ e.symm).2; omega) (And.intro hh0 hru.1))))))
              have HL3 := Lib.hid (And.intro hl2 (hl3 (Nat.le_refl _)))
              have hlb : l.length ≤ 512 := by omega
              clear hsn hl1 hl3 hB hF hru hh hh0 hB1
              go_upto_region 22 with (refine wpList_append_own _ rfl (.tmp 77) (.tmp 79) 26 rfl 46 _ 9 104 Tryd.underlying26 info_ru7 rfl (by decide) (w2.heap.size + 1) v2 l.length xs rfl HOW.out ⟨wr.heap.size + 1, 0, none⟩ 1 1 (ruL (aheadR r) Ac capc none 0) rfl rfl HCO.out ruL_one (by unfold maxLen; omega) (by omega) (by simp; omega) ?_; intro v' wd ho hg hv; obtain ⟨Av, cv, rfl⟩ := own_form7 ho; have hT := BuiltF.turn (x := aheadR r) HV.out.1 HV.out.2.1 ⟨Nat.zero_le _, .inl rfl⟩ ho hg hv; have t0 := cell6 hT.2.1 5 (v := v2) rfl; have u0 := frozen6 hT.2.1 5; have HT2 := Lib.hid (And.intro hT.1 (hT.2.2 wr.heap.size _ hs2 HV.out.2.2.2.1 HV.out.2.2.2.2.1)); clear ho hg hv hT)
              clear t0 u0 HOW HCO
              generalize wd.setCell ⟨w2.heap.size, 5, none⟩ (.slice Av (l.length + 1) cv) = W3 at HT2 ⊢
              obtain ⟨y0, y1, y2, y3, y4, y5, y6, y7, y8⟩ := ahead_cells HT2.out.2.1
              have z0 := ahead_frozen HT2.out.2.1 0
              have z1 := ahead_frozen HT2.out.2.1 1
              have z2 := ahead_frozen HT2.out.2.1 2
              have z3 := ahead_frozen HT2.out.2.1 3
              have z4 := ahead_frozen HT2.out.2.1 4
              have z5 := ahead_frozen HT2.out.2.1 5
              have z6 := ahead_frozen HT2.out.2.1 6
              have z7 := ahead_frozen HT2.out.2.1 7
              have z8 := ahead_frozen HT2.out.2.1 8
              obtain ⟨f0, f1, f2, f3, f4, f5, f6, f7, f8⟩ := RuAt.cells (HV.out.2.2.2.2.2.1.up HT2.out.1.below).at_
              have g5 := cell6 (FsAt.up HB2.out HT2.out.1.below).po 5 (v := .slice (some ⟨tb, o, none⟩) p.rules.length cap) rfl
              go_upto_region 23 with fail
              have HT4 : Hid ((BuiltF w2 (((((((((W3.setCell ⟨wr.heap.size, 0, none⟩ (.slice Ac r.calls.length capc)).setCell ⟨wr.heap.size, 1, none⟩ (.int .i64 r.when_.op)).setCell ⟨wr.heap.size, 2, none⟩ (.slice Ar r.when_.args.length capr)).setCell ⟨wr.heap.size, 3, none⟩ (.int .i64 r.when_.field)).setCell ⟨wr.heap.size, 4, none⟩ (.int .u64 (r.when_.mask : Int))).setCell ⟨wr.heap.size, 5, none⟩ (.int .i64 r.when_.rel)).setCell ⟨wr.heap.size, 6, none⟩ (.int .u64 (r.when_.value : Int))).setCell ⟨wr.heap.size, 7, none⟩ (.int .i64 r.do_.1)).setCell ⟨wr.heap.size, 8, none⟩ (.int .u64 (r.do_.2 : Int))) p (l ++ [aheadR r]) (.slice Av (l.length + 1) cv) (xs ++ ruL (aheadR r) Ac capc none 0) ∧ (((((((((W3.setCell ⟨wr.heap.size, 0, none⟩ (.slice Ac r.calls.length capc)).setCell ⟨wr.heap.size, 1, none⟩ (.int .i64 r.when_.op)).setCell ⟨wr.heap.size, 2, none⟩ (.slice Ar r.when_.args.length capr)).setCell ⟨wr.heap.size, 3, none⟩ (.int .i64 r.when_.field)).setCell ⟨wr.heap.size, 4, none⟩ (.int .u64 (r.when_.mask : Int))).setCell ⟨wr.heap.size, 5, none⟩ (.int .i64 r.when_.rel)).setCell ⟨wr.heap.size, 6, none⟩ (.int .u64 (r.when_.value : Int))).setCell ⟨wr.heap.size, 7, none⟩ (.int .i64 r.do_.1)).setCell ⟨wr.heap.size, 8, none⟩ (.int .u64 (r.do_.2 : Int))).heap[wr.heap.size]? = some (ruO7 r Ac capc Ar capr)) ∧ some wr.heap.size ≠ (Value.slice Av (l.length + 1) cv).ownBlock) := Lib.hid (And.intro (put9 Ar capr HT2.out.1 HT2.out.2.1 hs2 HT2.out.2.2) HT2.out.2.2)
              clear y0 y1 y2 y3 y4 y5 y6 y7 y8 z0 z1 z2 z3 z4 z5 z6 z7 z8 f0 f1 f2 f3 f4 f5 f6 f7 f8 g5 HT2
              generalize (((((((((W3.setCell ⟨wr.heap.size, 0, none⟩ (.slice Ac r.calls.length capc)).setCell ⟨wr.heap.size, 1, none⟩ (.int .i64 r.when_.op)).setCell ⟨wr.heap.size, 2, none⟩ (.slice Ar r.when_.args.length capr)).setCell ⟨wr.heap.size, 3, none⟩ (.int .i64 r.when_.field)).setCell ⟨wr.heap.size, 4, none⟩ (.int .u64 (r.when_.mask : Int))).setCell ⟨wr.heap.size, 5, none⟩ (.int .i64 r.when_.rel)).setCell ⟨wr.heap.size, 6, none⟩ (.int .u64 (r.when_.value : Int))).setCell ⟨wr.heap.size, 7, none⟩ (.int .i64 r.do_.1)).setCell ⟨wr.heap.size, 8, none⟩ (.int .u64 (r.do_.2 : Int))) = W4 at HT4 ⊢
              obtain ⟨y0, y1, y2, y3, y4, y5, y6, y7, y8⟩ := ru7_c HT4.out.1.2
              have z7 := frozen6 HT4.out.1.2 7
              have z8 := frozen6 HT4.out.1.2 8
              go_upto_region 25 with fail
              have HT5 : Hid (BuiltF w2 ((W4.setCell ⟨wr.heap.size, 7, none⟩ (.int .i64 6)).setCell ⟨wr.heap.size, 8, none⟩ (.int .u64 7)) p (l ++ [aheadR r]) (.slice Av (l.length + 1) cv) (xs ++ ruL (aheadR r) Ac capc none 0) ∧ ((W4.setCell ⟨wr.heap.size, 7, none⟩ (.int .i64 6)).setCell ⟨wr.heap.size, 8, none⟩ (.int .u64 7)).heap[wr.heap.size]? = some (ruO7 (behindR r) Ac capc Ar capr)) := Lib.hid (put2 HT4.out.1.1 HT4.out.1.2 hs2 HT4.out.2)
              clear y0 y1 y2 y3 y4 y5 y6 y7 y8 z7 z8 HT4
              generalize ((W4.setCell ⟨wr.heap.size, 7, none⟩ (.int .i64 6)).setCell ⟨wr.heap.size, 8, none⟩ (.int .u64 7)) = W5 at HT5 ⊢
              obtain ⟨y0, y1, y2, y3, y4, y5, y6, y7, y8⟩ := beh7_c HT5.out.2
              have k6 := cell6 HT5.out.1.box 5 (v := .slice Av (l.length + 1) cv) rfl
              have hs5 := HT5.out.1.size
              have hl7 : (l ++ [aheadR r]).length = l.length + 1 := by simp
              have HOW5 := Lib.hid (own_below HT5.out.1.own (lbox W5 (.cells #[.slice Ac r.calls.length capc, .int .i64 r.when_.op, .slice Ar r.when_.args.length capr, .int .i64 r.when_.field, .int .u64 (r.when_.mask : Int), .int .i64 r.when_.rel, .int .u64 (r.when_.value : Int), .int .i64 6, .int .u64 7] 46)))
              rw [hl7] at HOW5
              have HCO5 := Lib.hid (show ∀ j u, (ruL (behindR r) Ac capc Ar capr)[j]? = some u → (W5.alloc (.cells #[.slice Ac r.calls.length capc, .int .i64 r.when_.op, .slice Ar r.when_.args.length capr, .int .i64 r.when_.field, .int .u64 (r.when_.mask : Int), .int .i64 r.when_.rel, .int .u64 (r.when_.value : Int), .int .i64 6, .int .u64 7] 46)).cell? ((⟨W5.heap.size, 0, none⟩ : Addr).add j) = some u from ruL_cells W5 W5.heap.size rfl (behindR r) Ac capc Ar capr)
              go_wp2_with (refine wpList_append_own _ rfl (.tmp 93) (.tmp 95) 26 rfl 46 _ 9 104 Tryd.underlying26 info_ru7 rfl (by decide) (w2.heap.size + 1) (.slice Av (l.length + 1) cv) (l.length + 1) (xs ++ ruL (aheadR r) Ac capc none 0) rfl HOW5.out ⟨W5.heap.size, 0, none⟩ 1 1 (ruL (behindR r) Ac capc Ar capr) rfl rfl HCO5.out ruL_one (by unfold maxLen; omega) (by omega) (by simp; omega) ?_; go_loud (intro v' wd2 ho hg hv); go_loud (obtain ⟨Av2, cv2, rfl⟩ := own_form7 ho); go_loud (have ho2 : wd2.ownsRow (w2.heap.size + 1) 46 9 (.slice Av2 (l.length + 1 + 1) cv2) ((l ++ [aheadR r]).length + 1) ((xs ++ ruL (aheadR r) Ac capc none 0) ++ ruL (behindR r) Ac capc Ar capr) := by (rw [hl7]; exact ho)); go_loud (have hT := BuiltF.turn (x := behindR r) HT5.out.1 (show CallsF _ _ (behindR r).calls Ac from callsF_up HV.out.2.2.2.2.2.2 HT5.out.1.below) HV.out.2.2.1 ho2 hg hv); go_loud (have t0 := cell6 hT.2.1 5 (v := .slice Av (l.length + 1) cv) rfl); go_loud (have u0 := frozen6 hT.2.1 5); go_loud (have HT6 := Lib.hid hT.1); go_loud (clear ho ho2 hg hv hT))
              have h9 := HT6.out
              exact ⟨⟨i + 1, _, (l ++ [aheadR r]) ++ [behindR r], _, by omega, by go_num, ⟨HSN.out.symm, by rw [List.length_append, hl7]; simp only [List.length_cons, List.length_nil]; have := HL3.out.2; omega, fun h => by omega⟩, h9⟩, by simp [intOf]; omega⟩
            · have hsn := seq_on p.rules N i hil hiN
              generalize p.rules.getD i zeroR7 = r at hru hh0 hh hsn
              rw [← hl1] at hsn
              have HSN := Lib.hid hsn
              have qn : ((i : Int) == (N : Int)) = false := beq_false_of_ne (by omega)
              obtain ⟨e0, e1, e2, e3, e4, e5, e6, e7, e8⟩ := RuAt.cells hh.at_
              obtain ⟨b0, b1, b2, b3, b4, b5, b6, b7, b8⟩ := ru_cells_a hh.at_ hh.lt
              have pa5 := fun x => cell6 (kept_alloc hF.po x) 5 (v := .slice (some ⟨tb, o, none⟩) p.rules.length cap) rfl
              have hB1 := BuiltF.up hB (lbox wr (ruO7 r Ac capc Ar capr))
              have k5 := cell6 hB1.box 5 (v := v2) rfl
              have HOW := Lib.hid (own_below hB1.own (lbox _ (ruO7 r Ac capc Ar capr)))
              have hco := ruL_cells (wr.alloc (ruO7 r Ac capc Ar capr)) (wr.heap.size + 1) (by simp) r Ac capc Ar capr
              have HCO := Lib.hid hco
              have HV := Lib.hid (And.intro hB1 (And.intro (callsF_up hru.1 hB1.below) hru.2))
              have HL3 := Lib.hid (And.intro hl2 hl3)
              have hlb : l.length ≤ 512 := by omega
              clear hsn hl1 hl3 hiN hB hF hru hh hh0 hB1 hco
              go_wp2_with (refine wpList_append_own _ rfl (.tmp 93) (.tmp 95) 26 rfl 46 _ 9 104 Tryd.underlying26 info_ru7 rfl (by decide) (w2.heap.size + 1) v2 l.length xs rfl HOW.out ⟨wr.heap.size + 1, 0, none⟩ 1 1 (ruL r Ac capc Ar capr) rfl rfl HCO.out ruL_one (by unfold maxLen; omega) (by omega) (by simp; omega) ?_; intro v' wd ho hg hv; obtain ⟨Av, cv, rfl⟩ := own_form7 ho; have hT := BuiltF.turn (x := r) HV.out.1 HV.out.2.1 HV.out.2.2 ho hg hv; have t0 := cell6 hT.2.1 5 (v := v2) rfl; have u0 := frozen6 hT.2.1 5; have HT2 := Lib.hid hT.1; clear ho hg hv hT)
              exact ⟨⟨i + 1, _, l ++ [r], _, by omega, by go_num, ⟨HSN.out.symm, by rw [List.length_append]; simp only [List.length_cons, List.length_nil]; omega, fun h => by have := HL3.out.2 (by omega); rw [List.length_append]; simp only [List.length_cons, List.length_nil]; omega⟩, HT2.out⟩, by simp [intOf]; omega⟩
          · have hil' : ¬ (i : Int) < (p.rules.length : Int) := by omega
            obtain ⟨hl1, hl2, hl3⟩ := hl
            obtain rfl : i = p.rules.length := by omega
            rw [seq_end p.rules N hNl] at hl1
            have hput : (putR p.rules N).length = p.rules.length + 1 := by unfold putR; rw [List.length_append, List.length_append, List.length_take, List.length_drop]; simp only [List.length_cons, List.length_nil]; omega
            obtain ⟨tq, cap', rfl, hcap, htq, hR, hxs, hxl, hxo⟩ := rules2 hB (by rw [hl1, hput]; omega)
            have hlen2 : l.length = p.rules.length + 1 := by rw [hl1, hput]
            rw [hlen2] at hcap hxl
            rw [hl1] at hR
            have hbx : wr.heap[w2.heap.size]? = some (poQ p (.slice (some ⟨tq, 0, none⟩) (p.rules.length + 1) cap')) := by have := hB.box; rwa [hlen2] at this
            obtain ⟨b0, b1, b2, b3, b4, b5⟩ := poQ_cells hbx
            have HPL := Lib.hid hput
            have hchunks := hB.chunks
            rw [hl1] at hchunks
            have HCH := Lib.hid hchunks
            clear hchunks
            have HXS := Lib.hid (And.intro hxs (And.intro hxl (And.intro hxo htq)))
            clear hxs hxl hxo htq
            have HV := Lib.hid (And.intro hF (And.intro hbx (And.intro hR (And.intro hB.size hB.below))))
            clear hl1 hl2 hl3 hput hB hF hR hbx hlen2
            by_cases h5 : 512 < p.rules.length + 1
            · have h5' : (512 : Int) < (p.rules.length : Int) + 1 := by omega
              go_wp2
              go_ret
              exact ⟨rfl, HV.out.1.all⟩
            · have h5' : ¬ (512 : Int) < (p.rules.length : Int) + 1 := by omega
              go_upto_region 29 with fail
              have HV2 : Hid (FsAt w w1 (wr.alloc (poQ p (.slice (some ⟨tq, 0, none⟩) (p.rules.length + 1) cap'))) p A cap d e ∧ (wr.alloc (poQ p (.slice (some ⟨tq, 0, none⟩) (p.rules.length + 1) cap'))).heap[w2.heap.size]? = some (poQ p (.slice (some ⟨tq, 0, none⟩) (p.rules.length + 1) cap')) ∧ (wr.alloc (poQ p (.slice (some ⟨tq, 0, none⟩) (p.rules.length + 1) cap'))).heap[wr.heap.size]? = some (poQ p (.slice (some ⟨tq, 0, none⟩) (p.rules.length + 1) cap')) ∧ RulesL (wr.alloc (poQ p (.slice (some ⟨tq, 0, none⟩) (p.rules.length + 1) cap'))) (putR p.rules N) (some ⟨tq, 0, none⟩)) := Lib.hid ⟨FsAt.up HV.out.1 (lbox wr _), kept_alloc HV.out.2.1 _, World.alloc_heap_new wr _, HV.out.2.2.1.below (lbox wr _)⟩
              have HXV : Hid ((∀ j u, xs[j]? = some u → (wr.alloc (poQ p (.slice (some ⟨tq, 0, none⟩) (p.rules.length + 1) cap'))).cell? ⟨tq, j, none⟩ = some u) ∧ tq < (wr.alloc (poQ p (.slice (some ⟨tq, 0, none⟩) (p.rules.length + 1) cap'))).heap.size) := Lib.hid ⟨fun j u hj => ((lbox wr _).cell (p := ⟨tq, j, none⟩) HXS.out.2.2.2.2).trans (HXS.out.1 j u hj), by have := HXS.out.2.2.2.2; simp; omega⟩
              have HVW : Hid (Below wr.heap.size wr (wr.alloc (poQ p (.slice (some ⟨tq, 0, none⟩) (p.rules.length + 1) cap')))) := Lib.hid (lbox wr _)
              clear b0 b1 b2 b3 b4 b5
              have hwr1 : wr.heap.size < (wr.alloc (poQ p (.slice (some ⟨tq, 0, none⟩) (p.rules.length + 1) cap'))).heap.size := by simp
              generalize wr.alloc (poQ p (.slice (some ⟨tq, 0, none⟩) (p.rules.length + 1) cap')) = V at HV2 HXV HVW hwr1 ⊢
              have hN1 : IntKind.i64.wrap ((N : Int) + 1) = (N : Int) + 1 := IntWalk.i64_in _ (by omega)
              have hN2 : IntKind.i64.wrap ((N : Int) + 2) = (N : Int) + 2 := IntWalk.i64_in _ (by omega)
              refine wp_region_held_drew (S := fun W' => Below wr.heap.size wr W') (by kernel_rfl) (below_drawn HVW.out 1) (fun hHeld => ?_)
              have HD0 : Hid (Below V.heap.size V V.drew) := Lib.hid (below_drawn (Below.refl _ _) 1)
              generalize V.drew = Y1 at HD0 hHeld ⊢
              clear hHeld
              have hHeld := on7 HVW.out HD0.out
              have hcap' : (p.rules.length : Int) + 1 ≤ (cap' : Int) := by omega
              have hNl' : (N : Int) + 1 ≤ (p.rules.length : Int) := by omega
              have hq1 : (0 : Int) ≤ (N : Int) + 1 := by omega
              have hq2 : (N : Int) + 1 ≤ (cap' : Int) := by omega
              have hq3 : (0 : Int) ≤ (N : Int) + 2 := by omega
              have hq4 : (N : Int) + 2 ≤ (p.rules.length : Int) + 1 := by omega
              have hq5 : ((N : Int) + 2).toNat = N + 2 := by omega
              obtain ⟨ad, had⟩ : ∃ ad : Addr, (if cap' = N + 2 then (some ⟨tq, 0, none⟩ : Option Addr) else some ⟨tq, (N + 2) * 9, none⟩) = some ad ∧ (p.rules.length - (N + 1) ≠ 0 → ad = ⟨tq, (N + 2) * 9, none⟩) := by
                by_cases hq : cap' = N + 2
                · exact ⟨_, if_pos hq, fun h => absurd (show p.rules.length - (N + 1) = 0 by omega) h⟩
                · exact ⟨_, if_neg hq, fun _ => rfl⟩
              have hq6 := had.1
              refine wpAnyH_take (i := 1) (v := ?_) rfl (by kernel_rfl) (by kernel_rfl) (by kernel_rfl) (fun _ _ _ h => h) (Or.inl ⟨by rfl, ?_⟩) (by assumption) ?_
              rotate_left
              · intro wS hSw
                (obtain ⟨b0, b1, b2, b3, b4, b5⟩ := poQ_cells (keep7 HV.out.2.1 hSw))
                go_simp
                all_goals with_reducible rfl
              (try simp only [List.getElem_toArray, List.getElem_cons_zero, List.getElem_cons_succ, Act.put, List.setIfInBounds_toArray, List.set_cons_zero, List.set_cons_succ])
              refine wpAnyH_take (i := 2) (v := ?_) rfl (by kernel_rfl) (by kernel_rfl) (by kernel_rfl) (fun _ _ _ h => h) (Or.inl ⟨by rfl, ?_⟩) (by assumption) ?_
              rotate_left
              · intro wS hSw
                (obtain ⟨b0, b1, b2, b3, b4, b5⟩ := poQ_cells (keep7 HV.out.2.1 hSw))
                go_simp
                all_goals with_reducible rfl
              (try simp only [List.getElem_toArray, List.getElem_cons_zero, List.getElem_cons_succ, Act.put, List.setIfInBounds_toArray, List.set_cons_zero, List.set_cons_succ])
              refine wpAnyH_take (i := 3) (v := ?_) rfl (by kernel_rfl) (by kernel_rfl) (by kernel_rfl) (fun _ _ _ h => h) (Or.inl ⟨by rfl, ?_⟩) (by assumption) ?_
              rotate_left
              · intro wS hSw
                (obtain ⟨b0, b1, b2, b3, b4, b5⟩ := poQ_cells (keep7 HV.out.2.1 hSw))
                go_simp
                all_goals with_reducible rfl
              (try simp only [List.getElem_toArray, List.getElem_cons_zero, List.getElem_cons_succ, Act.put, List.setIfInBounds_toArray, List.set_cons_zero, List.set_cons_succ])
              refine wpAnyH_take (i := 4) (v := ?_) rfl (by kernel_rfl) (by kernel_rfl) (by kernel_rfl) (fun _ _ _ h => h) (Or.inl ⟨by rfl, ?_⟩) (by assumption) ?_
              rotate_left
              · intro wS hSw
                (obtain ⟨b0, b1, b2, b3, b4, b5⟩ := poQ_cells (keep7 HV.out.2.1 hSw))
                go_simp
                all_goals with_reducible rfl
              (try simp only [List.getElem_toArray, List.getElem_cons_zero, List.getElem_cons_succ, Act.put, List.setIfInBounds_toArray, List.set_cons_zero, List.set_cons_succ])
              refine wpAnyH_take (i := 5) (v := ?_) rfl (by kernel_rfl) (by kernel_rfl) (by kernel_rfl) (fun _ _ _ h => h) (Or.inl ⟨by rfl, ?_⟩) (by assumption) ?_
              rotate_left
              · intro wS hSw
                (obtain ⟨b0, b1, b2, b3, b4, b5⟩ := poQ_cells (keep7 HV.out.2.1 hSw))
                go_simp
                all_goals with_reducible rfl
              (try simp only [List.getElem_toArray, List.getElem_cons_zero, List.getElem_cons_succ, Act.put, List.setIfInBounds_toArray, List.set_cons_zero, List.set_cons_succ])
              refine wpAnyH_take (i := 7) (v := ?_) rfl (by kernel_rfl) (by kernel_rfl) (by kernel_rfl) (fun _ _ _ h => h) (Or.inl ⟨by rfl, ?_⟩) (by assumption) ?_
              rotate_left
              · intro wS hSw
                (obtain ⟨b0, b1, b2, b3, b4, b5⟩ := poQ_cells (keep7 HV.out.2.1 hSw))
                go_simp
                all_goals with_reducible rfl
              (try simp only [List.getElem_toArray, List.getElem_cons_zero, List.getElem_cons_succ, Act.put, List.setIfInBounds_toArray, List.set_cons_zero, List.set_cons_succ])
              refine wpAnyH_take (i := 8) (v := ?_) rfl (by kernel_rfl) (by kernel_rfl) (by kernel_rfl) (fun _ _ _ h => h) (Or.inl ⟨by rfl, ?_⟩) (by assumption) ?_
              rotate_left
              · intro wS hSw
                (obtain ⟨b0, b1, b2, b3, b4, b5⟩ := poQ_cells (keep7 HV.out.2.1 hSw))
                go_simp
                all_goals with_reducible rfl
              (try simp only [List.getElem_toArray, List.getElem_cons_zero, List.getElem_cons_succ, Act.put, List.setIfInBounds_toArray, List.set_cons_zero, List.set_cons_succ])
              refine wpAnyH_take (i := 9) (v := ?_) rfl (by kernel_rfl) (by kernel_rfl) (by kernel_rfl) (fun _ _ _ h => h) (Or.inl ⟨by rfl, ?_⟩) (by assumption) ?_
              rotate_left
              · intro wS hSw
                (obtain ⟨b0, b1, b2, b3, b4, b5⟩ := poQ_cells (keep7 HV.out.2.1 hSw))
                go_simp
                all_goals with_reducible rfl
              (try simp only [List.getElem_toArray, List.getElem_cons_zero, List.getElem_cons_succ, Act.put, List.setIfInBounds_toArray, List.set_cons_zero, List.set_cons_succ])
              refine wpAnyH_take (i := 10) (v := ?_) rfl (by kernel_rfl) (by kernel_rfl) (by kernel_rfl) (fun _ _ _ h => h) (Or.inl ⟨by rfl, ?_⟩) (by assumption) ?_
              rotate_left
              · intro wS hSw
                (obtain ⟨b0, b1, b2, b3, b4, b5⟩ := poQ_cells (keep7 HV.out.2.1 hSw))
                go_simp
                all_goals with_reducible rfl
              (try simp only [List.getElem_toArray, List.getElem_cons_zero, List.getElem_cons_succ, Act.put, List.setIfInBounds_toArray, List.set_cons_zero, List.set_cons_succ])
              refine wpAnyH_take (i := 11) (v := ?_) rfl (by kernel_rfl) (by kernel_rfl) (by kernel_rfl) (fun _ _ _ h => h) (Or.inl ⟨by rfl, ?_⟩) (by assumption) ?_
              rotate_left
              · intro wS hSw
                (obtain ⟨b0, b1, b2, b3, b4, b5⟩ := poQ_cells (keep7 HV.out.2.1 hSw))
                go_simp
                all_goals with_reducible rfl
              (try simp only [List.getElem_toArray, List.getElem_cons_zero, List.getElem_cons_succ, Act.put, List.setIfInBounds_toArray, List.set_cons_zero, List.set_cons_succ])
              refine held_one (i := 0) (by kernel_rfl) rfl (fun K hK => ?_)
              go_simp
              have HE1 : Hid (Below V.heap.size V (Y1.alloc (.cells #[] 46)) ∧ (Y1.alloc (.cells #[] 46)).ownsRow V.heap.size 46 9 (.slice (some ⟨Y1.heap.size, 0, none⟩) 0 0) 0 []) := Lib.hid ⟨below_of _ _ _ HD0.out, ⟨rfl, .inr ⟨Y1.heap.size, 0, _, rfl, HD0.out.size, World.alloc_heap_new Y1 _, Nat.le_refl _, Nat.zero_le _, rfl, rfl⟩⟩⟩
              refine hK.out _ _ (on7 HVW.out HE1.out.1) (fun hH2 => ?_)
              clear hK K hHeld HD0 hH2
              (try simp only [Act.put, List.setIfInBounds_toArray, List.set_cons_zero, List.set_cons_succ, List.getElem_toArray, List.getElem_cons_zero, List.getElem_cons_succ])
              generalize Y1.alloc (.cells #[] 46) = Y2 at HE1 ⊢
              have hHeld := on7 HVW.out HE1.out.1
              obtain ⟨i8, hi8, hz8, hs8, hb8⟩ := info_parts6 info_ru7
              have hk1 : ∀ j u, (xs.take ((N + 1) * 9))[j]? = some u → Y2.cell? ((⟨tq, 0, none⟩ : Addr).add j) = some u := fun j u hj => by
                rw [addr_add, Nat.zero_add]
                rw [List.getElem?_take] at hj
                split at hj
                · exact (HE1.out.1.cell (p := ⟨tq, j, none⟩) HXV.out.2).trans (HXV.out.1 j u hj)
                · cases hj
              have hk2 : (xs.take ((N + 1) * 9)).length = (N + 1) * 9 := by rw [List.length_take, HXS.out.2.1]; omega
              have HK1 := Lib.hid (And.intro hk1 hk2)
              clear hk1 hk2
              refine held_one (i := 6) (by kernel_rfl) rfl (fun K hK => ?_)
              rw [if_pos (by kernel_rfl)]
              refine oper_append6 (.tmp 104) (.tmp 109) 26 rfl V.heap.size 46 i8 _ 9 104 Tryd.underlying26 hi8 hz8 hs8 hb8 rfl (by decide) (.slice (some ⟨Y1.heap.size, 0, none⟩) 0 0) 0 [] rfl HE1.out.2 ⟨tq, 0, none⟩ (N + 1) cap' (xs.take ((N + 1) * 9)) rfl HK1.out.2 HK1.out.1 (fun u hu => HXS.out.2.2.1 u (List.mem_of_mem_take hu)) (by unfold maxLen; omega) (by omega) HE1.out.1.size ?_
              intro v' Y3 ho hg hv
              have HE3 := Lib.hid (And.intro (below_own HE1.out.1 HE1.out.2 hg (Nat.le_refl _)) ho)
              refine hK.out _ _ (on7 HVW.out HE3.out.1) (fun hH2 => ?_)
              clear hK K hHeld hH2 ho hg hv HK1
              (try simp only [Act.put, List.setIfInBounds_toArray, List.set_cons_zero, List.set_cons_succ, List.getElem_toArray, List.getElem_cons_zero, List.getElem_cons_succ])
              have hk2 : (xs.drop ((N + 2) * 9)).length = (p.rules.length - (N + 1)) * 9 := by rw [List.length_drop, HXS.out.2.1]; omega
              have hk1 : ∀ j u, (xs.drop ((N + 2) * 9))[j]? = some u → Y3.cell? (ad.add j) = some u := fun j u hj => by
                have hlt := (List.getElem?_eq_some_iff.1 hj).1
                rw [hk2] at hlt
                rw [had.2 (fun h => by rw [h] at hlt; omega), addr_add]
                rw [List.getElem?_drop] at hj
                exact (HE3.out.1.cell (p := ⟨tq, (N + 2) * 9 + j, none⟩) HXV.out.2).trans (HXV.out.1 _ u hj)
              have HK2 := Lib.hid (And.intro hk1 hk2)
              clear hk1 hk2
              refine held_one (i := 12) (by kernel_rfl) rfl (fun K hK => ?_)
              rw [if_pos (by kernel_rfl)]
              refine oper_append6 (.tmp 110) (.tmp 115) 26 rfl V.heap.size 46 i8 _ 9 104 Tryd.underlying26 hi8 hz8 hs8 hb8 rfl (by decide) v' (0 + (N + 1)) ([] ++ xs.take ((N + 1) * 9)) rfl HE3.out.2 ad (p.rules.length - (N + 1)) (cap' - (N + 2)) (xs.drop ((N + 2) * 9)) (by first | rfl | (show Value.slice (if cap' = N + 2 then some ⟨tq, 0, none⟩ else some ⟨tq, (N + 2) * 9, none⟩) (p.rules.length - (N + 1)) (cap' - (N + 2)) = _; rw [hq6])) HK2.out.2 HK2.out.1 (fun u hu => HXS.out.2.2.1 u (List.mem_of_mem_drop hu)) (by unfold maxLen; omega) (by omega) HE3.out.1.size ?_
              intro v4 Y4 ho hg hv
              have hM : N + 1 + (p.rules.length - (N + 1)) = p.rules.length := by omega
              rw [Nat.zero_add, hM] at ho
              obtain ⟨A4, c4, rfl⟩ := own_form7 ho
              have HE4 := Lib.hid (And.intro (below_own HE3.out.1 HE3.out.2 hg (Nat.le_refl _)) ho)
              refine hK.out _ _ (on7 HVW.out HE4.out.1) (fun hH2 => ?_)
              clear hK K hH2 ho hg hv HK2 HE3
              (try simp only [Act.put, List.setIfInBounds_toArray, List.set_cons_zero, List.set_cons_succ, List.getElem_toArray, List.getElem_cons_zero, List.getElem_cons_succ])
              have m5 := cell6 (keep7 HV2.out.2.2.1 HE4.out.1) 5 (v := .slice (some ⟨tq, 0, none⟩) (p.rules.length + 1) cap') rfl
              have n5 := frozen6 (keep7 HV2.out.2.2.1 HE4.out.1) 5
              have hbY5 : Below wr.heap.size wr (Y4.setCell ⟨wr.heap.size, 5, none⟩ (.slice A4 p.rules.length c4)) := (on7 HVW.out HE4.out.1).setCell (p := ⟨wr.heap.size, 5, none⟩) (Nat.le_refl _) _
              have hn4 : p.rules.length = (putS p.rules N).length := by rw [putS_is _ _ hNl, List.length_append, List.length_take, List.length_drop, HPL.out]; omega
              have hch : ChunksN w2 (Y4.setCell ⟨wr.heap.size, 5, none⟩ (.slice A4 p.rules.length c4)) (fun k => k < w2.heap.size) (putS p.rules N) (([] ++ xs.take ((N + 1) * 9)) ++ xs.drop ((N + 2) * 9)) := by
                rw [putS_is _ _ hNl, List.nil_append]
                exact ChunksN.keep hbY5.size (fun _ hk _ => hk) (fun k hk _ => hbY5.block k (Nat.lt_trans hk HV.out.2.2.2.1)) (chunksN_append (chunksN_take (N + 1) HCH.out) (chunksN_drop (N + 2) HCH.out))
              have hrb : (Y4.setCell ⟨wr.heap.size, 5, none⟩ (.slice A4 p.rules.length c4)).heap[wr.heap.size]? = some (poQ p (.slice A4 p.rules.length c4)) := heap_set1 (keep7 HV2.out.2.2.1 HE4.out.1) 5 _
              have hoY : (Y4.setCell ⟨wr.heap.size, 5, none⟩ (.slice A4 p.rules.length c4)).ownsRow V.heap.size 46 9 (.slice A4 p.rules.length c4) p.rules.length (([] ++ xs.take ((N + 1) * 9)) ++ xs.drop ((N + 2) * 9)) :=
                World.ownsRow.kept (row := some wr.heap.size) HE4.out.2 (grown_set (World.grownBy.refl Y4 _) 5 _) (.inr (fun e => by have := (HE4.out.2.lt _ e).1; omega))
              obtain ⟨t4, c5, he4, ht4, hR4⟩ := rules_of_own (W0 := w2) (on7 HV.out.2.2.2.2 hbY5) hoY hn4 (by omega) hch
              injection he4 with e1 e2 e3
              subst e1
              have HG : Hid (FsAt w w1 (Y4.setCell ⟨wr.heap.size, 5, none⟩ (.slice (some ⟨t4, 0, none⟩) p.rules.length c4)) p A cap d e ∧ (Y4.setCell ⟨wr.heap.size, 5, none⟩ (.slice (some ⟨t4, 0, none⟩) p.rules.length c4)).heap[w2.heap.size]? = some (poQ p (.slice (some ⟨tq, 0, none⟩) (p.rules.length + 1) cap')) ∧ RulesL (Y4.setCell ⟨wr.heap.size, 5, none⟩ (.slice (some ⟨t4, 0, none⟩) p.rules.length c4)) (putR p.rules N) (some ⟨tq, 0, none⟩) ∧ (Y4.setCell ⟨wr.heap.size, 5, none⟩ (.slice (some ⟨t4, 0, none⟩) p.rules.length c4)).heap[wr.heap.size]? = some (poQ p (.slice (some ⟨t4, 0, none⟩) p.rules.length c4)) ∧ RulesL (Y4.setCell ⟨wr.heap.size, 5, none⟩ (.slice (some ⟨t4, 0, none⟩) p.rules.length c4)) (putS p.rules N) (some ⟨t4, 0, none⟩)) :=
                Lib.hid ⟨FsAt.up HV.out.1 hbY5, keep7 HV.out.2.1 hbY5, HV.out.2.2.1.below hbY5, hrb, hR4⟩
              have HB5 := Lib.hid hbY5
              clear hch ht4 hR4 e2 e3 hrb hoY hbY5
              have HN4 := Lib.hid hn4
              clear hn4
              have hHeld := HB5.out
              have hHeld := on7 HVW.out HE4.out.1
              refine wpAnyH_take (i := 13) (v := ?_) rfl (by kernel_rfl) (by kernel_rfl) (by kernel_rfl) (fun _ _ _ h => h) (Or.inl ⟨by rfl, ?_⟩) (by assumption) ?_
              rotate_left
              · intro wS hSw
                (skip)
                go_simp
                all_goals with_reducible rfl
              (try simp only [List.getElem_toArray, List.getElem_cons_zero, List.getElem_cons_succ, Act.put, List.setIfInBounds_toArray, List.set_cons_zero, List.set_cons_succ])
              refine held_one (i := 14) (by kernel_rfl) rfl (fun K hK => ?_)
              go_simp
              refine hK.out _ _ HB5.out (fun hH2 => ?_)
              clear hK K hH2 m5 n5 HB5 HE4 HXV HVW HV2 HE1
              (try simp only [Act.put, List.setIfInBounds_toArray, List.set_cons_zero, List.set_cons_succ, List.getElem_toArray, List.getElem_cons_zero, List.getElem_cons_succ])
              refine wpAnyH_done (by kernel_rfl) ?_ _
              generalize Y4.setCell ⟨wr.heap.size, 5, none⟩ (.slice (some ⟨t4, 0, none⟩) p.rules.length c4) = Y5 at HG ⊢
              go_upto_region 30 with fail
              have HE1 := Lib.hid (fun V hr ht => eval_at (p := p) HPL.out.symm d (some ⟨tq, 0, none⟩) cap' V hr ht)
              have he2 := fun V hr ht => eval_at (p := p) HN4.out d (some ⟨t4, 0, none⟩) c4 V hr ht
              rw [← eval_put HPRE.out N hNl (by omega) d] at he2
              have HE2 := Lib.hid he2
              clear he2
              generalize evalF ⟨p.arch, p.foreign_, p.default_, putR p.rules N⟩ d = ev at HE1 HE2
              have HD0 : Hid (Fs5 w w1 Y5.drew p A cap d e w2.heap.size wr.heap.size (poQ p (.slice (some ⟨tq, 0, none⟩) (p.rules.length + 1) cap')) (poQ p (.slice (some ⟨t4, 0, none⟩) p.rules.length c4)) (putR p.rules N) (putS p.rules N) (some ⟨tq, 0, none⟩) (some ⟨t4, 0, none⟩)) := Lib.hid (fs_up HG.out (below_drawn (Below.refl _ _) 1))
              refine wp_region_held_drew (S := fun W' => Fs5 w w1 W' p A cap d e w2.heap.size wr.heap.size (poQ p (.slice (some ⟨tq, 0, none⟩) (p.rules.length + 1) cap')) (poQ p (.slice (some ⟨t4, 0, none⟩) p.rules.length c4)) (putR p.rules N) (putS p.rules N) (some ⟨tq, 0, none⟩) (some ⟨t4, 0, none⟩)) (by kernel_rfl) HD0.out (fun hHeld => ?_)
              generalize Y5.drew = Y6 at HD0 hHeld ⊢
              clear hHeld
              have hHeld := HD0.out
              refine wpAnyH_take (i := 0) (v := ?_) rfl (by kernel_rfl) (by kernel_rfl) (by kernel_rfl) (fun _ _ _ h => h) (Or.inl ⟨by rfl, ?_⟩) (by assumption) ?_
              rotate_left
              · intro wS hSw
                (obtain ⟨b0, b1, b2, b3, b4, b5⟩ := poQ_cells hSw.2.1; obtain ⟨z0, z1, z2, z3, z4, z5, z6, z7, z8⟩ := dat_cells hSw.1.dat; obtain ⟨g0, g1, g2, g3, g4, g5⟩ := poQ_cells hSw.2.2.2.1)
                go_simp
                all_goals with_reducible rfl
              (try simp only [List.getElem_toArray, List.getElem_cons_zero, List.getElem_cons_succ, Act.put, List.setIfInBounds_toArray, List.set_cons_zero, List.set_cons_succ])
              refine wpAnyH_take (i := 1) (v := ?_) rfl (by kernel_rfl) (by kernel_rfl) (by kernel_rfl) (fun _ _ _ h => h) (Or.inl ⟨by rfl, ?_⟩) (by assumption) ?_
              rotate_left
              · intro wS hSw
                (obtain ⟨b0, b1, b2, b3, b4, b5⟩ := poQ_cells hSw.2.1; obtain ⟨z0, z1, z2, z3, z4, z5, z6, z7, z8⟩ := dat_cells hSw.1.dat; obtain ⟨g0, g1, g2, g3, g4, g5⟩ := poQ_cells hSw.2.2.2.1)
                go_simp
                all_goals with_reducible rfl
              (try simp only [List.getElem_toArray, List.getElem_cons_zero, List.getElem_cons_succ, Act.put, List.setIfInBounds_toArray, List.set_cons_zero, List.set_cons_succ])
              refine wpAnyH_take (i := 3) (v := ?_) rfl (by kernel_rfl) (by kernel_rfl) (by kernel_rfl) (fun _ _ _ h => h) (Or.inl ⟨by rfl, ?_⟩) (by assumption) ?_
              rotate_left
              · intro wS hSw
                (obtain ⟨b0, b1, b2, b3, b4, b5⟩ := poQ_cells hSw.2.1; obtain ⟨z0, z1, z2, z3, z4, z5, z6, z7, z8⟩ := dat_cells hSw.1.dat; obtain ⟨g0, g1, g2, g3, g4, g5⟩ := poQ_cells hSw.2.2.2.1)
                go_simp
                all_goals with_reducible rfl
              (try simp only [List.getElem_toArray, List.getElem_cons_zero, List.getElem_cons_succ, Act.put, List.setIfInBounds_toArray, List.set_cons_zero, List.set_cons_succ])
              refine wpAnyH_take (i := 4) (v := ?_) rfl (by kernel_rfl) (by kernel_rfl) (by kernel_rfl) (fun _ _ _ h => h) (Or.inl ⟨by rfl, ?_⟩) (by assumption) ?_
              rotate_left
              · intro wS hSw
                (obtain ⟨b0, b1, b2, b3, b4, b5⟩ := poQ_cells hSw.2.1; obtain ⟨z0, z1, z2, z3, z4, z5, z6, z7, z8⟩ := dat_cells hSw.1.dat; obtain ⟨g0, g1, g2, g3, g4, g5⟩ := poQ_cells hSw.2.2.2.1)
                go_simp
                all_goals with_reducible rfl
              (try simp only [List.getElem_toArray, List.getElem_cons_zero, List.getElem_cons_succ, Act.put, List.setIfInBounds_toArray, List.set_cons_zero, List.set_cons_succ])
              refine held_one (i := 2) (by kernel_rfl) rfl (fun K hK => ?_)
              go_simp
              go_at_call 6
              refine (HE1.out _ hHeld.2.2.1 hHeld.1.tab).mono ?_
              rintro e' w7 ⟨rfl, hb3⟩
              have HE0 : Hid (Fs5 w w1 w7 p A cap d e w2.heap.size wr.heap.size (poQ p (.slice (some ⟨tq, 0, none⟩) (p.rules.length + 1) cap')) (poQ p (.slice (some ⟨t4, 0, none⟩) p.rules.length c4)) (putR p.rules N) (putS p.rules N) (some ⟨tq, 0, none⟩) (some ⟨t4, 0, none⟩)) := Lib.hid (fs_up hHeld hb3)
              refine hK.out _ _ HE0.out (fun hH2 => ?_)
              clear hK K hHeld hb3 hH2 HD0
              (try simp only [Act.put, List.setIfInBounds_toArray, List.set_cons_zero, List.set_cons_succ, List.getElem_toArray, List.getElem_cons_zero, List.getElem_cons_succ])
              refine held_one (i := 5) (by kernel_rfl) rfl (fun K hK => ?_)
              go_simp
              go_at_call 6
              refine (HE2.out _ HE0.out.2.2.2.2 HE0.out.1.tab).mono ?_
              rintro e' w8 ⟨rfl, hb3⟩
              have HE8 := Lib.hid (FsAt.up HE0.out.1 hb3)
              have hHeld : Fs5 w w1 w8 p A cap d e w2.heap.size wr.heap.size (poQ p (.slice (some ⟨tq, 0, none⟩) (p.rules.length + 1) cap')) (poQ p (.slice (some ⟨t4, 0, none⟩) p.rules.length c4)) (putR p.rules N) (putS p.rules N) (some ⟨tq, 0, none⟩) (some ⟨t4, 0, none⟩) := fs_up HE0.out hb3
              refine hK.out _ _ hHeld (fun hH2 => ?_)
              clear hK K hb3 hH2 HE0
              (try simp only [Act.put, List.setIfInBounds_toArray, List.set_cons_zero, List.set_cons_succ, List.getElem_toArray, List.getElem_cons_zero, List.getElem_cons_succ])
              refine wpAnyH_take (i := 6) (v := ?_) rfl (by kernel_rfl) (by kernel_rfl) (by kernel_rfl) (fun _ _ _ h => h) (Or.inl ⟨by rfl, ?_⟩) (by assumption) ?_
              rotate_left
              · intro wS hSw
                (skip)
                go_simp
                all_goals with_reducible rfl
              (try simp only [List.getElem_toArray, List.getElem_cons_zero, List.getElem_cons_succ, Act.put, List.setIfInBounds_toArray, List.set_cons_zero, List.set_cons_succ])
              refine wpAnyH_done (by kernel_rfl) ?_ _
              go_upto_region 32 with fail
              obtain ⟨z0, z1, z2, z3, z4, z5, z6, z7, z8⟩ := dat_cells HE8.out.dat
              have HM0 : Hid (FsAt w w1 (w8.alloc (datO d)) p A cap d e ∧ (w8.alloc (datO d)).heap[w8.heap.size]? = some (datO (mixD p.rules d e 0)) ∧ w1.heap.size + 1 + 1 < w8.heap.size) := Lib.hid ⟨FsAt.up HE8.out (lbox w8 (datO d)), by rw [mix_zero]; exact World.alloc_heap_new w8 (datO d), (Array.getElem?_eq_some_iff.1 HE8.out.oth).1⟩
              clear hHeld HE1 HE2
              go_wp2
              clear z0 z1 z2 z3 z4 z5 z6 z7 z8
              go_loopw [15] (fun v wr => ∃ f : Nat, f ≤ 6 ∧ v = .int .i64 (f : Int) ∧ FsAt w w1 wr p A cap d e ∧ wr.heap[w8.heap.size]? = some (datO (mixD p.rules d e f))) (fun v _ => 6 - (intOf v).toNat)
              case atStart => exact ⟨0, by omega, rfl, HM0.out.1, HM0.out.2.1⟩
              case round =>
                obtain ⟨f, hf6, rfl, hF, hM⟩ := hrel
                by_cases hfl : f < 6
                · have hfl' : (f : Int) < 6 := by omega
                  obtain ⟨ak, hak⟩ : ∃ ak, askedR p.rules f = ak := ⟨_, rfl⟩
                  have HF := Lib.hid (And.intro hF hM)
                  have HAK := Lib.hid hak
                  have HASK := Lib.hid (fun (x : Ex) (Ax : Option Addr) (cx : Nat) (V : World) (hV : ExL V x Ax cx) => law_asks (f : Int) _ x (Nat.lt_succ_self _) Ax cx V hV)
                  have hw : IntKind.i64.wrap ((f : Int) + 1) = ((f + 1 : Nat) : Int) := by rw [IntWalk.i64_in _ (by omega)]; omega
                  clear hF hM hak
                  go_wp2
                  go_loopw [16, 17] (fun a v wr => ∃ (k : Nat) (b : Bool), k ≤ p.rules.length ∧ a = .bool b ∧ v = .int .i64 (k : Int) ∧ ak = (b || (p.rules.drop k).any (fun r => asksF (f : Int) r.when_)) ∧ FsAt w w1 wr p A cap d e ∧ wr.heap[w8.heap.size]? = some (datO (mixD p.rules d e f))) (fun _ v _ => p.rules.length - (intOf v).toNat)
                  case atStart => exact ⟨0, false, Nat.zero_le _, rfl, rfl, by rw [← HAK.out]; rfl, HF.out.1, HF.out.2⟩
                  case round =>
                    obtain ⟨k, b, hk, rfl, rfl, hak, hF, hM⟩ := hrel
                    obtain ⟨p0, p1, p2, p3, p4, p5⟩ := po_cells hF.po
                    by_cases hkl : k < p.rules.length
                    · have hkl' : (k : Int) < (p.rules.length : Int) := by omega
                      have hwk : IntKind.i64.wrap ((k : Int) + 1) = ((k + 1 : Nat) : Int) := by rw [IntWalk.i64_in _ (by omega)]; omega
                      rw [any_at _ _ _ hkl] at hak
                      obtain ⟨tb, o, Ac, capc, Ar, capr, hA, hh⟩ := hand_of hF.rules k hkl
                      generalize p.rules.getD k zeroR7 = r at hak hh
                      obtain ⟨e0, e1, e2, e3, e4, e5, e6, e7, e8⟩ := RuAt.cells hh.at_
                      have HH := Lib.hid (And.intro hh.ex (And.intro hF hM))
                      have HAr := Lib.hid (fun V hV => HASK.out r.when_ Ar capr V hV)
                      clear hh hF hM HASK HF HAK
                      generalize asksF (f : Int) r.when_ = c at hak HAr
                      have HA2 := Lib.hid hak
                      clear hak
                      subst hA
                      cases b <;> cases c <;> (
                        go_wp2_with (go_at_call 7; (with_reducible refine (HAr.out _ HH.out.1).mono ?_); rintro e' w9 ⟨rfl, hb⟩; have HB9 := Lib.hid (And.intro (FsAt.up HH.out.2.1 hb) (keep7 HH.out.2.2 hb)); clear hb)
                        exact ⟨⟨k + 1, _, by omega, rfl, by go_num, by simpa using HA2.out, HB9.out.1, HB9.out.2⟩, by simp [intOf]; omega⟩)
                    · have hkl' : ¬ (k : Int) < (p.rules.length : Int) := by omega
                      rw [List.drop_of_length_le (by omega), List.any_nil, Bool.or_false] at hak
                      have HH := Lib.hid (And.intro hF hM)
                      subst hak
                      cases ak with
                      | true =>
                        clear hF hM
                        go_wp2
                        exact ⟨⟨f + 1, by omega, by go_num, HH.out.1, by rw [mix_on HAK.out]; exact HH.out.2⟩, by simp [intOf]; omega⟩
                      | false =>
                        have y1 := dat_arg hfl hF.oth
                        have y2 := dat_arg hfl hM
                        have y3 := frozen6 hM (3 + f)
                        have y4 : (0 : Int) ≤ (f : Int) := by omega
                        have y5 : (f : Int).toNat = f := by omega
                        clear hF hM
                        go_wp2
                        exact ⟨⟨f + 1, by omega, by go_num, HH.out.1.set HM0.out.2.2 _ _, mix_put hfl HH.out.2 HAK.out⟩, by simp [intOf]; omega⟩
                · have hfl' : ¬ (f : Int) < 6 := by omega
                  go_upto_region 44 with fail
                  have hev := mix_eval HPRE.out d e f
                  generalize mixD p.rules d e f = m at hM hev
                  have HE1 := Lib.hid (fun V hr ht => p_Eval7 p d A cap V hr ht)
                  have he2 := fun V hr ht => p_Eval7 p m A cap V hr ht
                  rw [← hev] at he2
                  have HE2 := Lib.hid he2
                  clear he2 hev
                  generalize evalF p d = ev at HE1 HE2
                  have HD0 : Hid (FsAt w w1 wr.drew p A cap d e ∧ wr.drew.heap[w8.heap.size]? = some (datO m)) := Lib.hid ⟨FsAt.up hF (below_drawn (Below.refl _ _) 1), keep7 hM (below_drawn (Below.refl _ _) 1)⟩
                  refine wp_region_held_drew (S := fun W' => FsAt w w1 W' p A cap d e ∧ W'.heap[w8.heap.size]? = some (datO m)) (by kernel_rfl) HD0.out (fun hHeld => ?_)
                  clear hF hM
                  generalize wr.drew = Y7 at HD0 hHeld ⊢
                  clear hHeld
                  have hHeld := HD0.out
                  refine wpAnyH_take (i := 0) (v := ?_) rfl (by kernel_rfl) (by kernel_rfl) (by kernel_rfl) (fun _ _ _ h => h) (Or.inl ⟨by rfl, ?_⟩) (by assumption) ?_
                  rotate_left
                  · intro wS hSw
                    (obtain ⟨b0, b1, b2, b3, b4, b5⟩ := po_cells hSw.1.po; obtain ⟨z0, z1, z2, z3, z4, z5, z6, z7, z8⟩ := dat_cells hSw.1.dat; obtain ⟨g0, g1, g2, g3, g4, g5, g6, g7, g8⟩ := dat_cells hSw.2)
                    go_simp
                    all_goals with_reducible rfl
                  (try simp only [List.getElem_toArray, List.getElem_cons_zero, List.getElem_cons_succ, Act.put, List.setIfInBounds_toArray, List.set_cons_zero, List.set_cons_succ])
                  refine wpAnyH_take (i := 1) (v := ?_) rfl (by kernel_rfl) (by kernel_rfl) (by kernel_rfl) (fun _ _ _ h => h) (Or.inl ⟨by rfl, ?_⟩) (by assumption) ?_
                  rotate_left
                  · intro wS hSw
                    (obtain ⟨b0, b1, b2, b3, b4, b5⟩ := po_cells hSw.1.po; obtain ⟨z0, z1, z2, z3, z4, z5, z6, z7, z8⟩ := dat_cells hSw.1.dat; obtain ⟨g0, g1, g2, g3, g4, g5, g6, g7, g8⟩ := dat_cells hSw.2)
                    go_simp
                    all_goals with_reducible rfl
                  (try simp only [List.getElem_toArray, List.getElem_cons_zero, List.getElem_cons_succ, Act.put, List.setIfInBounds_toArray, List.set_cons_zero, List.set_cons_succ])
                  refine wpAnyH_take (i := 2) (v := ?_) rfl (by kernel_rfl) (by kernel_rfl) (by kernel_rfl) (fun _ _ _ h => h) (Or.inl ⟨by rfl, ?_⟩) (by assumption) ?_
                  rotate_left
                  · intro wS hSw
                    (obtain ⟨b0, b1, b2, b3, b4, b5⟩ := po_cells hSw.1.po; obtain ⟨z0, z1, z2, z3, z4, z5, z6, z7, z8⟩ := dat_cells hSw.1.dat; obtain ⟨g0, g1, g2, g3, g4, g5, g6, g7, g8⟩ := dat_cells hSw.2)
                    go_simp
                    all_goals with_reducible rfl
                  (try simp only [List.getElem_toArray, List.getElem_cons_zero, List.getElem_cons_succ, Act.put, List.setIfInBounds_toArray, List.set_cons_zero, List.set_cons_succ])
                  refine wpAnyH_take (i := 3) (v := ?_) rfl (by kernel_rfl) (by kernel_rfl) (by kernel_rfl) (fun _ _ _ h => h) (Or.inl ⟨by rfl, ?_⟩) (by assumption) ?_
                  rotate_left
                  · intro wS hSw
                    (obtain ⟨b0, b1, b2, b3, b4, b5⟩ := po_cells hSw.1.po; obtain ⟨z0, z1, z2, z3, z4, z5, z6, z7, z8⟩ := dat_cells hSw.1.dat; obtain ⟨g0, g1, g2, g3, g4, g5, g6, g7, g8⟩ := dat_cells hSw.2)
                    go_simp
                    all_goals with_reducible rfl
                  (try simp only [List.getElem_toArray, List.getElem_cons_zero, List.getElem_cons_succ, Act.put, List.setIfInBounds_toArray, List.set_cons_zero, List.set_cons_succ])
                  refine wpAnyH_take (i := 5) (v := ?_) rfl (by kernel_rfl) (by kernel_rfl) (by kernel_rfl) (fun _ _ _ h => h) (Or.inl ⟨by rfl, ?_⟩) (by assumption) ?_
                  rotate_left
                  · intro wS hSw
                    (obtain ⟨b0, b1, b2, b3, b4, b5⟩ := po_cells hSw.1.po; obtain ⟨z0, z1, z2, z3, z4, z5, z6, z7, z8⟩ := dat_cells hSw.1.dat; obtain ⟨g0, g1, g2, g3, g4, g5, g6, g7, g8⟩ := dat_cells hSw.2)
                    go_simp
                    all_goals with_reducible rfl
                  (try simp only [List.getElem_toArray, List.getElem_cons_zero, List.getElem_cons_succ, Act.put, List.setIfInBounds_toArray, List.set_cons_zero, List.set_cons_succ])
                  refine wpAnyH_take (i := 6) (v := ?_) rfl (by kernel_rfl) (by kernel_rfl) (by kernel_rfl) (fun _ _ _ h => h) (Or.inl ⟨by rfl, ?_⟩) (by assumption) ?_
                  rotate_left
                  · intro wS hSw
                    (obtain ⟨b0, b1, b2, b3, b4, b5⟩ := po_cells hSw.1.po; obtain ⟨z0, z1, z2, z3, z4, z5, z6, z7, z8⟩ := dat_cells hSw.1.dat; obtain ⟨g0, g1, g2, g3, g4, g5, g6, g7, g8⟩ := dat_cells hSw.2)
                    go_simp
                    all_goals with_reducible rfl
                  (try simp only [List.getElem_toArray, List.getElem_cons_zero, List.getElem_cons_succ, Act.put, List.setIfInBounds_toArray, List.set_cons_zero, List.set_cons_succ])
                  refine held_one (i := 4) (by kernel_rfl) rfl (fun K hK => ?_)
                  rw [if_pos (by kernel_rfl)]
                  go_simp
                  go_at_call 6
                  refine (HE1.out _ hHeld.1.rules hHeld.1.tab).mono ?_
                  rintro e' w9 ⟨rfl, hb3⟩
                  have HE0 := Lib.hid (And.intro (FsAt.up hHeld.1 hb3) (keep7 hHeld.2 hb3))
                  refine hK.out _ _ HE0.out (fun hH2 => ?_)
                  clear hK K hHeld hb3 hH2 HD0
                  (try simp only [Act.put, List.setIfInBounds_toArray, List.set_cons_zero, List.set_cons_succ, List.getElem_toArray, List.getElem_cons_zero, List.getElem_cons_succ])
                  refine held_one (i := 7) (by kernel_rfl) rfl (fun K hK => ?_)
                  rw [if_pos (by kernel_rfl)]
                  go_simp
                  go_at_call 6
                  refine (HE2.out _ HE0.out.1.rules HE0.out.1.tab).mono ?_
                  rintro e' w10 ⟨rfl, hb3⟩
                  have HE9 := Lib.hid (And.intro (FsAt.up HE0.out.1 hb3) (keep7 HE0.out.2 hb3))
                  have hHeld := HE9.out
                  refine hK.out _ _ HE9.out (fun hH2 => ?_)
                  clear hK K hb3 hH2 HE0
                  (try simp only [Act.put, List.setIfInBounds_toArray, List.set_cons_zero, List.set_cons_succ, List.getElem_toArray, List.getElem_cons_zero, List.getElem_cons_succ])
                  refine wpAnyH_take (i := 8) (v := ?_) rfl (by kernel_rfl) (by kernel_rfl) (by kernel_rfl) (fun _ _ _ h => h) (Or.inl ⟨by rfl, ?_⟩) (by assumption) ?_
                  rotate_left
                  · intro wS hSw
                    (skip)
                    go_simp
                    all_goals with_reducible rfl
                  (try simp only [List.getElem_toArray, List.getElem_cons_zero, List.getElem_cons_succ, Act.put, List.setIfInBounds_toArray, List.set_cons_zero, List.set_cons_succ])
                  refine wpAnyH_take (i := 9) (v := ?_) rfl (by kernel_rfl) (by kernel_rfl) (by kernel_rfl) (fun _ _ _ h => h) (Or.inl ⟨by rfl, ?_⟩) (by assumption) ?_
                  rotate_left
                  · intro wS hSw
                    (skip)
                    go_simp
                    all_goals with_reducible rfl
                  (try simp only [List.getElem_toArray, List.getElem_cons_zero, List.getElem_cons_succ, Act.put, List.setIfInBounds_toArray, List.set_cons_zero, List.set_cons_succ])
                  refine wpAnyH_take (i := 10) (v := ?_) rfl (by kernel_rfl) (by kernel_rfl) (by kernel_rfl) (fun _ _ _ h => h) (Or.inl ⟨by rfl, ?_⟩) (by assumption) ?_
                  rotate_left
                  · intro wS hSw
                    (skip)
                    go_simp
                    all_goals with_reducible rfl
                  (try simp only [List.getElem_toArray, List.getElem_cons_zero, List.getElem_cons_succ, Act.put, List.setIfInBounds_toArray, List.set_cons_zero, List.set_cons_succ])
                  refine wpAnyH_done (by kernel_rfl) ?_ _
                  go_wp2
                  go_ret
                  exact ⟨rfl, HE9.out.1.all⟩
  · have q0 : (c != 0) = true := bne_iff_ne.2 hc0
    clear hc0 HCE
    go_enter Tryd.func3, Tryd.ntmps3
    go_wp2_with (first
        | (go_at_call 4; (with_reducible refine (HL.out _ HB.out.2.2.1).mono ?_); rintro e' w1 ⟨rfl, hb⟩; have hfx := keep7 HB.out.2.2.2 hb; obtain ⟨fx0, fx1, fx2, fx3, fx4, fx5⟩ := fir_cells hfx; obtain ⟨gx0, gx1, gx2, gx3, gx4, gx5, gx6, gx7, gx8⟩ := fir_cells1 hfx; obtain ⟨hx0, hx1, hx2, hx3, hx4, hx5, hx6, hx7, hx8⟩ := fir_cells2 hfx; have HB1 : Hid (FsAt w w1 (((w1.alloc (poO7 p A cap)).alloc (datO d)).alloc (datO e)) p A cap d e ∧ (((w1.alloc (poO7 p A cap)).alloc (datO d)).alloc (datO e)).heap[w.heap.size]? = some (firO p A cap n d e)) := Lib.hid ⟨fsAt_new d e (HB.out.2.1.below hb) (on7 HB.out.1 hb) (HB.out.2.2.1.up hb), kept_alloc (kept_alloc (kept_alloc hfx _) _) _⟩; clear hb)
        | (go_at_call 5; (with_reducible refine (HCK.out _ HB1.out.1.rules HB1.out.1.tab).mono ?_); rintro e' w2 ⟨rfl, hb⟩; have HB2 := Lib.hid (FsAt.up HB1.out.1 hb); have n6 := cell6 (keep7 HB1.out.2 hb) 6 (v := .int .i64 n) rfl; clear hb; obtain ⟨x0, x1, x2, x3, x4, x5⟩ := po_cells HB2.out.po; obtain ⟨xa0, xa1, xa2, xa3, xa4, xa5⟩ := po_cells_a HB2.out.po))
    go_ret
    exact ⟨rfl, HB2.out.all⟩

/-! ### The row's step, the statement, and the card -/
theorem door_met (os : Os) (args : Array Value) : laidMetH Tryd.prog [("ravelin/secdata.rows", Rows.laid_ravelin_secdata_rows)] ((World.doorLaid Tryd.prog 400 os).forCall (fun _ _ => 0) ⟨#[], args, []⟩).memory :=
  laidMetH_of_parts3 (fuel := 8) (laidMet_of_run' 8 (by kernel_rfl) (by kernel_rfl)) (by kernel_rfl) (by kernel_rfl)

set_option maxRecDepth 100000 in
theorem lifted (os : Os) (started : os.Started) (H : Type) (enc : TypeId × Value → H) :
    ReturnsInHanded {} Tryd.checked os 3 .any (fun w args => (Rows.semFirstSpec.pre enc Tryd.prog Tryd.f3 [] false w args ∧ laidMetH Tryd.prog [("ravelin/secdata.rows", Rows.laid_ravelin_secdata_rows)] w) ∧ sizedMet enc Tryd.prog Tryd.f3 (OpenSpec.ofChange Rows.semFirstSpec) false w args)
      (Rows.semFirstSpec.post enc Tryd.prog Tryd.f3 false true false false) := by
  refine returnsInHanded_of_change_and (C := Tryd.checked) (X := fun w _ => laidMetH Tryd.prog [("ravelin/secdata.rows", Rows.laid_ravelin_secdata_rows)] w) (fun _ _ _ hh h => h.of_heap hh) own started (by kernel_rfl) Tryd.func3
    (ChangeSpec.witness_shaped (enc := enc) (C := Tryd.checked) (os := os) (X := fun w _ => laidMetH Tryd.prog [("ravelin/secdata.rows", Rows.laid_ravelin_secdata_rows)] w) false (World.doorLaid Tryd.prog 400 os) #[.agg #[.string ⟨#[]⟩, .int .i64 0, .int .u64 0, .int .i64 0, .int .u64 0, .slice none 0 0, .int .i64 0, .int .u32 0, .int .u32 0, .int .u64 0, .int .u64 0, .int .u64 0, .int .u64 0, .int .u64 0, .int .u64 0, .int .u64 0, .int .u32 0, .int .u32 0, .int .u64 0, .int .u64 0, .int .u64 0, .int .u64 0, .int .u64 0, .int .u64 0, .int .u64 0]] 8 rfl (World.shaped_of_RefB (by kernel_rfl) (by kernel_rfl)) (by kernel_rfl) (by kernel_rfl) (by kernel_rfl) (door_met os _)) ?_
  intro W base args ds gs before hval0 hW _ _ hL _
  have hval : ∀ (j : Nat) t v, Tryd.f3.params[j]? = some t → args[j]? = some v → Value.okWide Tryd.prog W .any base t v := hval0
  have hW' := hW
  obtain ⟨p, q, hA0, hV, rfl, hfz, hnd⟩ := hW
  have hA : DataW.TrodAll enc Tryd.prog W 0 (fun _ => true) true Tryd.f3.params.toList args.toList ds p := hA0
  rw [Tryd.params3] at hA hval
  obtain ⟨v0, vs0, d0, ds0, p0, q0, hargs, rfl, rfl, h0, r0⟩ := trodAll_cons hA
  obtain ⟨rfl, rfl, rfl⟩ := trodAll_nil r0
  obtain rfl : args = #[v0] := by cases args; simp_all
  obtain ⟨rfl, rfl⟩ := trodVars_none hV
  have k0 := h0
  have lt0 : ∀ x ∈ p0, x.block < W.heap.size := by obtain ⟨m, hm⟩ := k0; exact DataW.trod_lt m _ _ _ hm
  obtain ⟨q0, a0, cap0, n0, d0_, e0_, rfl, w0, ww0, wn0, wd0, we0⟩ := open_first (hval 0 34 v0 rfl rfl) h0
  clear hA0 hval0
  refine (walk q0 a0 cap0 n0 d0_ e0_ W w0 ww0 wn0 wd0 we0 (tab_of_laid hL)).mono fun e W' ⟨he, bel⟩ => ?_
  subst he
  exact ⟨_, rfl, _, _, _, [], _, [], hW', trodAll_mk1 (shut_bool Tryd.underlying4 _), (trodAll_cons_mk (Below.trod laidOut (by kernel_rfl) (of_decide_eq_true (by kernel_rfl)) k0 bel lt0) trodAll_mk0), rfl, bel.frame _, fun h => by cases h⟩

theorem over : Rows.semFirstRow.holds Tryd.pinned (OpenSpec.ofChange Rows.semFirstSpec) :=
  OpenClaim.holds_of_wide 3 Tryd.f3 rfl rfl rfl rfl rfl rfl rfl ⟨rfl, rfl, rfl, rfl, rfl⟩ rfl rfl rfl rfl rfl (by kernel_rfl) Tryd.func3 (by kernel_rfl)
    (of_decide_eq_true (by kernel_rfl)) (by unfold Func.isWrapper; first | (rw [if_pos (by decide +kernel)]; kernel_rfl) | (rw [if_neg (by decide +kernel)]; exact ⟨rfl, rfl⟩))
    (fun os started H enc _ => lifted os started H enc)

/-- The statement: the row's card, what it lists tied to the program's text. -/
theorem proved : Rows.SemFirstCardSaid :=
  Claim7.holds_tied_plain_at .later [] [.data] true Rows.semFirstCard.stood.harness Rows.semFirstCard.stood.looks
    over (fun _ h => by cases h) (by kernel_rfl) (fun _ h => by cases h) semFirst_row_tie rfl ⟨rfl, rfl⟩ (by kernel_rfl) rfl
    (fun f fn hf hfn => by
      obtain rfl : f = 3 := Option.some.inj ((show Tryd.prog.funcNamed "ravelin/ravelinlaw07.SemFirst" = some 3 by kernel_rfl).symm.trans hf) |>.symm
      obtain rfl : fn = Tryd.f3 := (Option.some.inj (Tryd.func3.symm.trans hfn)).symm
      exact ⟨by kernel_rfl, fun j t ht => by
        have hm : t ∈ Tryd.f3.params.toList := by
          have := Array.mem_of_getElem? ht
          simpa using this
        have hall : (Tryd.f3.params.toList.all fun u => !Tryd.prog.wantsStandIn u) = true := by kernel_rfl
        exact (show Tryd.prog.wantsStandIn t = false by simpa using List.all_eq_true.1 hall t hm)⟩)
    (by kernel_rfl)
end Go.Proofs.YtgeapkjegemkeaaDoor.semFirst
