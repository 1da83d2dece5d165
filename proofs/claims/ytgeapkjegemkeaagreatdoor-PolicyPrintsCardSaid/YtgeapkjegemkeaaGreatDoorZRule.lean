/-
  The program reads calls and rules: contracts. Conditions: those that each names.
-/
import Derived.Test.YtgeapkjegemkeaaGreatDoorPPolTurns
import Derived.Test.YtgeapkjegemkeaaGreatDoorPPolParse
namespace Go.Proofs.YtgeapkjegemkeaaGreatDoor
open Go Go.RowKit
set_option linter.unusedSimpArgs false
set_option linter.unusedVariables false

/-- A call's cells; several ones'. -/
def callC (v : ByteArray × Nat) : List Value := [.string v.1, .int .u64 (v.2 : Int)]
def callsC (l : List (ByteArray × Nat)) : List Value := l.flatMap callC
theorem callsC_snoc (l : List (ByteArray × Nat)) (x : ByteArray × Nat) : callsC (l ++ [x]) = callsC l ++ callC x := by simp [callsC]
abbrev callCells (x : ByteArray × Nat) : Obj := .cells #[.string x.1, .int .u64 (x.2 : Int)] 92
theorem info_call : (Tryz.prog.info? 92).map (fun i => (i.zero, i.size, i.bytes)) = some (some (.agg #[.string ⟨#[]⟩, .int .u64 0]), 2, 24) := by kernel_rfl
theorem call_one {x : ByteArray × Nat} : ∀ u ∈ callC x, u.oneCell' = true := by
  intro u hu
  simp only [callC, List.mem_cons, List.not_mem_nil, or_false] at hu
  rcases hu with rfl | rfl <;> rfl
theorem call_cells (w : World) (B : Nat) (hB : B = w.heap.size) (x : ByteArray × Nat) (j : Nat) (u : Value) (h : (callC x)[j]? = some u) : (w.alloc (callCells x)).cell? ((⟨B, 0, none⟩ : Addr).add j) = some u := by
  subst hB
  rw [addr_add, Nat.zero_add]
  refine cell6 (World.alloc_heap_new w _) j ?_
  rw [← List.getElem?_toArray] at h
  exact h
section
variable {s : ByteArray} {w wr wa wb wd : World} {b d : Nat} {mark : ByteArray} {item : Nat → Got (ByteArray × Nat)} {g : Got (List (ByteArray × Nat))} {v v' : Value} {l : List (ByteArray × Nat)} {n i k : Nat} {x : ByteArray × Nat} {O : Obj}
end
end Go.Proofs.YtgeapkjegemkeaaGreatDoor
namespace Go.Proofs.YtgeapkjegemkeaaGreatDoor
open Go Go.RowKit
set_option linter.unusedSimpArgs false
set_option linter.unusedVariables false

/-- A rule's calls and expression lie in blocks of F. -/
def RuIn (w : World) (F : Nat → Prop) (r : Ru) (tb : Nat) (A : Option Addr) (cap : Nat) : Prop :=
  (F tb ∧ tb < w.heap.size ∧ ∀ j u, (callsC r.calls)[j]? = some u → w.cell? ⟨tb, j, none⟩ = some u) ∧ ExIn w F r.when_ A cap
def ruC (r : Ru) (tb capc : Nat) (A : Option Addr) (cap : Nat) : List Value :=
  [.slice (some ⟨tb, 0, none⟩) r.calls.length capc, .int .i64 r.when_.op, .slice A r.when_.args.length cap, .int .i64 r.when_.field, .int .u64 (r.when_.mask : Int), .int .i64 r.when_.rel, .int .u64 (r.when_.value : Int), .int .i64 r.do_.1, .int .u64 (r.do_.2 : Int)]
abbrev ruV (r : Ru) (tb capc : Nat) (A : Option Addr) (cap : Nat) : Value :=
  .agg #[.slice (some ⟨tb, 0, none⟩) r.calls.length capc, .int .i64 r.when_.op, .slice A r.when_.args.length cap, .int .i64 r.when_.field, .int .u64 (r.when_.mask : Int), .int .i64 r.when_.rel, .int .u64 (r.when_.value : Int), .int .i64 r.do_.1, .int .u64 (r.do_.2 : Int)]
abbrev ruO (C : Value) (op : Int) (S : Value) (f m r v k n : Int) : Obj := .cells #[C, .int .i64 op, S, .int .i64 f, .int .u64 m, .int .i64 r, .int .u64 v, .int .i64 k, .int .u64 n] 88
theorem RuIn.keep {w w' : World} {F G : Nat → Prop} {r : Ru} {tb : Nat} {A : Option Addr} {cap : Nat} (h : RuIn w F r tb A cap) (hs : w.heap.size ≤ w'.heap.size) (hF : ∀ k, F k → G k) (hk : ∀ k, F k → k < w.heap.size → w'.heap[k]? = w.heap[k]?) : RuIn w' G r tb A cap :=
  ⟨⟨hF _ h.1.1, Nat.lt_of_lt_of_le h.1.2.1 hs, fun j u hj => (World.cell?_of_block (a := ⟨tb, j, none⟩) (hk tb h.1.1 h.1.2.1)).trans (h.1.2.2 j u hj)⟩, h.2.keep hs hF hk⟩
/-- A rule as a value. -/
def RuP (lo : Nat) (r : Ru) (v : Value) (W : World) : Prop := ∃ tb capc A cap, v = ruV r tb capc A cap ∧ RuIn W (fun k => lo ≤ k) r tb A cap
/-- A rule under way: its box E, what it holds. -/
structure RuleAt (w W : World) (b : Nat) (s : ByteArray) (d i E tb capc : Nat) (cs : List (ByteArray × Nat)) (x : Ex) (A : Option Addr) (cap : Nat) (k n : Int) : Prop where
  at_ : PAt W b s (tk (srcF s) i) d
  gr : w.grownBy W (some b)
  box : W.heap[E]? = some (ruO (.slice (some ⟨tb, 0, none⟩) cs.length capc) x.op (.slice A x.args.length cap) x.field (x.mask : Int) x.rel (x.value : Int) k n)
  res : W.heap[w.heap.size]? = some (ruO (.slice none 0 0) 0 (.slice none 0 0) 0 0 0 0 0 0)
  bw : b < w.heap.size
  lo : w.heap.size + 1 ≤ tb
  tbE : tb < E
  calls : ∀ j u, (callsC cs)[j]? = some u → W.cell? ⟨tb, j, none⟩ = some u
  ex : ExIn W (fun k => E < k) x A cap
namespace RuleAt
variable {w W : World} {b : Nat} {s : ByteArray} {d i E tb capc : Nat} {cs : List (ByteArray × Nat)} {x : Ex} {A : Option Addr} {cap : Nat} {k n : Int}
theorem size (h : RuleAt w W b s d i E tb capc cs x A cap k n) : E < W.heap.size := (Array.getElem?_eq_some_iff.1 h.box).1
/-- A step of the reader. -/
theorem call {W' : World} {j : Nat} (h : RuleAt w W b s d i E tb capc cs x A cap k n) (hp : PAt W' b s (tk (srcF s) j) d) (hg : W.grownBy W' (some b)) : RuleAt w W' b s d j E tb capc cs x A cap k n := by
  have := h.bw; have := h.lo; have := h.tbE
  refine ⟨hp, grown_trans h.gr hg, kept_box h.box hg (by omega), kept_box h.res hg (by omega), h.bw, h.lo, h.tbE, fun j u hj => (World.cell?_of_block (a := ⟨tb, j, none⟩) (hg.block tb (by have := h.size; omega) (fun e => by injection e with e; omega))).trans (h.calls j u hj), h.ex.keep hg.size (fun _ hk => hk) (fun c hc hl => hg.block c hl (fun e => by injection e with e; omega))⟩
/-- Another expression in it. -/
theorem setEx {x' : Ex} {A' : Option Addr} {cap' : Nat} (h : RuleAt w W b s d i E tb capc cs x A cap k n) (hx : ExIn W (fun k => E < k) x' A' cap') :
    RuleAt w ((((((W.setCell ⟨E, 1, none⟩ (.int .i64 x'.op)).setCell ⟨E, 2, none⟩ (.slice A' x'.args.length cap')).setCell ⟨E, 3, none⟩ (.int .i64 x'.field)).setCell ⟨E, 4, none⟩ (.int .u64 (x'.mask : Int))).setCell ⟨E, 5, none⟩ (.int .i64 x'.rel)).setCell ⟨E, 6, none⟩ (.int .u64 (x'.value : Int))) b s d i E tb capc cs x' A' cap' k n := by
  have := h.bw; have := h.lo; have := h.tbE
  refine ⟨row_new (row_new (row_new (row_new (row_new (row_new h.at_ (by omega) 1 _) (by omega) 2 _) (by omega) 3 _) (by omega) 4 _) (by omega) 5 _) (by omega) 6 _,
    grown_new (grown_new (grown_new (grown_new (grown_new (grown_new h.gr (by omega) 1 _) (by omega) 2 _) (by omega) 3 _) (by omega) 4 _) (by omega) 5 _) (by omega) 6 _,
    heap_set1 (heap_set1 (heap_set1 (heap_set1 (heap_set1 (heap_set1 h.box 1 _) 2 _) 3 _) 4 _) 5 _) 6 _,
    kept_set (kept_set (kept_set (kept_set (kept_set (kept_set h.res (by omega) 1 _) (by omega) 2 _) (by omega) 3 _) (by omega) 4 _) (by omega) 5 _) (by omega) 6 _, h.bw, h.lo, h.tbE, fun j u hj => ?_, ?_⟩
  · have ne : ∀ c, (⟨E, c, none⟩ : Addr) ≠ ⟨tb, j, none⟩ := fun c e => by injection e with e _; omega
    exact (World.cell?_setCell_other (h := ne 6) ..).trans ((World.cell?_setCell_other (h := ne 5) ..).trans ((World.cell?_setCell_other (h := ne 4) ..).trans ((World.cell?_setCell_other (h := ne 3) ..).trans ((World.cell?_setCell_other (h := ne 2) ..).trans ((World.cell?_setCell_other (h := ne 1) ..).trans (h.calls j u hj))))))
  · exact ex_set (ex_set (ex_set (ex_set (ex_set (ex_set hx (fun k hk => by omega) 1 _) (fun k hk => by omega) 2 _) (fun k hk => by omega) 3 _) (fun k hk => by omega) 4 _) (fun k hk => by omega) 5 _) (fun k hk => by omega) 6 _
/-- Another verdict in it. -/
theorem setVerd {k' n' : Int} (h : RuleAt w W b s d i E tb capc cs x A cap k n) :
    RuleAt w ((W.setCell ⟨E, 7, none⟩ (.int .i64 k')).setCell ⟨E, 8, none⟩ (.int .u64 n')) b s d i E tb capc cs x A cap k' n' := by
  have := h.bw; have := h.lo; have := h.tbE
  refine ⟨row_new (row_new h.at_ (by omega) 7 _) (by omega) 8 _, grown_new (grown_new h.gr (by omega) 7 _) (by omega) 8 _, heap_set1 (heap_set1 h.box 7 _) 8 _, kept_set (kept_set h.res (by omega) 7 _) (by omega) 8 _, h.bw, h.lo, h.tbE, fun j u hj => ?_, ?_⟩
  · have ne : ∀ c, (⟨E, c, none⟩ : Addr) ≠ ⟨tb, j, none⟩ := fun c e => by injection e with e _; omega
    exact (World.cell?_setCell_other (h := ne 8) ..).trans ((World.cell?_setCell_other (h := ne 7) ..).trans (h.calls j u hj))
  · exact ex_set (ex_set h.ex (fun k hk => by omega) 7 _) (fun k hk => by omega) 8 _
/-- The rule is handed on. -/
theorem done {v7 : Nat} (h : RuleAt w W b s d i E tb capc cs x A cap k (v7 : Int)) :
    RuP w.heap.size ⟨cs, x, (k, v7)⟩ (ruV ⟨cs, x, (k, v7)⟩ tb capc A cap) (((((((((W.setCell ⟨w.heap.size, 0, none⟩ (.slice (some ⟨tb, 0, none⟩) cs.length capc)).setCell ⟨w.heap.size, 1, none⟩ (.int .i64 x.op)).setCell ⟨w.heap.size, 2, none⟩ (.slice A x.args.length cap)).setCell ⟨w.heap.size, 3, none⟩ (.int .i64 x.field)).setCell ⟨w.heap.size, 4, none⟩ (.int .u64 (x.mask : Int))).setCell ⟨w.heap.size, 5, none⟩ (.int .i64 x.rel)).setCell ⟨w.heap.size, 6, none⟩ (.int .u64 (x.value : Int))).setCell ⟨w.heap.size, 7, none⟩ (.int .i64 k)).setCell ⟨w.heap.size, 8, none⟩ (.int .u64 (v7 : Int))) ∧
    PAt (((((((((W.setCell ⟨w.heap.size, 0, none⟩ (.slice (some ⟨tb, 0, none⟩) cs.length capc)).setCell ⟨w.heap.size, 1, none⟩ (.int .i64 x.op)).setCell ⟨w.heap.size, 2, none⟩ (.slice A x.args.length cap)).setCell ⟨w.heap.size, 3, none⟩ (.int .i64 x.field)).setCell ⟨w.heap.size, 4, none⟩ (.int .u64 (x.mask : Int))).setCell ⟨w.heap.size, 5, none⟩ (.int .i64 x.rel)).setCell ⟨w.heap.size, 6, none⟩ (.int .u64 (x.value : Int))).setCell ⟨w.heap.size, 7, none⟩ (.int .i64 k)).setCell ⟨w.heap.size, 8, none⟩ (.int .u64 (v7 : Int))) b s (tk (srcF s) i) d ∧
    w.grownBy (((((((((W.setCell ⟨w.heap.size, 0, none⟩ (.slice (some ⟨tb, 0, none⟩) cs.length capc)).setCell ⟨w.heap.size, 1, none⟩ (.int .i64 x.op)).setCell ⟨w.heap.size, 2, none⟩ (.slice A x.args.length cap)).setCell ⟨w.heap.size, 3, none⟩ (.int .i64 x.field)).setCell ⟨w.heap.size, 4, none⟩ (.int .u64 (x.mask : Int))).setCell ⟨w.heap.size, 5, none⟩ (.int .i64 x.rel)).setCell ⟨w.heap.size, 6, none⟩ (.int .u64 (x.value : Int))).setCell ⟨w.heap.size, 7, none⟩ (.int .i64 k)).setCell ⟨w.heap.size, 8, none⟩ (.int .u64 (v7 : Int))) (some b) := by
  have := h.bw; have := h.lo; have := h.tbE; have := h.size
  have hr : RuIn W (fun k => w.heap.size + 1 ≤ k) ⟨cs, x, (k, v7)⟩ tb A cap := ⟨⟨h.lo, by omega, h.calls⟩, h.ex.keep (Nat.le_refl _) (fun k hk => by omega) (fun _ _ _ => rfl)⟩
  have rset : ∀ {V : World} (j : Nat) (v : Value), RuIn V (fun k => w.heap.size + 1 ≤ k) ⟨cs, x, (k, v7)⟩ tb A cap → RuIn (V.setCell ⟨w.heap.size, j, none⟩ v) (fun k => w.heap.size + 1 ≤ k) ⟨cs, x, (k, v7)⟩ tb A cap := fun {V} j v hV =>
    hV.keep (by simp [World.setCell]) (fun _ hk => hk) (fun c hc _ => Below.heap_setCell V ⟨w.heap.size, j, none⟩ v c (show c ≠ w.heap.size by omega))
  refine ⟨⟨tb, capc, A, cap, rfl, (rset 8 _ (rset 7 _ (rset 6 _ (rset 5 _ (rset 4 _ (rset 3 _ (rset 2 _ (rset 1 _ (rset 0 _ hr))))))))).keep (Nat.le_refl _) (fun k hk => by omega) (fun _ _ _ => rfl)⟩, ?_, ?_⟩
  · exact row_new (row_new (row_new (pset6 h.at_ (by omega) _ _ _ _ _ _) (by omega) 6 _) (by omega) 7 _) (by omega) 8 _
  · exact grown_new (grown_new (grown_new (gset6 h.gr (Nat.le_refl _) _ _ _ _ _ _) (Nat.le_refl _) 6 _) (Nat.le_refl _) 7 _) (Nat.le_refl _) 8 _
end RuleAt
end Go.Proofs.YtgeapkjegemkeaaGreatDoor
namespace Go.Proofs.YtgeapkjegemkeaaGreatDoor
open Go Go.RowKit
set_option linter.unusedSimpArgs false
set_option linter.unusedVariables false

/-- Rules in a row. -/
def RuRow (w : World) (F : Nat → Prop) : List Ru → Nat → Nat → Prop
  | [], _, _ => True
  | r :: l, tb, o => (∃ t capc A cap, RuIn w F r t A cap ∧ ∀ j u, (ruC r t capc A cap)[j]? = some u → w.cell? ⟨tb, o + j, none⟩ = some u) ∧ RuRow w F l tb (o + 9)
theorem RuRow.keep {w w' : World} {F G : Nat → Prop} (hs : w.heap.size ≤ w'.heap.size) (hF : ∀ k, F k → G k) (hk : ∀ k, F k → k < w.heap.size → w'.heap[k]? = w.heap[k]?) {tb : Nat} (hf : F tb) (ht : tb < w.heap.size) : ∀ {l : List Ru} {o : Nat}, RuRow w F l tb o → RuRow w' G l tb o
  | [], _, _ => trivial
  | r :: l, o, ⟨⟨t, c, A, cap, h1, h2⟩, h3⟩ => ⟨⟨t, c, A, cap, h1.keep hs hF hk, fun j u hj => (World.cell?_of_block (a := ⟨tb, o + j, none⟩) (hk tb hf ht)).trans (h2 j u hj)⟩, RuRow.keep hs hF hk hf ht h3⟩
def ChunksR (w : World) (F : Nat → Prop) : List Ru → List Value → Prop
  | [], xs => xs = []
  | r :: l, xs => ∃ t capc A cap ys, RuIn w F r t A cap ∧ xs = ruC r t capc A cap ++ ys ∧ ChunksR w F l ys
theorem ChunksR.keep {w w' : World} {F G : Nat → Prop} (hs : w.heap.size ≤ w'.heap.size) (hF : ∀ k, F k → G k) (hk : ∀ k, F k → k < w.heap.size → w'.heap[k]? = w.heap[k]?) : ∀ {l : List Ru} {xs : List Value}, ChunksR w F l xs → ChunksR w' G l xs
  | [], _, h => h
  | r :: l, xs, ⟨t, c, A, cap, ys, h1, h2, h3⟩ => ⟨t, c, A, cap, ys, h1.keep hs hF hk, h2, h3.keep hs hF hk⟩
theorem ru_lt {w : World} {F : Nat → Prop} {r : Ru} {t : Nat} {A : Option Addr} {cap : Nat} (h : RuIn w F r t A cap) : RuIn w (fun k => F k ∧ k < w.heap.size) r t A cap := ⟨⟨⟨h.1.1, h.1.2.1⟩, h.1.2⟩, ex_lt h.2⟩
theorem chunksR_lt {w : World} {F : Nat → Prop} : ∀ {l : List Ru} {xs : List Value}, ChunksR w F l xs → ChunksR w (fun k => F k ∧ k < w.heap.size) l xs
  | [], _, h => h
  | r :: l, xs, ⟨t, c, A, cap, ys, h1, h2, h3⟩ => ⟨t, c, A, cap, ys, ru_lt h1, h2, chunksR_lt h3⟩
theorem ChunksR.snoc {w : World} {F : Nat → Prop} {r : Ru} {t capc : Nat} {A : Option Addr} {cap : Nat} (he : RuIn w F r t A cap) : ∀ {l : List Ru} {xs : List Value}, ChunksR w F l xs → ChunksR w F (l ++ [r]) (xs ++ ruC r t capc A cap)
  | [], xs, h => by
    have : xs = [] := h
    subst this
    exact ⟨t, capc, A, cap, [], he, by simp, rfl⟩
  | x :: l, xs, ⟨t', c', A', cap', ys, h1, h2, h3⟩ => ⟨t', c', A', cap', ys ++ ruC r t capc A cap, h1, by rw [h2, List.append_assoc], h3.snoc he⟩
theorem ChunksR.row {w : World} {F : Nat → Prop} {tb : Nat} : ∀ {l : List Ru} {xs : List Value} {o : Nat}, ChunksR w F l xs → (∀ j u, xs[j]? = some u → w.cell? ⟨tb, o + j, none⟩ = some u) → RuRow w F l tb o
  | [], _, _, _, _ => trivial
  | r :: l, xs, o, ⟨t, c, A, cap, ys, h1, h2, h3⟩, hc => by
    subst h2
    refine ⟨⟨t, c, A, cap, h1, fun j u hj => hc j u ?_⟩, h3.row (fun j u hj => ?_)⟩
    · have hlt : j < (ruC r t c A cap).length := (List.getElem?_eq_some_iff.1 hj).1
      rw [List.getElem?_append_left hlt]; exact hj
    · have := hc (9 + j) u (by
        rw [List.getElem?_append_right (by simp [ruC])]
        have : 9 + j - (ruC r t c A cap).length = j := by simp [ruC]
        rw [this]; exact hj)
      rw [show o + 9 + j = o + (9 + j) by omega]; exact this
theorem ru_one {r : Ru} {t capc : Nat} {A : Option Addr} {cap : Nat} : ∀ u ∈ ruC r t capc A cap, u.oneCell' = true := by
  intro u hu
  simp only [ruC, List.mem_cons, List.not_mem_nil, or_false] at hu
  rcases hu with rfl | rfl | rfl | rfl | rfl | rfl | rfl | rfl | rfl <;> rfl
abbrev ruCells (r : Ru) (tb capc : Nat) (A : Option Addr) (cap : Nat) : Obj := .cells #[.slice (some ⟨tb, 0, none⟩) r.calls.length capc, .int .i64 r.when_.op, .slice A r.when_.args.length cap, .int .i64 r.when_.field, .int .u64 (r.when_.mask : Int), .int .i64 r.when_.rel, .int .u64 (r.when_.value : Int), .int .i64 r.do_.1, .int .u64 (r.do_.2 : Int)] 88
theorem ru_cells (w : World) (B : Nat) (hB : B = w.heap.size) (r : Ru) (t capc : Nat) (A : Option Addr) (cap : Nat) (j : Nat) (u : Value) (h : (ruC r t capc A cap)[j]? = some u) : (w.alloc (ruCells r t capc A cap)).cell? ((⟨B, 0, none⟩ : Addr).add j) = some u := by
  subst hB
  rw [addr_add, Nat.zero_add]
  refine cell6 (World.alloc_heap_new w _) j ?_
  rw [← List.getElem?_toArray] at h
  exact h
theorem info_ru : (Tryz.prog.info? 88).map (fun i => (i.zero, i.size, i.bytes)) = some (some (.agg #[.slice none 0 0, .int .i64 0, .slice none 0 0, .int .i64 0, .int .u64 0, .int .i64 0, .int .u64 0, .int .i64 0, .int .u64 0]), 9, 104) := by kernel_rfl
/-- Rules, as a slice. -/
def RulesP (lo : Nat) (l : List Ru) (v : Value) (W : World) : Prop := (l = [] ∧ v = .slice none 0 0) ∨ ∃ tb cap, v = .slice (some ⟨tb, 0, none⟩) l.length cap ∧ lo ≤ tb ∧ tb < W.heap.size ∧ RuRow W (fun k => lo ≤ k) l tb 0
section
variable {s : ByteArray} {w wr wb wd : World} {b n : Nat} {g : Got (List Ru)} {v v' : Value} {l : List Ru} {xs : List Value} {m i k : Nat} {r : Ru} {t capc : Nat} {A : Option Addr} {cap : Nat} {O : Obj}
end
end Go.Proofs.YtgeapkjegemkeaaGreatDoor
