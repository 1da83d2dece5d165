/-
  The program's rule: its contract by values and places. Conditions: those that it names.
-/
import Derived.Test.YtmmfbeebjehkgaaPPolCalls
import Derived.Test.YtmmfbeebjehkgaaPPolParse
namespace Go.Proofs.Ytmmfbeebjehkgaa
open Go Go.RowKit
set_option linter.unusedSimpArgs false
set_option linter.unusedVariables false

/-- A rule's calls and expression lie in blocks of F. -/
def RuIn (w : World) (F : Nat → Prop) (r : Ru) (tb : Nat) (A : Option Addr) (cap : Nat) : Prop :=
  (F tb ∧ tb < w.heap.size ∧ ∀ j u, (callsC r.calls)[j]? = some u → w.cell? ⟨tb, j, none⟩ = some u) ∧ ExIn w F r.when_ A cap
def ruC (r : Ru) (tb capc : Nat) (A : Option Addr) (cap : Nat) : List Value :=
  [.slice (some ⟨tb, 0, none⟩) r.calls.length capc, .int .i64 r.when_.op, .slice A r.when_.args.length cap, .int .i64 r.when_.field, .int .u64 (r.when_.mask : Int), .int .i64 r.when_.rel, .int .u64 (r.when_.value : Int), .int .i64 r.do_.1, .int .u64 (r.do_.2 : Int)]
abbrev ruV (r : Ru) (tb capc : Nat) (A : Option Addr) (cap : Nat) : Value :=
  .agg #[.slice (some ⟨tb, 0, none⟩) r.calls.length capc, .int .i64 r.when_.op, .slice A r.when_.args.length cap, .int .i64 r.when_.field, .int .u64 (r.when_.mask : Int), .int .i64 r.when_.rel, .int .u64 (r.when_.value : Int), .int .i64 r.do_.1, .int .u64 (r.do_.2 : Int)]
abbrev ruO (C : Value) (op : Int) (S : Value) (f m r v k n : Int) : Obj := .cells #[C, .int .i64 op, S, .int .i64 f, .int .u64 m, .int .i64 r, .int .u64 v, .int .i64 k, .int .u64 n] 67
theorem RuIn.keep {w w' : World} {F G : Nat → Prop} {r : Ru} {tb : Nat} {A : Option Addr} {cap : Nat} (h : RuIn w F r tb A cap) (hs : w.heap.size ≤ w'.heap.size) (hF : ∀ k, F k → G k) (hk : ∀ k, F k → k < w.heap.size → w'.heap[k]? = w.heap[k]?) : RuIn w' G r tb A cap :=
  ⟨⟨hF _ h.1.1, Nat.lt_of_lt_of_le h.1.2.1 hs, fun j u hj => (World.cell?_of_block (a := ⟨tb, j, none⟩) (hk tb h.1.1 h.1.2.1)).trans (h.1.2.2 j u hj)⟩, h.2.keep hs hF hk⟩
/-- A rule as a value. -/
def RuP (lo : Nat) (r : Ru) (v : Value) (W : World) : Prop := ∃ tb capc A cap, v = ruV r tb capc A cap ∧ RuIn W (fun k => lo ≤ k) r tb A cap
/-- A rule under way: its box E, what it holds. -/
structure RuleAt (w W : World) (b : Nat) (s : ByteArray) (d i E tb capc : Nat) (cs : List (ByteArray × Nat)) (x : Ex) (A : Option Addr) (cap : Nat) (k n : Int) : Prop where
  at_ : PAt W b s (tk (srcF s) i) d
  gr : w.grownBy W (some b)
  box : W.heap[E]? = some (ruO (.slice (some ⟨tb, 0, none⟩) cs.length capc) x.op (.slice A x.args.length cap) x.field (x.mask : Int) x.rel (x.value : Int) k n)
  res : W.heap[w.heap.size]? = some (ruO (.slice none 0 0) 0 (.slice none 0 0) 0 0 0 0 0 0)
  bw : b < w.heap.size
  lo : w.heap.size + 1 ≤ tb
  tbE : tb < E
  calls : ∀ j u, (callsC cs)[j]? = some u → W.cell? ⟨tb, j, none⟩ = some u
  ex : ExIn W (fun k => E < k) x A cap
namespace RuleAt
variable {w W : World} {b : Nat} {s : ByteArray} {d i E tb capc : Nat} {cs : List (ByteArray × Nat)} {x : Ex} {A : Option Addr} {cap : Nat} {k n : Int}
theorem size (h : RuleAt w W b s d i E tb capc cs x A cap k n) : E < W.heap.size := (Array.getElem?_eq_some_iff.1 h.box).1
/-- A step of the reader. -/
theorem call {W' : World} {j : Nat} (h : RuleAt w W b s d i E tb capc cs x A cap k n) (hp : PAt W' b s (tk (srcF s) j) d) (hg : W.grownBy W' (some b)) : RuleAt w W' b s d j E tb capc cs x A cap k n := by
  have := h.bw; have := h.lo; have := h.tbE
  refine ⟨hp, grown_trans h.gr hg, kept_box h.box hg (by omega), kept_box h.res hg (by omega), h.bw, h.lo, h.tbE, fun j u hj => (World.cell?_of_block (a := ⟨tb, j, none⟩) (hg.block tb (by have := h.size; omega) (fun e => by injection e with e; omega))).trans (h.calls j u hj), h.ex.keep hg.size (fun _ hk => hk) (fun c hc hl => hg.block c hl (fun e => by injection e with e; omega))⟩
/-- Another expression in it. -/
theorem setEx {x' : Ex} {A' : Option Addr} {cap' : Nat} (h : RuleAt w W b s d i E tb capc cs x A cap k n) (hx : ExIn W (fun k => E < k) x' A' cap') :
    RuleAt w ((((((W.setCell ⟨E, 1, none⟩ (.int .i64 x'.op)).setCell ⟨E, 2, none⟩ (.slice A' x'.args.length cap')).setCell ⟨E, 3, none⟩ (.int .i64 x'.field)).setCell ⟨E, 4, none⟩ (.int .u64 (x'.mask : Int))).setCell ⟨E, 5, none⟩ (.int .i64 x'.rel)).setCell ⟨E, 6, none⟩ (.int .u64 (x'.value : Int))) b s d i E tb capc cs x' A' cap' k n := by
  have := h.bw; have := h.lo; have := h.tbE
  refine ⟨row_new (row_new (row_new (row_new (row_new (row_new h.at_ (by omega) 1 _) (by omega) 2 _) (by omega) 3 _) (by omega) 4 _) (by omega) 5 _) (by omega) 6 _,
    grown_new (grown_new (grown_new (grown_new (grown_new (grown_new h.gr (by omega) 1 _) (by omega) 2 _) (by omega) 3 _) (by omega) 4 _) (by omega) 5 _) (by omega) 6 _,
    heap_set1 (heap_set1 (heap_set1 (heap_set1 (heap_set1 (heap_set1 h.box 1 _) 2 _) 3 _) 4 _) 5 _) 6 _,
    kept_set (kept_set (kept_set (kept_set (kept_set (kept_set h.res (by omega) 1 _) (by omega) 2 _) (by omega) 3 _) (by omega) 4 _) (by omega) 5 _) (by omega) 6 _, h.bw, h.lo, h.tbE, fun j u hj => ?_, ?_⟩
  · have ne : ∀ c, (⟨E, c, none⟩ : Addr) ≠ ⟨tb, j, none⟩ := fun c e => by injection e with e _; omega
    exact (World.cell?_setCell_other (h := ne 6) ..).trans ((World.cell?_setCell_other (h := ne 5) ..).trans ((World.cell?_setCell_other (h := ne 4) ..).trans ((World.cell?_setCell_other (h := ne 3) ..).trans ((World.cell?_setCell_other (h := ne 2) ..).trans ((World.cell?_setCell_other (h := ne 1) ..).trans (h.calls j u hj))))))
  · exact ex_set (ex_set (ex_set (ex_set (ex_set (ex_set hx (fun k hk => by omega) 1 _) (fun k hk => by omega) 2 _) (fun k hk => by omega) 3 _) (fun k hk => by omega) 4 _) (fun k hk => by omega) 5 _) (fun k hk => by omega) 6 _
/-- Another verdict in it. -/
theorem setVerd {k' n' : Int} (h : RuleAt w W b s d i E tb capc cs x A cap k n) :
    RuleAt w ((W.setCell ⟨E, 7, none⟩ (.int .i64 k')).setCell ⟨E, 8, none⟩ (.int .u64 n')) b s d i E tb capc cs x A cap k' n' := by
  have := h.bw; have := h.lo; have := h.tbE
  refine ⟨row_new (row_new h.at_ (by omega) 7 _) (by omega) 8 _, grown_new (grown_new h.gr (by omega) 7 _) (by omega) 8 _, heap_set1 (heap_set1 h.box 7 _) 8 _, kept_set (kept_set h.res (by omega) 7 _) (by omega) 8 _, h.bw, h.lo, h.tbE, fun j u hj => ?_, ?_⟩
  · have ne : ∀ c, (⟨E, c, none⟩ : Addr) ≠ ⟨tb, j, none⟩ := fun c e => by injection e with e _; omega
    exact (World.cell?_setCell_other (h := ne 8) ..).trans ((World.cell?_setCell_other (h := ne 7) ..).trans (h.calls j u hj))
  · exact ex_set (ex_set h.ex (fun k hk => by omega) 7 _) (fun k hk => by omega) 8 _
/-- The rule is handed on. -/
theorem done {v7 : Nat} (h : RuleAt w W b s d i E tb capc cs x A cap k (v7 : Int)) :
    RuP w.heap.size ⟨cs, x, (k, v7)⟩ (ruV ⟨cs, x, (k, v7)⟩ tb capc A cap) (((((((((W.setCell ⟨w.heap.size, 0, none⟩ (.slice (some ⟨tb, 0, none⟩) cs.length capc)).setCell ⟨w.heap.size, 1, none⟩ (.int .i64 x.op)).setCell ⟨w.heap.size, 2, none⟩ (.slice A x.args.length cap)).setCell ⟨w.heap.size, 3, none⟩ (.int .i64 x.field)).setCell ⟨w.heap.size, 4, none⟩ (.int .u64 (x.mask : Int))).setCell ⟨w.heap.size, 5, none⟩ (.int .i64 x.rel)).setCell ⟨w.heap.size, 6, none⟩ (.int .u64 (x.value : Int))).setCell ⟨w.heap.size, 7, none⟩ (.int .i64 k)).setCell ⟨w.heap.size, 8, none⟩ (.int .u64 (v7 : Int))) ∧
    PAt (((((((((W.setCell ⟨w.heap.size, 0, none⟩ (.slice (some ⟨tb, 0, none⟩) cs.length capc)).setCell ⟨w.heap.size, 1, none⟩ (.int .i64 x.op)).setCell ⟨w.heap.size, 2, none⟩ (.slice A x.args.length cap)).setCell ⟨w.heap.size, 3, none⟩ (.int .i64 x.field)).setCell ⟨w.heap.size, 4, none⟩ (.int .u64 (x.mask : Int))).setCell ⟨w.heap.size, 5, none⟩ (.int .i64 x.rel)).setCell ⟨w.heap.size, 6, none⟩ (.int .u64 (x.value : Int))).setCell ⟨w.heap.size, 7, none⟩ (.int .i64 k)).setCell ⟨w.heap.size, 8, none⟩ (.int .u64 (v7 : Int))) b s (tk (srcF s) i) d ∧
    w.grownBy (((((((((W.setCell ⟨w.heap.size, 0, none⟩ (.slice (some ⟨tb, 0, none⟩) cs.length capc)).setCell ⟨w.heap.size, 1, none⟩ (.int .i64 x.op)).setCell ⟨w.heap.size, 2, none⟩ (.slice A x.args.length cap)).setCell ⟨w.heap.size, 3, none⟩ (.int .i64 x.field)).setCell ⟨w.heap.size, 4, none⟩ (.int .u64 (x.mask : Int))).setCell ⟨w.heap.size, 5, none⟩ (.int .i64 x.rel)).setCell ⟨w.heap.size, 6, none⟩ (.int .u64 (x.value : Int))).setCell ⟨w.heap.size, 7, none⟩ (.int .i64 k)).setCell ⟨w.heap.size, 8, none⟩ (.int .u64 (v7 : Int))) (some b) := by
  have := h.bw; have := h.lo; have := h.tbE; have := h.size
  have hr : RuIn W (fun k => w.heap.size + 1 ≤ k) ⟨cs, x, (k, v7)⟩ tb A cap := ⟨⟨h.lo, by omega, h.calls⟩, h.ex.keep (Nat.le_refl _) (fun k hk => by omega) (fun _ _ _ => rfl)⟩
  have rset : ∀ {V : World} (j : Nat) (v : Value), RuIn V (fun k => w.heap.size + 1 ≤ k) ⟨cs, x, (k, v7)⟩ tb A cap → RuIn (V.setCell ⟨w.heap.size, j, none⟩ v) (fun k => w.heap.size + 1 ≤ k) ⟨cs, x, (k, v7)⟩ tb A cap := fun {V} j v hV =>
    hV.keep (by simp [World.setCell]) (fun _ hk => hk) (fun c hc _ => Below.heap_setCell V ⟨w.heap.size, j, none⟩ v c (show c ≠ w.heap.size by omega))
  refine ⟨⟨tb, capc, A, cap, rfl, (rset 8 _ (rset 7 _ (rset 6 _ (rset 5 _ (rset 4 _ (rset 3 _ (rset 2 _ (rset 1 _ (rset 0 _ hr))))))))).keep (Nat.le_refl _) (fun k hk => by omega) (fun _ _ _ => rfl)⟩, ?_, ?_⟩
  · exact row_new (row_new (row_new (pset6 h.at_ (by omega) _ _ _ _ _ _) (by omega) 6 _) (by omega) 7 _) (by omega) 8 _
  · exact grown_new (grown_new (grown_new (gset6 h.gr (Nat.le_refl _) _ _ _ _ _ _) (Nat.le_refl _) 6 _) (Nat.le_refl _) 7 _) (Nat.le_refl _) 8 _
end RuleAt
/-- What a rule is made of. -/
theorem rule_new {w W0 w1 w2 : World} {b : Nat} {s : ByteArray} {k tb capc : Nat} {cs : List (ByteArray × Nat)} (hlt : b < w.heap.size) (hr : W0.heap[w.heap.size]? = some (ruO (.slice none 0 0) 0 (.slice none 0 0) 0 0 0 0 0 0)) (hg0 : w.grownBy W0 (some b)) (s0 : W0.heap.size = w.heap.size + 1)
    (hg1 : W0.grownBy w1 (some b)) (hg2 : w1.grownBy w2 (some b)) (hp : PAt w2 b s (tk (srcF s) k) 0) (h1 : w1.heap.size ≤ tb) (h2 : tb < w2.heap.size) (h4 : ∀ j u, (callsC cs)[j]? = some u → w2.cell? ⟨tb, j, none⟩ = some u) :
    RuleAt w (w2.alloc (ruO (.slice (some ⟨tb, 0, none⟩) cs.length capc) 1 (.slice none 0 0) 0 0 0 0 0 0)) b s 0 k w2.heap.size tb capc cs (.plain 1) none 0 0 0 :=
  ⟨words_alloc hp _, grown_trans (grown_trans (grown_trans hg0 hg1) hg2) (grown_of_below (lbox w2 _) (some b)), World.alloc_heap_new w2 _, kept_alloc (kept_box (kept_box hr hg1 (by omega)) hg2 (by omega)) _, hlt, by have := hg1.size; omega, h2, fun j u hj => ((lbox w2 _).cell (p := ⟨tb, j, none⟩) h2).trans (h4 j u hj), .inl ⟨rfl, rfl, rfl⟩⟩
set_option maxHeartbeats 8000000 in
set_option maxRecDepth 100000 in
theorem pp_rule (w : World) (b : Nat) (s : ByteArray) (n i : Nat) (hsm : (srcF s).toks.length ≤ 65537) (hn : (srcF s).toks.length < n) (hi : i < (srcF s).toks.length) (h : PAt w b s (tk (srcF s) i) 0) :
    Calls Try.prog 48 #[.pointer (some ⟨b, 0, none⟩)] w (GotP (RuP w.heap.size) s w b 0 (ruleG (srcF s) n i)) := by
  have hmf : ∀ (fn : Fn) (first cap : Array Value) (w : World), (Instr.makeFunc fn first cap).run Try.prog w = .ok (.func fn first cap) w := fun _ _ _ _ => rfl
  have hlt := h.lt
  have HR0 := Lib.hid (World.alloc_heap_new w (ruO (.slice none 0 0) 0 (.slice none 0 0) 0 0 0 0 0 0))
  have HG0 := Lib.hid (grown_of_below (lbox w (ruO (.slice none 0 0) 0 (.slice none 0 0) 0 0 0 0 0 0)) (some b))
  have s0 : (w.alloc (ruO (.slice none 0 0) 0 (.slice none 0 0) 0 0 0 0 0 0)).heap.size = w.heap.size + 1 := by simp
  have hD1 := pp_demand _ b s i 0 hi (words_alloc h (ruO (.slice none 0 0) 0 (.slice none 0 0) 0 0 0 0 0 0)) ⟨#[111, 110]⟩ (by decide)
  have hf1 := fwd_demand (S := srcF s) ⟨#[111, 110]⟩ i
  have hDem := Lib.hid (fun (W : World) (j : Nat) (hj : j < (srcF s).toks.length) (hp : PAt W b s (tk (srcF s) j) 0) (t : ByteArray) (ht : kindOf t ≠ 1) => pp_demand W b s j 0 hj hp t ht)
  have hTur := Lib.hid (fun (W : World) (j : Nat) (hj : j < (srcF s).toks.length) (hp : PAt W b s (tk (srcF s) j) 0) => p_turnsC 64 (Go.Proofs.enters_of Try.func64 (by kernel_rfl) rfl) ⟨#[44]⟩ (by decide) s (callG (srcF s)) (fun i _ => fwd_call i) n W b j 0 hj hp (by omega) hsm (fun W2 j2 hj2 _ hp2 => pp_call W2 b s j2 0 hj2 hp2))
  have hVer := Lib.hid (fun (W : World) (j : Nat) (hj : j < (srcF s).toks.length) (hp : PAt W b s (tk (srcF s) j) 0) => pp_verdict W b s j 0 hj hp)
  have hExp := Lib.hid (fun (W : World) (j : Nat) (hj : j < (srcF s).toks.length) (hp : PAt W b s (tk (srcF s) j) 0) => (pp_one s b hsm n 0 (by omega)).2 W j hj (by omega) hp)
  have hSky := Lib.hid (fun (W : World) (j : Nat) (hj : j < (srcF s).toks.length) (hp : PAt W b s (tk (srcF s) j) 0) (ht : (tk (srcF s) j).text = ⟨#[119, 104, 101, 110]⟩) => pp_skip_yes W b s j 0 hj hp ⟨#[119, 104, 101, 110]⟩ ht (by rw [(lexd s).kinds j hj, ht]; decide))
  have hSkn := Lib.hid (fun (W : World) (j : Nat) (hp : PAt W b s (tk (srcF s) j) 0) (ht : ¬ (tk (srcF s) j).text = ⟨#[119, 104, 101, 110]⟩) => pp_skip_no W b s j 0 hp ⟨#[119, 104, 101, 110]⟩ ht)
  have hft := Lib.hid (fun j (hj : j < (srcF s).toks.length) => fwd_byTurns (S := srcF s) ⟨#[44]⟩ (item := callG (srcF s)) (fun i _ => fwd_call i) n j hj)
  have hfe := Lib.hid (fun j (hj : j < (srcF s).toks.length) => fwd_expr (S := srcF s) n 0 j hj)
  clear h
  show Calls _ _ _ _ (GotP (RuP w.heap.size) s w b 0 ((demandG (srcF s) ⟨#[111, 110]⟩ i).andThen fun _ j => (byTurnsG (srcF s) ⟨#[44]⟩ (callG (srcF s)) n j).andThen fun cs k => (whenG (srcF s) n k).andThen fun e l =>
    (demandG (srcF s) ⟨#[100, 111]⟩ l).andThen fun _ m => (verdG (srcF s) m).andThen fun v o => (demandG (srcF s) ⟨#[59]⟩ o).andThen fun _ p => .ok ⟨cs, e, v⟩ p))
  generalize demandG (srcF s) ⟨#[111, 110]⟩ i = g1 at hD1 hf1 ⊢
  rcases g1 with ⟨u1, j⟩ | ⟨er, p⟩ | _
  · have hj := (hf1 u1 j rfl).2
    have HD1 := Lib.hid hD1
    have hT := fun (W : World) hp => hTur.out W j hj hp
    have hf2 := hft.out j hj
    clear hD1 hf1
    show Calls _ _ _ _ (GotP (RuP w.heap.size) s w b 0 ((byTurnsG (srcF s) ⟨#[44]⟩ (callG (srcF s)) n j).andThen fun cs k => (whenG (srcF s) n k).andThen fun e l =>
        (demandG (srcF s) ⟨#[100, 111]⟩ l).andThen fun _ m => (verdG (srcF s) m).andThen fun v o => (demandG (srcF s) ⟨#[59]⟩ o).andThen fun _ p => .ok ⟨cs, e, v⟩ p))
    generalize byTurnsG (srcF s) ⟨#[44]⟩ (callG (srcF s)) n j = g2 at hT hf2 ⊢
    rcases g2 with ⟨cs, k⟩ | ⟨er, p⟩ | _
    · have hk := (hf2 cs k rfl).2
      have HT := Lib.hid hT
      clear hT hf2
      by_cases ht : (tk (srcF s) k).text = ⟨#[119, 104, 101, 110]⟩
      · have hS := fun (W : World) hp => hSky.out W k hk hp ht
        have hwh : whenG (srcF s) n k = (adv (srcF s) k ()).andThen fun _ j => exprG (srcF s) n 0 j := if_pos ht
        show Calls _ _ _ _ (GotP (RuP w.heap.size) s w b 0 ((whenG (srcF s) n k).andThen fun e l => (demandG (srcF s) ⟨#[100, 111]⟩ l).andThen fun _ m => (verdG (srcF s) m).andThen fun v o => (demandG (srcF s) ⟨#[59]⟩ o).andThen fun _ p => .ok ⟨cs, e, v⟩ p))
        rw [hwh]
        clear ht hwh
        by_cases hl1 : k + 1 < (srcF s).toks.length
        · rw [adv_ok hl1] at hS ⊢
          have HS := Lib.hid hS
          have hX := fun (W : World) hp => hExp.out W (k + 1) hl1 hp
          have hf3 := hfe.out (k + 1) hl1
          clear hS
          show Calls _ _ _ _ (GotP (RuP w.heap.size) s w b 0 ((exprG (srcF s) n 0 (k + 1)).andThen fun e l => (demandG (srcF s) ⟨#[100, 111]⟩ l).andThen fun _ m => (verdG (srcF s) m).andThen fun v o => (demandG (srcF s) ⟨#[59]⟩ o).andThen fun _ p => .ok ⟨cs, e, v⟩ p))
          generalize exprG (srcF s) n 0 (k + 1) = g3 at hX hf3 ⊢
          rcases g3 with ⟨x, l⟩ | ⟨er, p⟩ | _
          · have hl := (hf3 x l rfl).2
            have HX := Lib.hid hX
            clear hX hf3
            show Calls _ _ _ _ (GotP (RuP w.heap.size) s w b 0 ((demandG (srcF s) ⟨#[100, 111]⟩ l).andThen fun _ m => (verdG (srcF s) m).andThen fun v o => (demandG (srcF s) ⟨#[59]⟩ o).andThen fun _ p => .ok ⟨cs, x, v⟩ p))
            have hD4 := fun (W : World) hp => hDem.out W l hl hp ⟨#[100, 111]⟩ (by decide)
            have hf4 := fwd_demand (S := srcF s) ⟨#[100, 111]⟩ l
            generalize demandG (srcF s) ⟨#[100, 111]⟩ l = g4 at hD4 hf4 ⊢
            rcases g4 with ⟨u4, m⟩ | ⟨er, p⟩ | _
            · have hm := (hf4 u4 m rfl).2
              have HD4 := Lib.hid hD4
              have hV := fun (W : World) hp => hVer.out W m hm hp
              have hf5 := fwd_verd (S := srcF s) m
              clear hD4 hf4
              show Calls _ _ _ _ (GotP (RuP w.heap.size) s w b 0 ((verdG (srcF s) m).andThen fun v o => (demandG (srcF s) ⟨#[59]⟩ o).andThen fun _ p => .ok ⟨cs, x, v⟩ p))
              generalize verdG (srcF s) m = g5 at hV hf5 ⊢
              rcases g5 with ⟨⟨k1, n1⟩, o⟩ | ⟨er, p⟩ | _
              · have ho := (hf5 (k1, n1) o rfl).2
                have HV := Lib.hid hV
                have hD6 := fun (W : World) hp => hDem.out W o ho hp ⟨#[59]⟩ (by decide)
                clear hV hf5
                show Calls _ _ _ _ (GotP (RuP w.heap.size) s w b 0 ((demandG (srcF s) ⟨#[59]⟩ o).andThen fun _ p => .ok ⟨cs, x, (k1, n1)⟩ p))
                generalize demandG (srcF s) ⟨#[59]⟩ o = g6 at hD6 ⊢
                rcases g6 with ⟨u6, p⟩ | ⟨er, p⟩ | _
                · have HD6 := Lib.hid hD6
                  clear hD6
                  show Calls _ _ _ _ (GotP (RuP w.heap.size) s w b 0 (.ok ⟨cs, x, (k1, n1)⟩ p))
                  go_enter Try.func48, Try.ntmps48
                  go_wp2_with (first | (go_at_call 29; (with_reducible refine (HD1.out).mono ?_); rintro e w1 ⟨v, rfl, rfl, hp, hg⟩; have H1 := Lib.hid (And.intro hp (And.intro hg (Nat.le_trans (Nat.le_of_eq s0.symm) hg.size))); clear hp hg) | (go_at_call 63; (with_reducible refine (HT.out _ H1.out.1).mono ?_); rintro e w2 ⟨v, rfl, ⟨tb, capc, rfl, h1, h2, h3, h4⟩, hp, hg⟩; have T2 : Hid (RuleAt w (w2.alloc (ruO (.slice (some ⟨tb, 0, none⟩) cs.length capc) 1 (.slice none 0 0) 0 0 0 0 0 0)) b s 0 k w2.heap.size tb capc cs (.plain 1) none 0 0 0) := Lib.hid (rule_new hlt HR0.out HG0.out s0 H1.out.2.1 hg hp h1 h2 h4); have hE : w.heap.size < w2.heap.size := Nat.lt_of_lt_of_le (Nat.lt_of_lt_of_le (Nat.lt_of_succ_le H1.out.2.2) (Nat.le_refl _)) hg.size; clear h1 h2 h3 h4 hp hg) | (go_at_call 41; (with_reducible refine (HS.out _ T2.out.at_).mono ?_); rintro e w3 ⟨v, rfl, rfl, hp, hg⟩; have T3 := Lib.hid (T2.out.call hp hg); clear hp hg) | (go_at_call 36; (with_reducible refine (HX.out _ T3.out.at_).mono ?_); rintro e w4 ⟨v, rfl, ⟨A, cap, rfl, hx⟩, hp, hg⟩; have hc := T3.out.call hp hg; have hx2 := hx.keep (Nat.le_refl _) (fun c hc2 => show w2.heap.size < c from Nat.lt_of_lt_of_le T3.out.size hc2) (fun _ _ _ => rfl); have e1 := cell6 hc.box 1 rfl; have e2 := cell6 hc.box 2 rfl; have e3 := cell6 hc.box 3 rfl; have e4 := cell6 hc.box 4 rfl; have e5 := cell6 hc.box 5 rfl; have e6 := cell6 hc.box 6 rfl; have z1 := frozen6 hc.box 1; have z2 := frozen6 hc.box 2; have z3 := frozen6 hc.box 3; have z4 := frozen6 hc.box 4; have z5 := frozen6 hc.box 5; have z6 := frozen6 hc.box 6; have T4 := Lib.hid (hc.setEx hx2); clear hc hx hx2 hp hg) | (go_at_call 29; (with_reducible refine (HD4.out _ T4.out.at_).mono ?_); rintro e w5 ⟨v, rfl, rfl, hp, hg⟩; have T5 := Lib.hid (T4.out.call hp hg); clear hp hg) | (go_at_call 31; (with_reducible refine (HV.out _ T5.out.at_).mono ?_); rintro e w6 ⟨v, rfl, rfl, hp, hg⟩; have hc := T5.out.call hp hg; have f7 := cell6 hc.box 7 rfl; have f8 := cell6 hc.box 8 rfl; have x7 := frozen6 hc.box 7; have x8 := frozen6 hc.box 8; have T6 := Lib.hid (hc.setVerd (k' := k1) (n' := (n1 : Int))); clear hc hp hg) | (go_at_call 29; (with_reducible refine (HD6.out _ T6.out.at_).mono ?_); rintro e w7 ⟨v, rfl, rfl, hp, hg⟩; have hc := T6.out.call hp hg; have p0 := cell6 hc.box 0 rfl; have p1 := cell6 hc.box 1 rfl; have p2 := cell6 hc.box 2 rfl; have p3 := cell6 hc.box 3 rfl; have p4 := cell6 hc.box 4 rfl; have p5 := cell6 hc.box 5 rfl; have p6 := cell6 hc.box 6 rfl; have p7 := cell6 hc.box 7 rfl; have p8 := cell6 hc.box 8 rfl; have u0 := cell6 hc.res 0 rfl; have u1 := cell6 hc.res 1 rfl; have u2 := cell6 hc.res 2 rfl; have u3 := cell6 hc.res 3 rfl; have u4 := cell6 hc.res 4 rfl; have u5 := cell6 hc.res 5 rfl; have u6 := cell6 hc.res 6 rfl; have u7 := cell6 hc.res 7 rfl; have u8 := cell6 hc.res 8 rfl; have y0 := frozen6 hc.res 0; have y1 := frozen6 hc.res 1; have y2 := frozen6 hc.res 2; have y3 := frozen6 hc.res 3; have y4 := frozen6 hc.res 4; have y5 := frozen6 hc.res 5; have y6 := frozen6 hc.res 6; have y7 := frozen6 hc.res 7; have y8 := frozen6 hc.res 8; have T7 := Lib.hid hc; clear hc hp hg))
                  exact bodyPost_ret (v := .agg #[.slice (some ⟨tb, 0, none⟩) cs.length capc, .int .i64 x.op, .slice A x.args.length cap, .int .i64 x.field, .int .u64 (x.mask : Int), .int .i64 x.rel, .int .u64 (x.value : Int), .int .i64 k1, .int .u64 (n1 : Int)]) (by simp [results, Try.results48, go_sem, u0, u1, u2, u3, u4, u5, u6, u7, u8, World.cell?_setCell_same']) rfl ⟨_, rfl, T7.out.done.1, T7.out.done.2.1, T7.out.done.2.2⟩
                · have HD6 := Lib.hid hD6
                  clear hD6
                  show Calls _ _ _ _ (GotP (RuP w.heap.size) s w b 0 (.bad er p))
                  go_enter Try.func48, Try.ntmps48
                  go_wp2_with (first | (go_at_call 29; (with_reducible refine (HD1.out).mono ?_); rintro e w1 ⟨v, rfl, rfl, hp, hg⟩; have H1 := Lib.hid (And.intro hp (And.intro hg (Nat.le_trans (Nat.le_of_eq s0.symm) hg.size))); clear hp hg) | (go_at_call 63; (with_reducible refine (HT.out _ H1.out.1).mono ?_); rintro e w2 ⟨v, rfl, ⟨tb, capc, rfl, h1, h2, h3, h4⟩, hp, hg⟩; have T2 : Hid (RuleAt w (w2.alloc (ruO (.slice (some ⟨tb, 0, none⟩) cs.length capc) 1 (.slice none 0 0) 0 0 0 0 0 0)) b s 0 k w2.heap.size tb capc cs (.plain 1) none 0 0 0) := Lib.hid (rule_new hlt HR0.out HG0.out s0 H1.out.2.1 hg hp h1 h2 h4); have hE : w.heap.size < w2.heap.size := Nat.lt_of_lt_of_le (Nat.lt_of_lt_of_le (Nat.lt_of_succ_le H1.out.2.2) (Nat.le_refl _)) hg.size; clear h1 h2 h3 h4 hp hg) | (go_at_call 41; (with_reducible refine (HS.out _ T2.out.at_).mono ?_); rintro e w3 ⟨v, rfl, rfl, hp, hg⟩; have T3 := Lib.hid (T2.out.call hp hg); clear hp hg) | (go_at_call 36; (with_reducible refine (HX.out _ T3.out.at_).mono ?_); rintro e w4 ⟨v, rfl, ⟨A, cap, rfl, hx⟩, hp, hg⟩; have hc := T3.out.call hp hg; have hx2 := hx.keep (Nat.le_refl _) (fun c hc2 => show w2.heap.size < c from Nat.lt_of_lt_of_le T3.out.size hc2) (fun _ _ _ => rfl); have e1 := cell6 hc.box 1 rfl; have e2 := cell6 hc.box 2 rfl; have e3 := cell6 hc.box 3 rfl; have e4 := cell6 hc.box 4 rfl; have e5 := cell6 hc.box 5 rfl; have e6 := cell6 hc.box 6 rfl; have z1 := frozen6 hc.box 1; have z2 := frozen6 hc.box 2; have z3 := frozen6 hc.box 3; have z4 := frozen6 hc.box 4; have z5 := frozen6 hc.box 5; have z6 := frozen6 hc.box 6; have T4 := Lib.hid (hc.setEx hx2); clear hc hx hx2 hp hg) | (go_at_call 29; (with_reducible refine (HD4.out _ T4.out.at_).mono ?_); rintro e w5 ⟨v, rfl, rfl, hp, hg⟩; have T5 := Lib.hid (T4.out.call hp hg); clear hp hg) | (go_at_call 31; (with_reducible refine (HV.out _ T5.out.at_).mono ?_); rintro e w6 ⟨v, rfl, rfl, hp, hg⟩; have hc := T5.out.call hp hg; have f7 := cell6 hc.box 7 rfl; have f8 := cell6 hc.box 8 rfl; have x7 := frozen6 hc.box 7; have x8 := frozen6 hc.box 8; have T6 := Lib.hid (hc.setVerd (k' := k1) (n' := (n1 : Int))); clear hc hp hg) | (go_at_call 29; (with_reducible refine (HD6.out _ T6.out.at_).mono ?_); rintro e w7 ⟨rfl, hg⟩; have HY := Lib.hid (grown_trans T6.out.gr hg); clear hg))
                  exact ⟨rfl, rfl, HY.out⟩
                · have HD6 := Lib.hid hD6
                  clear hD6
                  show Calls _ _ _ _ (GotP (RuP w.heap.size) s w b 0 .out)
                  go_enter Try.func48, Try.ntmps48
                  go_wp2_with (first | (go_at_call 29; (with_reducible refine (HD1.out).mono ?_); rintro e w1 ⟨v, rfl, rfl, hp, hg⟩; have H1 := Lib.hid (And.intro hp (And.intro hg (Nat.le_trans (Nat.le_of_eq s0.symm) hg.size))); clear hp hg) | (go_at_call 63; (with_reducible refine (HT.out _ H1.out.1).mono ?_); rintro e w2 ⟨v, rfl, ⟨tb, capc, rfl, h1, h2, h3, h4⟩, hp, hg⟩; have T2 : Hid (RuleAt w (w2.alloc (ruO (.slice (some ⟨tb, 0, none⟩) cs.length capc) 1 (.slice none 0 0) 0 0 0 0 0 0)) b s 0 k w2.heap.size tb capc cs (.plain 1) none 0 0 0) := Lib.hid (rule_new hlt HR0.out HG0.out s0 H1.out.2.1 hg hp h1 h2 h4); have hE : w.heap.size < w2.heap.size := Nat.lt_of_lt_of_le (Nat.lt_of_lt_of_le (Nat.lt_of_succ_le H1.out.2.2) (Nat.le_refl _)) hg.size; clear h1 h2 h3 h4 hp hg) | (go_at_call 41; (with_reducible refine (HS.out _ T2.out.at_).mono ?_); rintro e w3 ⟨v, rfl, rfl, hp, hg⟩; have T3 := Lib.hid (T2.out.call hp hg); clear hp hg) | (go_at_call 36; (with_reducible refine (HX.out _ T3.out.at_).mono ?_); rintro e w4 ⟨v, rfl, ⟨A, cap, rfl, hx⟩, hp, hg⟩; have hc := T3.out.call hp hg; have hx2 := hx.keep (Nat.le_refl _) (fun c hc2 => show w2.heap.size < c from Nat.lt_of_lt_of_le T3.out.size hc2) (fun _ _ _ => rfl); have e1 := cell6 hc.box 1 rfl; have e2 := cell6 hc.box 2 rfl; have e3 := cell6 hc.box 3 rfl; have e4 := cell6 hc.box 4 rfl; have e5 := cell6 hc.box 5 rfl; have e6 := cell6 hc.box 6 rfl; have z1 := frozen6 hc.box 1; have z2 := frozen6 hc.box 2; have z3 := frozen6 hc.box 3; have z4 := frozen6 hc.box 4; have z5 := frozen6 hc.box 5; have z6 := frozen6 hc.box 6; have T4 := Lib.hid (hc.setEx hx2); clear hc hx hx2 hp hg) | (go_at_call 29; (with_reducible refine (HD4.out _ T4.out.at_).mono ?_); rintro e w5 ⟨v, rfl, rfl, hp, hg⟩; have T5 := Lib.hid (T4.out.call hp hg); clear hp hg) | (go_at_call 31; (with_reducible refine (HV.out _ T5.out.at_).mono ?_); rintro e w6 ⟨v, rfl, rfl, hp, hg⟩; have hc := T5.out.call hp hg; have f7 := cell6 hc.box 7 rfl; have f8 := cell6 hc.box 8 rfl; have x7 := frozen6 hc.box 7; have x8 := frozen6 hc.box 8; have T6 := Lib.hid (hc.setVerd (k' := k1) (n' := (n1 : Int))); clear hc hp hg) | (go_at_call 29; (with_reducible refine (HD6.out _ T6.out.at_).mono ?_); intro e w7 hF; exact hF.elim))
              · have HV := Lib.hid hV
                clear hV hf5
                show Calls _ _ _ _ (GotP (RuP w.heap.size) s w b 0 (.bad er p))
                go_enter Try.func48, Try.ntmps48
                go_wp2_with (first | (go_at_call 29; (with_reducible refine (HD1.out).mono ?_); rintro e w1 ⟨v, rfl, rfl, hp, hg⟩; have H1 := Lib.hid (And.intro hp (And.intro hg (Nat.le_trans (Nat.le_of_eq s0.symm) hg.size))); clear hp hg) | (go_at_call 63; (with_reducible refine (HT.out _ H1.out.1).mono ?_); rintro e w2 ⟨v, rfl, ⟨tb, capc, rfl, h1, h2, h3, h4⟩, hp, hg⟩; have T2 : Hid (RuleAt w (w2.alloc (ruO (.slice (some ⟨tb, 0, none⟩) cs.length capc) 1 (.slice none 0 0) 0 0 0 0 0 0)) b s 0 k w2.heap.size tb capc cs (.plain 1) none 0 0 0) := Lib.hid (rule_new hlt HR0.out HG0.out s0 H1.out.2.1 hg hp h1 h2 h4); have hE : w.heap.size < w2.heap.size := Nat.lt_of_lt_of_le (Nat.lt_of_lt_of_le (Nat.lt_of_succ_le H1.out.2.2) (Nat.le_refl _)) hg.size; clear h1 h2 h3 h4 hp hg) | (go_at_call 41; (with_reducible refine (HS.out _ T2.out.at_).mono ?_); rintro e w3 ⟨v, rfl, rfl, hp, hg⟩; have T3 := Lib.hid (T2.out.call hp hg); clear hp hg) | (go_at_call 36; (with_reducible refine (HX.out _ T3.out.at_).mono ?_); rintro e w4 ⟨v, rfl, ⟨A, cap, rfl, hx⟩, hp, hg⟩; have hc := T3.out.call hp hg; have hx2 := hx.keep (Nat.le_refl _) (fun c hc2 => show w2.heap.size < c from Nat.lt_of_lt_of_le T3.out.size hc2) (fun _ _ _ => rfl); have e1 := cell6 hc.box 1 rfl; have e2 := cell6 hc.box 2 rfl; have e3 := cell6 hc.box 3 rfl; have e4 := cell6 hc.box 4 rfl; have e5 := cell6 hc.box 5 rfl; have e6 := cell6 hc.box 6 rfl; have z1 := frozen6 hc.box 1; have z2 := frozen6 hc.box 2; have z3 := frozen6 hc.box 3; have z4 := frozen6 hc.box 4; have z5 := frozen6 hc.box 5; have z6 := frozen6 hc.box 6; have T4 := Lib.hid (hc.setEx hx2); clear hc hx hx2 hp hg) | (go_at_call 29; (with_reducible refine (HD4.out _ T4.out.at_).mono ?_); rintro e w5 ⟨v, rfl, rfl, hp, hg⟩; have T5 := Lib.hid (T4.out.call hp hg); clear hp hg) | (go_at_call 31; (with_reducible refine (HV.out _ T5.out.at_).mono ?_); rintro e w6 ⟨rfl, hg⟩; have HY := Lib.hid (grown_trans T5.out.gr hg); clear hg))
                exact ⟨rfl, rfl, HY.out⟩
              · have HV := Lib.hid hV
                clear hV hf5
                show Calls _ _ _ _ (GotP (RuP w.heap.size) s w b 0 .out)
                go_enter Try.func48, Try.ntmps48
                go_wp2_with (first | (go_at_call 29; (with_reducible refine (HD1.out).mono ?_); rintro e w1 ⟨v, rfl, rfl, hp, hg⟩; have H1 := Lib.hid (And.intro hp (And.intro hg (Nat.le_trans (Nat.le_of_eq s0.symm) hg.size))); clear hp hg) | (go_at_call 63; (with_reducible refine (HT.out _ H1.out.1).mono ?_); rintro e w2 ⟨v, rfl, ⟨tb, capc, rfl, h1, h2, h3, h4⟩, hp, hg⟩; have T2 : Hid (RuleAt w (w2.alloc (ruO (.slice (some ⟨tb, 0, none⟩) cs.length capc) 1 (.slice none 0 0) 0 0 0 0 0 0)) b s 0 k w2.heap.size tb capc cs (.plain 1) none 0 0 0) := Lib.hid (rule_new hlt HR0.out HG0.out s0 H1.out.2.1 hg hp h1 h2 h4); have hE : w.heap.size < w2.heap.size := Nat.lt_of_lt_of_le (Nat.lt_of_lt_of_le (Nat.lt_of_succ_le H1.out.2.2) (Nat.le_refl _)) hg.size; clear h1 h2 h3 h4 hp hg) | (go_at_call 41; (with_reducible refine (HS.out _ T2.out.at_).mono ?_); rintro e w3 ⟨v, rfl, rfl, hp, hg⟩; have T3 := Lib.hid (T2.out.call hp hg); clear hp hg) | (go_at_call 36; (with_reducible refine (HX.out _ T3.out.at_).mono ?_); rintro e w4 ⟨v, rfl, ⟨A, cap, rfl, hx⟩, hp, hg⟩; have hc := T3.out.call hp hg; have hx2 := hx.keep (Nat.le_refl _) (fun c hc2 => show w2.heap.size < c from Nat.lt_of_lt_of_le T3.out.size hc2) (fun _ _ _ => rfl); have e1 := cell6 hc.box 1 rfl; have e2 := cell6 hc.box 2 rfl; have e3 := cell6 hc.box 3 rfl; have e4 := cell6 hc.box 4 rfl; have e5 := cell6 hc.box 5 rfl; have e6 := cell6 hc.box 6 rfl; have z1 := frozen6 hc.box 1; have z2 := frozen6 hc.box 2; have z3 := frozen6 hc.box 3; have z4 := frozen6 hc.box 4; have z5 := frozen6 hc.box 5; have z6 := frozen6 hc.box 6; have T4 := Lib.hid (hc.setEx hx2); clear hc hx hx2 hp hg) | (go_at_call 29; (with_reducible refine (HD4.out _ T4.out.at_).mono ?_); rintro e w5 ⟨v, rfl, rfl, hp, hg⟩; have T5 := Lib.hid (T4.out.call hp hg); clear hp hg) | (go_at_call 31; (with_reducible refine (HV.out _ T5.out.at_).mono ?_); intro e w6 hF; exact hF.elim))
            · have HD4 := Lib.hid hD4
              clear hD4 hf4
              show Calls _ _ _ _ (GotP (RuP w.heap.size) s w b 0 (.bad er p))
              go_enter Try.func48, Try.ntmps48
              go_wp2_with (first | (go_at_call 29; (with_reducible refine (HD1.out).mono ?_); rintro e w1 ⟨v, rfl, rfl, hp, hg⟩; have H1 := Lib.hid (And.intro hp (And.intro hg (Nat.le_trans (Nat.le_of_eq s0.symm) hg.size))); clear hp hg) | (go_at_call 63; (with_reducible refine (HT.out _ H1.out.1).mono ?_); rintro e w2 ⟨v, rfl, ⟨tb, capc, rfl, h1, h2, h3, h4⟩, hp, hg⟩; have T2 : Hid (RuleAt w (w2.alloc (ruO (.slice (some ⟨tb, 0, none⟩) cs.length capc) 1 (.slice none 0 0) 0 0 0 0 0 0)) b s 0 k w2.heap.size tb capc cs (.plain 1) none 0 0 0) := Lib.hid (rule_new hlt HR0.out HG0.out s0 H1.out.2.1 hg hp h1 h2 h4); have hE : w.heap.size < w2.heap.size := Nat.lt_of_lt_of_le (Nat.lt_of_lt_of_le (Nat.lt_of_succ_le H1.out.2.2) (Nat.le_refl _)) hg.size; clear h1 h2 h3 h4 hp hg) | (go_at_call 41; (with_reducible refine (HS.out _ T2.out.at_).mono ?_); rintro e w3 ⟨v, rfl, rfl, hp, hg⟩; have T3 := Lib.hid (T2.out.call hp hg); clear hp hg) | (go_at_call 36; (with_reducible refine (HX.out _ T3.out.at_).mono ?_); rintro e w4 ⟨v, rfl, ⟨A, cap, rfl, hx⟩, hp, hg⟩; have hc := T3.out.call hp hg; have hx2 := hx.keep (Nat.le_refl _) (fun c hc2 => show w2.heap.size < c from Nat.lt_of_lt_of_le T3.out.size hc2) (fun _ _ _ => rfl); have e1 := cell6 hc.box 1 rfl; have e2 := cell6 hc.box 2 rfl; have e3 := cell6 hc.box 3 rfl; have e4 := cell6 hc.box 4 rfl; have e5 := cell6 hc.box 5 rfl; have e6 := cell6 hc.box 6 rfl; have z1 := frozen6 hc.box 1; have z2 := frozen6 hc.box 2; have z3 := frozen6 hc.box 3; have z4 := frozen6 hc.box 4; have z5 := frozen6 hc.box 5; have z6 := frozen6 hc.box 6; have T4 := Lib.hid (hc.setEx hx2); clear hc hx hx2 hp hg) | (go_at_call 29; (with_reducible refine (HD4.out _ T4.out.at_).mono ?_); rintro e w5 ⟨rfl, hg⟩; have HY := Lib.hid (grown_trans T4.out.gr hg); clear hg))
              exact ⟨rfl, rfl, HY.out⟩
            · have HD4 := Lib.hid hD4
              clear hD4 hf4
              show Calls _ _ _ _ (GotP (RuP w.heap.size) s w b 0 .out)
              go_enter Try.func48, Try.ntmps48
              go_wp2_with (first | (go_at_call 29; (with_reducible refine (HD1.out).mono ?_); rintro e w1 ⟨v, rfl, rfl, hp, hg⟩; have H1 := Lib.hid (And.intro hp (And.intro hg (Nat.le_trans (Nat.le_of_eq s0.symm) hg.size))); clear hp hg) | (go_at_call 63; (with_reducible refine (HT.out _ H1.out.1).mono ?_); rintro e w2 ⟨v, rfl, ⟨tb, capc, rfl, h1, h2, h3, h4⟩, hp, hg⟩; have T2 : Hid (RuleAt w (w2.alloc (ruO (.slice (some ⟨tb, 0, none⟩) cs.length capc) 1 (.slice none 0 0) 0 0 0 0 0 0)) b s 0 k w2.heap.size tb capc cs (.plain 1) none 0 0 0) := Lib.hid (rule_new hlt HR0.out HG0.out s0 H1.out.2.1 hg hp h1 h2 h4); have hE : w.heap.size < w2.heap.size := Nat.lt_of_lt_of_le (Nat.lt_of_lt_of_le (Nat.lt_of_succ_le H1.out.2.2) (Nat.le_refl _)) hg.size; clear h1 h2 h3 h4 hp hg) | (go_at_call 41; (with_reducible refine (HS.out _ T2.out.at_).mono ?_); rintro e w3 ⟨v, rfl, rfl, hp, hg⟩; have T3 := Lib.hid (T2.out.call hp hg); clear hp hg) | (go_at_call 36; (with_reducible refine (HX.out _ T3.out.at_).mono ?_); rintro e w4 ⟨v, rfl, ⟨A, cap, rfl, hx⟩, hp, hg⟩; have hc := T3.out.call hp hg; have hx2 := hx.keep (Nat.le_refl _) (fun c hc2 => show w2.heap.size < c from Nat.lt_of_lt_of_le T3.out.size hc2) (fun _ _ _ => rfl); have e1 := cell6 hc.box 1 rfl; have e2 := cell6 hc.box 2 rfl; have e3 := cell6 hc.box 3 rfl; have e4 := cell6 hc.box 4 rfl; have e5 := cell6 hc.box 5 rfl; have e6 := cell6 hc.box 6 rfl; have z1 := frozen6 hc.box 1; have z2 := frozen6 hc.box 2; have z3 := frozen6 hc.box 3; have z4 := frozen6 hc.box 4; have z5 := frozen6 hc.box 5; have z6 := frozen6 hc.box 6; have T4 := Lib.hid (hc.setEx hx2); clear hc hx hx2 hp hg) | (go_at_call 29; (with_reducible refine (HD4.out _ T4.out.at_).mono ?_); intro e w5 hF; exact hF.elim))
          · have HX := Lib.hid hX
            clear hX hf3
            show Calls _ _ _ _ (GotP (RuP w.heap.size) s w b 0 (.bad er p))
            go_enter Try.func48, Try.ntmps48
            go_wp2_with (first | (go_at_call 29; (with_reducible refine (HD1.out).mono ?_); rintro e w1 ⟨v, rfl, rfl, hp, hg⟩; have H1 := Lib.hid (And.intro hp (And.intro hg (Nat.le_trans (Nat.le_of_eq s0.symm) hg.size))); clear hp hg) | (go_at_call 63; (with_reducible refine (HT.out _ H1.out.1).mono ?_); rintro e w2 ⟨v, rfl, ⟨tb, capc, rfl, h1, h2, h3, h4⟩, hp, hg⟩; have T2 : Hid (RuleAt w (w2.alloc (ruO (.slice (some ⟨tb, 0, none⟩) cs.length capc) 1 (.slice none 0 0) 0 0 0 0 0 0)) b s 0 k w2.heap.size tb capc cs (.plain 1) none 0 0 0) := Lib.hid (rule_new hlt HR0.out HG0.out s0 H1.out.2.1 hg hp h1 h2 h4); have hE : w.heap.size < w2.heap.size := Nat.lt_of_lt_of_le (Nat.lt_of_lt_of_le (Nat.lt_of_succ_le H1.out.2.2) (Nat.le_refl _)) hg.size; clear h1 h2 h3 h4 hp hg) | (go_at_call 41; (with_reducible refine (HS.out _ T2.out.at_).mono ?_); rintro e w3 ⟨v, rfl, rfl, hp, hg⟩; have T3 := Lib.hid (T2.out.call hp hg); clear hp hg) | (go_at_call 36; (with_reducible refine (HX.out _ T3.out.at_).mono ?_); rintro e w4 ⟨rfl, hg⟩; have HY := Lib.hid (grown_trans T3.out.gr hg); clear hg))
            exact ⟨rfl, rfl, HY.out⟩
          · have HX := Lib.hid hX
            clear hX hf3
            show Calls _ _ _ _ (GotP (RuP w.heap.size) s w b 0 .out)
            go_enter Try.func48, Try.ntmps48
            go_wp2_with (first | (go_at_call 29; (with_reducible refine (HD1.out).mono ?_); rintro e w1 ⟨v, rfl, rfl, hp, hg⟩; have H1 := Lib.hid (And.intro hp (And.intro hg (Nat.le_trans (Nat.le_of_eq s0.symm) hg.size))); clear hp hg) | (go_at_call 63; (with_reducible refine (HT.out _ H1.out.1).mono ?_); rintro e w2 ⟨v, rfl, ⟨tb, capc, rfl, h1, h2, h3, h4⟩, hp, hg⟩; have T2 : Hid (RuleAt w (w2.alloc (ruO (.slice (some ⟨tb, 0, none⟩) cs.length capc) 1 (.slice none 0 0) 0 0 0 0 0 0)) b s 0 k w2.heap.size tb capc cs (.plain 1) none 0 0 0) := Lib.hid (rule_new hlt HR0.out HG0.out s0 H1.out.2.1 hg hp h1 h2 h4); have hE : w.heap.size < w2.heap.size := Nat.lt_of_lt_of_le (Nat.lt_of_lt_of_le (Nat.lt_of_succ_le H1.out.2.2) (Nat.le_refl _)) hg.size; clear h1 h2 h3 h4 hp hg) | (go_at_call 41; (with_reducible refine (HS.out _ T2.out.at_).mono ?_); rintro e w3 ⟨v, rfl, rfl, hp, hg⟩; have T3 := Lib.hid (T2.out.call hp hg); clear hp hg) | (go_at_call 36; (with_reducible refine (HX.out _ T3.out.at_).mono ?_); intro e w4 hF; exact hF.elim))
        · rw [adv_no hl1] at hS ⊢
          generalize (srcF s).err = er at hS ⊢
          generalize (srcF s).place = p at hS ⊢
          have HS := Lib.hid hS
          clear hS hl1
          show Calls _ _ _ _ (GotP (RuP w.heap.size) s w b 0 (.bad er p))
          go_enter Try.func48, Try.ntmps48
          go_wp2_with (first | (go_at_call 29; (with_reducible refine (HD1.out).mono ?_); rintro e w1 ⟨v, rfl, rfl, hp, hg⟩; have H1 := Lib.hid (And.intro hp (And.intro hg (Nat.le_trans (Nat.le_of_eq s0.symm) hg.size))); clear hp hg) | (go_at_call 63; (with_reducible refine (HT.out _ H1.out.1).mono ?_); rintro e w2 ⟨v, rfl, ⟨tb, capc, rfl, h1, h2, h3, h4⟩, hp, hg⟩; have T2 : Hid (RuleAt w (w2.alloc (ruO (.slice (some ⟨tb, 0, none⟩) cs.length capc) 1 (.slice none 0 0) 0 0 0 0 0 0)) b s 0 k w2.heap.size tb capc cs (.plain 1) none 0 0 0) := Lib.hid (rule_new hlt HR0.out HG0.out s0 H1.out.2.1 hg hp h1 h2 h4); have hE : w.heap.size < w2.heap.size := Nat.lt_of_lt_of_le (Nat.lt_of_lt_of_le (Nat.lt_of_succ_le H1.out.2.2) (Nat.le_refl _)) hg.size; clear h1 h2 h3 h4 hp hg) | (go_at_call 41; (with_reducible refine (HS.out _ T2.out.at_).mono ?_); rintro e w3 ⟨rfl, hg⟩; have HY := Lib.hid (grown_trans T2.out.gr hg); clear hg))
          exact ⟨rfl, rfl, HY.out⟩
      · have hS := fun (W : World) hp => hSkn.out W k hp ht
        have hwh : whenG (srcF s) n k = .ok (.plain 1) k := if_neg ht
        have HS := Lib.hid hS
        show Calls _ _ _ _ (GotP (RuP w.heap.size) s w b 0 ((whenG (srcF s) n k).andThen fun e l => (demandG (srcF s) ⟨#[100, 111]⟩ l).andThen fun _ m => (verdG (srcF s) m).andThen fun v o => (demandG (srcF s) ⟨#[59]⟩ o).andThen fun _ p => .ok ⟨cs, e, v⟩ p))
        rw [hwh]
        have hl := hk
        clear ht hwh hS hk
        show Calls _ _ _ _ (GotP (RuP w.heap.size) s w b 0 ((demandG (srcF s) ⟨#[100, 111]⟩ k).andThen fun _ m => (verdG (srcF s) m).andThen fun v o => (demandG (srcF s) ⟨#[59]⟩ o).andThen fun _ p => .ok ⟨cs, .plain 1, v⟩ p))
        have hD4 := fun (W : World) hp => hDem.out W k hl hp ⟨#[100, 111]⟩ (by decide)
        have hf4 := fwd_demand (S := srcF s) ⟨#[100, 111]⟩ k
        generalize demandG (srcF s) ⟨#[100, 111]⟩ k = g4 at hD4 hf4 ⊢
        rcases g4 with ⟨u4, m⟩ | ⟨er, p⟩ | _
        · have hm := (hf4 u4 m rfl).2
          have HD4 := Lib.hid hD4
          have hV := fun (W : World) hp => hVer.out W m hm hp
          have hf5 := fwd_verd (S := srcF s) m
          clear hD4 hf4
          show Calls _ _ _ _ (GotP (RuP w.heap.size) s w b 0 ((verdG (srcF s) m).andThen fun v o => (demandG (srcF s) ⟨#[59]⟩ o).andThen fun _ p => .ok ⟨cs, .plain 1, v⟩ p))
          generalize verdG (srcF s) m = g5 at hV hf5 ⊢
          rcases g5 with ⟨⟨k1, n1⟩, o⟩ | ⟨er, p⟩ | _
          · have ho := (hf5 (k1, n1) o rfl).2
            have HV := Lib.hid hV
            have hD6 := fun (W : World) hp => hDem.out W o ho hp ⟨#[59]⟩ (by decide)
            clear hV hf5
            show Calls _ _ _ _ (GotP (RuP w.heap.size) s w b 0 ((demandG (srcF s) ⟨#[59]⟩ o).andThen fun _ p => .ok ⟨cs, .plain 1, (k1, n1)⟩ p))
            generalize demandG (srcF s) ⟨#[59]⟩ o = g6 at hD6 ⊢
            rcases g6 with ⟨u6, p⟩ | ⟨er, p⟩ | _
            · have HD6 := Lib.hid hD6
              clear hD6
              show Calls _ _ _ _ (GotP (RuP w.heap.size) s w b 0 (.ok ⟨cs, .plain 1, (k1, n1)⟩ p))
              go_enter Try.func48, Try.ntmps48
              go_wp2_with (first | (go_at_call 29; (with_reducible refine (HD1.out).mono ?_); rintro e w1 ⟨v, rfl, rfl, hp, hg⟩; have H1 := Lib.hid (And.intro hp (And.intro hg (Nat.le_trans (Nat.le_of_eq s0.symm) hg.size))); clear hp hg) | (go_at_call 63; (with_reducible refine (HT.out _ H1.out.1).mono ?_); rintro e w2 ⟨v, rfl, ⟨tb, capc, rfl, h1, h2, h3, h4⟩, hp, hg⟩; have T2 : Hid (RuleAt w (w2.alloc (ruO (.slice (some ⟨tb, 0, none⟩) cs.length capc) 1 (.slice none 0 0) 0 0 0 0 0 0)) b s 0 k w2.heap.size tb capc cs (.plain 1) none 0 0 0) := Lib.hid (rule_new hlt HR0.out HG0.out s0 H1.out.2.1 hg hp h1 h2 h4); have hE : w.heap.size < w2.heap.size := Nat.lt_of_lt_of_le (Nat.lt_of_lt_of_le (Nat.lt_of_succ_le H1.out.2.2) (Nat.le_refl _)) hg.size; clear h1 h2 h3 h4 hp hg) | (go_at_call 41; (with_reducible refine (HS.out _ T2.out.at_).mono ?_); rintro e w3 ⟨rfl, rfl⟩; have T4 := Lib.hid T2.out) | (go_at_call 29; (with_reducible refine (HD4.out _ T4.out.at_).mono ?_); rintro e w5 ⟨v, rfl, rfl, hp, hg⟩; have T5 := Lib.hid (T4.out.call hp hg); clear hp hg) | (go_at_call 31; (with_reducible refine (HV.out _ T5.out.at_).mono ?_); rintro e w6 ⟨v, rfl, rfl, hp, hg⟩; have hc := T5.out.call hp hg; have f7 := cell6 hc.box 7 rfl; have f8 := cell6 hc.box 8 rfl; have x7 := frozen6 hc.box 7; have x8 := frozen6 hc.box 8; have T6 := Lib.hid (hc.setVerd (k' := k1) (n' := (n1 : Int))); clear hc hp hg) | (go_at_call 29; (with_reducible refine (HD6.out _ T6.out.at_).mono ?_); rintro e w7 ⟨v, rfl, rfl, hp, hg⟩; have hc := T6.out.call hp hg; have p0 := cell6 hc.box 0 rfl; have p1 := cell6 hc.box 1 rfl; have p2 := cell6 hc.box 2 rfl; have p3 := cell6 hc.box 3 rfl; have p4 := cell6 hc.box 4 rfl; have p5 := cell6 hc.box 5 rfl; have p6 := cell6 hc.box 6 rfl; have p7 := cell6 hc.box 7 rfl; have p8 := cell6 hc.box 8 rfl; have u0 := cell6 hc.res 0 rfl; have u1 := cell6 hc.res 1 rfl; have u2 := cell6 hc.res 2 rfl; have u3 := cell6 hc.res 3 rfl; have u4 := cell6 hc.res 4 rfl; have u5 := cell6 hc.res 5 rfl; have u6 := cell6 hc.res 6 rfl; have u7 := cell6 hc.res 7 rfl; have u8 := cell6 hc.res 8 rfl; have y0 := frozen6 hc.res 0; have y1 := frozen6 hc.res 1; have y2 := frozen6 hc.res 2; have y3 := frozen6 hc.res 3; have y4 := frozen6 hc.res 4; have y5 := frozen6 hc.res 5; have y6 := frozen6 hc.res 6; have y7 := frozen6 hc.res 7; have y8 := frozen6 hc.res 8; have T7 := Lib.hid hc; clear hc hp hg))
              exact bodyPost_ret (v := .agg #[.slice (some ⟨tb, 0, none⟩) cs.length capc, .int .i64 1, .slice none 0 0, .int .i64 0, .int .u64 0, .int .i64 0, .int .u64 0, .int .i64 k1, .int .u64 (n1 : Int)]) (by simp [results, Try.results48, go_sem, u0, u1, u2, u3, u4, u5, u6, u7, u8, World.cell?_setCell_same']; exact ⟨rfl, rfl, rfl, rfl, rfl, rfl⟩) rfl ⟨_, rfl, T7.out.done.1, T7.out.done.2.1, T7.out.done.2.2⟩
            · have HD6 := Lib.hid hD6
              clear hD6
              show Calls _ _ _ _ (GotP (RuP w.heap.size) s w b 0 (.bad er p))
              go_enter Try.func48, Try.ntmps48
              go_wp2_with (first | (go_at_call 29; (with_reducible refine (HD1.out).mono ?_); rintro e w1 ⟨v, rfl, rfl, hp, hg⟩; have H1 := Lib.hid (And.intro hp (And.intro hg (Nat.le_trans (Nat.le_of_eq s0.symm) hg.size))); clear hp hg) | (go_at_call 63; (with_reducible refine (HT.out _ H1.out.1).mono ?_); rintro e w2 ⟨v, rfl, ⟨tb, capc, rfl, h1, h2, h3, h4⟩, hp, hg⟩; have T2 : Hid (RuleAt w (w2.alloc (ruO (.slice (some ⟨tb, 0, none⟩) cs.length capc) 1 (.slice none 0 0) 0 0 0 0 0 0)) b s 0 k w2.heap.size tb capc cs (.plain 1) none 0 0 0) := Lib.hid (rule_new hlt HR0.out HG0.out s0 H1.out.2.1 hg hp h1 h2 h4); have hE : w.heap.size < w2.heap.size := Nat.lt_of_lt_of_le (Nat.lt_of_lt_of_le (Nat.lt_of_succ_le H1.out.2.2) (Nat.le_refl _)) hg.size; clear h1 h2 h3 h4 hp hg) | (go_at_call 41; (with_reducible refine (HS.out _ T2.out.at_).mono ?_); rintro e w3 ⟨rfl, rfl⟩; have T4 := Lib.hid T2.out) | (go_at_call 29; (with_reducible refine (HD4.out _ T4.out.at_).mono ?_); rintro e w5 ⟨v, rfl, rfl, hp, hg⟩; have T5 := Lib.hid (T4.out.call hp hg); clear hp hg) | (go_at_call 31; (with_reducible refine (HV.out _ T5.out.at_).mono ?_); rintro e w6 ⟨v, rfl, rfl, hp, hg⟩; have hc := T5.out.call hp hg; have f7 := cell6 hc.box 7 rfl; have f8 := cell6 hc.box 8 rfl; have x7 := frozen6 hc.box 7; have x8 := frozen6 hc.box 8; have T6 := Lib.hid (hc.setVerd (k' := k1) (n' := (n1 : Int))); clear hc hp hg) | (go_at_call 29; (with_reducible refine (HD6.out _ T6.out.at_).mono ?_); rintro e w7 ⟨rfl, hg⟩; have HY := Lib.hid (grown_trans T6.out.gr hg); clear hg))
              exact ⟨rfl, rfl, HY.out⟩
            · have HD6 := Lib.hid hD6
              clear hD6
              show Calls _ _ _ _ (GotP (RuP w.heap.size) s w b 0 .out)
              go_enter Try.func48, Try.ntmps48
              go_wp2_with (first | (go_at_call 29; (with_reducible refine (HD1.out).mono ?_); rintro e w1 ⟨v, rfl, rfl, hp, hg⟩; have H1 := Lib.hid (And.intro hp (And.intro hg (Nat.le_trans (Nat.le_of_eq s0.symm) hg.size))); clear hp hg) | (go_at_call 63; (with_reducible refine (HT.out _ H1.out.1).mono ?_); rintro e w2 ⟨v, rfl, ⟨tb, capc, rfl, h1, h2, h3, h4⟩, hp, hg⟩; have T2 : Hid (RuleAt w (w2.alloc (ruO (.slice (some ⟨tb, 0, none⟩) cs.length capc) 1 (.slice none 0 0) 0 0 0 0 0 0)) b s 0 k w2.heap.size tb capc cs (.plain 1) none 0 0 0) := Lib.hid (rule_new hlt HR0.out HG0.out s0 H1.out.2.1 hg hp h1 h2 h4); have hE : w.heap.size < w2.heap.size := Nat.lt_of_lt_of_le (Nat.lt_of_lt_of_le (Nat.lt_of_succ_le H1.out.2.2) (Nat.le_refl _)) hg.size; clear h1 h2 h3 h4 hp hg) | (go_at_call 41; (with_reducible refine (HS.out _ T2.out.at_).mono ?_); rintro e w3 ⟨rfl, rfl⟩; have T4 := Lib.hid T2.out) | (go_at_call 29; (with_reducible refine (HD4.out _ T4.out.at_).mono ?_); rintro e w5 ⟨v, rfl, rfl, hp, hg⟩; have T5 := Lib.hid (T4.out.call hp hg); clear hp hg) | (go_at_call 31; (with_reducible refine (HV.out _ T5.out.at_).mono ?_); rintro e w6 ⟨v, rfl, rfl, hp, hg⟩; have hc := T5.out.call hp hg; have f7 := cell6 hc.box 7 rfl; have f8 := cell6 hc.box 8 rfl; have x7 := frozen6 hc.box 7; have x8 := frozen6 hc.box 8; have T6 := Lib.hid (hc.setVerd (k' := k1) (n' := (n1 : Int))); clear hc hp hg) | (go_at_call 29; (with_reducible refine (HD6.out _ T6.out.at_).mono ?_); intro e w7 hF; exact hF.elim))
          · have HV := Lib.hid hV
            clear hV hf5
            show Calls _ _ _ _ (GotP (RuP w.heap.size) s w b 0 (.bad er p))
            go_enter Try.func48, Try.ntmps48
            go_wp2_with (first | (go_at_call 29; (with_reducible refine (HD1.out).mono ?_); rintro e w1 ⟨v, rfl, rfl, hp, hg⟩; have H1 := Lib.hid (And.intro hp (And.intro hg (Nat.le_trans (Nat.le_of_eq s0.symm) hg.size))); clear hp hg) | (go_at_call 63; (with_reducible refine (HT.out _ H1.out.1).mono ?_); rintro e w2 ⟨v, rfl, ⟨tb, capc, rfl, h1, h2, h3, h4⟩, hp, hg⟩; have T2 : Hid (RuleAt w (w2.alloc (ruO (.slice (some ⟨tb, 0, none⟩) cs.length capc) 1 (.slice none 0 0) 0 0 0 0 0 0)) b s 0 k w2.heap.size tb capc cs (.plain 1) none 0 0 0) := Lib.hid (rule_new hlt HR0.out HG0.out s0 H1.out.2.1 hg hp h1 h2 h4); have hE : w.heap.size < w2.heap.size := Nat.lt_of_lt_of_le (Nat.lt_of_lt_of_le (Nat.lt_of_succ_le H1.out.2.2) (Nat.le_refl _)) hg.size; clear h1 h2 h3 h4 hp hg) | (go_at_call 41; (with_reducible refine (HS.out _ T2.out.at_).mono ?_); rintro e w3 ⟨rfl, rfl⟩; have T4 := Lib.hid T2.out) | (go_at_call 29; (with_reducible refine (HD4.out _ T4.out.at_).mono ?_); rintro e w5 ⟨v, rfl, rfl, hp, hg⟩; have T5 := Lib.hid (T4.out.call hp hg); clear hp hg) | (go_at_call 31; (with_reducible refine (HV.out _ T5.out.at_).mono ?_); rintro e w6 ⟨rfl, hg⟩; have HY := Lib.hid (grown_trans T5.out.gr hg); clear hg))
            exact ⟨rfl, rfl, HY.out⟩
          · have HV := Lib.hid hV
            clear hV hf5
            show Calls _ _ _ _ (GotP (RuP w.heap.size) s w b 0 .out)
            go_enter Try.func48, Try.ntmps48
            go_wp2_with (first | (go_at_call 29; (with_reducible refine (HD1.out).mono ?_); rintro e w1 ⟨v, rfl, rfl, hp, hg⟩; have H1 := Lib.hid (And.intro hp (And.intro hg (Nat.le_trans (Nat.le_of_eq s0.symm) hg.size))); clear hp hg) | (go_at_call 63; (with_reducible refine (HT.out _ H1.out.1).mono ?_); rintro e w2 ⟨v, rfl, ⟨tb, capc, rfl, h1, h2, h3, h4⟩, hp, hg⟩; have T2 : Hid (RuleAt w (w2.alloc (ruO (.slice (some ⟨tb, 0, none⟩) cs.length capc) 1 (.slice none 0 0) 0 0 0 0 0 0)) b s 0 k w2.heap.size tb capc cs (.plain 1) none 0 0 0) := Lib.hid (rule_new hlt HR0.out HG0.out s0 H1.out.2.1 hg hp h1 h2 h4); have hE : w.heap.size < w2.heap.size := Nat.lt_of_lt_of_le (Nat.lt_of_lt_of_le (Nat.lt_of_succ_le H1.out.2.2) (Nat.le_refl _)) hg.size; clear h1 h2 h3 h4 hp hg) | (go_at_call 41; (with_reducible refine (HS.out _ T2.out.at_).mono ?_); rintro e w3 ⟨rfl, rfl⟩; have T4 := Lib.hid T2.out) | (go_at_call 29; (with_reducible refine (HD4.out _ T4.out.at_).mono ?_); rintro e w5 ⟨v, rfl, rfl, hp, hg⟩; have T5 := Lib.hid (T4.out.call hp hg); clear hp hg) | (go_at_call 31; (with_reducible refine (HV.out _ T5.out.at_).mono ?_); intro e w6 hF; exact hF.elim))
        · have HD4 := Lib.hid hD4
          clear hD4 hf4
          show Calls _ _ _ _ (GotP (RuP w.heap.size) s w b 0 (.bad er p))
          go_enter Try.func48, Try.ntmps48
          go_wp2_with (first | (go_at_call 29; (with_reducible refine (HD1.out).mono ?_); rintro e w1 ⟨v, rfl, rfl, hp, hg⟩; have H1 := Lib.hid (And.intro hp (And.intro hg (Nat.le_trans (Nat.le_of_eq s0.symm) hg.size))); clear hp hg) | (go_at_call 63; (with_reducible refine (HT.out _ H1.out.1).mono ?_); rintro e w2 ⟨v, rfl, ⟨tb, capc, rfl, h1, h2, h3, h4⟩, hp, hg⟩; have T2 : Hid (RuleAt w (w2.alloc (ruO (.slice (some ⟨tb, 0, none⟩) cs.length capc) 1 (.slice none 0 0) 0 0 0 0 0 0)) b s 0 k w2.heap.size tb capc cs (.plain 1) none 0 0 0) := Lib.hid (rule_new hlt HR0.out HG0.out s0 H1.out.2.1 hg hp h1 h2 h4); have hE : w.heap.size < w2.heap.size := Nat.lt_of_lt_of_le (Nat.lt_of_lt_of_le (Nat.lt_of_succ_le H1.out.2.2) (Nat.le_refl _)) hg.size; clear h1 h2 h3 h4 hp hg) | (go_at_call 41; (with_reducible refine (HS.out _ T2.out.at_).mono ?_); rintro e w3 ⟨rfl, rfl⟩; have T4 := Lib.hid T2.out) | (go_at_call 29; (with_reducible refine (HD4.out _ T4.out.at_).mono ?_); rintro e w5 ⟨rfl, hg⟩; have HY := Lib.hid (grown_trans T4.out.gr hg); clear hg))
          exact ⟨rfl, rfl, HY.out⟩
        · have HD4 := Lib.hid hD4
          clear hD4 hf4
          show Calls _ _ _ _ (GotP (RuP w.heap.size) s w b 0 .out)
          go_enter Try.func48, Try.ntmps48
          go_wp2_with (first | (go_at_call 29; (with_reducible refine (HD1.out).mono ?_); rintro e w1 ⟨v, rfl, rfl, hp, hg⟩; have H1 := Lib.hid (And.intro hp (And.intro hg (Nat.le_trans (Nat.le_of_eq s0.symm) hg.size))); clear hp hg) | (go_at_call 63; (with_reducible refine (HT.out _ H1.out.1).mono ?_); rintro e w2 ⟨v, rfl, ⟨tb, capc, rfl, h1, h2, h3, h4⟩, hp, hg⟩; have T2 : Hid (RuleAt w (w2.alloc (ruO (.slice (some ⟨tb, 0, none⟩) cs.length capc) 1 (.slice none 0 0) 0 0 0 0 0 0)) b s 0 k w2.heap.size tb capc cs (.plain 1) none 0 0 0) := Lib.hid (rule_new hlt HR0.out HG0.out s0 H1.out.2.1 hg hp h1 h2 h4); have hE : w.heap.size < w2.heap.size := Nat.lt_of_lt_of_le (Nat.lt_of_lt_of_le (Nat.lt_of_succ_le H1.out.2.2) (Nat.le_refl _)) hg.size; clear h1 h2 h3 h4 hp hg) | (go_at_call 41; (with_reducible refine (HS.out _ T2.out.at_).mono ?_); rintro e w3 ⟨rfl, rfl⟩; have T4 := Lib.hid T2.out) | (go_at_call 29; (with_reducible refine (HD4.out _ T4.out.at_).mono ?_); intro e w5 hF; exact hF.elim))
    · have HT := Lib.hid hT
      clear hT hf2
      show Calls _ _ _ _ (GotP (RuP w.heap.size) s w b 0 (.bad er p))
      go_enter Try.func48, Try.ntmps48
      go_wp2_with (first | (go_at_call 29; (with_reducible refine (HD1.out).mono ?_); rintro e w1 ⟨v, rfl, rfl, hp, hg⟩; have H1 := Lib.hid (And.intro hp (And.intro hg (Nat.le_trans (Nat.le_of_eq s0.symm) hg.size))); clear hp hg) | (go_at_call 63; (with_reducible refine (HT.out _ H1.out.1).mono ?_); rintro e w2 ⟨rfl, hg⟩; have HY := Lib.hid (grown_trans (grown_trans HG0.out H1.out.2.1) hg); clear hg))
      exact ⟨rfl, rfl, HY.out⟩
    · have HT := Lib.hid hT
      clear hT hf2
      show Calls _ _ _ _ (GotP (RuP w.heap.size) s w b 0 .out)
      go_enter Try.func48, Try.ntmps48
      go_wp2_with (first | (go_at_call 29; (with_reducible refine (HD1.out).mono ?_); rintro e w1 ⟨v, rfl, rfl, hp, hg⟩; have H1 := Lib.hid (And.intro hp (And.intro hg (Nat.le_trans (Nat.le_of_eq s0.symm) hg.size))); clear hp hg) | (go_at_call 63; (with_reducible refine (HT.out _ H1.out.1).mono ?_); intro e w2 hF; exact hF.elim))
  · have HD1 := Lib.hid hD1
    clear hD1 hf1
    show Calls _ _ _ _ (GotP (RuP w.heap.size) s w b 0 (.bad er p))
    go_enter Try.func48, Try.ntmps48
    go_wp2_with (first | (go_at_call 29; (with_reducible refine (HD1.out).mono ?_); rintro e w1 ⟨rfl, hg⟩; have HY := Lib.hid (grown_trans HG0.out hg); clear hg))
    exact ⟨rfl, rfl, HY.out⟩
  · have HD1 := Lib.hid hD1
    clear hD1 hf1
    show Calls _ _ _ _ (GotP (RuP w.heap.size) s w b 0 .out)
    go_enter Try.func48, Try.ntmps48
    go_wp2_with (first | (go_at_call 29; (with_reducible refine (HD1.out).mono ?_); intro e w1 hF; exact hF.elim))
end Go.Proofs.Ytmmfbeebjehkgaa
