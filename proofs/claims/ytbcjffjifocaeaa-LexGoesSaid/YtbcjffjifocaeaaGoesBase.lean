/-
  For a law that walks through tokens in two turns, within themselves: what rounds keep, and what lies where the turns begin. No condition but those that it names.
-/
import Derived.Test.YtbcjffjifocaeaaLexProg
import Derived.Test.YtbcjffjifocaeaaInRound
import Derived.Laws.EntriesVeiled
namespace Go.Proofs.Ytbcjffjifocaeaa
open Go Go.RowKit Go.Shelf
set_option linter.unusedSimpArgs false
set_option linter.unusedVariables false

/-- What rounds keep: blocks of a few cells but for those of X; whatever is no cells; whatever lay below n. -/
structure St (n : Nat) (X : Nat → Prop) (W W' : World) : Prop where
  keep : KeepC X W W'
  rest : KeepsFrom 0 W W'
  below : Below n W W'
section
variable {n : Nat} {X : Nat → Prop} {W W' W'' : World}
theorem St.refl (n : Nat) (X : Nat → Prop) (W : World) : St n X W W := ⟨.refl _ _, .refl _ _, .refl _ _⟩
theorem St.trans (h : St n X W W') (k : St n X W' W'') : St n X W W'' := ⟨h.keep.trans k.keep, h.rest.trans k.rest, h.below.trans k.below⟩
theorem St.of_below (hb : Below W.heap.size W W') (hn : n ≤ W.heap.size) : St n X W W' := ⟨.of_below hb, kf_below hb, hb.mono hn⟩
theorem St.alloc (o : Obj) (hn : n ≤ W.heap.size) : St n X W (W.alloc o) := .of_below ((Below.refl _ _).alloc (Nat.le_refl _) o) hn
theorem St.drawn (k : Nat) : St n X W (W.drewN k) := ⟨⟨Nat.le_refl _, fun _ _ _ h _ => h⟩, ⟨Nat.le_refl _, fun _ _ _ h _ => h⟩, below_drawn (Below.refl _ _) k⟩
theorem St.set {b : Nat} (h : St n X W W') (hx : X b ∨ W.heap.size ≤ b) (hn : n ≤ b) (u : Value) : St n X W (W'.setCell ⟨b, 0, none⟩ u) :=
  ⟨⟨Nat.le_trans h.keep.size (grownBy_setCell' W' b u).size, fun k o hk ho hf => by
      have h1 := h.keep.same k o hk ho hf
      refine ((grownBy_setCell' W' b u).block k (Array.getElem?_eq_some_iff.1 h1).1 (fun e => ?_)).trans h1
      cases e
      rcases hx with g | g
      · exact hk g
      · have := (Array.getElem?_eq_some_iff.1 ho).1; omega⟩,
   h.rest.trans ((KeepsOthers.setCell _ _ _).from _), h.below.setCell (p := ⟨b, 0, none⟩) hn u⟩
theorem St.box {b : Nat} {t : TypeId} {v : Value} (h : St n X W W') (hb : Boxed W b t v) (hx : ¬ X b) : Boxed W' b t v := h.keep.box hx hb
theorem St.defer {D : Nat} {o : Obj} (h : St n X W W') (hD : W.heap[D]? = some o) (ho : o.isCells = false) : W'.heap[D]? = some o := h.rest.same D o (Nat.zero_le _) hD ho
theorem St.from (h : St n X W W') (B : Nat) : KeepsFrom B W W' := ⟨h.rest.size, fun k o _ hk ho => h.rest.same k o (Nat.zero_le _) hk ho⟩
theorem St.mono {Y : Nat → Prop} (h : St n X W W') (hXY : ∀ k, X k → Y k) : St n Y W W' := ⟨h.keep.mono hXY, h.rest, h.below⟩
theorem ownFrom_keepC {β : Type} {B : Nat} (X : Nat → Prop) (w₀ : World) : OwnFrom B (fun (_ : β) W => KeepC X w₀ W) :=
  fun _ A B' row hs hg hr => ⟨Nat.le_trans hs.size hg.size, fun k o hk h0 hf => by
    have hA := hs.same k o hk h0 hf
    refine (hg.block k (Array.getElem?_eq_some_iff.1 hA).1 (fun e => ?_)).trans hA
    obtain ⟨_, o', ho', hc⟩ := hr k e.symm
    rw [hA] at ho'; cases ho'
    rw [few_cells hf] at hc; cases hc⟩
theorem st_own {β : Type} {B : Nat} (n : Nat) (X : Nat → Prop) (w₀ : World) (hB : w₀.heap.size ≤ B) (hn : n ≤ w₀.heap.size) : OwnFrom B (fun (_ : β) W => St n X w₀ W) := fun s A A' row h hg hr =>
  ⟨ownFrom_keepC X w₀ s A A' row h.keep hg hr, ownFrom_keepsFrom hB s A A' row h.rest hg hr, ownFrom_below hn (Nat.le_trans hn hB) s A A' row h.below hg hr⟩
/-- A counter's box, and what rounds keep from a world on. -/
def Cnt (n : Nat) (X : Nat → Prop) (w₀ : World) (K : Nat) (t : TypeId) (pre : List Nx) (W : World) : Prop := Boxed W K t (.int .i64 (pre.length : Int)) ∧ St n X w₀ W
theorem cnt_own {B : Nat} (n : Nat) (X : Nat → Prop) (w₀ : World) (K : Nat) (t : TypeId) (hB : w₀.heap.size ≤ B) (hn : n ≤ w₀.heap.size) : OwnFrom B (Cnt n X w₀ K t) :=
  OwnFrom.and (Own.from (boxed_own K t (fun pre => Value.int .i64 ((pre : List Nx).length : Int))) _) (st_own n X w₀ hB hn)
/-- The range laws, the frame behind the assignment being told by the frame ahead of the loop. -/
theorem rangeH5 {F : Fence} {n : Nat} {P : Program} {α : Type} {g : Operand} {ps : Array Tmp} {assign body : Code} {Q : Exit → Act → World → Prop} {a : Act} {w : World}
    (hro : F.round = none) (h1 : 1 ≤ n) {gf : Nat} {lb : Array Value} (hg : a.eval g = .func (.func gf) #[] lb) (hFg : F.fn gf) (eg : ∀ args w, (callFunc gf args).run P w = .ok (.enter gf args) w)
    {encs : α → Array Value} {Kp : World → World → Prop} {S Sp : List α → Prop} {N : Nat} (hseq : SeqStopsK F (n - 1) P gf lb encs Kp S Sp N w)
    (hKt : ∀ {A B C : World}, Kp A B → Kp B C → Kp A C) (hKb : ∀ (W : World) (l : Nat) (o o' : Obj), w.heap.size ≤ l → W.heap[l]? = some o → o.isCells = false → o.isWalk = false → Kp W (W.putObj l o')) (hps : ∀ x, (encs x).size = ps.size)
    (I : List α → World → Prop) (Ix : Code → List α → World → Prop) (hI : OwnFrom w.heap.size I) (hIx : ∀ c, OwnFrom w.heap.size (Ix c)) (h0 : I [] w) (Ax : Act → α → Act → World → Prop) (hAx : ∀ x a', OwnFrom w.heap.size (fun (_ : Unit) W => Ax a x a' W))
    (hassign : ∀ (l : Nat) (pre : List α) (x : α) (W : World) (K : Act → World → Prop), I pre W → (∀ a' W', KeepsFrom w.heap.size W W' → Kp W W' → I pre W' → Ax a x a' W' → K a' W') →
      assign.wpIn (F.inRound l) (n - 1 - 1) P (Exit.then K (fun _ _ _ => False)) { tmps := (ps.zip (encs x)).foldl (fun t (p, v) => t.setIfInBounds p v) a.tmps, defers := [] } W)
    (hbody : ∀ (l : Nat) (pre : List α) (x : α) (a' : Act) (W : World), w.heap.size ≤ l → (∃ r, W.heap[l]? = some (.loop r)) → I pre W → Ax a x a' W → pre.length < N → body.wpIn (F.inRound l) (n - 1 - 1) P (ownPostG w.heap.size Kp I Ix (pre ++ [x]) W) a' W)
    (hdone : ∀ (D : Nat) (xs : List α) (W : World), w.heap.size ≤ D → S xs → I xs W → W.heap[D]? = some (.deferred (some [])) → Q .normal { a with defers := { target := .collected D, args := #[] } :: a.defers } W)
    (hstop : ∀ (D : Nat) (c : Code) (pre : List α) (W : World), w.heap.size ≤ D → Sp pre → Ix c pre W → W.heap[D]? = some (.deferred (some [])) → c.wpIn F n P Q { a with defers := { target := .collected D, args := #[] } :: a.defers } W) :
    (Code.rangeFunc g ps assign body).wpIn F n P Q a w :=
  wpIn_rangeFunc_ownH hro h1 hg hFg eg hseq hKt hKb (Below.refl _ _) hps I Ix hI hIx h0 (Ax a) hAx hassign hbody hdone hstop
theorem rangeN5 {F : Fence} {n : Nat} {P : Program} {α : Type} {g : Operand} {ps : Array Tmp} {assign body : Code} {Q : Exit → Act → World → Prop} {a : Act} {w : World}
    {l₀ : Nat} {r₀ : Loop} (hro : F.round = some l₀) (hl₀ : w.heap[l₀]? = some (.loop r₀)) (h1 : 1 ≤ n) {gf : Nat} {lb : Array Value} (hg : a.eval g = .func (.func gf) #[] lb) (hFg : F.fn gf) (eg : ∀ args w, (callFunc gf args).run P w = .ok (.enter gf args) w)
    {encs : α → Array Value} {Kp : World → World → Prop} {S Sp : List α → Prop} {N : Nat} (hseq : SeqStopsK F (n - 1) P gf lb encs Kp S Sp N w)
    (hKt : ∀ {A B C : World}, Kp A B → Kp B C → Kp A C) (hKb : ∀ (W : World) (l : Nat) (o o' : Obj), w.heap.size ≤ l → W.heap[l]? = some o → o.isCells = false → o.isWalk = false → Kp W (W.putObj l o')) (hps : ∀ x, (encs x).size = ps.size)
    (I : List α → World → Prop) (Ix : Code → List α → World → Prop) (hI : OwnFrom w.heap.size I) (hIx : ∀ c, OwnFrom w.heap.size (Ix c)) (h0 : I [] w) (Ax : Act → α → Act → World → Prop) (hAx : ∀ x a', OwnFrom w.heap.size (fun (_ : Unit) W => Ax a x a' W))
    (hassign : ∀ (l : Nat) (pre : List α) (x : α) (W : World) (K : Act → World → Prop), I pre W → (∀ a' W', KeepsFrom w.heap.size W W' → Kp W W' → I pre W' → Ax a x a' W' → K a' W') →
      assign.wpIn (F.inRound l) (n - 1 - 1) P (Exit.then K (fun _ _ _ => False)) { tmps := (ps.zip (encs x)).foldl (fun t (p, v) => t.setIfInBounds p v) a.tmps, defers := [] } W)
    (hbody : ∀ (l : Nat) (pre : List α) (x : α) (a' : Act) (W : World), w.heap.size ≤ l → (∃ r, W.heap[l]? = some (.loop r)) → I pre W → Ax a x a' W → pre.length < N → body.wpIn (F.inRound l) (n - 1 - 1) P (ownPostG w.heap.size Kp I Ix (pre ++ [x]) W) a' W)
    (hdone : ∀ (xs : List α) (W : World), S xs → I xs W → Q .normal a W)
    (hstop : ∀ (c : Code) (pre : List α) (W : World), Sp pre → Ix c pre W → c.wpIn F n P Q a W) :
    (Code.rangeFunc g ps assign body).wpIn F n P Q a w :=
  wpIn_rangeFunc_ownN hro hl₀ h1 hg hFg eg hseq hKt hKb (Below.refl _ _) hps I Ix hI hIx h0 (Ax a) hAx hassign hbody hdone hstop
/-- A list of tokens that was gathered: where it lies, and how much room there is. -/
theorem own_tok2 {w : World} {base : Nat} {v : Value} {l : List Nx} (h : w.ownsRow base 30 4 v l.length (tksC l)) : ∃ A cap, v = .slice A l.length cap ∧ TokAt w A l.length (fun i => l.getD i noTok) ∧ l.length ≤ cap ∧ (0 < l.length → ∃ b o, A = some ⟨b, o, none⟩ ∧ b < w.heap.size) := by
  obtain ⟨A, cap, rfl, ht⟩ := own_tok h
  refine ⟨A, cap, rfl, ht, ?_, fun hn => ?_⟩
  · rcases h.2 with ⟨hv, hn⟩ | ⟨g, cap', cur, hv, _, hh, hle, _, hs, _⟩
    · injection hv with _ h2 h3; omega
    · injection hv with _ h2 h3; omega
  · obtain ⟨b, o, e, hl, _⟩ := ht hn
    exact ⟨b, o, e, hl⟩
theorem St.trans_new {Y : Nat → Prop} (h : St n X W W') (k : St n Y W' W'') (hY : ∀ j, Y j → W.heap.size ≤ j) : St n X W W'' :=
  ⟨⟨Nat.le_trans h.keep.size k.keep.size, fun j o hx ho hf => k.keep.same j o (fun g => by have := hY j g; have := (Array.getElem?_eq_some_iff.1 ho).1; omega) (h.keep.same j o hx ho hf) hf⟩, h.rest.trans k.rest, h.below.trans k.below⟩
end
theorem tok_self (x : Nx) : tokB x x = true := decide_eq_true ⟨rfl, rfl, rfl, rfl⟩
/-- The item at a place ahead of the tokens' end is the token there. -/
theorem item_at {s : ByteArray} {pre : List Nx} {x : Nx} (h : pre ++ [x] <+: itemsF s) (hl : pre.length < (toksF s).1.length) : x = (toksF s).1.getD pre.length noTok := by
  obtain ⟨r, hr⟩ := h
  have h1 : (itemsF s)[pre.length]? = some x := by rw [← hr]; simp
  have h2 : (itemsF s)[pre.length]? = (toksF s).1[pre.length]? := by
    show ((toksF s).1 ++ (if (toksF s).2.1 ≠ 0 then _ else _))[pre.length]? = _
    rw [List.getElem?_append_left hl]
  rw [h2] at h1
  rw [List.getD_eq_getElem?_getD, h1]; rfl
theorem toks_errs_at {s : ByteArray} {i : Nat} (h : i < (toksF s).1.length) : ((toksF s).1.getD i noTok).err = 0 := by
  rw [List.getD_eq_getElem?_getD, List.getElem?_eq_getElem h]
  exact toks_errs s _ (List.getElem_mem h)
/-- .. and behind them is the error. -/
theorem item_end {s : ByteArray} {pre : List Nx} {x : Nx} (h : pre ++ [x] <+: itemsF s) (hl : pre.length = (toksF s).1.length) (hE : (toksF s).2.1 ≠ 0) : x = Nx.fail (toksF s).2.2 (toksF s).2.1 := by
  obtain ⟨r, hr⟩ := h
  have h1 : (itemsF s)[pre.length]? = some x := by rw [← hr]; simp
  have h2 : (itemsF s)[pre.length]? = some (Nx.fail (toksF s).2.2 (toksF s).2.1) := by
    show ((toksF s).1 ++ (if (toksF s).2.1 ≠ 0 then _ else _))[pre.length]? = _
    rw [if_pos hE, hl, List.getElem?_append_right (Nat.le_refl _), Nat.sub_self]; rfl
  rw [h2] at h1
  injection h1 with h1; exact h1.symm
end Go.Proofs.Ytbcjffjifocaeaa
