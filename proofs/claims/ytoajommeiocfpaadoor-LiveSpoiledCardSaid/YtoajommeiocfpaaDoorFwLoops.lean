/-
  Loops over functions: what such a function may turn, what a round keeps, the laws of such a loop. No condition but those that each names.
-/
import Derived.Test.YtoajommeiocfpaaDoorMemory
import Derived.RangeFuncNested
import Derived.RangeFuncCalls
import Derived.RangeFuncLeaves
import Derived.RangeFuncFrom
import Derived.OrdersIn
import Derived.OrdersHeld
import Derived.Deep.RegionHeld
import Derived.TacticsIn
namespace Go.Proofs.YtoajommeiocfpaaDoor
open Go Go.RowKit
set_option linter.unusedSimpArgs false
set_option linter.unusedVariables false

/-- What a round keeps: whatever is of a kind. -/
structure KeepO (K : Nat → Obj → Prop) (W W' : World) : Prop where
  size : W.heap.size ≤ W'.heap.size
  same : ∀ k o, W.heap[k]? = some o → K k o → W'.heap[k]? = some o
section
variable {K : Nat → Obj → Prop} {W W' W'' : World}
theorem KeepO.refl (K : Nat → Obj → Prop) (W : World) : KeepO K W W := ⟨Nat.le_refl _, fun _ _ h _ => h⟩
theorem KeepO.trans (h : KeepO K W W') (k : KeepO K W' W'') : KeepO K W W'' := ⟨Nat.le_trans h.size k.size, fun j o ho hK => k.same j o (h.same j o ho hK) hK⟩
theorem KeepO.of_grown {row : Option Nat} (hg : W.grownBy W' row) (hr : ∀ r, row = some r → ∀ o, W.heap[r]? = some o → ¬ K r o) : KeepO K W W' :=
  ⟨hg.size, fun j o ho hK => (hg.block j (Array.getElem?_eq_some_iff.1 ho).1 (fun e => hr j e.symm o ho hK)).trans ho⟩
theorem KeepO.box {b : Nat} {t : TypeId} {v : Value} (h : KeepO K W W') (hb : Boxed W b t v) (hK : K b (.cells #[v] t (0, 0))) : Boxed W' b t v := h.same b _ hb hK
theorem KeepO.row {b : Nat} {t : TypeId} {n : Nat} {f : Nat → Value} (h : KeepO K W W') (hb : W.rowIs b t n f) (hK : ∀ c, K b (.cells c t (0, 0))) : W'.rowIs b t n f := by
  obtain ⟨c, h1, h2, h3⟩ := hb
  exact ⟨c, h.same b _ h1 (hK c), h2, h3⟩
end
theorem keepO_t {K : Nat → Obj → Prop} {A B C : World} (h : KeepO K A B) (k : KeepO K B C) : KeepO K A C := h.trans k
theorem keepO_b {K : Nat → Obj → Prop} {w : World} (hK : ∀ j o, K j o → w.heap.size ≤ j → o.isCells = true) (W : World) (l : Nat) (o o' : Obj) (hl : w.heap.size ≤ l) (h : W.heap[l]? = some o) (hc : o.isCells = false) (_ : o.isWalk = false) : KeepO K W (W.putObj l o') :=
  .of_grown (grownBy_putObj' W l o') (fun r e o2 h2 hk => by
    cases e
    rw [h] at h2; cases h2
    rw [hK _ _ hk hl] at hc; cases hc)
/-- The steps that a function takes by itself: new blocks, and, of those that lay at or beyond B, blocks of its kind. -/
def Abide {β : Type} (ok : Obj → Bool) (B : Nat) (I : β → World → Prop) : Prop :=
  ∀ (s : β) (X Y : World) (row : Option Nat), I s X → X.grownBy Y row → (∀ r, row = some r → B ≤ r ∧ ∃ o : Obj, X.heap[r]? = some o ∧ ok o = true) → I s Y
theorem Abide.mono {β : Type} {ok : Obj → Bool} {B B' : Nat} {I : β → World → Prop} (h : Abide ok B I) (hB : B ≤ B') : Abide ok B' I := fun s X Y row hs hg hr => h s X Y row hs hg fun r e => ⟨Nat.le_trans hB (hr r e).1, (hr r e).2⟩
theorem Abide.put {β : Type} {ok : Obj → Bool} {B : Nat} {I : β → World → Prop} (h : Abide ok B I) {s : β} {X : World} {l : Nat} {o : Obj} (hs : I s X) (hB : B ≤ l) (ho : X.heap[l]? = some o) (hk : ok o = true) (o' : Obj) : I s (X.putObj l o') :=
  h s X _ (some l) hs (grownBy_putObj' X l o') fun r e => by cases e; exact ⟨hB, o, ho, hk⟩
theorem Abide.new {β : Type} {ok : Obj → Bool} {B : Nat} {I : β → World → Prop} (h : Abide ok B I) {s : β} {X : World} (o : Obj) (hs : I s X) : I s (X.alloc o) := h s X _ none hs (World.grownBy_alloc X o none) fun r e => by cases e
/-- What such a function hands to a loop whose rounds all go on: a list, one after another. -/
def SeqL {α : Type} (ok : Obj → Bool) (F : Fence) (n : Nat) (P : Program) (g : Nat) (lb : Array Value) (encs : α → Array Value) (Kp : World → World → Prop) (xs : List α) (w : World) : Prop :=
  ∀ (l : Nat) (J : List α → World → Prop) (W : World), Below w.heap.size w W → Abide ok W.heap.size J →
    (∀ pre x V, J pre V → pre ++ [x] <+: xs → YieldAt F (n - 1) P l (encs x) V fun e V' => e = .returned (.bool true) ∧ J (pre ++ [x]) V' ∧ Kp V V') →
    J [] W →
    CallsIn F n P g (#[.func (.yield l) #[] #[]] ++ lb) W fun e V => (∃ v, e = .returned v) ∧ J xs V
theorem SeqL.inRound {α : Type} {ok : Obj → Bool} {F : Fence} {n : Nat} {P : Program} {g : Nat} {lb : Array Value} {encs : α → Array Value} {Kp : World → World → Prop} {xs : List α} {w : World} (l : Nat) (h : SeqL ok F n P g lb encs Kp xs w) : SeqL ok (F.inRound l) n P g lb encs Kp xs w := h
theorem keeps_grown {X Y : World} {row : Option Nat} {l : Nat} {o : Obj} (hg : X.grownBy Y row) (h : X.heap[l]? = some o) (hne : ∀ r, row = some r → r ≠ l) : Y.heap[l]? = some o :=
  (hg.block l (Array.getElem?_eq_some_iff.1 h).1 fun e => hne l e.symm rfl).trans h
/-- The law of an outermost loop over such a function; the loop's variables are no boxes. -/
theorem rounds10 {F : Fence} {n : Nat} {P : Program} {α : Type} {g : Operand} {ps : Array Tmp} {assign body : Code} {Q : Exit → Act → World → Prop} {a : Act} {w : World} (ok : Obj → Bool) (hok : ∀ o : Obj, o.isCells = false → ok o = true)
    (hro : F.round = none) (h1 : 1 ≤ n) {gf : Nat} {lb : Array Value} (hg : a.eval g = .func (.func gf) #[] lb) (hFg : F.fn gf) (eg : ∀ args w, (callFunc gf args).run P w = .ok (.enter gf args) w)
    {encs : α → Array Value} {Kp : World → World → Prop} {xs : List α} (hseq : SeqL ok F (n - 1) P gf lb encs Kp xs w)
    (hKt : ∀ {A B C : World}, Kp A B → Kp B C → Kp A C) (hKl : ∀ (W : World) (l : Nat) (r r' : Loop), w.heap.size ≤ l → W.heap[l]? = some (.loop r) → Kp W (W.putObj l (.loop r'))) (hps : ∀ x, (encs x).size = ps.size)
    (I : List α → World → Prop) (hI : Abide ok w.heap.size I) (h0 : I [] w) (a₁ : α → Act)
    (hassign : ∀ (l : Nat) (x : α) (W : World) (K : Act → World → Prop), K (a₁ x) W →
      assign.wpIn (F.inRound l) (n - 1 - 1) P (Exit.then K (fun _ _ _ => False)) { tmps := (ps.zip (encs x)).foldl (fun t (p, v) => t.setIfInBounds p v) a.tmps, defers := [] } W)
    (hbody : ∀ (l : Nat) (pre : List α) (x : α) (W : World), w.heap.size ≤ l → (∃ r, W.heap[l]? = some (.loop r)) → I pre W → pre ++ [x] <+: xs → body.wpIn (F.inRound l) (n - 1 - 1) P (ownPostG w.heap.size Kp I (fun _ _ _ => False) (pre ++ [x]) W) (a₁ x) W)
    (hdone : ∀ (W : World), I xs W → W.heap[w.heap.size]? = some (.deferred (some [])) → Q .normal { a with defers := { target := .collected w.heap.size, args := #[] } :: a.defers } W) :
    (Code.rangeFunc g ps assign body).wpIn F n P Q a w := by
  have hloop : ∀ r : Loop, ok (.loop r) = true := fun r => hok _ rfl
  refine wpIn_rangeFunc fun fn hfn => ?_
  rw [hro]
  obtain ⟨R, hR⟩ : ∃ R : LoopState → Option Code → Loop, R = fun st pe => { state := st, pending := pe, fn, tmps := a.tmps, params := ps, assign, body, defers := w.heap.size } := ⟨_, rfl⟩
  have hst : ∀ st st' pe pe', { R st pe with state := st', pending := pe' } = R st' pe' := fun st st' pe pe' => by rw [hR]
  have hbz : ∀ st st' pe, { R st pe with state := st' } = R st' pe := fun st st' pe => by rw [hR]
  obtain ⟨V, hV⟩ : ∃ V, (w.alloc (.deferred (some []))).alloc (.loop (R .ready none)) = V := ⟨_, rfl⟩
  have hsz : V.heap.size = w.heap.size + 2 := by rw [← hV]; simp
  have vL : V.heap[w.heap.size + 1]? = some (.loop (R .ready none)) := by
    have := World.alloc_heap_new (w.alloc (.deferred (some []))) (.loop (R .ready none))
    rwa [World.size_alloc, hV] at this
  have vD : V.heap[w.heap.size]? = some (.deferred (some [])) := by rw [← hV]; exact (Below.heap_alloc _ _ _ (by simp)).trans (World.alloc_heap_new w _)
  have vI : I [] V := by rw [← hV]; exact hI.new _ (hI.new _ h0)
  have vB : Below w.heap.size w V := by rw [← hV]; exact ((Below.refl _ w).alloc (Nat.le_refl _) _).alloc (by simp) _
  refine ⟨w.heap.size + 1, [{ target := .collected w.heap.size, args := #[] }], V, { target := .fn (.func gf) lb, args := #[.func (.yield (w.heap.size + 1)) #[] #[]] }, V, gf, #[.func (.yield (w.heap.size + 1)) #[] #[]] ++ lb, V, ?_, ?_, ?_, ?_, fun _ => h1, ?_⟩
  · rw [run_enterLoop_outer, ← hV, hR]
  · simp only [resolve, hg]
    simp [go_sem]
  · intro f hf
    simp [Target.leads] at hf
    subst hf; exact hFg
  · simp [invoke, go_sem, eg]
  have far : ∀ {X Y : World} {row : Option Nat}, (∀ r, row = some r → V.heap.size ≤ r ∧ ∃ o : Obj, X.heap[r]? = some o ∧ ok o = true) → (∀ r, row = some r → w.heap.size ≤ r ∧ ∃ o : Obj, X.heap[r]? = some o ∧ ok o = true) ∧ ∀ j, j ≤ w.heap.size + 1 → ∀ r, row = some r → r ≠ j :=
    fun h => ⟨fun r e => ⟨by have := (h r e).1; omega, (h r e).2⟩, fun j hj r e => by have := (h r e).1; omega⟩
  refine (hseq (w.heap.size + 1) (fun pre W => I pre W ∧ W.heap[w.heap.size + 1]? = some (.loop (R .ready none)) ∧ W.heap[w.heap.size]? = some (.deferred (some [])))
    V vB ?_ ?_ ⟨vI, vL, vD⟩).mono ?_
  · rintro s X Y row ⟨i1, i2, i3⟩ hg hr
    have f := far (X := X) (Y := Y) hr
    exact ⟨hI s X Y row i1 hg f.1, keeps_grown hg i2 (f.2 _ (Nat.le_refl _)), keeps_grown hg i3 (f.2 _ (Nat.le_succ _))⟩
  · rintro pre x W ⟨i1, i2, i3⟩ hlen
    have hy := run_yield (P := P) (args := encs x) i2 (by rw [hR]; exact hps x)
    have e1 : (R .ready none).fn = fn := by rw [hR]
    have e2 : (R .ready none).params = ps := by rw [hR]
    have e3 : (R .ready none).tmps = a.tmps := by rw [hR]
    have e4 : (R .ready none).assign = assign := by rw [hR]
    have e5 : (R .ready none).body = body := by rw [hR]
    have e6 : ∀ st pe, (R st pe).state = st := fun st pe => by rw [hR]
    rw [e1, e2, e3, e4, e5] at hy
    refine ⟨fn, _, assign, body, hy, roundIn_of_wpIn hfn (hassign _ x W _ ⟨_, run_beginRound i2 (e6 _ _), ?_⟩)⟩
    rw [hbz]
    obtain ⟨Z, hZ⟩ : ∃ Z, W.putObj (w.heap.size + 1) (.loop (R .busy none)) = Z := ⟨_, rfl⟩
    have hl : w.heap.size + 1 < W.heap.size := (Array.getElem?_eq_some_iff.1 i2).1
    have z1 : I pre Z := by rw [← hZ]; exact hI.put i1 (Nat.le_succ _) i2 (hloop _) _
    have z2 : Z.heap[w.heap.size + 1]? = some (.loop (R .busy none)) := by rw [← hZ]; exact World.putObj_heap_same hl
    have z3 : Z.heap[w.heap.size]? = some (.deferred (some [])) := by rw [← hZ]; exact (World.putObj_heap_other (by omega)).trans i3
    have zK : Kp W Z := by rw [← hZ]; exact hKl W _ _ _ (Nat.le_succ _) i2
    rw [hZ]
    refine wpIn_mono (hbody _ pre x Z (Nat.le_succ _) ⟨_, z2⟩ z1 hlen) ?_
    have fin : ∀ (c : Option Code) (Y : World), KeepsFrom w.heap.size Z Y → Y.heap[w.heap.size + 1]? = some (.loop (R .busy none)) ∧
        (Instr.endRound (w.heap.size + 1) c).run P Y = .ok (.bool c.isNone) (Y.putObj (w.heap.size + 1) (.loop (R (if c.isNone then .ready else .done) c))) ∧
        (Y.putObj (w.heap.size + 1) (.loop (R (if c.isNone then .ready else .done) c))).heap[w.heap.size + 1]? = some (.loop (R (if c.isNone then .ready else .done) c)) ∧
        (Y.putObj (w.heap.size + 1) (.loop (R (if c.isNone then .ready else .done) c))).heap[w.heap.size]? = some (.deferred (some [])) := fun c Y hk => by
      have y2 := hk.same _ _ (Nat.le_succ _) z2 rfl
      have hr := run_endRound (P := P) c y2
      rw [hst] at hr
      exact ⟨y2, hr, World.putObj_heap_same (Array.getElem?_eq_some_iff.1 y2).1, (World.putObj_heap_other (by omega)).trans (hk.same _ _ (Nat.le_refl _) z3 rfl)⟩
    intro e a' Y hp
    cases e with
    | normal =>
      obtain ⟨k1, k2, k3⟩ := hp
      obtain ⟨y2, hr, y3, y4⟩ := fin none Y k1
      exact ⟨_, _, hr, ⟨rfl, ⟨hI.put k3 (Nat.le_succ _) y2 (hloop _) _, y3, y4⟩, hKt (hKt zK k2) (hKl Y _ _ _ (Nat.le_succ _) y2)⟩⟩
    | ret => exact hp.2.elim
    | exit id => exact hp.2.elim
    | goto t => exact hp.2.elim
    | panic ch => exact hp.elim
    | outgrown => exact hp.elim
  · rintro e W ⟨⟨v, rfl⟩, i1, i2, i3⟩
    have hr := run_endLoop (P := P) i2 (by rw [hR]; simp)
    refine ⟨_, _, hr, ?_⟩
    have e6 : (R .ready none).pending = none := by rw [hR]
    rw [e6]
    exact hdone _ (hI.put i1 (Nat.le_succ _) i2 (hloop _) _) ((World.putObj_heap_other (by omega)).trans i3)
/-- The law of such a loop within a round of another. -/
theorem rounds11 {F : Fence} {n : Nat} {P : Program} {α : Type} {g : Operand} {ps : Array Tmp} {assign body : Code} {Q : Exit → Act → World → Prop} {a : Act} {w : World} (ok : Obj → Bool) (hok : ∀ o : Obj, o.isCells = false → ok o = true)
    {l₀ : Nat} {r₀ : Loop} (hro : F.round = some l₀) (hl₀ : w.heap[l₀]? = some (.loop r₀)) (h1 : 1 ≤ n) {gf : Nat} {lb : Array Value} (hg : a.eval g = .func (.func gf) #[] lb) (hFg : F.fn gf) (eg : ∀ args w, (callFunc gf args).run P w = .ok (.enter gf args) w)
    {encs : α → Array Value} {Kp : World → World → Prop} {xs : List α} (hseq : SeqL ok F (n - 1) P gf lb encs Kp xs w)
    (hKt : ∀ {A B C : World}, Kp A B → Kp B C → Kp A C) (hKl : ∀ (W : World) (l : Nat) (r r' : Loop), w.heap.size ≤ l → W.heap[l]? = some (.loop r) → Kp W (W.putObj l (.loop r'))) (hps : ∀ x, (encs x).size = ps.size)
    (I : List α → World → Prop) (hI : Abide ok w.heap.size I) (h0 : I [] w) (a₁ : α → Act)
    (hassign : ∀ (l : Nat) (x : α) (W : World) (K : Act → World → Prop), K (a₁ x) W →
      assign.wpIn (F.inRound l) (n - 1 - 1) P (Exit.then K (fun _ _ _ => False)) { tmps := (ps.zip (encs x)).foldl (fun t (p, v) => t.setIfInBounds p v) a.tmps, defers := [] } W)
    (hbody : ∀ (l : Nat) (pre : List α) (x : α) (W : World), w.heap.size ≤ l → (∃ r, W.heap[l]? = some (.loop r)) → I pre W → pre ++ [x] <+: xs → body.wpIn (F.inRound l) (n - 1 - 1) P (ownPostG w.heap.size Kp I (fun _ _ _ => False) (pre ++ [x]) W) (a₁ x) W)
    (hdone : ∀ (W : World), I xs W → Q .normal a W) :
    (Code.rangeFunc g ps assign body).wpIn F n P Q a w := by
  have hloop : ∀ r : Loop, ok (.loop r) = true := fun r => hok _ rfl
  refine wpIn_rangeFunc fun fn hfn => ?_
  rw [hro]
  obtain ⟨R, hR⟩ : ∃ R : LoopState → Option Code → Loop, R = fun st pe => { state := st, pending := pe, fn, tmps := a.tmps, params := ps, assign, body, defers := r₀.defers } := ⟨_, rfl⟩
  have hst : ∀ st st' pe pe', { R st pe with state := st', pending := pe' } = R st' pe' := fun st st' pe pe' => by rw [hR]
  have hbz : ∀ st st' pe, { R st pe with state := st' } = R st' pe := fun st st' pe => by rw [hR]
  obtain ⟨V, hV⟩ : ∃ V, w.alloc (.loop (R .ready none)) = V := ⟨_, rfl⟩
  have hsz : V.heap.size = w.heap.size + 1 := by rw [← hV]; simp
  have vL : V.heap[w.heap.size]? = some (.loop (R .ready none)) := by rw [← hV]; exact World.alloc_heap_new w _
  have vI : I [] V := by rw [← hV]; exact hI.new _ h0
  have vB : Below w.heap.size w V := by rw [← hV]; exact (Below.refl _ w).alloc (Nat.le_refl _) _
  refine ⟨w.heap.size, [], V, { target := .fn (.func gf) lb, args := #[.func (.yield w.heap.size) #[] #[]] }, V, gf, #[.func (.yield w.heap.size) #[] #[]] ++ lb, V, ?_, ?_, ?_, ?_, fun _ => h1, ?_⟩
  · rw [run_enterLoop_inner hl₀, ← hV, hR]
  · simp only [resolve, hg]
    simp [go_sem]
  · intro f hf
    simp [Target.leads] at hf
    subst hf; exact hFg
  · simp [invoke, go_sem, eg]
  have far : ∀ {X Y : World} {row : Option Nat}, (∀ r, row = some r → V.heap.size ≤ r ∧ ∃ o : Obj, X.heap[r]? = some o ∧ ok o = true) → (∀ r, row = some r → w.heap.size ≤ r ∧ ∃ o : Obj, X.heap[r]? = some o ∧ ok o = true) ∧ ∀ r, row = some r → r ≠ w.heap.size :=
    fun h => ⟨fun r e => ⟨by have := (h r e).1; omega, (h r e).2⟩, fun r e => by have := (h r e).1; omega⟩
  refine (hseq w.heap.size (fun pre W => I pre W ∧ W.heap[w.heap.size]? = some (.loop (R .ready none)))
    V vB ?_ ?_ ⟨vI, vL⟩).mono ?_
  · rintro s X Y row ⟨i1, i2⟩ hg hr
    have f := far (X := X) (Y := Y) hr
    exact ⟨hI s X Y row i1 hg f.1, keeps_grown hg i2 f.2⟩
  · rintro pre x W ⟨i1, i2⟩ hlen
    have hy := run_yield (P := P) (args := encs x) i2 (by rw [hR]; exact hps x)
    have e1 : (R .ready none).fn = fn := by rw [hR]
    have e2 : (R .ready none).params = ps := by rw [hR]
    have e3 : (R .ready none).tmps = a.tmps := by rw [hR]
    have e4 : (R .ready none).assign = assign := by rw [hR]
    have e5 : (R .ready none).body = body := by rw [hR]
    have e6 : ∀ st pe, (R st pe).state = st := fun st pe => by rw [hR]
    rw [e1, e2, e3, e4, e5] at hy
    refine ⟨fn, _, assign, body, hy, roundIn_of_wpIn hfn (hassign _ x W _ ⟨_, run_beginRound i2 (e6 _ _), ?_⟩)⟩
    rw [hbz]
    obtain ⟨Z, hZ⟩ : ∃ Z, W.putObj w.heap.size (.loop (R .busy none)) = Z := ⟨_, rfl⟩
    have hl : w.heap.size < W.heap.size := (Array.getElem?_eq_some_iff.1 i2).1
    have z1 : I pre Z := by rw [← hZ]; exact hI.put i1 (Nat.le_refl _) i2 (hloop _) _
    have z2 : Z.heap[w.heap.size]? = some (.loop (R .busy none)) := by rw [← hZ]; exact World.putObj_heap_same hl
    have zK : Kp W Z := by rw [← hZ]; exact hKl W _ _ _ (Nat.le_refl _) i2
    rw [hZ]
    refine wpIn_mono (hbody _ pre x Z (Nat.le_refl _) ⟨_, z2⟩ z1 hlen) ?_
    have fin : ∀ (c : Option Code) (Y : World), KeepsFrom w.heap.size Z Y → Y.heap[w.heap.size]? = some (.loop (R .busy none)) ∧
        (Instr.endRound w.heap.size c).run P Y = .ok (.bool c.isNone) (Y.putObj w.heap.size (.loop (R (if c.isNone then .ready else .done) c))) ∧
        (Y.putObj w.heap.size (.loop (R (if c.isNone then .ready else .done) c))).heap[w.heap.size]? = some (.loop (R (if c.isNone then .ready else .done) c)) := fun c Y hk => by
      have y2 := hk.same _ _ (Nat.le_refl _) z2 rfl
      have hr := run_endRound (P := P) c y2
      rw [hst] at hr
      exact ⟨y2, hr, World.putObj_heap_same (Array.getElem?_eq_some_iff.1 y2).1⟩
    intro e a' Y hp
    cases e with
    | normal =>
      obtain ⟨k1, k2, k3⟩ := hp
      obtain ⟨y2, hr, y3⟩ := fin none Y k1
      exact ⟨_, _, hr, ⟨rfl, ⟨hI.put k3 (Nat.le_refl _) y2 (hloop _) _, y3⟩, hKt (hKt zK k2) (hKl Y _ _ _ (Nat.le_refl _) y2)⟩⟩
    | ret => exact hp.2.elim
    | exit id => exact hp.2.elim
    | goto t => exact hp.2.elim
    | panic ch => exact hp.elim
    | outgrown => exact hp.elim
  · rintro e W ⟨⟨v, rfl⟩, i1, i2⟩
    have hr := run_endLoop (P := P) i2 (by rw [hR]; simp)
    refine ⟨_, _, hr, ?_⟩
    have e6 : (R .ready none).pending = none := by rw [hR]
    rw [e6]
    exact hdone _ (hI.put i1 (Nat.le_refl _) i2 (hloop _) _)
/-- The marks that a function's loops have left, on the way out. -/
def Marks (B : Nat) (Ds : List Nat) (W : World) : Prop := Ds.Nodup ∧ ∀ D ∈ Ds, B ≤ D ∧ W.heap[D]? = some (.deferred (some []))
def marksL (Ds : List Nat) : List Deferred := Ds.map fun D => { target := .collected D, args := #[] }
theorem Marks.nil (B : Nat) (W : World) : Marks B [] W := ⟨List.nodup_nil, fun _ h => by cases h⟩
theorem Marks.cons {B D : Nat} {Ds : List Nat} {W : World} (h : Marks B Ds W) (hB : B ≤ D) (hn : D ∉ Ds) (hD : W.heap[D]? = some (.deferred (some []))) : Marks B (D :: Ds) W :=
  ⟨List.nodup_cons.2 ⟨hn, h.1⟩, fun E hE => by
    rcases List.mem_cons.1 hE with rfl | hE
    · exact ⟨hB, hD⟩
    · exact h.2 E hE⟩
theorem Marks.on {B : Nat} {Ds : List Nat} {W W' : World} (h : Marks B Ds W) (hk : ∀ D ∈ Ds, W.heap[D]? = some (.deferred (some [])) → W'.heap[D]? = some (.deferred (some []))) : Marks B Ds W' := ⟨h.1, fun D hD => ⟨(h.2 D hD).1, hk D hD (h.2 D hD).2⟩⟩
theorem Marks.lt {B : Nat} {Ds : List Nat} {W : World} (h : Marks B Ds W) {D : Nat} (hD : D ∈ Ds) : D < W.heap.size := (Array.getElem?_eq_some_iff.1 (h.2 D hD).2).1
theorem marks_leave {F : Fence} {n : Nat} {P : Program} {fn : Func} {tmps : Array Value} {R : Ending → World → Prop} {B : Nat} {T : World → Prop} (hT : ∀ Z D, T Z → B ≤ D → Z.heap[D]? = some (.deferred (some [])) → T (Z.putObj D (.deferred none)))
    (h : ∀ Z, T Z → LeavesInM F n P fn tmps R [] .returning Z) : ∀ (Ds : List Nat) (W : World), Marks B Ds W → T W → LeavesInM F n P fn tmps R (marksL Ds) .returning W
  | [], W, _, hW => h W hW
  | D :: Ds, W, hM, hW => by
    have hD := hM.2 D (List.mem_cons_self ..)
    have hnd := List.nodup_cons.1 hM.1
    refine ⟨by simp, .inl ⟨D, _, rfl, run_takeDeferred hD.2, ?_⟩⟩
    refine marks_leave hT h Ds _ ⟨hnd.2, fun E hE => ⟨(hM.2 E (List.mem_cons_of_mem _ hE)).1, ?_⟩⟩ (hT W D hW hD.1 hD.2)
    exact (World.putObj_heap_other (show E ≠ D from fun e => hnd.1 (e ▸ hE))).trans (hM.2 E (List.mem_cons_of_mem _ hE)).2
end Go.Proofs.YtoajommeiocfpaaDoor
namespace Go.Proofs.YtoajommeiocfpaaDoor
open Go Go.RowKit
set_option linter.unusedSimpArgs false
set_option linter.unusedVariables false

/-- The frame behind an assignment of the loop's variable. -/
abbrev var10 (ps : Array Tmp) (t : Nat) (vs : Array Value) (v : Value) (a : Act) : Act := { tmps := ((ps.zip vs).foldl (fun t (p, v) => t.setIfInBounds p v) a.tmps).setIfInBounds t v, defers := [] }
section
variable {F : Fence} {n : Nat} {P : Program} {α : Type} {g : Operand} {ps : Array Tmp} {assign body : Code} {Q : Exit → Act → World → Prop} {a : Act} {w : World}
theorem rangeO10 (ok : Obj → Bool) (hok : ∀ o : Obj, o.isCells = false → ok o = true) (hro : F.round = none) (h1 : 1 ≤ n) {gf : Nat} {lb : Array Value} (hg : a.eval g = .func (.func gf) #[] lb) (hFg : F.fn gf) (eg : ∀ args w, (callFunc gf args).run P w = .ok (.enter gf args) w)
    {encs : α → Array Value} {K : Nat → Obj → Prop} {xs : List α} (hseq : SeqL ok F (n - 1) P gf lb encs (KeepO K) xs w)
    (hKl : ∀ j r, w.heap.size ≤ j → ¬ K j (.loop r)) (hps : ∀ x, (encs x).size = ps.size)
    (I : List α → World → Prop) (hI : Abide ok w.heap.size I) (h0 : I [] w) (a₁ : Act → α → Act)
    (hassign : ∀ (l : Nat) (x : α) (W : World) (k : Act → World → Prop), (∀ a', a' = a₁ a x → k a' W) →
      assign.wpIn (F.inRound l) (n - 1 - 1) P (Exit.then k (fun _ _ _ => False)) { tmps := (ps.zip (encs x)).foldl (fun t (p, v) => t.setIfInBounds p v) a.tmps, defers := [] } W)
    (hbody : ∀ (l : Nat) (r : Loop) (pre : List α) (x : α) (a' : Act) (W : World), a' = a₁ a x → w.heap.size ≤ l → W.heap[l]? = some (.loop r) → I pre W → pre ++ [x] <+: xs → body.wpIn (F.inRound l) (n - 1 - 1) P (ownPostG w.heap.size (KeepO K) I (fun _ _ _ => False) (pre ++ [x]) W) a' W)
    (hdone : ∀ (W : World), I xs W → W.heap[w.heap.size]? = some (.deferred (some [])) → Q .normal { a with defers := { target := .collected w.heap.size, args := #[] } :: a.defers } W) :
    (Code.rangeFunc g ps assign body).wpIn F n P Q a w :=
  rounds10 ok hok hro h1 hg hFg eg hseq keepO_t (fun W l r r' hle hl => KeepO.of_grown (grownBy_putObj' W l _) fun j e o ho hk => by cases e; rw [hl] at ho; cases ho; exact hKl _ _ hle hk) hps I hI h0 (a₁ a)
    (fun l x W k hk => hassign l x W k fun a' e => e ▸ hk) (fun l pre x W hl ⟨r, hr⟩ hi hlt => hbody l r pre x _ W rfl hl hr hi hlt) hdone
theorem rangeI10 (ok : Obj → Bool) (hok : ∀ o : Obj, o.isCells = false → ok o = true) {l₀ : Nat} {r₀ : Loop} (hro : F.round = some l₀) (hl₀ : w.heap[l₀]? = some (.loop r₀)) (h1 : 1 ≤ n) {gf : Nat} {lb : Array Value} (hg : a.eval g = .func (.func gf) #[] lb) (hFg : F.fn gf) (eg : ∀ args w, (callFunc gf args).run P w = .ok (.enter gf args) w)
    {encs : α → Array Value} {K : Nat → Obj → Prop} {xs : List α} (hseq : SeqL ok F (n - 1) P gf lb encs (KeepO K) xs w)
    (hKl : ∀ j r, w.heap.size ≤ j → ¬ K j (.loop r)) (hps : ∀ x, (encs x).size = ps.size)
    (I : List α → World → Prop) (hI : Abide ok w.heap.size I) (h0 : I [] w) (a₁ : Act → α → Act)
    (hassign : ∀ (l : Nat) (x : α) (W : World) (k : Act → World → Prop), (∀ a', a' = a₁ a x → k a' W) →
      assign.wpIn (F.inRound l) (n - 1 - 1) P (Exit.then k (fun _ _ _ => False)) { tmps := (ps.zip (encs x)).foldl (fun t (p, v) => t.setIfInBounds p v) a.tmps, defers := [] } W)
    (hbody : ∀ (l : Nat) (pre : List α) (x : α) (a' : Act) (W : World), a' = a₁ a x → I pre W → pre ++ [x] <+: xs → body.wpIn (F.inRound l) (n - 1 - 1) P (ownPostG w.heap.size (KeepO K) I (fun _ _ _ => False) (pre ++ [x]) W) a' W)
    (hdone : ∀ (W : World), I xs W → Q .normal a W) :
    (Code.rangeFunc g ps assign body).wpIn F n P Q a w :=
  rounds11 ok hok hro hl₀ h1 hg hFg eg hseq keepO_t (fun W l r r' hle hl => KeepO.of_grown (grownBy_putObj' W l _) fun j e o ho hk => by cases e; rw [hl] at ho; cases ho; exact hKl _ _ hle hk) hps I hI h0 (a₁ a)
    (fun l x W k hk => hassign l x W k fun a' e => e ▸ hk) (fun l pre x W _ _ hi hlt => hbody l pre x _ W rfl hi hlt) hdone
end
/-- Whatever is no cells: what a function turns that makes loops alone. -/
def okN (o : Obj) : Bool := !o.isCells
theorem okN_rest (o : Obj) (h : o.isCells = false) : okN o = true := by unfold okN; rw [h]; rfl
theorem okN_no {o : Obj} (h : okN o = true) : o.isCells = false := by unfold okN at h; simpa using h
end Go.Proofs.YtoajommeiocfpaaDoor
namespace Go.Proofs.YtoajommeiocfpaaDoor
open Go Go.RowKit
set_option linter.unusedSimpArgs false
set_option linter.unusedVariables false

section
variable {P : Program} {ops : Array Oper} {Q : Exit → Act → World → Prop} {l n : Nat} {md : Region.Mode} {S : World → Prop}
theorem rows_in {row : String} {args : Array Value} {w : World} {R : Value → World → Prop} (h : Rows P row args w R) : RowsIn (Fence.wide.inRound l) n P row args w R :=
  fun c cs _ => let ⟨v, w', r, s⟩ := h c cs; ⟨v, w', r, stepsIn_wide.2 s⟩
theorem upon_in (o : Oper) (a : Act) (next : Act → World → Prop) (r : Result Next) (h : o.upon P a next Q r) : o.uponIn (Fence.wide.inRound l) n P a next Q r := by
  cases r with
  | ok x w' =>
    cases x <;> first
      | exact h
      | exact ⟨(fun hd => by cases hd), CallsIn.inRound l (callsIn_wide.2 h)⟩
      | exact ⟨(fun hd => by cases hd), rows_in h⟩
      | exact (h : False).elim
  | halt x w' => cases x <;> first | exact h | exact (h : False).elim
/-- No statement 'defer'. -/
def calmB (ops : Array Oper) : Bool := ops.all fun o => match o.op with | .defer _ => false | _ => true
theorem calm_at (h : calmB ops = true) {i : Nat} {o : Oper} (ho : ops[i]? = some o) : ∀ c, o.op ≠ .defer c := fun c e => by
  have := (Array.all_eq_true_iff_forall_mem.1 h) o (Array.mem_of_getElem? ho)
  rw [e] at this; cases this
theorem wpOp_in {i : Nat} {K : Act → World → Prop} {a : Act} {w : World} (hc : calmB ops = true) (hL : ¬ LetsOut Q) (h : wpOp P ops Q i K a w) : wpOpIn (Fence.wide.inRound l) n P ops Q i K a w := by
  unfold wpOp at h
  unfold wpOpIn
  cases ho : ops[i]? with
  | none => rw [ho] at h; exact h
  | some o =>
    rw [ho] at h
    simp only at h ⊢
    by_cases hw : Region.wanted o (yielded ops a.tmps) = true
    · rw [if_pos hw] at h ⊢
      refine ⟨fun _ _ => trivial, ?_⟩
      rw [Oper.semAt_eq _ _ _ (calm_at hc ho)]
      rcases h with h | ⟨_, h⟩
      · exact upon_in o a K _ h
      · exact absurd h hL
    · rw [if_neg hw] at h ⊢
      exact ⟨fun _ _ => trivial, h⟩
theorem wpAny_in (hc : calmB ops = true) (hL : ¬ LetsOut Q) : ∀ (fuel : Nat) (listed : Array Bool) (a : Act) (w : World), wpAny P md ops Q fuel listed a w → wpAnyIn (Fence.wide.inRound l) n P md ops Q fuel listed a w
  | 0, _, _, _, h => h
  | fuel + 1, _, _, _, h => ⟨h.1, fun i hi => wpOpIn_mono (fun a' w' h' => wpAny_in hc hL fuel _ a' w' h') (wpOp_in hc hL (h.2 i hi))⟩
/-- A region that draws, in a round, by what is held. -/
theorem wpIn_region_held_drew {id : Nat} {a : Act} {w : World} (hm : P.follows .mixedOrders = true) (hc : calmB ops = true) (hL : ¬ LetsOut Q) (hS : S w.drew)
    (h : S w.drew → wpAnyH P .any ops Q S ops.size (Array.replicate ops.size false) a w.drew) : (Code.region id ops true).wpIn (Fence.wide.inRound l) n P Q a w :=
  wpIn_region_any hm (wpAny_in hc hL _ _ _ _ (wpAny_of_held _ _ _ _ (h hS)))
end
end Go.Proofs.YtoajommeiocfpaaDoor
