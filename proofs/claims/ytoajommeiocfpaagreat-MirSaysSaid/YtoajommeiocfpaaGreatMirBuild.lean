/-
  A program of registers is made of an accepted program: the builder's memory, what it lays for each instruction, its targets, the whole: contracts and plain facts. Conditions: those that each names.
-/
import Derived.Test.YtoajommeiocfpaaGreatMirNext
import Derived.Test.YtoajommeiocfpaaGreatMirSim
import Derived.Test.YtoajommeiocfpaaGreatPCheck
import Derived.Laws.ResultCell
namespace Go.Proofs.YtoajommeiocfpaaGreat
open Go Go.RowKit
set_option linter.unusedSimpArgs false
set_option linter.unusedVariables false
set_option maxRecDepth 100000

theorem frozenB {W : World} {B : Nat} {c : Array Value} {t : TypeId} (h : W.heap[B]? = some (.cells c t (0, 0))) (i : Nat) : W.frozen? ⟨B, i, none⟩ = false := by
  unfold World.frozen?; rw [h]; simp
theorem heap_setB {w : World} {B : Nat} {c : Array Value} {T : TypeId} {z : Nat × Nat} (h : w.heap[B]? = some (.cells c T z)) (i : Nat) (v : Value) : (w.setCell ⟨B, i, none⟩ v).heap[B]? = some (.cells (c.setIfInBounds i v) T z) := by
  unfold World.setCell
  simp only [Array.getElem?_modify, if_true, h]
  rfl
theorem set_otherB {W : World} {g k : Nat} {v : Value} {p : Nat} (h : p ≠ g) : (W.setCell ⟨g, k, none⟩ v).heap[p]? = W.heap[p]? := Below.heap_setCell W ⟨g, k, none⟩ v p h
theorem own_neB {B : Nat} {W : World} {e : TypeId} {sz : Nat} {v : Value} {n : Nat} {ys : List Value} {pb : Nat} {c : Array Value} {T : TypeId} (he : e ≠ T) (h : W.ownsRow B e sz v n ys) (hb : W.heap[pb]? = some (.cells c T)) : v.ownBlock ≠ some pb := by
  obtain ⟨_, h⟩ := h
  rcases h with ⟨rfl, _⟩ | ⟨g, cap, cur, rfl, _, hg, _⟩
  · simp [Value.ownBlock]
  · intro e
    have : g = pb := by simpa [Value.ownBlock] using e
    subst this
    rw [hg] at hb
    injection hb with hb; injection hb with _ hb _; exact absurd hb he
theorem own_setB {B : Nat} {W : World} {v : Value} {n : Nat} {ys : List Value} {pb k : Nat} {u : Value} {e : TypeId} {sz : Nat} (h : W.ownsRow B e sz v n ys) (hb : v.ownBlock ≠ some pb) : (W.setCell ⟨pb, k, none⟩ u).ownsRow B e sz v n ys :=
  h.kept (row := some pb) (grown_set (World.grownBy.refl W _) k u) (.inr (fun e => hb e))
def irsL (l : List Irx) : List Value := l.flatMap irL
theorem irsL_snoc (l : List Irx) (x : Irx) : irsL (l ++ [x]) = irsL l ++ irL x := by unfold irsL; rw [List.flatMap_append]; simp
theorem info_irB : (Tryz.prog.info? 40).map (fun i => (i.zero, i.size, i.bytes)) = some (some (.agg #[.int .i64 0, .int .i64 0, .int .i64 0, .int .i64 0, .int .u32 0, .int .i64 0, .int .i64 0]), 7, 56) := by kernel_rfl
/-- Two rows of one's own that are apart. -/
def ApB (u v : Value) : Prop := u.ownBlock = none ∨ u.ownBlock ≠ v.ownBlock
theorem ApB.symm {u v : Value} (h : ApB u v) : ApB v u := by
  rcases h with h | h
  · by_cases e : v.ownBlock = none
    · exact .inl e
    · exact .inr (by rw [h]; exact e)
  · exact .inr (Ne.symm h)
theorem ApB.grown {Z : World} {B : Nat} {e : TypeId} {sz n : Nat} {ys : List Value} {v u u' : Value} (h : ApB v u) (hv : Z.ownsRow B e sz v n ys) (hu : u'.ownBlock = u.ownBlock ∨ u'.ownBlock = some Z.heap.size) : ApB v u' := by
  rcases hu with g | g
  · rcases h with h | h
    · exact .inl h
    · exact .inr (by rw [g]; exact h)
  · by_cases e : v.ownBlock = none
    · exact .inl e
    · refine .inr (fun he => ?_)
      rw [g] at he
      have := (hv.lt _ he).2
      omega
structure R3 (B : Nat) (S : Nat → Prop) (W : World) (v1 : Value) (n1 : Nat) (y1 : List Value) (v2 : Value) (n2 : Nat) (y2 : List Value) (v3 : Value) (n3 : Nat) (y3 : List Value) : Prop where
  r1 : W.ownsRow B 40 7 v1 n1 y1
  r2 : W.ownsRow B 3 1 v2 n2 y2
  r3 : W.ownsRow B 3 1 v3 n3 y3
  a21 : ApB v2 v1
  a31 : ApB v3 v1
  a32 : ApB v3 v2
  s : ∀ k, S k → k < W.heap.size ∧ v1.ownBlock ≠ some k ∧ v2.ownBlock ≠ some k ∧ v3.ownBlock ≠ some k
theorem own_newB {u v : Value} {N k : Nat} (hu : u.ownBlock = v.ownBlock ∨ u.ownBlock = some N) (h : v.ownBlock ≠ some k) (hk : k < N) : u.ownBlock ≠ some k := by
  rcases hu with g | g
  · rw [g]; exact h
  · rw [g]; intro e; injection e with e; omega
abbrev bldO (v1 v2 v3 : Value) : Obj := .cells #[v1, v2, v3] 70
section
variable {B : Nat} {S : Nat → Prop} {W W' : World} {v1 v2 v3 : Value} {n1 n2 n3 : Nat} {y1 y2 y3 : List Value}
theorem R3.below (h : R3 B S W v1 n1 y1 v2 n2 y2 v3 n3 y3) (hb : Below W.heap.size W W') : R3 B S W' v1 n1 y1 v2 n2 y2 v3 n3 y3 := ⟨own_below h.r1 hb, own_below h.r2 hb, own_below h.r3 hb, h.a21, h.a31, h.a32, fun k hk => ⟨Nat.lt_of_lt_of_le (h.s k hk).1 hb.size, (h.s k hk).2⟩⟩
theorem R3.set (h : R3 B S W v1 n1 y1 v2 n2 y2 v3 n3 y3) {bb k : Nat} {c : Array Value} {u : Value} (hb : W.heap[bb]? = some (.cells c 70)) : R3 B S (W.setCell ⟨bb, k, none⟩ u) v1 n1 y1 v2 n2 y2 v3 n3 y3 :=
  ⟨own_setB h.r1 (own_neB (by decide) h.r1 hb), own_setB h.r2 (own_neB (by decide) h.r2 hb), own_setB h.r3 (own_neB (by decide) h.r3 hb), h.a21, h.a31, h.a32, fun k hk => ⟨by simpa [World.setCell] using (h.s k hk).1, (h.s k hk).2⟩⟩
theorem R3.app1 (h : R3 B S W v1 n1 y1 v2 n2 y2 v3 n3 y3) {u : Value} {n : Nat} {y : List Value} (ho : W'.ownsRow B 40 7 u n y) (hg : W.grownBy W' v1.ownBlock) (hu : u.ownBlock = v1.ownBlock ∨ u.ownBlock = some W.heap.size) : R3 B S W' u n y v2 n2 y2 v3 n3 y3 :=
  ⟨ho, h.r2.kept hg h.a21, h.r3.kept hg h.a31, h.a21.grown h.r2 hu, h.a31.grown h.r3 hu, h.a32, fun k hk => ⟨Nat.lt_of_lt_of_le (h.s k hk).1 hg.size, own_newB hu (h.s k hk).2.1 (h.s k hk).1, (h.s k hk).2.2⟩⟩
theorem R3.app2 (h : R3 B S W v1 n1 y1 v2 n2 y2 v3 n3 y3) {u : Value} {n : Nat} {y : List Value} (ho : W'.ownsRow B 3 1 u n y) (hg : W.grownBy W' v2.ownBlock) (hu : u.ownBlock = v2.ownBlock ∨ u.ownBlock = some W.heap.size) : R3 B S W' v1 n1 y1 u n y v3 n3 y3 :=
  ⟨h.r1.kept hg h.a21.symm, ho, h.r3.kept hg h.a32, (h.a21.symm.grown h.r1 hu).symm, h.a31, h.a32.grown h.r3 hu, fun k hk => ⟨Nat.lt_of_lt_of_le (h.s k hk).1 hg.size, (h.s k hk).2.1, own_newB hu (h.s k hk).2.2.1 (h.s k hk).1, (h.s k hk).2.2.2⟩⟩
theorem R3.app3 (h : R3 B S W v1 n1 y1 v2 n2 y2 v3 n3 y3) {u : Value} {n : Nat} {y : List Value} (ho : W'.ownsRow B 3 1 u n y) (hg : W.grownBy W' v3.ownBlock) (hu : u.ownBlock = v3.ownBlock ∨ u.ownBlock = some W.heap.size) : R3 B S W' v1 n1 y1 v2 n2 y2 u n y :=
  ⟨h.r1.kept hg h.a31.symm, h.r2.kept hg h.a32.symm, ho, h.a21, (h.a31.symm.grown h.r1 hu).symm, (h.a32.symm.grown h.r2 hu).symm, fun k hk => ⟨Nat.lt_of_lt_of_le (h.s k hk).1 hg.size, (h.s k hk).2.1, (h.s k hk).2.2.1, own_newB hu (h.s k hk).2.2.2 (h.s k hk).1⟩⟩
end
/-- The builder: what is laid, where places begin, what is left open. -/
def BuAt (B : Nat) (S : Nat → Prop) (W : World) (bb : Nat) (L : List Irx) (bg op : List Int) : Prop := ∃ A1 c1 A2 c2 A3 c3, W.heap[bb]? = some (bldO (.slice A1 L.length c1) (.slice A2 bg.length c2) (.slice A3 op.length c3)) ∧
  R3 B S W (.slice A1 L.length c1) L.length (irsL L) (.slice A2 bg.length c2) bg.length (izL bg) (.slice A3 op.length c3) op.length (izL op) ∧ B ≤ bb ∧ ∀ k, S k → k ≠ bb
theorem BuAt.below {B : Nat} {S : Nat → Prop} {W W' : World} {bb : Nat} {L : List Irx} {bg op : List Int} (h : BuAt B S W bb L bg op) (hb : Below W.heap.size W W') : BuAt B S W' bb L bg op := by
  obtain ⟨A1, c1, A2, c2, A3, c3, h1, h2, h3⟩ := h
  exact ⟨A1, c1, A2, c2, A3, c3, (hb.block bb (Array.getElem?_eq_some_iff.1 h1).1).trans h1, h2.below hb, h3⟩
/-- .. and apart from new blocks. -/
theorem BuAt.apart {B : Nat} {S : Nat → Prop} {W W' : World} {bb : Nat} {L : List Irx} {bg op : List Int} (h : BuAt B S W bb L bg op) (hb : Below W.heap.size W W') (S' : Nat → Prop) (hS : ∀ k, S' k → S k ∨ (W.heap.size ≤ k ∧ k < W'.heap.size)) : BuAt B S' W' bb L bg op := by
  obtain ⟨A1, c1, A2, c2, A3, c3, h1, h2, h3, h4⟩ := h
  have hlt := (Array.getElem?_eq_some_iff.1 h1).1
  refine ⟨A1, c1, A2, c2, A3, c3, (hb.block bb hlt).trans h1, ⟨own_below h2.r1 hb, own_below h2.r2 hb, own_below h2.r3 hb, h2.a21, h2.a31, h2.a32, fun k hk => ?_⟩, h3, fun k hk => ?_⟩
  · rcases hS k hk with g | g
    · exact ⟨Nat.lt_of_lt_of_le (h2.s k g).1 hb.size, (h2.s k g).2⟩
    · exact ⟨g.2, fun e => by have := h2.r1.lt _ e; omega, fun e => by have := h2.r2.lt _ e; omega, fun e => by have := h2.r3.lt _ e; omega⟩
  · rcases hS k hk with g | g
    · exact h4 k g
    · omega
theorem p_nextB {B : Nat} {S : Nat → Prop} {W : World} {bb : Nat} {L : List Irx} {bg op : List Int} (h : BuAt B S W bb L bg op) :
    Calls Tryz.prog 30 #[.pointer (some ⟨bb, 0, none⟩)] W fun e w' => e = .returned (.int .i64 (L.length : Int)) ∧ w' = W := by
  obtain ⟨A1, c1, A2, c2, A3, c3, hbox, hR, hpb, hSb⟩ := h
  have HS := Lib.hid (fun k hk => (⟨(hR.s k hk).1, hSb k hk⟩ : k < W.heap.size ∧ k ≠ bb))
  have d0 := cellM hbox 0 (v := .slice A1 L.length c1) rfl
  clear hbox hR
  go_enter Tryz.func30, Tryz.ntmps30
  go_wp2
  go_ret
  exact ⟨rfl, rfl⟩
set_option maxHeartbeats 4000000 in
theorem p_beginB {B : Nat} {S : Nat → Prop} {W : World} {bb : Nat} {L : List Irx} {bg op : List Int} (h : BuAt B S W bb L bg op) (hn : bg.length ≤ 1000000000) (z : Int) :
    Calls Tryz.prog 29 #[.pointer (some ⟨bb, 1, none⟩), .int .i64 z] W fun e w' => e = .returned (.tuple #[]) ∧ BuAt B S w' bb L (bg ++ [z]) op ∧ Below B W w' ∧ ∀ k, S k → w'.heap[k]? = W.heap[k]? := by
  obtain ⟨A1, c1, A2, c2, A3, c3, hbox, hR, hpb, hSb⟩ := h
  have HS := Lib.hid (fun k hk => (⟨(hR.s k hk).1, hSb k hk⟩ : k < W.heap.size ∧ k ≠ bb))
  have hlt := (Array.getElem?_eq_some_iff.1 hbox).1
  have hB : B ≤ W.heap.size := by omega
  have HG : Hid (∀ (w' : World) A c, w'.heap[bb]? = some (bldO (.slice A1 L.length c1) (.slice A (bg.length + 1) c) (.slice A3 op.length c3)) → R3 B S w' (.slice A1 L.length c1) L.length (irsL L) (.slice A (bg.length + 1) c) (bg.length + 1) (izL bg ++ [.int .i64 z]) (.slice A3 op.length c3) op.length (izL op) → BuAt B S w' bb L (bg ++ [z]) op) := Lib.hid fun w' A c h1 h2 => ⟨A1, c1, A, c, A3, c3, by rw [List.length_append]; exact h1, by rw [List.length_append, izL_snoc]; exact h2, hpb, hSb⟩
  generalize irsL L = yl at hR HG
  generalize izL bg = y2 at hR HG
  generalize izL op = y3 at hR HG
  generalize L.length = n1 at hbox hR HG
  generalize bg.length = n2 at hbox hR HG hn
  generalize op.length = n3 at hbox hR HG 
  generalize BuAt B S = BA at HG ⊢
  have H0 : Hid (R3 B S W (.slice A1 n1 c1) n1 yl (.slice A2 n2 c2) n2 y2 (.slice A3 n3 c3) n3 y3) := Lib.hid hR
  have HX := Lib.hid hbox
  clear hR
  go_enter Tryz.func29, Tryz.ntmps29
  have d0 := cellM hbox 1 (v := .slice A2 n2 c2) rfl
  clear hbox
  go_wp2_with (at_builtin; refine wpList_append_own _ rfl (.tmp 8) (.tmp 10) 49 rfl 3 (.int .i64 0) 1 8 Tryz.underlying49 info_intM rfl (by decide) B (.slice A2 n2 c2) n2 y2 rfl (own_below H0.out.r2 (lboxM W (.cells #[.int .i64 z] 3))) ⟨W.heap.size, 0, none⟩ 1 1 [.int .i64 z] rfl rfl (int_newM W (.int .i64 z) 3) (int_oneM _ _) (by unfold maxLen; omega) (by omega) (Nat.le_trans hB (lboxM W (.cells #[.int .i64 z] 3)).size) ?_; intro v' W4 ho hg hv; obtain ⟨A, c, rfl⟩ := own_formM ho; have hx4 := (hg.block bb (Nat.lt_of_lt_of_le hlt (lboxM W (.cells #[.int .i64 z] 3)).size) (fun e => own_neB (T := 70) (by decide) (own_below H0.out.r2 (lboxM W (.cells #[.int .i64 z] 3))) (((lboxM W (.cells #[.int .i64 z] 3)).block bb hlt).trans HX.out) e.symm)).trans (((lboxM W (.cells #[.int .i64 z] 3)).block bb hlt).trans HX.out); have H4 := Lib.hid (And.intro ((H0.out.below (lboxM W (.cells #[.int .i64 z] 3))).app2 ho hg hv) (And.intro hx4 (And.intro (below_own ((lboxM W (.cells #[.int .i64 z] 3)).mono hB) (own_below H0.out.r2 (lboxM W (.cells #[.int .i64 z] 3))) hg hB) (fun k (hk : S k) => (hg.block k (Nat.lt_of_lt_of_le (HS.out k hk).1 (lboxM W (.cells #[.int .i64 z] 3)).size) (fun e => (H0.out.s k hk).2.2.1 e.symm)).trans ((lboxM W (.cells #[.int .i64 z] 3)).block k (HS.out k hk).1))))); have z4 := frozenB hx4 1; have d4 := cellM hx4 1 (v := .slice A2 n2 c2) rfl; clear ho hg hv hx4 d0)
  go_end0
  exact ⟨rfl, HG.out _ A c (heap_setB H4.out.2.1 1 _) (H4.out.1.set H4.out.2.1), H4.out.2.2.1.setCell (p := ⟨bb, 1, none⟩) hpb _, fun k hk => (set_otherB (HS.out k hk).2).trans (H4.out.2.2.2 k hk)⟩
set_option maxHeartbeats 4000000 in
theorem p_leaveOpenB {B : Nat} {S : Nat → Prop} {W : World} {bb : Nat} {L : List Irx} {bg op : List Int} (h : BuAt B S W bb L bg op) (hn : op.length ≤ 1000000000) (z : Int) :
    Calls Tryz.prog 123 #[.pointer (some ⟨bb, 1, none⟩), .int .i64 z] W fun e w' => e = .returned (.tuple #[]) ∧ BuAt B S w' bb L bg (op ++ [z]) ∧ Below B W w' ∧ ∀ k, S k → w'.heap[k]? = W.heap[k]? := by
  obtain ⟨A1, c1, A2, c2, A3, c3, hbox, hR, hpb, hSb⟩ := h
  have HS := Lib.hid (fun k hk => (⟨(hR.s k hk).1, hSb k hk⟩ : k < W.heap.size ∧ k ≠ bb))
  have hlt := (Array.getElem?_eq_some_iff.1 hbox).1
  have hB : B ≤ W.heap.size := by omega
  have HG : Hid (∀ (w' : World) A c, w'.heap[bb]? = some (bldO (.slice A1 L.length c1) (.slice A2 bg.length c2) (.slice A (op.length + 1) c)) → R3 B S w' (.slice A1 L.length c1) L.length (irsL L) (.slice A2 bg.length c2) bg.length (izL bg) (.slice A (op.length + 1) c) (op.length + 1) (izL op ++ [.int .i64 z]) → BuAt B S w' bb L bg (op ++ [z])) := Lib.hid fun w' A c h1 h2 => ⟨A1, c1, A2, c2, A, c, by rw [List.length_append]; exact h1, by rw [List.length_append, izL_snoc]; exact h2, hpb, hSb⟩
  generalize irsL L = yl at hR HG
  generalize izL bg = y2 at hR HG
  generalize izL op = y3 at hR HG
  generalize L.length = n1 at hbox hR HG
  generalize bg.length = n2 at hbox hR HG 
  generalize op.length = n3 at hbox hR HG hn
  generalize BuAt B S = BA at HG ⊢
  have H0 : Hid (R3 B S W (.slice A1 n1 c1) n1 yl (.slice A2 n2 c2) n2 y2 (.slice A3 n3 c3) n3 y3) := Lib.hid hR
  have HX := Lib.hid hbox
  clear hR
  go_enter Tryz.func123, Tryz.ntmps123
  have d0 := cellM hbox 2 (v := .slice A3 n3 c3) rfl
  clear hbox
  go_wp2_with (at_builtin; refine wpList_append_own _ rfl (.tmp 8) (.tmp 10) 49 rfl 3 (.int .i64 0) 1 8 Tryz.underlying49 info_intM rfl (by decide) B (.slice A3 n3 c3) n3 y3 rfl (own_below H0.out.r3 (lboxM W (.cells #[.int .i64 z] 3))) ⟨W.heap.size, 0, none⟩ 1 1 [.int .i64 z] rfl rfl (int_newM W (.int .i64 z) 3) (int_oneM _ _) (by unfold maxLen; omega) (by omega) (Nat.le_trans hB (lboxM W (.cells #[.int .i64 z] 3)).size) ?_; intro v' W4 ho hg hv; obtain ⟨A, c, rfl⟩ := own_formM ho; have hx4 := (hg.block bb (Nat.lt_of_lt_of_le hlt (lboxM W (.cells #[.int .i64 z] 3)).size) (fun e => own_neB (T := 70) (by decide) (own_below H0.out.r3 (lboxM W (.cells #[.int .i64 z] 3))) (((lboxM W (.cells #[.int .i64 z] 3)).block bb hlt).trans HX.out) e.symm)).trans (((lboxM W (.cells #[.int .i64 z] 3)).block bb hlt).trans HX.out); have H4 := Lib.hid (And.intro ((H0.out.below (lboxM W (.cells #[.int .i64 z] 3))).app3 ho hg hv) (And.intro hx4 (And.intro (below_own ((lboxM W (.cells #[.int .i64 z] 3)).mono hB) (own_below H0.out.r3 (lboxM W (.cells #[.int .i64 z] 3))) hg hB) (fun k (hk : S k) => (hg.block k (Nat.lt_of_lt_of_le (HS.out k hk).1 (lboxM W (.cells #[.int .i64 z] 3)).size) (fun e => (H0.out.s k hk).2.2.2 e.symm)).trans ((lboxM W (.cells #[.int .i64 z] 3)).block k (HS.out k hk).1))))); have z4 := frozenB hx4 2; have d4 := cellM hx4 2 (v := .slice A3 n3 c3) rfl; clear ho hg hv hx4 d0)
  go_end0
  exact ⟨rfl, HG.out _ A c (heap_setB H4.out.2.1 2 _) (H4.out.1.set H4.out.2.1), H4.out.2.2.1.setCell (p := ⟨bb, 2, none⟩) hpb _, fun k hk => (set_otherB (HS.out k hk).2).trans (H4.out.2.2.2 k hk)⟩
set_option maxHeartbeats 4000000 in
theorem p_layB {B : Nat} {S : Nat → Prop} {W : World} {bb : Nat} {L : List Irx} {bg op : List Int} (h : BuAt B S W bb L bg op) (hn : L.length ≤ 1000000000) (x : Irx) :
    Calls Tryz.prog 111 #[.pointer (some ⟨bb, 0, none⟩), irV x] W fun e w' => e = .returned (.tuple #[]) ∧ BuAt B S w' bb (L ++ [x]) bg op ∧ Below B W w' ∧ ∀ k, S k → w'.heap[k]? = W.heap[k]? := by
  obtain ⟨A1, c1, A2, c2, A3, c3, hbox, hR, hpb, hSb⟩ := h
  have HS := Lib.hid (fun k hk => (⟨(hR.s k hk).1, hSb k hk⟩ : k < W.heap.size ∧ k ≠ bb))
  have hlt := (Array.getElem?_eq_some_iff.1 hbox).1
  have hB : B ≤ W.heap.size := by omega
  have HG : Hid (∀ (w' : World) A c, w'.heap[bb]? = some (bldO (.slice A (L.length + 1) c) (.slice A2 bg.length c2) (.slice A3 op.length c3)) → R3 B S w' (.slice A (L.length + 1) c) (L.length + 1) (irsL L ++ irL x) (.slice A2 bg.length c2) bg.length (izL bg) (.slice A3 op.length c3) op.length (izL op) → BuAt B S w' bb (L ++ [x]) bg op) := Lib.hid fun w' A c h1 h2 => ⟨A, c, A2, c2, A3, c3, by rw [List.length_append]; exact h1, by rw [List.length_append, irsL_snoc]; exact h2, hpb, hSb⟩
  generalize irsL L = yl at hR HG
  generalize izL bg = y2 at hR HG
  generalize izL op = y3 at hR HG
  generalize L.length = n1 at hbox hR HG hn
  generalize bg.length = n2 at hbox hR HG
  generalize op.length = n3 at hbox hR HG
  generalize BuAt B S = BA at HG ⊢
  have H0 : Hid (Below W.heap.size W (W.alloc (irO x)) ∧ (W.alloc (irO x)).heap[bb]? = some (bldO (.slice A1 n1 c1) (.slice A2 n2 c2) (.slice A3 n3 c3)) ∧ R3 B S (W.alloc (irO x)) (.slice A1 n1 c1) n1 yl (.slice A2 n2 c2) n2 y2 (.slice A3 n3 c3) n3 y3 ∧ (W.alloc (irO x)).heap[W.heap.size]? = some (irO x)) :=
    Lib.hid ⟨lboxM W _, ((lboxM W _).block bb hlt).trans hbox, hR.below (lboxM W _), World.alloc_heap_new W _⟩
  have HT : Hid ((Value.slice A1 n1 c1).ownBlock ≠ some W.heap.size ∧ W.heap.size ≠ bb) := Lib.hid ⟨fun e => by have := hR.r1.lt _ e; omega, by omega⟩
  clear hbox hR
  obtain ⟨op, d, a, b, k, t, f⟩ := x
  go_enter Tryz.func111, Tryz.ntmps111
  go_upto_region 1 with fail
  have H1 : Hid (Below W.heap.size W (W.alloc (irO ⟨op, d, a, b, k, t, f⟩)).drew ∧ (W.alloc (irO ⟨op, d, a, b, k, t, f⟩)).drew.heap[bb]? = some (bldO (.slice A1 n1 c1) (.slice A2 n2 c2) (.slice A3 n3 c3)) ∧ R3 B S (W.alloc (irO ⟨op, d, a, b, k, t, f⟩)).drew (.slice A1 n1 c1) n1 yl (.slice A2 n2 c2) n2 y2 (.slice A3 n3 c3) n3 y3 ∧ (W.alloc (irO ⟨op, d, a, b, k, t, f⟩)).drew.heap[W.heap.size]? = some (irO ⟨op, d, a, b, k, t, f⟩)) :=
    Lib.hid ⟨H0.out.1.drew, H0.out.2.1, H0.out.2.2.1.below (below_drawn (Below.refl _ _) 1), H0.out.2.2.2⟩
  clear H0
  refine wp_region_held_drew (S := fun W' => W'.heap[W.heap.size]? = some (irO ⟨op, d, a, b, k, t, f⟩)) (by kernel_rfl) H1.out.2.2.2 (fun hHeld => ?_)
  generalize (W.alloc (irO ⟨op, d, a, b, k, t, f⟩)).drew = Y at H1 hHeld ⊢
  generalize hWt : W.heap.size = tb at hHeld HT ⊢
  rw [hWt] at H1
  have hBt : B ≤ tb := hWt ▸ hB
  have HWT := Lib.hid hWt
  clear hWt
  refine wpAnyH_take (i := 0) (v := ?_) rfl (by kernel_rfl) (by kernel_rfl) (by kernel_rfl) (fun _ _ _ h => h) (Or.inl ⟨by rfl, ?_⟩) (by assumption) ?_
  rotate_left
  · intro wS hSw
    (have d0 := cellM hSw 0 rfl; have d1 := cellM hSw 1 rfl; have d2 := cellM hSw 2 rfl; have d3 := cellM hSw 3 rfl; have d4 := cellM hSw 4 rfl; have d5 := cellM hSw 5 rfl; have d6 := cellM hSw 6 rfl)
    go_simp
    all_goals with_reducible rfl
  (try simp only [List.getElem_toArray, List.getElem_cons_zero, List.getElem_cons_succ, Act.put, List.setIfInBounds_toArray, List.set_cons_zero, List.set_cons_succ])
  refine wpAnyH_take (i := 1) (v := ?_) rfl (by kernel_rfl) (by kernel_rfl) (by kernel_rfl) (fun _ _ _ h => h) (Or.inl ⟨by rfl, ?_⟩) (by assumption) ?_
  rotate_left
  · intro wS hSw
    (have d0 := cellM hSw 0 rfl; have d1 := cellM hSw 1 rfl; have d2 := cellM hSw 2 rfl; have d3 := cellM hSw 3 rfl; have d4 := cellM hSw 4 rfl; have d5 := cellM hSw 5 rfl; have d6 := cellM hSw 6 rfl)
    go_simp
    all_goals with_reducible rfl
  (try simp only [List.getElem_toArray, List.getElem_cons_zero, List.getElem_cons_succ, Act.put, List.setIfInBounds_toArray, List.set_cons_zero, List.set_cons_succ])
  refine wpAnyH_take (i := 2) (v := ?_) rfl (by kernel_rfl) (by kernel_rfl) (by kernel_rfl) (fun _ _ _ h => h) (Or.inl ⟨by rfl, ?_⟩) (by assumption) ?_
  rotate_left
  · intro wS hSw
    (have d0 := cellM hSw 0 rfl; have d1 := cellM hSw 1 rfl; have d2 := cellM hSw 2 rfl; have d3 := cellM hSw 3 rfl; have d4 := cellM hSw 4 rfl; have d5 := cellM hSw 5 rfl; have d6 := cellM hSw 6 rfl)
    go_simp
    all_goals with_reducible rfl
  (try simp only [List.getElem_toArray, List.getElem_cons_zero, List.getElem_cons_succ, Act.put, List.setIfInBounds_toArray, List.set_cons_zero, List.set_cons_succ])
  refine wpAnyH_take (i := 3) (v := ?_) rfl (by kernel_rfl) (by kernel_rfl) (by kernel_rfl) (fun _ _ _ h => h) (Or.inl ⟨by rfl, ?_⟩) (by assumption) ?_
  rotate_left
  · intro wS hSw
    (have d0 := cellM hSw 0 rfl; have d1 := cellM hSw 1 rfl; have d2 := cellM hSw 2 rfl; have d3 := cellM hSw 3 rfl; have d4 := cellM hSw 4 rfl; have d5 := cellM hSw 5 rfl; have d6 := cellM hSw 6 rfl)
    go_simp
    all_goals with_reducible rfl
  (try simp only [List.getElem_toArray, List.getElem_cons_zero, List.getElem_cons_succ, Act.put, List.setIfInBounds_toArray, List.set_cons_zero, List.set_cons_succ])
  refine wpAnyH_take (i := 5) (v := ?_) rfl (by kernel_rfl) (by kernel_rfl) (by kernel_rfl) (fun _ _ _ h => h) (Or.inl ⟨by rfl, ?_⟩) (by assumption) ?_
  rotate_left
  · intro wS hSw
    (have d0 := cellM hSw 0 rfl; have d1 := cellM hSw 1 rfl; have d2 := cellM hSw 2 rfl; have d3 := cellM hSw 3 rfl; have d4 := cellM hSw 4 rfl; have d5 := cellM hSw 5 rfl; have d6 := cellM hSw 6 rfl)
    go_simp
    all_goals with_reducible rfl
  (try simp only [List.getElem_toArray, List.getElem_cons_zero, List.getElem_cons_succ, Act.put, List.setIfInBounds_toArray, List.set_cons_zero, List.set_cons_succ])
  have H2 : Hid (Below tb W (Y.alloc (irO ⟨op, d, a, b, k, t, f⟩)) ∧ (Y.alloc (irO ⟨op, d, a, b, k, t, f⟩)).heap[bb]? = some (bldO (.slice A1 n1 c1) (.slice A2 n2 c2) (.slice A3 n3 c3)) ∧ R3 B S (Y.alloc (irO ⟨op, d, a, b, k, t, f⟩)) (.slice A1 n1 c1) n1 yl (.slice A2 n2 c2) n2 y2 (.slice A3 n3 c3) n3 y3 ∧ (Y.alloc (irO ⟨op, d, a, b, k, t, f⟩)).heap[Y.heap.size]? = some (irO ⟨op, d, a, b, k, t, f⟩) ∧ (Y.alloc (irO ⟨op, d, a, b, k, t, f⟩)).heap[tb]? = some (irO ⟨op, d, a, b, k, t, f⟩)) := by
    have q := lboxM Y (irO ⟨op, d, a, b, k, t, f⟩)
    exact Lib.hid ⟨H1.out.1.trans (q.mono (by rw [← HWT.out]; exact H1.out.1.size)), (q.block bb (Array.getElem?_eq_some_iff.1 H1.out.2.1).1).trans H1.out.2.1, H1.out.2.2.1.below q, World.alloc_heap_new Y _, (q.block tb (Array.getElem?_eq_some_iff.1 H1.out.2.2.2).1).trans H1.out.2.2.2⟩
  refine wpAnyH_ready (rs := [4, 6]) (by kernel_rfl) (by simp) (AllReadyH.cons rfl (fun K hK => ?_) (AllReadyH.cons rfl (fun K hK => ?_) AllReadyH.nil))
  · have e0 := cellM H1.out.2.1 0 (v := .slice A1 n1 c1) rfl
    go_simp
    refine hK.out _ _ H1.out.2.2.2 (fun hH1 => ?_)
    clear hK K hHeld H1 e0
    (try simp only [Act.put, List.setIfInBounds_toArray, List.set_cons_zero, List.set_cons_succ, List.getElem_toArray, List.getElem_cons_zero, List.getElem_cons_succ])
    refine held_one (i := 6) (by kernel_rfl) rfl (fun K hK => ?_)
    go_simp
    refine hK.out _ _ H2.out.2.2.2.2 (fun hH2 => ?_)
    clear hK K hH1
    (try simp only [Act.put, List.setIfInBounds_toArray, List.set_cons_zero, List.set_cons_succ, List.getElem_toArray, List.getElem_cons_zero, List.getElem_cons_succ])
    generalize Y.alloc (irO ⟨op, d, a, b, k, t, f⟩) = Z at H2 hH2 ⊢
    generalize Y.heap.size = nb at H2 ⊢
    obtain ⟨i8, hi8, hz8, hs8, hb8⟩ := info_parts6 info_irB
    refine held_one (i := 7) (by kernel_rfl) rfl (fun K hK => ?_)
    rw [if_pos (by kernel_rfl)]
    refine oper_append6 (.tmp 8) (.tmp 10) 26 rfl B 40 i8 _ 7 56 Tryz.underlying26 hi8 hz8 hs8 hb8 rfl (by decide) (.slice A1 n1 c1) n1 yl rfl H2.out.2.2.1.r1 ⟨nb, 0, none⟩ 1 1 (irL ⟨op, d, a, b, k, t, f⟩) rfl rfl (fun j u hj => ?_) (fun u hu => ?_) (by unfold maxLen; omega) (by omega) (Nat.le_trans hB H2.out.1.size) ?_
    · rw [addr_add, Nat.zero_add]
      have := cellM H2.out.2.2.2.1 j (v := u)
      exact this (by simpa using hj)
    · simp only [List.mem_cons, List.not_mem_nil, or_false] at hu
      rcases hu with rfl | rfl | rfl | rfl | rfl | rfl | rfl <;> rfl
    intro v' Y4 ho hg hv
    obtain ⟨A4, c4, rfl⟩ := own_formM ho
    have hne := own_neB (T := 70) (by decide) H2.out.2.2.1.r1 H2.out.2.1
    have hbox4 := (hg.block bb (Array.getElem?_eq_some_iff.1 H2.out.2.1).1 (fun e => hne e.symm)).trans H2.out.2.1
    have htb4 := (hg.block tb (Array.getElem?_eq_some_iff.1 H2.out.2.2.2.2).1 (fun e => HT.out.1 e.symm)).trans H2.out.2.2.2.2
    have H3 : Hid (Below B W Y4 ∧ Y4.heap[bb]? = some (bldO (.slice A1 n1 c1) (.slice A2 n2 c2) (.slice A3 n3 c3)) ∧ R3 B S Y4 (.slice A4 (n1 + 1) c4) (n1 + 1) (yl ++ irL ⟨op, d, a, b, k, t, f⟩) (.slice A2 n2 c2) n2 y2 (.slice A3 n3 c3) n3 y3 ∧ ∀ k, S k → Y4.heap[k]? = W.heap[k]?) := Lib.hid ⟨below_own (H2.out.1.mono hBt) H2.out.2.2.1.r1 hg hB, hbox4, H2.out.2.2.1.app1 ho hg hv, fun k hk => (hg.block k (H2.out.2.2.1.s k hk).1 (fun e => (H2.out.2.2.1.s k hk).2.1 e.symm)).trans (H2.out.1.block k (by rw [← HWT.out]; exact (HS.out k hk).1))⟩
    refine hK.out _ _ htb4 (fun hH3 => ?_)
    clear hK K hH2 ho hg hv hne hbox4 htb4 H2
    (try simp only [Act.put, List.setIfInBounds_toArray, List.set_cons_zero, List.set_cons_succ, List.getElem_toArray, List.getElem_cons_zero, List.getElem_cons_succ])
    refine wpAnyH_take (i := 8) (v := ?_) rfl (by kernel_rfl) (by kernel_rfl) (by kernel_rfl) (fun _ _ _ h => h) (Or.inl ⟨by rfl, ?_⟩) (by assumption) ?_
    rotate_left
    · intro wS hSw
      (skip)
      go_simp
      all_goals with_reducible rfl
    (try simp only [List.getElem_toArray, List.getElem_cons_zero, List.getElem_cons_succ, Act.put, List.setIfInBounds_toArray, List.set_cons_zero, List.set_cons_succ])
    refine wpAnyH_take (i := 9) (v := ?_) rfl (by kernel_rfl) (by kernel_rfl) (by kernel_rfl) (fun _ _ _ h => h) (Or.inl ⟨by rfl, ?_⟩) (by assumption) ?_
    rotate_left
    · intro wS hSw
      (skip)
      go_simp
      all_goals with_reducible rfl
    (try simp only [List.getElem_toArray, List.getElem_cons_zero, List.getElem_cons_succ, Act.put, List.setIfInBounds_toArray, List.set_cons_zero, List.set_cons_succ])
    have z0 := frozenB H3.out.2.1 0
    have e0 := cellM H3.out.2.1 0 (v := .slice A1 n1 c1) rfl
    refine held_one (i := 10) (by kernel_rfl) rfl (fun K hK => ?_)
    go_simp
    refine hK.out _ _ ((set_otherB (fun e => HT.out.2 e)).trans hH3) (fun hH4 => ?_)
    clear hK K hH3 z0 e0
    refine wpAnyH_done (by kernel_rfl) ?_ _
    go_wp2
    go_end0
    exact ⟨rfl, HG.out _ A4 c4 (heap_setB H3.out.2.1 0 _) (H3.out.2.2.1.set H3.out.2.1), H3.out.1.setCell (p := ⟨bb, 0, none⟩) hpb _, fun k hk => (set_otherB (HS.out k hk).2).trans (H3.out.2.2.2 k hk)⟩
  · go_simp
    refine hK.out _ _ H2.out.2.2.2.2 (fun hH1 => ?_)
    clear hK K hHeld H1
    (try simp only [Act.put, List.setIfInBounds_toArray, List.set_cons_zero, List.set_cons_succ, List.getElem_toArray, List.getElem_cons_zero, List.getElem_cons_succ])
    have e0 := cellM H2.out.2.1 0 (v := .slice A1 n1 c1) rfl
    refine held_one (i := 4) (by kernel_rfl) rfl (fun K hK => ?_)
    go_simp
    refine hK.out _ _ H2.out.2.2.2.2 (fun hH2 => ?_)
    clear hK K hH1 e0
    (try simp only [Act.put, List.setIfInBounds_toArray, List.set_cons_zero, List.set_cons_succ, List.getElem_toArray, List.getElem_cons_zero, List.getElem_cons_succ])
    generalize Y.alloc (irO ⟨op, d, a, b, k, t, f⟩) = Z at H2 hH2 ⊢
    generalize Y.heap.size = nb at H2 ⊢
    obtain ⟨i8, hi8, hz8, hs8, hb8⟩ := info_parts6 info_irB
    refine held_one (i := 7) (by kernel_rfl) rfl (fun K hK => ?_)
    rw [if_pos (by kernel_rfl)]
    refine oper_append6 (.tmp 8) (.tmp 10) 26 rfl B 40 i8 _ 7 56 Tryz.underlying26 hi8 hz8 hs8 hb8 rfl (by decide) (.slice A1 n1 c1) n1 yl rfl H2.out.2.2.1.r1 ⟨nb, 0, none⟩ 1 1 (irL ⟨op, d, a, b, k, t, f⟩) rfl rfl (fun j u hj => ?_) (fun u hu => ?_) (by unfold maxLen; omega) (by omega) (Nat.le_trans hB H2.out.1.size) ?_
    · rw [addr_add, Nat.zero_add]
      have := cellM H2.out.2.2.2.1 j (v := u)
      exact this (by simpa using hj)
    · simp only [List.mem_cons, List.not_mem_nil, or_false] at hu
      rcases hu with rfl | rfl | rfl | rfl | rfl | rfl | rfl <;> rfl
    intro v' Y4 ho hg hv
    obtain ⟨A4, c4, rfl⟩ := own_formM ho
    have hne := own_neB (T := 70) (by decide) H2.out.2.2.1.r1 H2.out.2.1
    have hbox4 := (hg.block bb (Array.getElem?_eq_some_iff.1 H2.out.2.1).1 (fun e => hne e.symm)).trans H2.out.2.1
    have htb4 := (hg.block tb (Array.getElem?_eq_some_iff.1 H2.out.2.2.2.2).1 (fun e => HT.out.1 e.symm)).trans H2.out.2.2.2.2
    have H3 : Hid (Below B W Y4 ∧ Y4.heap[bb]? = some (bldO (.slice A1 n1 c1) (.slice A2 n2 c2) (.slice A3 n3 c3)) ∧ R3 B S Y4 (.slice A4 (n1 + 1) c4) (n1 + 1) (yl ++ irL ⟨op, d, a, b, k, t, f⟩) (.slice A2 n2 c2) n2 y2 (.slice A3 n3 c3) n3 y3 ∧ ∀ k, S k → Y4.heap[k]? = W.heap[k]?) := Lib.hid ⟨below_own (H2.out.1.mono hBt) H2.out.2.2.1.r1 hg hB, hbox4, H2.out.2.2.1.app1 ho hg hv, fun k hk => (hg.block k (H2.out.2.2.1.s k hk).1 (fun e => (H2.out.2.2.1.s k hk).2.1 e.symm)).trans (H2.out.1.block k (by rw [← HWT.out]; exact (HS.out k hk).1))⟩
    refine hK.out _ _ htb4 (fun hH3 => ?_)
    clear hK K hH2 ho hg hv hne hbox4 htb4 H2
    (try simp only [Act.put, List.setIfInBounds_toArray, List.set_cons_zero, List.set_cons_succ, List.getElem_toArray, List.getElem_cons_zero, List.getElem_cons_succ])
    refine wpAnyH_take (i := 8) (v := ?_) rfl (by kernel_rfl) (by kernel_rfl) (by kernel_rfl) (fun _ _ _ h => h) (Or.inl ⟨by rfl, ?_⟩) (by assumption) ?_
    rotate_left
    · intro wS hSw
      (skip)
      go_simp
      all_goals with_reducible rfl
    (try simp only [List.getElem_toArray, List.getElem_cons_zero, List.getElem_cons_succ, Act.put, List.setIfInBounds_toArray, List.set_cons_zero, List.set_cons_succ])
    refine wpAnyH_take (i := 9) (v := ?_) rfl (by kernel_rfl) (by kernel_rfl) (by kernel_rfl) (fun _ _ _ h => h) (Or.inl ⟨by rfl, ?_⟩) (by assumption) ?_
    rotate_left
    · intro wS hSw
      (skip)
      go_simp
      all_goals with_reducible rfl
    (try simp only [List.getElem_toArray, List.getElem_cons_zero, List.getElem_cons_succ, Act.put, List.setIfInBounds_toArray, List.set_cons_zero, List.set_cons_succ])
    have z0 := frozenB H3.out.2.1 0
    have e0 := cellM H3.out.2.1 0 (v := .slice A1 n1 c1) rfl
    refine held_one (i := 10) (by kernel_rfl) rfl (fun K hK => ?_)
    go_simp
    refine hK.out _ _ ((set_otherB (fun e => HT.out.2 e)).trans hH3) (fun hH4 => ?_)
    clear hK K hH3 z0 e0
    refine wpAnyH_done (by kernel_rfl) ?_ _
    go_wp2
    go_end0
    exact ⟨rfl, HG.out _ A4 c4 (heap_setB H3.out.2.1 0 _) (H3.out.2.2.1.set H3.out.2.1), H3.out.1.setCell (p := ⟨bb, 0, none⟩) hpb _, fun k hk => (set_otherB (HS.out k hk).2).trans (H3.out.2.2.2 k hk)⟩
end Go.Proofs.YtoajommeiocfpaaGreat
namespace Go.Proofs.YtoajommeiocfpaaGreat
open Go Go.RowKit
set_option linter.unusedSimpArgs false
set_option linter.unusedVariables false
set_option maxRecDepth 100000

theorem alu_cs {c : Int} (h : aluC c = true) : c = 4 ∨ c = 20 ∨ c = 36 ∨ c = 52 ∨ c = 68 ∨ c = 84 ∨ c = 100 ∨ c = 116 ∨ c = 164 ∨ c = 12 ∨ c = 28 ∨ c = 44 ∨ c = 60 ∨ c = 76 ∨ c = 92 ∨ c = 108 ∨ c = 124 ∨ c = 172 := by simpa [aluC, aluL] using h
theorem jump_cs {c : Int} (h : jumpC c = true) : c = 21 ∨ c = 37 ∨ c = 53 ∨ c = 69 ∨ c = 29 ∨ c = 45 ∨ c = 61 ∨ c = 77 := by simpa [jumpC, jumpL] using h
/-- Something more is laid; something more is left open. -/
def LaidP (B : Nat) (S : Nat → Prop) (bb : Nat) (L : List Irx) (bg op : List Int) (W : World) (e : Ending) (w' : World) : Prop := e = .returned (.tuple #[]) ∧ BuAt B S w' bb L bg op ∧ Below B W w' ∧ ∀ k, S k → w'.heap[k]? = W.heap[k]?
section
variable {B : Nat} {S S' : Nat → Prop} {W : World} {bb : Nat} {L : List Irx} {bg op : List Int}
theorem BuAt.lt (h : BuAt B S W bb L bg op) {k : Nat} (hk : S k) : k < W.heap.size := by
  obtain ⟨A1, c1, A2, c2, A3, c3, h1, h2, h3⟩ := h
  exact (h2.s k hk).1
theorem BuAt.base (h : BuAt B S W bb L bg op) : B ≤ W.heap.size := by
  obtain ⟨A1, c1, A2, c2, A3, c3, h1, h2, h3, h4⟩ := h
  have := (Array.getElem?_eq_some_iff.1 h1).1
  omega
theorem BuAt.mono (h : BuAt B S' W bb L bg op) (hs : ∀ k, S k → S' k) : BuAt B S W bb L bg op := h.apart (Below.refl _ _) S (fun k hk => .inl (hs k hk))
abbrev SwB (S : Nat → Prop) (W : World) : Nat → Prop := fun k => S k ∨ k = W.heap.size
/-- With a box of its own. -/
structure BoxB (B : Nat) (S : Nat → Prop) (W : World) (o : Obj) (V : World) (bb : Nat) (L : List Irx) (bg op : List Int) : Prop where
  at_ : BuAt B (SwB S W) V bb L bg op
  below : Below B W V
  same : ∀ k, S k → V.heap[k]? = W.heap[k]?
  box : V.heap[W.heap.size]? = some o
theorem BuAt.boxed (h : BuAt B S W bb L bg op) (o : Obj) : BoxB B S W o (W.alloc o) bb L bg op :=
  ⟨h.apart (lboxM W o) _ (fun k hk => hk.imp id (fun e => ⟨by omega, by rw [e]; simp⟩)), (lboxM W o).mono h.base, fun k hk => (lboxM W o).block k (h.lt hk), World.alloc_heap_new W o⟩
theorem BoxB.drew {o : Obj} {V : World} (h : BoxB B S W o V bb L bg op) (n : Nat) : BoxB B S W o (V.drewN n) bb L bg op :=
  ⟨h.at_.below (below_drawn (Below.refl _ _) n), below_drawn h.below n, h.same, h.box⟩
theorem BoxB.on {o : Obj} {V V' : World} {L' : List Irx} {bg' op' : List Int} (h : BoxB B S W o V bb L bg op) (h1 : BuAt B (SwB S W) V' bb L' bg' op') (h2 : Below B V V') (h3 : ∀ k, SwB S W k → V'.heap[k]? = V.heap[k]?) : BoxB B S W o V' bb L' bg' op' :=
  ⟨h1, h.below.trans h2, fun k hk => (h3 k (.inl hk)).trans (h.same k hk), (h3 _ (.inr rfl)).trans h.box⟩
theorem BoxB.laid {o : Obj} {V : World} (h : BoxB B S W o V bb L bg op) : BuAt B S V bb L bg op ∧ Below B W V ∧ ∀ k, S k → V.heap[k]? = W.heap[k]? := ⟨h.at_.mono (fun k hk => .inl hk), h.below, h.same⟩
end
section
variable {B : Nat} {S : Nat → Prop} {W : World} {bb : Nat} {L : List Irx} {bg op : List Int}
theorem p_layL (h : BuAt B S W bb L bg op) (hn : L.length ≤ 1000000000) (x : Irx) : Calls Tryz.prog 111 #[.pointer (some ⟨bb, 0, none⟩), irV x] W (LaidP B S bb (L ++ [x]) bg op W) := p_layB h hn x
theorem p_moveB (h : BuAt B S W bb L bg op) (hn : L.length ≤ 1000000000) (d a : Int) :
    Calls Tryz.prog 66 #[.pointer (some ⟨bb, 0, none⟩), .int .i64 d, .int .i64 a] W (LaidP B S bb (L ++ [irMv d a]) bg op W) := by
  have HL : Hid (Calls Tryz.prog 111 #[.pointer (some ⟨bb, 0, none⟩), .agg #[.int .i64 2, .int .i64 d, .int .i64 a, .int .i64 0, .int .u32 0, .int .i64 0, .int .i64 0]] W (LaidP B S bb (L ++ [irMv d a]) bg op W)) := Lib.hid (p_layL h hn (irMv d a))
  clear h
  unfold LaidP at HL ⊢
  generalize BuAt B S = BA at HL ⊢
  go_enter Tryz.func66, Tryz.ntmps66
  go_wp2_with (go_at_call 111; (with_reducible refine HL.out.mono ?_); rintro e w1 ⟨rfl, hb, hw⟩; have H1 := Lib.hid (And.intro hb hw); clear hb hw)
  go_end0
  exact ⟨rfl, H1.out⟩
theorem p_constB (h : BuAt B S W bb L bg op) (hn : L.length ≤ 1000000000) (d : Int) (k : BitVec 32) :
    Calls Tryz.prog 112 #[.pointer (some ⟨bb, 0, none⟩), .int .i64 d, .int .u32 (k.toNat : Int)] W (LaidP B S bb (L ++ [irC d k]) bg op W) := by
  have HL := Lib.hid (p_layL h hn (irC d k))
  clear h
  unfold LaidP at HL ⊢
  generalize BuAt B S = BA at HL ⊢
  go_enter Tryz.func112, Tryz.ntmps112
  go_wp2_with (go_at_call 111; (with_reducible refine HL.out.mono ?_); rintro e w1 ⟨rfl, hb, hw⟩; have H1 := Lib.hid (And.intro hb hw); clear hb hw)
  go_end0
  exact ⟨rfl, H1.out⟩
end
theorem p_scratch (k : BitVec 32) (W : World) : Calls Tryz.prog 67 #[.int .u32 (k.toNat : Int)] W fun e w' => e = .returned (.int .i64 ((3 + k.toNat : Nat) : Int)) ∧ w' = W := by
  have hk := k.isLt
  go_enter Tryz.func67, Tryz.ntmps67
  go_wp2
  go_ret
  exact ⟨by congr 2, rfl⟩
set_option maxHeartbeats 8000000 in
theorem p_numberOp {c : Int} (h : aluC c = true) (W : World) : Calls Tryz.prog 115 #[.int .u16 c] W fun e w' => e = .returned (.int .i64 (numOpN c)) ∧ w' = W := by
  rcases alu_cs h with rfl | rfl | rfl | rfl | rfl | rfl | rfl | rfl | rfl | rfl | rfl | rfl | rfl | rfl | rfl | rfl | rfl | rfl <;> clear h <;>
  · go_enter Tryz.func115, Tryz.ntmps115
    go_wp2
    go_ret
    exact ⟨by kernel_rfl, rfl⟩
set_option maxHeartbeats 8000000 in
theorem p_testOp {c : Int} (h : jumpC c = true) (W : World) : Calls Tryz.prog 117 #[.int .u16 c] W fun e w' => e = .returned (.int .i64 (testOpN c)) ∧ w' = W := by
  rcases jump_cs h with rfl | rfl | rfl | rfl | rfl | rfl | rfl | rfl <;> clear h <;>
  · go_enter Tryz.func117, Tryz.ntmps117
    go_wp2
    go_ret
    exact ⟨by kernel_rfl, rfl⟩
section
variable {B : Nat} {S : Nat → Prop} {W : World} {bb : Nat} {L : List Irx} {bg op : List Int}
theorem p_leadB (h : BuAt B S W bb L bg op) (hn : L.length ≤ 1000000000) (ho : op.length ≤ 1000000000) (x : Irx) :
    Calls Tryz.prog 116 #[.pointer (some ⟨bb, 0, none⟩), irV x] W (LaidP B S bb (L ++ [x]) bg (op ++ [(L.length : Int)]) W) := by
  have HN := Lib.hid (fun V (h : BuAt B (SwB S W) V bb L bg op) => p_nextB h)
  have HO := Lib.hid (fun V (h : BuAt B (SwB S W) V bb L bg op) => p_leaveOpenB h ho (L.length : Int))
  have HL := Lib.hid (fun V (h : BuAt B (SwB S W) V bb L bg (op ++ [(L.length : Int)])) => p_layL h hn x)
  have H0 := Lib.hid ((h.boxed (irO x)).drew 1)
  clear h
  unfold LaidP at HL ⊢
  obtain ⟨o', d, a, b, k, t, f⟩ := x
  go_enter Tryz.func116, Tryz.ntmps116
  go_upto_region 1 with fail
  rename_i K8 hK8
  refine wp_region_held_drew (S := fun W' => W'.heap[W.heap.size]? = some (irO ⟨o', d, a, b, k, t, f⟩)) (by kernel_rfl) H0.out.box (fun hHeld => ?_)
  have H1 : Hid (BoxB B S W (irO ⟨o', d, a, b, k, t, f⟩) (W.alloc (irO ⟨o', d, a, b, k, t, f⟩)).drew bb L bg op) := H0
  clear H0
  generalize (W.alloc (irO ⟨o', d, a, b, k, t, f⟩)).drew = Y at H1 hHeld ⊢
  refine wpAnyH_take (i := 0) (v := ?_) rfl (by kernel_rfl) (by kernel_rfl) (by kernel_rfl) (fun _ _ _ h => h) (Or.inl ⟨by rfl, ?_⟩) (by assumption) ?_
  rotate_left
  · intro wS hSw
    (skip)
    go_simp
    all_goals with_reducible rfl
  (try simp only [List.getElem_toArray, List.getElem_cons_zero, List.getElem_cons_succ, Act.put, List.setIfInBounds_toArray, List.set_cons_zero, List.set_cons_succ])
  refine wpAnyH_take (i := 1) (v := ?_) rfl (by kernel_rfl) (by kernel_rfl) (by kernel_rfl) (fun _ _ _ h => h) (Or.inl ⟨by rfl, ?_⟩) (by assumption) ?_
  rotate_left
  · intro wS hSw
    (skip)
    go_simp
    all_goals with_reducible rfl
  (try simp only [List.getElem_toArray, List.getElem_cons_zero, List.getElem_cons_succ, Act.put, List.setIfInBounds_toArray, List.set_cons_zero, List.set_cons_succ])
  refine wpAnyH_take (i := 2) (v := ?_) rfl (by kernel_rfl) (by kernel_rfl) (by kernel_rfl) (fun _ _ _ h => h) (Or.inl ⟨by rfl, ?_⟩) (by assumption) ?_
  rotate_left
  · intro wS hSw
    (skip)
    go_simp
    all_goals with_reducible rfl
  (try simp only [List.getElem_toArray, List.getElem_cons_zero, List.getElem_cons_succ, Act.put, List.setIfInBounds_toArray, List.set_cons_zero, List.set_cons_succ])
  refine wpAnyH_take (i := 3) (v := ?_) rfl (by kernel_rfl) (by kernel_rfl) (by kernel_rfl) (fun _ _ _ h => h) (Or.inl ⟨by rfl, ?_⟩) (by assumption) ?_
  rotate_left
  · intro wS hSw
    (skip)
    go_simp
    all_goals with_reducible rfl
  (try simp only [List.getElem_toArray, List.getElem_cons_zero, List.getElem_cons_succ, Act.put, List.setIfInBounds_toArray, List.set_cons_zero, List.set_cons_succ])
  refine wpAnyH_take (i := 4) (v := ?_) rfl (by kernel_rfl) (by kernel_rfl) (by kernel_rfl) (fun _ _ _ h => h) (Or.inl ⟨by rfl, ?_⟩) (by assumption) ?_
  rotate_left
  · intro wS hSw
    (skip)
    go_simp
    all_goals with_reducible rfl
  (try simp only [List.getElem_toArray, List.getElem_cons_zero, List.getElem_cons_succ, Act.put, List.setIfInBounds_toArray, List.set_cons_zero, List.set_cons_succ])
  refine wpAnyH_take (i := 5) (v := ?_) rfl (by kernel_rfl) (by kernel_rfl) (by kernel_rfl) (fun _ _ _ h => h) (Or.inl ⟨by rfl, ?_⟩) (by assumption) ?_
  rotate_left
  · intro wS hSw
    (skip)
    go_simp
    all_goals with_reducible rfl
  (try simp only [List.getElem_toArray, List.getElem_cons_zero, List.getElem_cons_succ, Act.put, List.setIfInBounds_toArray, List.set_cons_zero, List.set_cons_succ])
  refine held_one (i := 6) (by kernel_rfl) rfl (fun K hK => ?_)
  go_simp
  go_at_call 30
  refine (HN.out _ H1.out.at_).mono ?_
  rintro e w1 ⟨rfl, rfl⟩
  refine hK.out _ _ H1.out.box (fun hH1 => ?_)
  clear hK K hHeld
  (try simp only [Act.put, List.setIfInBounds_toArray, List.set_cons_zero, List.set_cons_succ, List.getElem_toArray, List.getElem_cons_zero, List.getElem_cons_succ])
  refine held_one (i := 7) (by kernel_rfl) rfl (fun K hK => ?_)
  go_simp
  go_at_call 123
  refine (HO.out _ H1.out.at_).mono ?_
  rintro e w2 ⟨rfl, hb, hw, hk⟩
  have H2 := Lib.hid (H1.out.on hb hw hk)
  clear hb hw hk H1
  refine hK.out _ _ H2.out.box (fun hH2 => ?_)
  clear hK K hH1
  (try simp only [Act.put, List.setIfInBounds_toArray, List.set_cons_zero, List.set_cons_succ, List.getElem_toArray, List.getElem_cons_zero, List.getElem_cons_succ])
  refine wpAnyH_done (by kernel_rfl) ?_ _
  clear hH2
  go_wp2
  refine wp_region_held_drew (S := fun W' => W'.heap[W.heap.size]? = some (irO ⟨o', d, a, b, k, t, f⟩)) (by kernel_rfl) H2.out.box (fun hHeld => ?_)
  have HY : Hid (BoxB B S W (irO ⟨o', d, a, b, k, t, f⟩) w2.drew bb L bg (op ++ [(L.length : Int)])) := Lib.hid (H2.out.drew 1)
  clear H2
  generalize w2.drew = Y2 at HY hHeld ⊢
  refine wpAnyH_take (i := 0) (v := ?_) rfl (by kernel_rfl) (by kernel_rfl) (by kernel_rfl) (fun _ _ _ h => h) (Or.inl ⟨by rfl, ?_⟩) (by assumption) ?_
  rotate_left
  · intro wS hSw
    (have d0 := cellM hSw 0 rfl; have d1 := cellM hSw 1 rfl; have d2 := cellM hSw 2 rfl; have d3 := cellM hSw 3 rfl; have d4 := cellM hSw 4 rfl; have d5 := cellM hSw 5 rfl; have d6 := cellM hSw 6 rfl)
    go_simp
    all_goals with_reducible rfl
  (try simp only [List.getElem_toArray, List.getElem_cons_zero, List.getElem_cons_succ, Act.put, List.setIfInBounds_toArray, List.set_cons_zero, List.set_cons_succ])
  refine wpAnyH_take (i := 1) (v := ?_) rfl (by kernel_rfl) (by kernel_rfl) (by kernel_rfl) (fun _ _ _ h => h) (Or.inl ⟨by rfl, ?_⟩) (by assumption) ?_
  rotate_left
  · intro wS hSw
    (have d0 := cellM hSw 0 rfl; have d1 := cellM hSw 1 rfl; have d2 := cellM hSw 2 rfl; have d3 := cellM hSw 3 rfl; have d4 := cellM hSw 4 rfl; have d5 := cellM hSw 5 rfl; have d6 := cellM hSw 6 rfl)
    go_simp
    all_goals with_reducible rfl
  (try simp only [List.getElem_toArray, List.getElem_cons_zero, List.getElem_cons_succ, Act.put, List.setIfInBounds_toArray, List.set_cons_zero, List.set_cons_succ])
  refine wpAnyH_take (i := 2) (v := ?_) rfl (by kernel_rfl) (by kernel_rfl) (by kernel_rfl) (fun _ _ _ h => h) (Or.inl ⟨by rfl, ?_⟩) (by assumption) ?_
  rotate_left
  · intro wS hSw
    (have d0 := cellM hSw 0 rfl; have d1 := cellM hSw 1 rfl; have d2 := cellM hSw 2 rfl; have d3 := cellM hSw 3 rfl; have d4 := cellM hSw 4 rfl; have d5 := cellM hSw 5 rfl; have d6 := cellM hSw 6 rfl)
    go_simp
    all_goals with_reducible rfl
  (try simp only [List.getElem_toArray, List.getElem_cons_zero, List.getElem_cons_succ, Act.put, List.setIfInBounds_toArray, List.set_cons_zero, List.set_cons_succ])
  refine wpAnyH_take (i := 3) (v := ?_) rfl (by kernel_rfl) (by kernel_rfl) (by kernel_rfl) (fun _ _ _ h => h) (Or.inl ⟨by rfl, ?_⟩) (by assumption) ?_
  rotate_left
  · intro wS hSw
    (have d0 := cellM hSw 0 rfl; have d1 := cellM hSw 1 rfl; have d2 := cellM hSw 2 rfl; have d3 := cellM hSw 3 rfl; have d4 := cellM hSw 4 rfl; have d5 := cellM hSw 5 rfl; have d6 := cellM hSw 6 rfl)
    go_simp
    all_goals with_reducible rfl
  (try simp only [List.getElem_toArray, List.getElem_cons_zero, List.getElem_cons_succ, Act.put, List.setIfInBounds_toArray, List.set_cons_zero, List.set_cons_succ])
  refine held_one (i := 4) (by kernel_rfl) rfl (fun K hK => ?_)
  go_simp
  go_at_call 111
  refine (HL.out _ HY.out.at_).mono ?_
  rintro e w3 ⟨rfl, hb, hw, hk⟩
  have H3 := Lib.hid (HY.out.on hb hw hk)
  clear hb hw hk HY
  refine hK.out _ _ H3.out.box (fun hH3 => ?_)
  clear hK K hHeld
  (try simp only [Act.put, List.setIfInBounds_toArray, List.set_cons_zero, List.set_cons_succ, List.getElem_toArray, List.getElem_cons_zero, List.getElem_cons_succ])
  refine wpAnyH_done (by kernel_rfl) ?_ _
  go_wp2
  go_end0
  exact ⟨rfl, H3.out.laid⟩
set_option maxHeartbeats 16000000 in
theorem p_operandX (h : BuAt B S W bb L bg op) {c : Int} (hc : c = 12 ∨ c = 28 ∨ c = 44 ∨ c = 60 ∨ c = 76 ∨ c = 92 ∨ c = 108 ∨ c = 124 ∨ c = 172 ∨ c = 29 ∨ c = 45 ∨ c = 61 ∨ c = 77) (jt jf : Nat) (k : BitVec 32) :
    Calls Tryz.prog 114 #[.pointer (some ⟨bb, 0, none⟩), insV ⟨c, jt, jf, k⟩] W fun e w' => e = .returned (.int .i64 1) ∧ BuAt B S w' bb L bg op ∧ Below B W w' ∧ ∀ k, S k → w'.heap[k]? = W.heap[k]? := by
  have HB := Lib.hid (fun o => (h.boxed o).laid)
  clear h
  generalize BuAt B S = BA at HB ⊢
  rcases hc with rfl | rfl | rfl | rfl | rfl | rfl | rfl | rfl | rfl | rfl | rfl | rfl | rfl <;>
  · go_enter Tryz.func114, Tryz.ntmps114
    go_wp2
    go_ret
    exact ⟨rfl, HB.out _⟩
/-- One of the program's instructions in a box of its own. -/
abbrev inB (c : Int) (jt jf : Nat) (k : BitVec 32) : Obj := .cells #[.int .u16 c, .int .u8 (jt : Int), .int .u8 (jf : Int), .int .u32 (k.toNat : Int)] 60
set_option maxHeartbeats 16000000 in
theorem p_operandK (h : BuAt B S W bb L bg op) (hn : L.length ≤ 1000000000) {c : Int} (hc : c = 4 ∨ c = 20 ∨ c = 36 ∨ c = 52 ∨ c = 68 ∨ c = 84 ∨ c = 100 ∨ c = 116 ∨ c = 164 ∨ c = 21 ∨ c = 37 ∨ c = 53 ∨ c = 69) (jt jf : Nat) (k : BitVec 32) :
    Calls Tryz.prog 114 #[.pointer (some ⟨bb, 0, none⟩), insV ⟨c, jt, jf, k⟩] W fun e w' => e = .returned (.int .i64 2) ∧ BuAt B S w' bb (L ++ [irC 2 k]) bg op ∧ Below B W w' ∧ ∀ k, S k → w'.heap[k]? = W.heap[k]? := by
  have HB := Lib.hid ((h.boxed (inB c jt jf k)).drew 1)
  have HC := Lib.hid (fun V (h : BuAt B (SwB S W) V bb L bg op) => p_constB h hn 2 k)
  clear h
  unfold LaidP at HC
  rcases hc with rfl | rfl | rfl | rfl | rfl | rfl | rfl | rfl | rfl | rfl | rfl | rfl | rfl <;>
  · go_enter Tryz.func114, Tryz.ntmps114
    go_wp2
    refine wp_region_held_drew (S := fun W' => W'.heap[W.heap.size]? = some (inB _ jt jf k)) (by kernel_rfl) HB.out.box (fun hHeld => ?_)
    have HB' := HB.out
    clear HB
    change BoxB B S W _ (W.alloc (inB _ jt jf k)).drew bb L bg op at HB'
    generalize (W.alloc (inB _ jt jf k)).drew = Y at HB' hHeld ⊢
    refine wpAnyH_take (i := 0) (v := ?_) rfl (by kernel_rfl) (by kernel_rfl) (by kernel_rfl) (fun _ _ _ h => h) (Or.inl ⟨by rfl, ?_⟩) (by assumption) ?_
    rotate_left
    · intro wS hSw
      (have d3 := cellM hSw 3 rfl)
      go_simp
      all_goals with_reducible rfl
    (try simp only [List.getElem_toArray, List.getElem_cons_zero, List.getElem_cons_succ, Act.put, List.setIfInBounds_toArray, List.set_cons_zero, List.set_cons_succ])
    refine wpAnyH_take (i := 1) (v := ?_) rfl (by kernel_rfl) (by kernel_rfl) (by kernel_rfl) (fun _ _ _ h => h) (Or.inl ⟨by rfl, ?_⟩) (by assumption) ?_
    rotate_left
    · intro wS hSw
      (have d3 := cellM hSw 3 rfl)
      go_simp
      all_goals with_reducible rfl
    (try simp only [List.getElem_toArray, List.getElem_cons_zero, List.getElem_cons_succ, Act.put, List.setIfInBounds_toArray, List.set_cons_zero, List.set_cons_succ])
    refine wpAnyH_take (i := 2) (v := ?_) rfl (by kernel_rfl) (by kernel_rfl) (by kernel_rfl) (fun _ _ _ h => h) (Or.inl ⟨by rfl, ?_⟩) (by assumption) ?_
    rotate_left
    · intro wS hSw
      (have d3 := cellM hSw 3 rfl)
      go_simp
      all_goals with_reducible rfl
    (try simp only [List.getElem_toArray, List.getElem_cons_zero, List.getElem_cons_succ, Act.put, List.setIfInBounds_toArray, List.set_cons_zero, List.set_cons_succ])
    refine wpAnyH_take (i := 3) (v := ?_) rfl (by kernel_rfl) (by kernel_rfl) (by kernel_rfl) (fun _ _ _ h => h) (Or.inl ⟨by rfl, ?_⟩) (by assumption) ?_
    rotate_left
    · intro wS hSw
      (have d3 := cellM hSw 3 rfl)
      go_simp
      all_goals with_reducible rfl
    (try simp only [List.getElem_toArray, List.getElem_cons_zero, List.getElem_cons_succ, Act.put, List.setIfInBounds_toArray, List.set_cons_zero, List.set_cons_succ])
    refine wpAnyH_take (i := 4) (v := ?_) rfl (by kernel_rfl) (by kernel_rfl) (by kernel_rfl) (fun _ _ _ h => h) (Or.inl ⟨by rfl, ?_⟩) (by assumption) ?_
    rotate_left
    · intro wS hSw
      (have d3 := cellM hSw 3 rfl)
      go_simp
      all_goals with_reducible rfl
    (try simp only [List.getElem_toArray, List.getElem_cons_zero, List.getElem_cons_succ, Act.put, List.setIfInBounds_toArray, List.set_cons_zero, List.set_cons_succ])
    refine held_one (i := 5) (by kernel_rfl) rfl (fun K hK => ?_)
    go_simp
    go_at_call 112
    refine (HC.out _ HB'.at_).mono ?_
    rintro e w3 ⟨rfl, hb, hw, hk⟩
    have H3 := Lib.hid (HB'.on hb hw hk)
    clear hb hw hk HB'
    refine hK.out _ _ H3.out.box (fun hH3 => ?_)
    clear hK K hHeld
    (try simp only [Act.put, List.setIfInBounds_toArray, List.set_cons_zero, List.set_cons_succ, List.getElem_toArray, List.getElem_cons_zero, List.getElem_cons_succ])
    refine wpAnyH_done (by kernel_rfl) ?_ _
    go_wp2
    go_ret
    exact ⟨rfl, H3.out.laid⟩
end
end Go.Proofs.YtoajommeiocfpaaGreat
namespace Go.Proofs.YtoajommeiocfpaaGreat
open Go Go.RowKit
set_option linter.unusedSimpArgs false
set_option linter.unusedVariables false
set_option maxRecDepth 100000
section
variable {B : Nat} {S : Nat → Prop} {W : World} {bb : Nat} {L : List Irx} {bg op : List Int}
theorem p_endAtZeroB (h : BuAt B S W bb L bg op) (hn : L.length ≤ 100000000) :
    Calls Tryz.prog 113 #[.pointer (some ⟨bb, 0, none⟩)] W (LaidP B S bb (L ++ [irC 2 0#32, ⟨15, 0, 1, 2, 0#32, (L.length : Int) + 2, (L.length : Int) + 3⟩, irRet 2]) bg op W) := by
  have HC : Hid (Calls Tryz.prog 112 #[.pointer (some ⟨bb, 0, none⟩), .int .i64 2, .int .u32 0] W (LaidP B S bb (L ++ [irC 2 0#32]) bg op W)) := Lib.hid (p_constB h (by omega) 2 0#32)
  have HN : Hid (∀ V, BuAt B S V bb (L ++ [irC 2 0#32]) bg op → Calls Tryz.prog 30 #[.pointer (some ⟨bb, 0, none⟩)] V fun e w' => e = .returned (.int .i64 ((L.length : Int) + 1)) ∧ w' = V) := Lib.hid fun V h => (p_nextB h).mono fun e w' hh => ⟨by rw [hh.1, List.length_append]; rfl, hh.2⟩
  have HL1 : Hid (∀ V, BuAt B S V bb (L ++ [irC 2 0#32]) bg op → Calls Tryz.prog 111 #[.pointer (some ⟨bb, 0, none⟩), .agg #[.int .i64 15, .int .i64 0, .int .i64 1, .int .i64 2, .int .u32 0, .int .i64 ((L.length : Int) + 2), .int .i64 ((L.length : Int) + 3)]] V (LaidP B S bb (L ++ [irC 2 0#32] ++ [⟨15, 0, 1, 2, 0#32, (L.length : Int) + 2, (L.length : Int) + 3⟩]) bg op V)) := Lib.hid fun V h => p_layL h (by rw [List.length_append]; simp; omega) ⟨15, 0, 1, 2, 0#32, (L.length : Int) + 2, (L.length : Int) + 3⟩
  have HL2 : Hid (∀ V, BuAt B S V bb (L ++ [irC 2 0#32] ++ [⟨15, 0, 1, 2, 0#32, (L.length : Int) + 2, (L.length : Int) + 3⟩]) bg op → Calls Tryz.prog 111 #[.pointer (some ⟨bb, 0, none⟩), .agg #[.int .i64 19, .int .i64 0, .int .i64 2, .int .i64 0, .int .u32 0, .int .i64 0, .int .i64 0]] V (LaidP B S bb (L ++ [irC 2 0#32, ⟨15, 0, 1, 2, 0#32, (L.length : Int) + 2, (L.length : Int) + 3⟩, irRet 2]) bg op V)) := Lib.hid fun V h => by
    have := p_layL h (by rw [List.length_append, List.length_append]; simp; omega) (irRet 2)
    rw [List.append_assoc, List.append_assoc] at this
    exact this
  have w1 : IntKind.i64.wrap ((L.length : Int) + 1 + 1) = (L.length : Int) + 2 := by rw [IntWalk.i64_in _ (by omega)]; omega
  have w2 : IntKind.i64.wrap ((L.length : Int) + 1 + 2) = (L.length : Int) + 3 := by rw [IntWalk.i64_in _ (by omega)]; omega
  clear h
  unfold LaidP at HC HL1 HL2 ⊢
  generalize BuAt B S = BA at HC HN HL1 HL2 ⊢
  generalize L ++ [irC 2 0#32] ++ [⟨15, 0, 1, 2, 0#32, (L.length : Int) + 2, (L.length : Int) + 3⟩] = La at HL1 HL2
  generalize L ++ [irC 2 0#32, ⟨15, 0, 1, 2, 0#32, (L.length : Int) + 2, (L.length : Int) + 3⟩, irRet 2] = Lb at HL2 ⊢
  generalize L ++ [irC 2 0#32] = Lc at HC HN HL1
  go_enter Tryz.func113, Tryz.ntmps113
  go_wp2_with (first
    | (go_at_call 112; (with_reducible refine HC.out.mono ?_); rintro e w1' ⟨rfl, hb, hw, hk⟩; have H1 := Lib.hid (And.intro hb (And.intro hw hk)); clear hb hw hk)
    | (go_at_call 30; (with_reducible refine (HN.out _ H1.out.1).mono ?_); rintro e w2' ⟨rfl, rfl⟩)
    | (go_at_call 111; (with_reducible refine (HL2.out _ H3.out.1).mono ?_); rintro e w4 ⟨rfl, hb, hw, hk⟩; have H4 := Lib.hid (And.intro hb (And.intro (H3.out.2.1.trans hw) (fun k hS => (hk k hS).trans (H3.out.2.2 k hS)))); clear hb hw hk)
    | (go_at_call 111; (with_reducible refine (HL1.out _ H1.out.1).mono ?_); rintro e w3 ⟨rfl, hb, hw, hk⟩; have H3 := Lib.hid (And.intro hb (And.intro (H1.out.2.1.trans hw) (fun k hS => (hk k hS).trans (H1.out.2.2 k hS)))); clear hb hw hk))
  go_end0
  exact ⟨rfl, H4.out⟩
set_option maxHeartbeats 4000000 in
theorem p_end22 (h : BuAt B S W bb L bg op) (hn : L.length ≤ 100000000) (jt jf : Nat) (k : BitVec 32) :
    Calls Tryz.prog 70 #[.pointer (some ⟨bb, 0, none⟩), insV ⟨22, jt, jf, k⟩] W (LaidP B S bb (L ++ [irRet 0]) bg op W) := by
  have HB := Lib.hid (h.boxed (inB 22 jt jf k))
  have HL : Hid (∀ V, BuAt B (SwB S W) V bb L bg op → Calls Tryz.prog 111 #[.pointer (some ⟨bb, 0, none⟩), .agg #[.int .i64 19, .int .i64 0, .int .i64 0, .int .i64 0, .int .u32 0, .int .i64 0, .int .i64 0]] V (LaidP B (SwB S W) bb (L ++ [irRet 0]) bg op V)) := Lib.hid fun V h => by
    have := p_layL h (by omega) (irRet 0)
    exact this
  clear h
  unfold LaidP at HL ⊢
  go_enter Tryz.func70, Tryz.ntmps70
  go_wp2_with (go_at_call 111; (with_reducible refine (HL.out _ HB.out.at_).mono ?_); rintro e w4 ⟨rfl, hb, hw, hk⟩; have H4 := Lib.hid (HB.out.on hb hw hk).laid; clear hb hw hk)
  refine bodyPost_ret (results_none rfl _ _ _) rfl ?_
  exact ⟨rfl, H4.out⟩
set_option maxHeartbeats 4000000 in
theorem p_end6 (h : BuAt B S W bb L bg op) (hn : L.length ≤ 100000000) (jt jf : Nat) (k : BitVec 32) :
    Calls Tryz.prog 70 #[.pointer (some ⟨bb, 0, none⟩), insV ⟨6, jt, jf, k⟩] W (LaidP B S bb (L ++ [irC 2 k, irRet 2]) bg op W) := by
  have HB := Lib.hid ((h.boxed (inB 6 jt jf k)).drew 1)
  have HC := Lib.hid (fun V (h : BuAt B (SwB S W) V bb L bg op) => p_constB h (by omega) 2 k)
  have HL : Hid (∀ V, BuAt B (SwB S W) V bb (L ++ [irC 2 k]) bg op → Calls Tryz.prog 111 #[.pointer (some ⟨bb, 0, none⟩), .agg #[.int .i64 19, .int .i64 0, .int .i64 2, .int .i64 0, .int .u32 0, .int .i64 0, .int .i64 0]] V (LaidP B (SwB S W) bb (L ++ [irC 2 k, irRet 2]) bg op V)) := Lib.hid fun V h => by
    have := p_layL h (by simp; omega) (irRet 2)
    simp only [List.append_assoc] at this
    exact this
  clear h
  unfold LaidP at HC HL ⊢
  go_enter Tryz.func70, Tryz.ntmps70
  go_wp2
  refine wp_region_held_drew (S := fun W' => W'.heap[W.heap.size]? = some (inB 6 jt jf k)) (by kernel_rfl) HB.out.box (fun hHeld => ?_)
  have HB' := HB.out
  clear HB
  change BoxB B S W _ (W.alloc (inB 6 jt jf k)).drew bb L bg op at HB'
  generalize (W.alloc (inB 6 jt jf k)).drew = Y at HB' hHeld ⊢
  refine wpAnyH_take (i := 0) (v := ?_) rfl (by kernel_rfl) (by kernel_rfl) (by kernel_rfl) (fun _ _ _ h => h) (Or.inl ⟨by rfl, ?_⟩) (by assumption) ?_
  rotate_left
  · intro wS hSw
    (have d3 := cellM hSw 3 rfl)
    go_simp
    all_goals with_reducible rfl
  (try simp only [List.getElem_toArray, List.getElem_cons_zero, List.getElem_cons_succ, Act.put, List.setIfInBounds_toArray, List.set_cons_zero, List.set_cons_succ])
  refine wpAnyH_take (i := 1) (v := ?_) rfl (by kernel_rfl) (by kernel_rfl) (by kernel_rfl) (fun _ _ _ h => h) (Or.inl ⟨by rfl, ?_⟩) (by assumption) ?_
  rotate_left
  · intro wS hSw
    (have d3 := cellM hSw 3 rfl)
    go_simp
    all_goals with_reducible rfl
  (try simp only [List.getElem_toArray, List.getElem_cons_zero, List.getElem_cons_succ, Act.put, List.setIfInBounds_toArray, List.set_cons_zero, List.set_cons_succ])
  refine wpAnyH_take (i := 2) (v := ?_) rfl (by kernel_rfl) (by kernel_rfl) (by kernel_rfl) (fun _ _ _ h => h) (Or.inl ⟨by rfl, ?_⟩) (by assumption) ?_
  rotate_left
  · intro wS hSw
    (have d3 := cellM hSw 3 rfl)
    go_simp
    all_goals with_reducible rfl
  (try simp only [List.getElem_toArray, List.getElem_cons_zero, List.getElem_cons_succ, Act.put, List.setIfInBounds_toArray, List.set_cons_zero, List.set_cons_succ])
  refine wpAnyH_take (i := 3) (v := ?_) rfl (by kernel_rfl) (by kernel_rfl) (by kernel_rfl) (fun _ _ _ h => h) (Or.inl ⟨by rfl, ?_⟩) (by assumption) ?_
  rotate_left
  · intro wS hSw
    (have d3 := cellM hSw 3 rfl)
    go_simp
    all_goals with_reducible rfl
  (try simp only [List.getElem_toArray, List.getElem_cons_zero, List.getElem_cons_succ, Act.put, List.setIfInBounds_toArray, List.set_cons_zero, List.set_cons_succ])
  refine wpAnyH_take (i := 4) (v := ?_) rfl (by kernel_rfl) (by kernel_rfl) (by kernel_rfl) (fun _ _ _ h => h) (Or.inl ⟨by rfl, ?_⟩) (by assumption) ?_
  rotate_left
  · intro wS hSw
    (have d3 := cellM hSw 3 rfl)
    go_simp
    all_goals with_reducible rfl
  (try simp only [List.getElem_toArray, List.getElem_cons_zero, List.getElem_cons_succ, Act.put, List.setIfInBounds_toArray, List.set_cons_zero, List.set_cons_succ])
  refine held_one (i := 5) (by kernel_rfl) rfl (fun K hK => ?_)
  go_simp
  go_at_call 112
  refine (HC.out _ HB'.at_).mono ?_
  rintro e w3 ⟨rfl, hb, hw, hk⟩
  have H3 := Lib.hid (HB'.on hb hw hk)
  clear hb hw hk HB'
  refine hK.out _ _ H3.out.box (fun hH3 => ?_)
  clear hK K hHeld
  (try simp only [Act.put, List.setIfInBounds_toArray, List.set_cons_zero, List.set_cons_succ, List.getElem_toArray, List.getElem_cons_zero, List.getElem_cons_succ])
  refine wpAnyH_done (by kernel_rfl) ?_ _
  go_wp2_with (go_at_call 111; (with_reducible refine (HL.out _ H3.out.at_).mono ?_); rintro e w4 ⟨rfl, hb, hw, hk⟩; have H4 := Lib.hid (H3.out.on hb hw hk).laid; clear hb hw hk)
  go_end0
  exact ⟨rfl, H4.out⟩
end
end Go.Proofs.YtoajommeiocfpaaGreat
namespace Go.Proofs.YtoajommeiocfpaaGreat
open Go Go.RowKit
set_option linter.unusedSimpArgs false
set_option linter.unusedVariables false
set_option maxRecDepth 100000
section
variable {B : Nat} {S : Nat → Prop} {W : World} {bb : Nat} {L : List Irx} {bg op : List Int}
set_option maxHeartbeats 8000000 in
theorem p_ldLenB (h : BuAt B S W bb L bg op) (hn : L.length ≤ 100000000) {c : Int} (hc : c = 128 ∨ c = 129) (jt jf : Nat) (k : BitVec 32) (d : Int) :
    Calls Tryz.prog 65 #[.pointer (some ⟨bb, 0, none⟩), insV ⟨c, jt, jf, k⟩, .int .i64 d] W (LaidP B S bb (L ++ [irC d 64#32]) bg op W) := by
  have HB := Lib.hid (fun o => h.boxed o)
  have HC : Hid (∀ V, BuAt B (SwB S W) V bb L bg op → Calls Tryz.prog 112 #[.pointer (some ⟨bb, 0, none⟩), .int .i64 d, .int .u32 64] V (LaidP B (SwB S W) bb (L ++ [irC d 64#32]) bg op V)) := Lib.hid fun V h => p_constB h (by omega) d 64#32
  clear h
  unfold LaidP at HC ⊢
  rcases hc with rfl | rfl <;>
  · go_enter Tryz.func65, Tryz.ntmps65
    go_wp2_with (go_at_call 112; (with_reducible refine (HC.out _ (HB.out _).at_).mono ?_); rintro e w4 ⟨rfl, hb, hw, hk⟩; have H4 := Lib.hid ((HB.out _).on hb hw hk).laid; clear hb hw hk)
    go_end0
    exact ⟨rfl, H4.out⟩
set_option maxHeartbeats 8000000 in
theorem p_ldImmB (h : BuAt B S W bb L bg op) (hn : L.length ≤ 100000000) {c : Int} (hc : c = 0 ∨ c = 1) (jt jf : Nat) (k : BitVec 32) (d : Int) :
    Calls Tryz.prog 65 #[.pointer (some ⟨bb, 0, none⟩), insV ⟨c, jt, jf, k⟩, .int .i64 d] W (LaidP B S bb (L ++ [irC d k]) bg op W) := by
  have HB := Lib.hid ((h.boxed (inB c jt jf k)).drew 1)
  have HC := Lib.hid (fun V (h : BuAt B (SwB S W) V bb L bg op) => p_constB h (by omega) d k)
  clear h
  unfold LaidP at HC ⊢
  rcases hc with rfl | rfl <;>
  · go_enter Tryz.func65, Tryz.ntmps65
    go_wp2
    refine wp_region_held_drew (S := fun W' => W'.heap[W.heap.size]? = some (inB _ jt jf k)) (by kernel_rfl) HB.out.box (fun hHeld => ?_)
    have HB' := HB.out
    clear HB
    change BoxB B S W _ (W.alloc (inB _ jt jf k)).drew bb L bg op at HB'
    generalize (W.alloc (inB _ jt jf k)).drew = Y at HB' hHeld ⊢
    refine wpAnyH_take (i := 0) (v := ?_) rfl (by kernel_rfl) (by kernel_rfl) (by kernel_rfl) (fun _ _ _ h => h) (Or.inl ⟨by rfl, ?_⟩) (by assumption) ?_
    rotate_left
    · intro wS hSw
      (have d3 := cellM hSw 3 rfl)
      go_simp
      all_goals with_reducible rfl
    (try simp only [List.getElem_toArray, List.getElem_cons_zero, List.getElem_cons_succ, Act.put, List.setIfInBounds_toArray, List.set_cons_zero, List.set_cons_succ])
    refine wpAnyH_take (i := 1) (v := ?_) rfl (by kernel_rfl) (by kernel_rfl) (by kernel_rfl) (fun _ _ _ h => h) (Or.inl ⟨by rfl, ?_⟩) (by assumption) ?_
    rotate_left
    · intro wS hSw
      (have d3 := cellM hSw 3 rfl)
      go_simp
      all_goals with_reducible rfl
    (try simp only [List.getElem_toArray, List.getElem_cons_zero, List.getElem_cons_succ, Act.put, List.setIfInBounds_toArray, List.set_cons_zero, List.set_cons_succ])
    refine wpAnyH_take (i := 2) (v := ?_) rfl (by kernel_rfl) (by kernel_rfl) (by kernel_rfl) (fun _ _ _ h => h) (Or.inl ⟨by rfl, ?_⟩) (by assumption) ?_
    rotate_left
    · intro wS hSw
      (have d3 := cellM hSw 3 rfl)
      go_simp
      all_goals with_reducible rfl
    (try simp only [List.getElem_toArray, List.getElem_cons_zero, List.getElem_cons_succ, Act.put, List.setIfInBounds_toArray, List.set_cons_zero, List.set_cons_succ])
    refine wpAnyH_take (i := 3) (v := ?_) rfl (by kernel_rfl) (by kernel_rfl) (by kernel_rfl) (fun _ _ _ h => h) (Or.inl ⟨by rfl, ?_⟩) (by assumption) ?_
    rotate_left
    · intro wS hSw
      (have d3 := cellM hSw 3 rfl)
      go_simp
      all_goals with_reducible rfl
    (try simp only [List.getElem_toArray, List.getElem_cons_zero, List.getElem_cons_succ, Act.put, List.setIfInBounds_toArray, List.set_cons_zero, List.set_cons_succ])
    refine wpAnyH_take (i := 4) (v := ?_) rfl (by kernel_rfl) (by kernel_rfl) (by kernel_rfl) (fun _ _ _ h => h) (Or.inl ⟨by rfl, ?_⟩) (by assumption) ?_
    rotate_left
    · intro wS hSw
      (have d3 := cellM hSw 3 rfl)
      go_simp
      all_goals with_reducible rfl
    (try simp only [List.getElem_toArray, List.getElem_cons_zero, List.getElem_cons_succ, Act.put, List.setIfInBounds_toArray, List.set_cons_zero, List.set_cons_succ])
    refine wpAnyH_take (i := 5) (v := ?_) rfl (by kernel_rfl) (by kernel_rfl) (by kernel_rfl) (fun _ _ _ h => h) (Or.inl ⟨by rfl, ?_⟩) (by assumption) ?_
    rotate_left
    · intro wS hSw
      (have d3 := cellM hSw 3 rfl)
      go_simp
      all_goals with_reducible rfl
    (try simp only [List.getElem_toArray, List.getElem_cons_zero, List.getElem_cons_succ, Act.put, List.setIfInBounds_toArray, List.set_cons_zero, List.set_cons_succ])
    refine held_one (i := 6) (by kernel_rfl) rfl (fun K hK => ?_)
    go_simp
    go_at_call 112
    refine (HC.out _ HB'.at_).mono ?_
    rintro e w3 ⟨rfl, hb, hw, hk⟩
    have H3 := Lib.hid (HB'.on hb hw hk)
    clear hb hw hk HB'
    refine hK.out _ _ H3.out.box (fun hH3 => ?_)
    clear hK K hHeld
    (try simp only [Act.put, List.setIfInBounds_toArray, List.set_cons_zero, List.set_cons_succ, List.getElem_toArray, List.getElem_cons_zero, List.getElem_cons_succ])
    refine wpAnyH_done (by kernel_rfl) ?_ _
    go_wp2
    go_end0
    exact ⟨rfl, H3.out.laid⟩
set_option maxHeartbeats 8000000 in
theorem p_ldMemB (h : BuAt B S W bb L bg op) (hn : L.length ≤ 100000000) {c : Int} (hc : c = 96 ∨ c = 97) (jt jf : Nat) (k : BitVec 32) (d : Int) :
    Calls Tryz.prog 65 #[.pointer (some ⟨bb, 0, none⟩), insV ⟨c, jt, jf, k⟩, .int .i64 d] W (LaidP B S bb (L ++ [irMv d ((3 + k.toNat : Nat) : Int)]) bg op W) := by
  have HB := Lib.hid ((h.boxed (inB c jt jf k)).drew 1)
  have HC := Lib.hid (fun V (h : BuAt B (SwB S W) V bb L bg op) => p_moveB h (by omega) d ((3 + k.toNat : Nat) : Int))
  have HS := Lib.hid (fun V => p_scratch k V)
  clear h
  unfold LaidP at HC ⊢
  generalize ((3 + k.toNat : Nat) : Int) = z at HC HS ⊢
  rcases hc with rfl | rfl <;>
  · go_enter Tryz.func65, Tryz.ntmps65
    go_wp2
    refine wp_region_held_drew (S := fun W' => W'.heap[W.heap.size]? = some (inB _ jt jf k)) (by kernel_rfl) HB.out.box (fun hHeld => ?_)
    have HB' := HB.out
    clear HB
    change BoxB B S W _ (W.alloc (inB _ jt jf k)).drew bb L bg op at HB'
    generalize (W.alloc (inB _ jt jf k)).drew = Y at HB' hHeld ⊢
    refine wpAnyH_take (i := 0) (v := ?_) rfl (by kernel_rfl) (by kernel_rfl) (by kernel_rfl) (fun _ _ _ h => h) (Or.inl ⟨by rfl, ?_⟩) (by assumption) ?_
    rotate_left
    · intro wS hSw
      (have d3 := cellM hSw 3 rfl)
      go_simp
      all_goals with_reducible rfl
    (try simp only [List.getElem_toArray, List.getElem_cons_zero, List.getElem_cons_succ, Act.put, List.setIfInBounds_toArray, List.set_cons_zero, List.set_cons_succ])
    refine wpAnyH_take (i := 1) (v := ?_) rfl (by kernel_rfl) (by kernel_rfl) (by kernel_rfl) (fun _ _ _ h => h) (Or.inl ⟨by rfl, ?_⟩) (by assumption) ?_
    rotate_left
    · intro wS hSw
      (have d3 := cellM hSw 3 rfl)
      go_simp
      all_goals with_reducible rfl
    (try simp only [List.getElem_toArray, List.getElem_cons_zero, List.getElem_cons_succ, Act.put, List.setIfInBounds_toArray, List.set_cons_zero, List.set_cons_succ])
    refine wpAnyH_take (i := 2) (v := ?_) rfl (by kernel_rfl) (by kernel_rfl) (by kernel_rfl) (fun _ _ _ h => h) (Or.inl ⟨by rfl, ?_⟩) (by assumption) ?_
    rotate_left
    · intro wS hSw
      (have d3 := cellM hSw 3 rfl)
      go_simp
      all_goals with_reducible rfl
    (try simp only [List.getElem_toArray, List.getElem_cons_zero, List.getElem_cons_succ, Act.put, List.setIfInBounds_toArray, List.set_cons_zero, List.set_cons_succ])
    refine wpAnyH_take (i := 3) (v := ?_) rfl (by kernel_rfl) (by kernel_rfl) (by kernel_rfl) (fun _ _ _ h => h) (Or.inl ⟨by rfl, ?_⟩) (by assumption) ?_
    rotate_left
    · intro wS hSw
      (have d3 := cellM hSw 3 rfl)
      go_simp
      all_goals with_reducible rfl
    (try simp only [List.getElem_toArray, List.getElem_cons_zero, List.getElem_cons_succ, Act.put, List.setIfInBounds_toArray, List.set_cons_zero, List.set_cons_succ])
    refine wpAnyH_take (i := 4) (v := ?_) rfl (by kernel_rfl) (by kernel_rfl) (by kernel_rfl) (fun _ _ _ h => h) (Or.inl ⟨by rfl, ?_⟩) (by assumption) ?_
    rotate_left
    · intro wS hSw
      (have d3 := cellM hSw 3 rfl)
      go_simp
      all_goals with_reducible rfl
    (try simp only [List.getElem_toArray, List.getElem_cons_zero, List.getElem_cons_succ, Act.put, List.setIfInBounds_toArray, List.set_cons_zero, List.set_cons_succ])
    refine wpAnyH_take (i := 5) (v := ?_) rfl (by kernel_rfl) (by kernel_rfl) (by kernel_rfl) (fun _ _ _ h => h) (Or.inl ⟨by rfl, ?_⟩) (by assumption) ?_
    rotate_left
    · intro wS hSw
      (have d3 := cellM hSw 3 rfl)
      go_simp
      all_goals with_reducible rfl
    (try simp only [List.getElem_toArray, List.getElem_cons_zero, List.getElem_cons_succ, Act.put, List.setIfInBounds_toArray, List.set_cons_zero, List.set_cons_succ])
    refine held_one (i := 6) (by kernel_rfl) rfl (fun K hK => ?_)
    go_simp
    go_at_call 67
    refine (HS.out _).mono ?_
    rintro e w2 ⟨rfl, rfl⟩
    refine hK.out _ _ HB'.box (fun hH2 => ?_)
    clear hK K hHeld
    (try simp only [Act.put, List.setIfInBounds_toArray, List.set_cons_zero, List.set_cons_succ, List.getElem_toArray, List.getElem_cons_zero, List.getElem_cons_succ])
    refine held_one (i := 7) (by kernel_rfl) rfl (fun K hK => ?_)
    go_simp
    go_at_call 66
    refine (HC.out _ HB'.at_).mono ?_
    rintro e w3 ⟨rfl, hb, hw, hk⟩
    have H3 := Lib.hid (HB'.on hb hw hk)
    clear hb hw hk HB'
    refine hK.out _ _ H3.out.box (fun hH3 => ?_)
    clear hK K hH2
    (try simp only [Act.put, List.setIfInBounds_toArray, List.set_cons_zero, List.set_cons_succ, List.getElem_toArray, List.getElem_cons_zero, List.getElem_cons_succ])
    refine wpAnyH_done (by kernel_rfl) ?_ _
    go_wp2
    go_end0
    exact ⟨rfl, H3.out.laid⟩
set_option maxHeartbeats 8000000 in
theorem p_ldAbsB (h : BuAt B S W bb L bg op) (hn : L.length ≤ 100000000) {c : Int} (hc : c = 32 ∨ c = 32) (jt jf : Nat) (k : BitVec 32) (d : Int) :
    Calls Tryz.prog 65 #[.pointer (some ⟨bb, 0, none⟩), insV ⟨c, jt, jf, k⟩, .int .i64 d] W (LaidP B S bb (L ++ [⟨3, d, 0, 0, k, 0, 0⟩]) bg op W) := by
  have HB := Lib.hid ((h.boxed (inB c jt jf k)).drew 1)
  have HC := Lib.hid (fun V (h : BuAt B (SwB S W) V bb L bg op) => p_layL h (by omega) ⟨3, d, 0, 0, k, 0, 0⟩)
  clear h
  unfold LaidP at HC ⊢
  rcases hc with rfl | rfl <;>
  · go_enter Tryz.func65, Tryz.ntmps65
    go_wp2
    refine wp_region_held_drew (S := fun W' => W'.heap[W.heap.size]? = some (inB _ jt jf k)) (by kernel_rfl) HB.out.box (fun hHeld => ?_)
    have HB' := HB.out
    clear HB
    change BoxB B S W _ (W.alloc (inB _ jt jf k)).drew bb L bg op at HB'
    generalize (W.alloc (inB _ jt jf k)).drew = Y at HB' hHeld ⊢
    refine wpAnyH_take (i := 0) (v := ?_) rfl (by kernel_rfl) (by kernel_rfl) (by kernel_rfl) (fun _ _ _ h => h) (Or.inl ⟨by rfl, ?_⟩) (by assumption) ?_
    rotate_left
    · intro wS hSw
      (have d3 := cellM hSw 3 rfl)
      go_simp
      all_goals with_reducible rfl
    (try simp only [List.getElem_toArray, List.getElem_cons_zero, List.getElem_cons_succ, Act.put, List.setIfInBounds_toArray, List.set_cons_zero, List.set_cons_succ])
    refine wpAnyH_take (i := 1) (v := ?_) rfl (by kernel_rfl) (by kernel_rfl) (by kernel_rfl) (fun _ _ _ h => h) (Or.inl ⟨by rfl, ?_⟩) (by assumption) ?_
    rotate_left
    · intro wS hSw
      (have d3 := cellM hSw 3 rfl)
      go_simp
      all_goals with_reducible rfl
    (try simp only [List.getElem_toArray, List.getElem_cons_zero, List.getElem_cons_succ, Act.put, List.setIfInBounds_toArray, List.set_cons_zero, List.set_cons_succ])
    refine wpAnyH_take (i := 2) (v := ?_) rfl (by kernel_rfl) (by kernel_rfl) (by kernel_rfl) (fun _ _ _ h => h) (Or.inl ⟨by rfl, ?_⟩) (by assumption) ?_
    rotate_left
    · intro wS hSw
      (have d3 := cellM hSw 3 rfl)
      go_simp
      all_goals with_reducible rfl
    (try simp only [List.getElem_toArray, List.getElem_cons_zero, List.getElem_cons_succ, Act.put, List.setIfInBounds_toArray, List.set_cons_zero, List.set_cons_succ])
    refine wpAnyH_take (i := 3) (v := ?_) rfl (by kernel_rfl) (by kernel_rfl) (by kernel_rfl) (fun _ _ _ h => h) (Or.inl ⟨by rfl, ?_⟩) (by assumption) ?_
    rotate_left
    · intro wS hSw
      (have d3 := cellM hSw 3 rfl)
      go_simp
      all_goals with_reducible rfl
    (try simp only [List.getElem_toArray, List.getElem_cons_zero, List.getElem_cons_succ, Act.put, List.setIfInBounds_toArray, List.set_cons_zero, List.set_cons_succ])
    refine wpAnyH_take (i := 4) (v := ?_) rfl (by kernel_rfl) (by kernel_rfl) (by kernel_rfl) (fun _ _ _ h => h) (Or.inl ⟨by rfl, ?_⟩) (by assumption) ?_
    rotate_left
    · intro wS hSw
      (have d3 := cellM hSw 3 rfl)
      go_simp
      all_goals with_reducible rfl
    (try simp only [List.getElem_toArray, List.getElem_cons_zero, List.getElem_cons_succ, Act.put, List.setIfInBounds_toArray, List.set_cons_zero, List.set_cons_succ])
    refine wpAnyH_take (i := 5) (v := ?_) rfl (by kernel_rfl) (by kernel_rfl) (by kernel_rfl) (fun _ _ _ h => h) (Or.inl ⟨by rfl, ?_⟩) (by assumption) ?_
    rotate_left
    · intro wS hSw
      (have d3 := cellM hSw 3 rfl)
      go_simp
      all_goals with_reducible rfl
    (try simp only [List.getElem_toArray, List.getElem_cons_zero, List.getElem_cons_succ, Act.put, List.setIfInBounds_toArray, List.set_cons_zero, List.set_cons_succ])
    refine wpAnyH_take (i := 6) (v := ?_) rfl (by kernel_rfl) (by kernel_rfl) (by kernel_rfl) (fun _ _ _ h => h) (Or.inl ⟨by rfl, ?_⟩) (by assumption) ?_
    rotate_left
    · intro wS hSw
      (have d3 := cellM hSw 3 rfl)
      go_simp
      all_goals with_reducible rfl
    (try simp only [List.getElem_toArray, List.getElem_cons_zero, List.getElem_cons_succ, Act.put, List.setIfInBounds_toArray, List.set_cons_zero, List.set_cons_succ])
    refine held_one (i := 7) (by kernel_rfl) rfl (fun K hK => ?_)
    go_simp
    go_at_call 111
    refine (HC.out _ HB'.at_).mono ?_
    rintro e w3 ⟨rfl, hb, hw, hk⟩
    have H3 := Lib.hid (HB'.on hb hw hk)
    clear hb hw hk HB'
    refine hK.out _ _ H3.out.box (fun hH3 => ?_)
    clear hK K hHeld
    (try simp only [Act.put, List.setIfInBounds_toArray, List.set_cons_zero, List.set_cons_succ, List.getElem_toArray, List.getElem_cons_zero, List.getElem_cons_succ])
    refine wpAnyH_done (by kernel_rfl) ?_ _
    go_wp2
    go_end0
    exact ⟨rfl, H3.out.laid⟩
end
end Go.Proofs.YtoajommeiocfpaaGreat
namespace Go.Proofs.YtoajommeiocfpaaGreat
open Go
set_option linter.unusedSimpArgs false
set_option linter.unusedVariables false

/-- An instruction with its targets told. -/
def fixI (bg : Nat → Nat) (x : Irx) : Irx := ⟨x.op, x.d, x.a, x.b, x.k, (bg x.t.toNat : Int), (bg x.f.toNat : Int)⟩
def settleN (bg : Nat → Nat) : List Irx → List Int → List Irx
  | L, [] => L
  | L, z :: r => settleN bg (L.set z.toNat (fixI bg (L.getD z.toNat irZ))) r
theorem settle_len (bg : Nat → Nat) : ∀ (op : List Int) (L : List Irx), (settleN bg L op).length = L.length
  | [], L => rfl
  | z :: r, L => by rw [settleN, settle_len bg r, List.length_set]
theorem settle_app (bg : Nat → Nat) (op2 : List Int) : ∀ (op : List Int) (L : List Irx), settleN bg L (op ++ op2) = settleN bg (settleN bg L op) op2
  | [], L => rfl
  | z :: r, L => by rw [List.cons_append, settleN, settle_app bg op2 r]; rfl
theorem settle_out (bg : Nat → Nat) : ∀ (op : List Int) (L : List Irx) (k : Nat), (∀ z ∈ op, z.toNat ≠ k) → (settleN bg L op).getD k irZ = L.getD k irZ
  | [], L, k, _ => rfl
  | z :: r, L, k, h => by
    rw [settleN, settle_out bg r _ k (fun y hy => h y (List.mem_cons_of_mem _ hy))]
    have := h z (List.mem_cons_self ..)
    simp only [List.getD_eq_getElem?_getD, List.getElem?_set_ne this]
/-- The place that an instruction leaves open, if what is made of it begins at b. -/
def openT (x : Ins) (b : Nat) : List Int := if jumpC x.code = true then (if usesX x.code = true then [(b : Int)] else [((b + 1 : Nat) : Int)]) else if x.code = 5 then [(b : Int)] else []
def listO (q : Nat → Ins) : Nat → List Int
  | 0 => []
  | i + 1 => listO q i ++ openT (q i) (begN q i)
/-- The program's places are targets as long as all is not laid. -/
abbrev rawT (q : Nat → Ins) (n : Nat) : List Irx := listT q (fun k => k) n
theorem set_mid {P R : List Irx} {a y : Irx} {b : Nat} (h : P.length = b) : (P ++ (a :: R)).set b y = P ++ (y :: R) := by
  subst h
  rw [List.set_append_right _ _ (Nat.le_refl _), Nat.sub_self]; rfl
theorem get_mid {P R : List Irx} {a : Irx} {b : Nat} (h : P.length = b) : (P ++ (a :: R)).getD b irZ = a := by
  subst h
  rw [List.getD_eq_getElem?_getD, List.getElem?_append_right (Nat.le_refl _), Nat.sub_self]; rfl
theorem settle_one {P R : List Irx} {a : Irx} {b : Nat} (bg : Nat → Nat) (h : P.length = b) : settleN bg (P ++ (a :: R)) [(b : Int)] = P ++ (fixI bg a :: R) := by
  rw [settleN, settleN, Int.toNat_natCast, get_mid h, set_mid h]
theorem settle_two {P R : List Irx} {c a : Irx} {b : Nat} (bg : Nat → Nat) (h : P.length = b) : settleN bg (P ++ (c :: a :: R)) [((b + 1 : Nat) : Int)] = P ++ (c :: fixI bg a :: R) := by
  have := settle_one (P := P ++ [c]) (R := R) (a := a) (b := b + 1) bg (by rw [List.length_append, h]; rfl)
  rw [List.append_assoc, List.append_assoc] at this
  exact this
theorem not_alu_jump {c : Int} (h : jumpC c = true) : aluC c = false ∧ c ≠ 60 := by
  have : c = 21 ∨ c = 37 ∨ c = 53 ∨ c = 69 ∨ c = 29 ∨ c = 45 ∨ c = 61 ∨ c = 77 := by simpa [jumpC, jumpL] using h
  rcases this with rfl | rfl | rfl | rfl | rfl | rfl | rfl | rfl <;> exact ⟨by decide, by decide⟩
theorem trans_jump (beg : Nat → Nat) {c : Int} (hj : jumpC c = true) (jt jf : Nat) (k : BitVec 32) (i b : Nat) : transI beg ⟨c, jt, jf, k⟩ i b = if usesX c = true then [⟨testOpN c, 0, 0, 1, 0#32, (beg (i + 1 + jt) : Int), (beg (i + 1 + jf) : Int)⟩] else [irC 2 k, ⟨testOpN c, 0, 0, 2, 0#32, (beg (i + 1 + jt) : Int), (beg (i + 1 + jf) : Int)⟩] := by
  unfold transI
  simp only
  rw [if_neg (not_alu_jump hj).2, if_neg (by rw [(not_alu_jump hj).1]; decide), if_pos hj]
theorem trans_plain (beg beg' : Nat → Nat) {x : Ins} (hj : ¬ jumpC x.code = true) (h5 : ¬ x.code = 5) (i b : Nat) : transI beg x i b = transI beg' x i b := by
  unfold transI
  rw [if_neg hj, if_neg h5, if_neg hj, if_neg h5]
theorem settle_ins (q : Nat → Ins) (x : Ins) (i b : Nat) {P : List Irx} (R : List Irx) (h : P.length = b) : settleN (begN q) (P ++ (transI (fun k => k) x i b ++ R)) (openT x b) = P ++ (transI (begN q) x i b ++ R) := by
  obtain ⟨c, jt, jf, k⟩ := x
  by_cases hj : jumpC c = true
  · rw [trans_jump _ hj, trans_jump _ hj]
    unfold openT
    simp only
    rw [if_pos hj]
    by_cases hu : usesX c = true
    · rw [if_pos hu, if_pos hu, if_pos hu]
      exact (settle_one _ h)
    · rw [if_neg hu, if_neg hu, if_neg hu]
      exact (settle_two _ h)
  by_cases h5 : c = 5
  · subst h5
    exact settle_one (R := R) (a := ⟨14, 0, 0, 0, 0#32, ((i + 1 + k.toNat : Nat) : Int), 0⟩) _ h
  have ho : openT ⟨c, jt, jf, k⟩ b = [] := by unfold openT; rw [if_neg hj, if_neg h5]
  rw [ho, settleN, trans_plain (fun k => k) (begN q) hj h5]
theorem settle_all (q : Nat → Ins) : ∀ (n : Nat) (R : List Irx), settleN (begN q) (rawT q n ++ R) (listO q n) = listT q (begN q) n ++ R
  | 0, R => rfl
  | n + 1, R => by
    show settleN (begN q) (listT q (fun k => k) n ++ transI (fun k => k) (q n) n (begN q n) ++ R) (listO q n ++ openT (q n) (begN q n)) = listT q (begN q) n ++ transI (begN q) (q n) n (begN q n) ++ R
    rw [settle_app, List.append_assoc, settle_all q n, settle_ins q (q n) n (begN q n) R (list_len q _ n), List.append_assoc]
theorem settle_whole (q : Nat → Ins) (n : Nat) : settleN (begN q) (rawT q n) (listO q n) = listT q (begN q) n := by
  have := settle_all q n []
  rwa [List.append_nil, List.append_nil] at this
theorem open_lt (q : Nat → Ins) : ∀ {n : Nat} {z : Int}, z ∈ listO q n → ∃ i j, i < n ∧ j < lenT (q i) ∧ z = ((begN q i + j : Nat) : Int) ∧ openT (q i) (begN q i) = [z]
  | 0, z, h => absurd h (by simp [listO])
  | n + 1, z, h => by
    rcases List.mem_append.1 h with g | g
    · obtain ⟨i, j, h1, h2⟩ := open_lt q g
      exact ⟨i, j, by omega, h2⟩
    · generalize hx : q n = x at g
      obtain ⟨c, jt, jf, k⟩ := x
      have hg := g
      unfold openT at g
      simp only at g
      have h1 := (len_pos (q n)).1
      by_cases hj : jumpC c = true
      · rw [if_pos hj] at g
        by_cases hu : usesX c = true
        · rw [if_pos hu] at g
          obtain rfl := List.mem_singleton.1 g
          exact ⟨n, 0, by omega, h1, rfl, by rw [hx]; unfold openT; rw [if_pos hj, if_pos hu]⟩
        · rw [if_neg hu] at g
          obtain rfl := List.mem_singleton.1 g
          refine ⟨n, 1, by omega, ?_, rfl, by rw [hx]; unfold openT; rw [if_pos hj, if_neg hu]⟩
          rw [hx, lenT, trans_jump _ hj, if_neg hu]
          exact Nat.lt_succ_self 1
      · rw [if_neg hj] at g
        by_cases h5 : c = 5
        · rw [if_pos h5] at g
          obtain rfl := List.mem_singleton.1 g
          exact ⟨n, 0, by omega, h1, rfl, by rw [hx]; unfold openT; rw [if_neg hj, if_pos h5]⟩
        · rw [if_neg h5] at g
          exact absurd g (by simp)
theorem open_up (q : Nat → Ins) : ∀ n, (listO q n).Pairwise (· < ·)
  | 0 => List.Pairwise.nil
  | n + 1 => by
    refine List.pairwise_append.2 ⟨open_up q n, ?_, fun y hy z hz => ?_⟩
    · unfold openT
      repeat' split
      all_goals first | exact List.pairwise_singleton _ _ | exact List.Pairwise.nil
    · obtain ⟨i, j, h1, h2, rfl, _⟩ := open_lt q hy
      have := beg_up q (i := i + 1) (j := n) (by omega)
      have e : begN q (i + 1) = begN q i + lenT (q i) := rfl
      unfold openT at hz
      have : (begN q n : Int) ≤ z := by
        repeat' split at hz
        all_goals first | (have := List.mem_singleton.1 hz; omega) | exact absurd hz (by simp)
      omega
/-- What is left open leads to places of the program. -/
theorem open_fine (q : Nat → Ins) {n N : Nat} (hO : ∀ i, i < n → (jumpC (q i).code = true → i + 1 + (q i).jt < N ∧ i + 1 + (q i).jf < N) ∧ ((q i).code = 5 → i + 1 + (q i).k.toNat < N)) {z : Int} (hz : z ∈ listO q n) :
    ∃ (o d a b : Int) (k : BitVec 32) (t f : Nat), z.toNat < (rawT q n).length ∧ 0 ≤ z ∧ (rawT q n).getD z.toNat irZ = ⟨o, d, a, b, k, (t : Int), (f : Int)⟩ ∧ t < N ∧ f < N := by
  obtain ⟨i, j, hi, hj, rfl, ho⟩ := open_lt q hz
  have hlen := list_len q (fun k => k) n
  have h1 := beg_up q (i := i + 1) (j := n) (by omega)
  have e : begN q (i + 1) = begN q i + lenT (q i) := rfl
  have hat := list_at q (fun k => k) hj hi
  obtain ⟨hJ, hA⟩ := hO i hi
  have hg : (rawT q n).getD ((begN q i + j : Nat) : Int).toNat irZ = ((transI (fun k => k) (q i) i (begN q i))[j]?).getD irZ := by
    rw [Int.toNat_natCast, List.getD_eq_getElem?_getD]
    exact congrArg (·.getD irZ) hat
  have hb : ((begN q i + j : Nat) : Int).toNat < (rawT q n).length := by rw [Int.toNat_natCast]; show _ < (listT q (fun k => k) n).length; omega
  generalize hx : q i = x at *
  obtain ⟨c, jt, jf, k⟩ := x
  unfold openT at ho
  simp only at ho hJ hA
  by_cases hj' : jumpC c = true
  · have hJ' := hJ hj'
    rw [if_pos hj'] at ho
    rw [trans_jump _ hj'] at hg
    by_cases hu : usesX c = true
    · rw [if_pos hu] at ho hg
      obtain rfl : j = 0 := by have := List.cons.inj ho; omega
      exact ⟨_, _, _, _, _, _, _, hb, by omega, hg, hJ'.1, hJ'.2⟩
    · rw [if_neg hu] at ho hg
      obtain rfl : j = 1 := by have := List.cons.inj ho; omega
      exact ⟨_, _, _, _, _, _, _, hb, by omega, hg, hJ'.1, hJ'.2⟩
  · rw [if_neg hj'] at ho
    by_cases h5 : c = 5
    · subst h5
      rw [if_pos rfl] at ho
      obtain rfl : j = 0 := by have := List.cons.inj ho; omega
      exact ⟨14, 0, 0, 0, 0#32, i + 1 + k.toNat, 0, hb, by omega, hg, hA rfl, by have := hA rfl; omega⟩
    · rw [if_neg h5] at ho
      exact absurd ho (by simp)
theorem open_len (q : Nat → Ins) : ∀ n, (listO q n).length ≤ n
  | 0 => Nat.le_refl _
  | n + 1 => by
    have := open_len q n
    rw [listO, List.length_append]
    have : (openT (q n) (begN q n)).length ≤ 1 := by
      unfold openT
      repeat' split
      all_goals simp
    omega
/-- Where places begin. -/
def listB (q : Nat → Ins) : Nat → List Int
  | 0 => []
  | i + 1 => listB q i ++ [(begN q i : Int)]
theorem listB_len (q : Nat → Ins) : ∀ n, (listB q n).length = n
  | 0 => rfl
  | n + 1 => by rw [listB, List.length_append, listB_len q n]; rfl
theorem listB_get (q : Nat → Ins) : ∀ {n i : Nat}, i < n → (listB q n)[i]? = some (begN q i : Int)
  | 0, i, h => absurd h (by omega)
  | n + 1, i, h => by
    rw [listB]
    rcases Nat.lt_or_ge i n with g | g
    · rw [List.getElem?_append_left (by rw [listB_len]; exact g)]; exact listB_get q g
    · obtain rfl : i = n := by omega
      rw [List.getElem?_append_right (by rw [listB_len]; exact Nat.le_refl _), listB_len, Nat.sub_self]; rfl
end Go.Proofs.YtoajommeiocfpaaGreat
namespace Go.Proofs.YtoajommeiocfpaaGreat
open Go Go.RowKit
set_option linter.unusedSimpArgs false
set_option linter.unusedVariables false
set_option maxRecDepth 100000
section
variable {B : Nat} {S : Nat → Prop} {W : World} {bb : Nat} {L : List Irx} {bg op : List Int}
/-- What tells where an operand lives. -/
def OpdP (B : Nat) (S : Nat → Prop) (bb : Nat) (b : Int) (L : List Irx) (bg op : List Int) (W : World) (e : Ending) (w' : World) : Prop := e = .returned (.int .i64 b) ∧ BuAt B S w' bb L bg op ∧ Below B W w' ∧ ∀ k, S k → w'.heap[k]? = W.heap[k]?
set_option maxHeartbeats 8000000 in
theorem p_compNeg (h : BuAt B S W bb L bg op) (hn : L.length ≤ 100000000) (jt jf : Nat) (k : BitVec 32) :
    Calls Tryz.prog 68 #[.pointer (some ⟨bb, 0, none⟩), insV ⟨132, jt, jf, k⟩] W (LaidP B S bb (L ++ [⟨13, 0, 0, 0, 0#32, 0, 0⟩]) bg op W) := by
  have HB := Lib.hid (h.boxed (inB 132 jt jf k))
  have HL : Hid (∀ V, BuAt B (SwB S W) V bb L bg op → Calls Tryz.prog 111 #[.pointer (some ⟨bb, 0, none⟩), .agg #[.int .i64 13, .int .i64 0, .int .i64 0, .int .i64 0, .int .u32 0, .int .i64 0, .int .i64 0]] V (LaidP B (SwB S W) bb (L ++ [⟨13, 0, 0, 0, 0#32, 0, 0⟩]) bg op V)) := Lib.hid fun V h => by
    have := p_layL h (by omega) ⟨13, 0, 0, 0, 0#32, 0, 0⟩
    exact this
  clear h
  unfold LaidP at HL ⊢
  go_enter Tryz.func68, Tryz.ntmps68
  go_wp2_with (go_at_call 111; (with_reducible refine (HL.out _ HB.out.at_).mono ?_); rintro e w4 ⟨rfl, hb, hw, hk⟩; have H4 := Lib.hid (HB.out.on hb hw hk).laid; clear hb hw hk)
  (try simp only [Exit.inBlock, Exit.then])
  refine bodyPost_ret (results_none rfl _ _ _) rfl ?_
  exact ⟨rfl, H4.out⟩
set_option maxHeartbeats 8000000 in
theorem p_compG (h : BuAt B S W bb L bg op) {c : Int} (hc : aluC c = true) (h60 : ¬ c = 60) (jt jf : Nat) (k : BitVec 32) (b : Int) (L' : List Irx) (hl : L'.length ≤ 100000000)
    (HO : ∀ V, BuAt B (SwB S W) V bb L bg op → Calls Tryz.prog 114 #[.pointer (some ⟨bb, 0, none⟩), insV ⟨c, jt, jf, k⟩] V (OpdP B (SwB S W) bb b L' bg op V)) :
    Calls Tryz.prog 68 #[.pointer (some ⟨bb, 0, none⟩), insV ⟨c, jt, jf, k⟩] W (LaidP B S bb (L' ++ [⟨numOpN c, 0, 0, b, 0#32, 0, 0⟩]) bg op W) := by
  have HB := Lib.hid (h.boxed (inB c jt jf k))
  have HO := Lib.hid HO
  have HN := Lib.hid (fun V => p_numberOp hc V)
  have HL := Lib.hid (fun V (h : BuAt B (SwB S W) V bb L' bg op) => p_layL h (by omega) ⟨numOpN c, 0, 0, b, 0#32, 0, 0⟩)
  have b1 : (c == 132) = false := beq_false_of_ne (fun e => by subst e; revert hc; decide)
  have b2 : (c == 60) = false := beq_false_of_ne h60
  clear h h60 hc
  unfold OpdP at HO
  unfold LaidP at HL ⊢
  generalize numOpN c = z at HN HL ⊢
  go_enter Tryz.func68, Tryz.ntmps68
  go_wp2_with (go_at_call 114; (with_reducible refine (HO.out _ HB.out.at_).mono ?_); rintro e w1 ⟨rfl, hb, hw, hk⟩; have H1 := Lib.hid (HB.out.on hb hw hk); clear hb hw hk)
  refine wp_region_held_drew (S := fun W' => W'.heap[W.heap.size]? = some (inB c jt jf k)) (by kernel_rfl) H1.out.box (fun hHeld => ?_)
  have HY : Hid (BoxB B S W (inB c jt jf k) w1.drew bb L' bg op) := Lib.hid (H1.out.drew 1)
  clear H1 HB
  generalize w1.drew = Y at HY hHeld ⊢
  refine wpAnyH_take (i := 0) (v := ?_) rfl (by kernel_rfl) (by kernel_rfl) (by kernel_rfl) (fun _ _ _ h => h) (Or.inl ⟨by rfl, ?_⟩) (by assumption) ?_
  rotate_left
  · intro wS hSw
    (have d0 := cellM hSw 0 rfl)
    go_simp
    all_goals with_reducible rfl
  (try simp only [List.getElem_toArray, List.getElem_cons_zero, List.getElem_cons_succ, Act.put, List.setIfInBounds_toArray, List.set_cons_zero, List.set_cons_succ])
  refine wpAnyH_take (i := 1) (v := ?_) rfl (by kernel_rfl) (by kernel_rfl) (by kernel_rfl) (fun _ _ _ h => h) (Or.inl ⟨by rfl, ?_⟩) (by assumption) ?_
  rotate_left
  · intro wS hSw
    (have d0 := cellM hSw 0 rfl)
    go_simp
    all_goals with_reducible rfl
  (try simp only [List.getElem_toArray, List.getElem_cons_zero, List.getElem_cons_succ, Act.put, List.setIfInBounds_toArray, List.set_cons_zero, List.set_cons_succ])
  refine wpAnyH_take (i := 2) (v := ?_) rfl (by kernel_rfl) (by kernel_rfl) (by kernel_rfl) (fun _ _ _ h => h) (Or.inl ⟨by rfl, ?_⟩) (by assumption) ?_
  rotate_left
  · intro wS hSw
    (have d0 := cellM hSw 0 rfl)
    go_simp
    all_goals with_reducible rfl
  (try simp only [List.getElem_toArray, List.getElem_cons_zero, List.getElem_cons_succ, Act.put, List.setIfInBounds_toArray, List.set_cons_zero, List.set_cons_succ])
  refine wpAnyH_take (i := 3) (v := ?_) rfl (by kernel_rfl) (by kernel_rfl) (by kernel_rfl) (fun _ _ _ h => h) (Or.inl ⟨by rfl, ?_⟩) (by assumption) ?_
  rotate_left
  · intro wS hSw
    (have d0 := cellM hSw 0 rfl)
    go_simp
    all_goals with_reducible rfl
  (try simp only [List.getElem_toArray, List.getElem_cons_zero, List.getElem_cons_succ, Act.put, List.setIfInBounds_toArray, List.set_cons_zero, List.set_cons_succ])
  refine wpAnyH_take (i := 4) (v := ?_) rfl (by kernel_rfl) (by kernel_rfl) (by kernel_rfl) (fun _ _ _ h => h) (Or.inl ⟨by rfl, ?_⟩) (by assumption) ?_
  rotate_left
  · intro wS hSw
    (have d0 := cellM hSw 0 rfl)
    go_simp
    all_goals with_reducible rfl
  (try simp only [List.getElem_toArray, List.getElem_cons_zero, List.getElem_cons_succ, Act.put, List.setIfInBounds_toArray, List.set_cons_zero, List.set_cons_succ])
  refine wpAnyH_take (i := 6) (v := ?_) rfl (by kernel_rfl) (by kernel_rfl) (by kernel_rfl) (fun _ _ _ h => h) (Or.inl ⟨by rfl, ?_⟩) (by assumption) ?_
  rotate_left
  · intro wS hSw
    (have d0 := cellM hSw 0 rfl)
    go_simp
    all_goals with_reducible rfl
  (try simp only [List.getElem_toArray, List.getElem_cons_zero, List.getElem_cons_succ, Act.put, List.setIfInBounds_toArray, List.set_cons_zero, List.set_cons_succ])
  refine held_one (i := 5) (by kernel_rfl) rfl (fun K hK => ?_)
  go_simp
  go_at_call 115
  refine (HN.out _).mono ?_
  rintro e w2 ⟨rfl, rfl⟩
  refine hK.out _ _ HY.out.box (fun hH2 => ?_)
  clear hK K hHeld
  (try simp only [Act.put, List.setIfInBounds_toArray, List.set_cons_zero, List.set_cons_succ, List.getElem_toArray, List.getElem_cons_zero, List.getElem_cons_succ])
  refine wpAnyH_take (i := 7) (v := ?_) rfl (by kernel_rfl) (by kernel_rfl) (by kernel_rfl) (fun _ _ _ h => h) (Or.inl ⟨by rfl, ?_⟩) (by assumption) ?_
  rotate_left
  · intro wS hSw
    (skip)
    go_simp
    all_goals with_reducible rfl
  (try simp only [List.getElem_toArray, List.getElem_cons_zero, List.getElem_cons_succ, Act.put, List.setIfInBounds_toArray, List.set_cons_zero, List.set_cons_succ])
  refine held_one (i := 8) (by kernel_rfl) rfl (fun K hK => ?_)
  go_simp
  go_at_call 111
  refine (HL.out _ HY.out.at_).mono ?_
  rintro e w3 ⟨rfl, hb, hw, hk⟩
  have H3 := Lib.hid (HY.out.on hb hw hk)
  clear hb hw hk HY
  refine hK.out _ _ H3.out.box (fun hH3 => ?_)
  clear hK K hH2
  (try simp only [Act.put, List.setIfInBounds_toArray, List.set_cons_zero, List.set_cons_succ, List.getElem_toArray, List.getElem_cons_zero, List.getElem_cons_succ])
  refine wpAnyH_done (by kernel_rfl) ?_ _
  go_wp2
  go_end0
  exact ⟨rfl, H3.out.laid⟩
set_option maxHeartbeats 8000000 in
theorem p_comp60 (h : BuAt B S W bb L bg op) (hn : L.length ≤ 10000000) (jt jf : Nat) (k : BitVec 32) :
    Calls Tryz.prog 68 #[.pointer (some ⟨bb, 0, none⟩), insV ⟨60, jt, jf, k⟩] W (LaidP B S bb (L ++ [irC 2 0#32, ⟨15, 0, 1, 2, 0#32, (L.length : Int) + 2, (L.length : Int) + 3⟩, irRet 2, ⟨7, 0, 0, 1, 0#32, 0, 0⟩]) bg op W) := by
  have HB := Lib.hid (h.boxed (inB 60 jt jf k))
  have HZ := Lib.hid (fun V (h : BuAt B (SwB S W) V bb L bg op) => p_endAtZeroB h (by omega))
  have eL : L ++ [irC 2 0#32, ⟨15, 0, 1, 2, 0#32, (L.length : Int) + 2, (L.length : Int) + 3⟩, irRet 2, ⟨7, 0, 0, 1, 0#32, 0, 0⟩] = (L ++ [irC 2 0#32, ⟨15, 0, 1, 2, 0#32, (L.length : Int) + 2, (L.length : Int) + 3⟩, irRet 2]) ++ [⟨7, 0, 0, 1, 0#32, 0, 0⟩] := by rw [List.append_assoc]; rfl
  have hl' : (L ++ [irC 2 0#32, ⟨15, 0, 1, 2, 0#32, (L.length : Int) + 2, (L.length : Int) + 3⟩, irRet 2]).length ≤ 100000000 := by rw [List.length_append]; simp; omega
  rw [eL]
  generalize L ++ [irC 2 0#32, ⟨15, 0, 1, 2, 0#32, (L.length : Int) + 2, (L.length : Int) + 3⟩, irRet 2] = L' at *
  have HO : Hid (∀ V, BuAt B (SwB S W) V bb L' bg op → Calls Tryz.prog 114 #[.pointer (some ⟨bb, 0, none⟩), insV ⟨60, jt, jf, k⟩] V (OpdP B (SwB S W) bb 1 L' bg op V)) := Lib.hid fun V h => p_operandX h (by omega) jt jf k
  have HN : Hid (∀ V, Calls Tryz.prog 115 #[.int .u16 60] V fun e w' => e = .returned (.int .i64 7) ∧ w' = V) := Lib.hid (fun V => p_numberOp (c := 60) (by decide) V)
  have HL := Lib.hid (fun V (h : BuAt B (SwB S W) V bb L' bg op) => p_layL h (by omega) ⟨7, 0, 0, 1, 0#32, 0, 0⟩)
  clear h eL
  unfold OpdP at HO
  unfold LaidP at HL HZ ⊢
  go_enter Tryz.func68, Tryz.ntmps68
  go_wp2_with (first
    | (go_at_call 113; (with_reducible refine (HZ.out _ HB.out.at_).mono ?_); rintro e w0 ⟨rfl, hb, hw, hk⟩; have H0 := Lib.hid (HB.out.on hb hw hk); clear hb hw hk; have d0 := cellM H0.out.box 0 rfl; have d1 := cellM H0.out.box 1 rfl; have d2 := cellM H0.out.box 2 rfl; have d3 := cellM H0.out.box 3 rfl)
    | (go_at_call 114; (with_reducible refine (HO.out _ H0.out.at_).mono ?_); rintro e w1 ⟨rfl, hb, hw, hk⟩; have H1 := Lib.hid (H0.out.on hb hw hk); clear hb hw hk d0 d1 d2 d3))
  refine wp_region_held_drew (S := fun W' => W'.heap[W.heap.size]? = some (inB 60 jt jf k)) (by kernel_rfl) H1.out.box (fun hHeld => ?_)
  have HY : Hid (BoxB B S W (inB 60 jt jf k) w1.drew bb L' bg op) := Lib.hid (H1.out.drew 1)
  clear H1 HB H0
  generalize w1.drew = Y at HY hHeld ⊢
  refine wpAnyH_take (i := 0) (v := ?_) rfl (by kernel_rfl) (by kernel_rfl) (by kernel_rfl) (fun _ _ _ h => h) (Or.inl ⟨by rfl, ?_⟩) (by assumption) ?_
  rotate_left
  · intro wS hSw
    (have d0 := cellM hSw 0 rfl)
    go_simp
    all_goals with_reducible rfl
  (try simp only [List.getElem_toArray, List.getElem_cons_zero, List.getElem_cons_succ, Act.put, List.setIfInBounds_toArray, List.set_cons_zero, List.set_cons_succ])
  refine wpAnyH_take (i := 1) (v := ?_) rfl (by kernel_rfl) (by kernel_rfl) (by kernel_rfl) (fun _ _ _ h => h) (Or.inl ⟨by rfl, ?_⟩) (by assumption) ?_
  rotate_left
  · intro wS hSw
    (have d0 := cellM hSw 0 rfl)
    go_simp
    all_goals with_reducible rfl
  (try simp only [List.getElem_toArray, List.getElem_cons_zero, List.getElem_cons_succ, Act.put, List.setIfInBounds_toArray, List.set_cons_zero, List.set_cons_succ])
  refine wpAnyH_take (i := 2) (v := ?_) rfl (by kernel_rfl) (by kernel_rfl) (by kernel_rfl) (fun _ _ _ h => h) (Or.inl ⟨by rfl, ?_⟩) (by assumption) ?_
  rotate_left
  · intro wS hSw
    (have d0 := cellM hSw 0 rfl)
    go_simp
    all_goals with_reducible rfl
  (try simp only [List.getElem_toArray, List.getElem_cons_zero, List.getElem_cons_succ, Act.put, List.setIfInBounds_toArray, List.set_cons_zero, List.set_cons_succ])
  refine wpAnyH_take (i := 3) (v := ?_) rfl (by kernel_rfl) (by kernel_rfl) (by kernel_rfl) (fun _ _ _ h => h) (Or.inl ⟨by rfl, ?_⟩) (by assumption) ?_
  rotate_left
  · intro wS hSw
    (have d0 := cellM hSw 0 rfl)
    go_simp
    all_goals with_reducible rfl
  (try simp only [List.getElem_toArray, List.getElem_cons_zero, List.getElem_cons_succ, Act.put, List.setIfInBounds_toArray, List.set_cons_zero, List.set_cons_succ])
  refine wpAnyH_take (i := 4) (v := ?_) rfl (by kernel_rfl) (by kernel_rfl) (by kernel_rfl) (fun _ _ _ h => h) (Or.inl ⟨by rfl, ?_⟩) (by assumption) ?_
  rotate_left
  · intro wS hSw
    (have d0 := cellM hSw 0 rfl)
    go_simp
    all_goals with_reducible rfl
  (try simp only [List.getElem_toArray, List.getElem_cons_zero, List.getElem_cons_succ, Act.put, List.setIfInBounds_toArray, List.set_cons_zero, List.set_cons_succ])
  refine wpAnyH_take (i := 6) (v := ?_) rfl (by kernel_rfl) (by kernel_rfl) (by kernel_rfl) (fun _ _ _ h => h) (Or.inl ⟨by rfl, ?_⟩) (by assumption) ?_
  rotate_left
  · intro wS hSw
    (have d0 := cellM hSw 0 rfl)
    go_simp
    all_goals with_reducible rfl
  (try simp only [List.getElem_toArray, List.getElem_cons_zero, List.getElem_cons_succ, Act.put, List.setIfInBounds_toArray, List.set_cons_zero, List.set_cons_succ])
  refine held_one (i := 5) (by kernel_rfl) rfl (fun K hK => ?_)
  go_simp
  go_at_call 115
  refine (HN.out _).mono ?_
  rintro e w2 ⟨rfl, rfl⟩
  refine hK.out _ _ HY.out.box (fun hH2 => ?_)
  clear hK K hHeld
  (try simp only [Act.put, List.setIfInBounds_toArray, List.set_cons_zero, List.set_cons_succ, List.getElem_toArray, List.getElem_cons_zero, List.getElem_cons_succ])
  refine wpAnyH_take (i := 7) (v := ?_) rfl (by kernel_rfl) (by kernel_rfl) (by kernel_rfl) (fun _ _ _ h => h) (Or.inl ⟨by rfl, ?_⟩) (by assumption) ?_
  rotate_left
  · intro wS hSw
    (skip)
    go_simp
    all_goals with_reducible rfl
  (try simp only [List.getElem_toArray, List.getElem_cons_zero, List.getElem_cons_succ, Act.put, List.setIfInBounds_toArray, List.set_cons_zero, List.set_cons_succ])
  refine held_one (i := 8) (by kernel_rfl) rfl (fun K hK => ?_)
  go_simp
  go_at_call 111
  refine (HL.out _ HY.out.at_).mono ?_
  rintro e w3 ⟨rfl, hb, hw, hk⟩
  have H3 := Lib.hid (HY.out.on hb hw hk)
  clear hb hw hk HY
  refine hK.out _ _ H3.out.box (fun hH3 => ?_)
  clear hK K hH2
  (try simp only [Act.put, List.setIfInBounds_toArray, List.set_cons_zero, List.set_cons_succ, List.getElem_toArray, List.getElem_cons_zero, List.getElem_cons_succ])
  refine wpAnyH_done (by kernel_rfl) ?_ _
  go_wp2
  go_end0
  exact ⟨rfl, H3.out.laid⟩
set_option maxHeartbeats 8000000 in
theorem p_jumpJa (h : BuAt B S W bb L bg op) (hn : L.length ≤ 100000000) (ho : op.length ≤ 1000000000) (jt jf : Nat) (k : BitVec 32) (i : Nat) (hi : i ≤ 100000000) :
    Calls Tryz.prog 69 #[.pointer (some ⟨bb, 0, none⟩), insV ⟨5, jt, jf, k⟩, .int .i64 (i : Int)] W (LaidP B S bb (L ++ [⟨14, 0, 0, 0, 0#32, ((i + 1 + k.toNat : Nat) : Int), 0⟩]) bg (op ++ [(L.length : Int)]) W) := by
  have HB := Lib.hid (h.boxed (inB 5 jt jf k))
  have hk := k.isLt
  have w1 : IntKind.i64.wrap ((i : Int) + 1) = ((i + 1 : Nat) : Int) := by rw [IntWalk.i64_in _ (by omega)]; omega
  have w2 : IntKind.i64.wrap (((i + 1 : Nat) : Int) + (k.toNat : Int)) = ((i + 1 + k.toNat : Nat) : Int) := by rw [IntWalk.i64_in _ (by omega)]; omega
  have HL : Hid (∀ V, BuAt B (SwB S W) V bb L bg op → Calls Tryz.prog 116 #[.pointer (some ⟨bb, 0, none⟩), .agg #[.int .i64 14, .int .i64 0, .int .i64 0, .int .i64 0, .int .u32 0, .int .i64 ((i + 1 + k.toNat : Nat) : Int), .int .i64 0]] V (LaidP B (SwB S W) bb (L ++ [⟨14, 0, 0, 0, 0#32, ((i + 1 + k.toNat : Nat) : Int), 0⟩]) bg (op ++ [(L.length : Int)]) V)) := Lib.hid fun V h => by
    have := p_leadB h (by omega) ho ⟨14, 0, 0, 0, 0#32, ((i + 1 + k.toNat : Nat) : Int), 0⟩
    exact this
  clear h
  unfold LaidP at HL ⊢
  go_enter Tryz.func69, Tryz.ntmps69
  go_wp2_with (go_at_call 116; (refine (HL.out _ HB.out.at_).mono ?_); rintro e w4 ⟨rfl, hb, hw, hk'⟩; have H4 := Lib.hid (HB.out.on hb hw hk').laid; clear hb hw hk')
  (try simp only [Exit.inBlock, Exit.then])
  refine bodyPost_ret (results_none rfl _ _ _) rfl ?_
  exact ⟨rfl, H4.out⟩
set_option maxHeartbeats 8000000 in
theorem p_jumpG (h : BuAt B S W bb L bg op) (ho : op.length ≤ 1000000000) {c : Int} (hc : jumpC c = true) (jt jf : Nat) (k : BitVec 32) (i : Nat) (hi : i ≤ 100000000) (hjt : jt ≤ 100000000) (hjf : jf ≤ 100000000) (b : Int) (L' : List Irx) (hl : L'.length ≤ 100000000)
    (HO : ∀ V, BuAt B (SwB S W) V bb L bg op → Calls Tryz.prog 114 #[.pointer (some ⟨bb, 0, none⟩), insV ⟨c, jt, jf, k⟩] V (OpdP B (SwB S W) bb b L' bg op V)) :
    Calls Tryz.prog 69 #[.pointer (some ⟨bb, 0, none⟩), insV ⟨c, jt, jf, k⟩, .int .i64 (i : Int)] W (LaidP B S bb (L' ++ [⟨testOpN c, 0, 0, b, 0#32, ((i + 1 + jt : Nat) : Int), ((i + 1 + jf : Nat) : Int)⟩]) bg (op ++ [(L'.length : Int)]) W) := by
  have HB := Lib.hid (h.boxed (inB c jt jf k))
  have HO := Lib.hid HO
  have HN := Lib.hid (fun V => p_testOp hc V)
  have HL : Hid (∀ V, BuAt B (SwB S W) V bb L' bg op → Calls Tryz.prog 116 #[.pointer (some ⟨bb, 0, none⟩), .agg #[.int .i64 (testOpN c), .int .i64 0, .int .i64 0, .int .i64 b, .int .u32 0, .int .i64 ((i : Int) + 1 + (jt : Int)), .int .i64 ((i : Int) + 1 + (jf : Int))]] V (LaidP B (SwB S W) bb (L' ++ [⟨testOpN c, 0, 0, b, 0#32, ((i + 1 + jt : Nat) : Int), ((i + 1 + jf : Nat) : Int)⟩]) bg (op ++ [(L'.length : Int)]) V)) := Lib.hid fun V h => by
    have := p_leadB h (by omega) ho ⟨testOpN c, 0, 0, b, 0#32, ((i + 1 + jt : Nat) : Int), ((i + 1 + jf : Nat) : Int)⟩
    exact this
  have b1 : (c == 5) = false := beq_false_of_ne (fun e => by subst e; revert hc; decide)
  have w1 : IntKind.i64.wrap ((i : Int) + 1) = (i : Int) + 1 := IntWalk.i64_in _ (by omega)
  have w2 : IntKind.i64.wrap ((i : Int) + 1 + (jt : Int)) = (i : Int) + 1 + (jt : Int) := IntWalk.i64_in _ (by omega)
  have w3 : IntKind.i64.wrap ((i : Int) + 1 + (jf : Int)) = (i : Int) + 1 + (jf : Int) := IntWalk.i64_in _ (by omega)
  have w4 : IntKind.i64.wrap (jt : Int) = (jt : Int) := IntWalk.i64_in _ (by omega)
  have w5 : IntKind.i64.wrap (jf : Int) = (jf : Int) := IntWalk.i64_in _ (by omega)
  clear h hc
  unfold OpdP at HO
  unfold LaidP at HL ⊢
  generalize testOpN c = z at HN HL ⊢
  go_enter Tryz.func69, Tryz.ntmps69
  go_wp2_with (go_at_call 114; (with_reducible refine (HO.out _ HB.out.at_).mono ?_); rintro e wa ⟨rfl, hb, hw, hk⟩; have H1 := Lib.hid (HB.out.on hb hw hk); clear hb hw hk)
  refine wp_region_held_drew (S := fun W' => W'.heap[W.heap.size]? = some (inB c jt jf k)) (by kernel_rfl) H1.out.box (fun hHeld => ?_)
  have HY : Hid (BoxB B S W (inB c jt jf k) wa.drew bb L' bg op) := Lib.hid (H1.out.drew 1)
  clear H1 HB
  generalize wa.drew = Y at HY hHeld ⊢
  refine wpAnyH_take (i := 0) (v := ?_) rfl (by kernel_rfl) (by kernel_rfl) (by kernel_rfl) (fun _ _ _ h => h) (Or.inl ⟨by rfl, ?_⟩) (by assumption) ?_
  rotate_left
  · intro wS hSw
    (have d0 := cellM hSw 0 rfl; have d1 := cellM hSw 1 rfl; have d2 := cellM hSw 2 rfl)
    go_simp
    all_goals with_reducible rfl
  (try simp only [List.getElem_toArray, List.getElem_cons_zero, List.getElem_cons_succ, Act.put, List.setIfInBounds_toArray, List.set_cons_zero, List.set_cons_succ])
  refine wpAnyH_take (i := 1) (v := ?_) rfl (by kernel_rfl) (by kernel_rfl) (by kernel_rfl) (fun _ _ _ h => h) (Or.inl ⟨by rfl, ?_⟩) (by assumption) ?_
  rotate_left
  · intro wS hSw
    (have d0 := cellM hSw 0 rfl; have d1 := cellM hSw 1 rfl; have d2 := cellM hSw 2 rfl)
    go_simp
    all_goals with_reducible rfl
  (try simp only [List.getElem_toArray, List.getElem_cons_zero, List.getElem_cons_succ, Act.put, List.setIfInBounds_toArray, List.set_cons_zero, List.set_cons_succ])
  refine wpAnyH_take (i := 2) (v := ?_) rfl (by kernel_rfl) (by kernel_rfl) (by kernel_rfl) (fun _ _ _ h => h) (Or.inl ⟨by rfl, ?_⟩) (by assumption) ?_
  rotate_left
  · intro wS hSw
    (have d0 := cellM hSw 0 rfl; have d1 := cellM hSw 1 rfl; have d2 := cellM hSw 2 rfl)
    go_simp
    all_goals with_reducible rfl
  (try simp only [List.getElem_toArray, List.getElem_cons_zero, List.getElem_cons_succ, Act.put, List.setIfInBounds_toArray, List.set_cons_zero, List.set_cons_succ])
  refine wpAnyH_take (i := 4) (v := ?_) rfl (by kernel_rfl) (by kernel_rfl) (by kernel_rfl) (fun _ _ _ h => h) (Or.inl ⟨by rfl, ?_⟩) (by assumption) ?_
  rotate_left
  · intro wS hSw
    (have d0 := cellM hSw 0 rfl; have d1 := cellM hSw 1 rfl; have d2 := cellM hSw 2 rfl)
    go_simp
    all_goals with_reducible rfl
  (try simp only [List.getElem_toArray, List.getElem_cons_zero, List.getElem_cons_succ, Act.put, List.setIfInBounds_toArray, List.set_cons_zero, List.set_cons_succ])
  refine wpAnyH_take (i := 5) (v := ?_) rfl (by kernel_rfl) (by kernel_rfl) (by kernel_rfl) (fun _ _ _ h => h) (Or.inl ⟨by rfl, ?_⟩) (by assumption) ?_
  rotate_left
  · intro wS hSw
    (have d0 := cellM hSw 0 rfl; have d1 := cellM hSw 1 rfl; have d2 := cellM hSw 2 rfl)
    go_simp
    all_goals with_reducible rfl
  (try simp only [List.getElem_toArray, List.getElem_cons_zero, List.getElem_cons_succ, Act.put, List.setIfInBounds_toArray, List.set_cons_zero, List.set_cons_succ])
  refine wpAnyH_take (i := 6) (v := ?_) rfl (by kernel_rfl) (by kernel_rfl) (by kernel_rfl) (fun _ _ _ h => h) (Or.inl ⟨by rfl, ?_⟩) (by assumption) ?_
  rotate_left
  · intro wS hSw
    (have d0 := cellM hSw 0 rfl; have d1 := cellM hSw 1 rfl; have d2 := cellM hSw 2 rfl)
    go_simp
    all_goals with_reducible rfl
  (try simp only [List.getElem_toArray, List.getElem_cons_zero, List.getElem_cons_succ, Act.put, List.setIfInBounds_toArray, List.set_cons_zero, List.set_cons_succ])
  refine wpAnyH_take (i := 7) (v := ?_) rfl (by kernel_rfl) (by kernel_rfl) (by kernel_rfl) (fun _ _ _ h => h) (Or.inl ⟨by rfl, ?_⟩) (by assumption) ?_
  rotate_left
  · intro wS hSw
    (have d0 := cellM hSw 0 rfl; have d1 := cellM hSw 1 rfl; have d2 := cellM hSw 2 rfl)
    go_simp
    all_goals with_reducible rfl
  (try simp only [List.getElem_toArray, List.getElem_cons_zero, List.getElem_cons_succ, Act.put, List.setIfInBounds_toArray, List.set_cons_zero, List.set_cons_succ])
  refine wpAnyH_take (i := 8) (v := ?_) rfl (by kernel_rfl) (by kernel_rfl) (by kernel_rfl) (fun _ _ _ h => h) (Or.inl ⟨by rfl, ?_⟩) (by assumption) ?_
  rotate_left
  · intro wS hSw
    (have d0 := cellM hSw 0 rfl; have d1 := cellM hSw 1 rfl; have d2 := cellM hSw 2 rfl)
    go_simp
    all_goals with_reducible rfl
  (try simp only [List.getElem_toArray, List.getElem_cons_zero, List.getElem_cons_succ, Act.put, List.setIfInBounds_toArray, List.set_cons_zero, List.set_cons_succ])
  refine wpAnyH_take (i := 9) (v := ?_) rfl (by kernel_rfl) (by kernel_rfl) (by kernel_rfl) (fun _ _ _ h => h) (Or.inl ⟨by rfl, ?_⟩) (by assumption) ?_
  rotate_left
  · intro wS hSw
    (have d0 := cellM hSw 0 rfl; have d1 := cellM hSw 1 rfl; have d2 := cellM hSw 2 rfl)
    go_simp
    all_goals with_reducible rfl
  (try simp only [List.getElem_toArray, List.getElem_cons_zero, List.getElem_cons_succ, Act.put, List.setIfInBounds_toArray, List.set_cons_zero, List.set_cons_succ])
  refine wpAnyH_take (i := 10) (v := ?_) rfl (by kernel_rfl) (by kernel_rfl) (by kernel_rfl) (fun _ _ _ h => h) (Or.inl ⟨by rfl, ?_⟩) (by assumption) ?_
  rotate_left
  · intro wS hSw
    (have d0 := cellM hSw 0 rfl; have d1 := cellM hSw 1 rfl; have d2 := cellM hSw 2 rfl)
    go_simp
    all_goals with_reducible rfl
  (try simp only [List.getElem_toArray, List.getElem_cons_zero, List.getElem_cons_succ, Act.put, List.setIfInBounds_toArray, List.set_cons_zero, List.set_cons_succ])
  refine wpAnyH_take (i := 11) (v := ?_) rfl (by kernel_rfl) (by kernel_rfl) (by kernel_rfl) (fun _ _ _ h => h) (Or.inl ⟨by rfl, ?_⟩) (by assumption) ?_
  rotate_left
  · intro wS hSw
    (have d0 := cellM hSw 0 rfl; have d1 := cellM hSw 1 rfl; have d2 := cellM hSw 2 rfl)
    go_simp
    all_goals with_reducible rfl
  (try simp only [List.getElem_toArray, List.getElem_cons_zero, List.getElem_cons_succ, Act.put, List.setIfInBounds_toArray, List.set_cons_zero, List.set_cons_succ])
  refine wpAnyH_take (i := 12) (v := ?_) rfl (by kernel_rfl) (by kernel_rfl) (by kernel_rfl) (fun _ _ _ h => h) (Or.inl ⟨by rfl, ?_⟩) (by assumption) ?_
  rotate_left
  · intro wS hSw
    (have d0 := cellM hSw 0 rfl; have d1 := cellM hSw 1 rfl; have d2 := cellM hSw 2 rfl)
    go_simp
    all_goals with_reducible rfl
  (try simp only [List.getElem_toArray, List.getElem_cons_zero, List.getElem_cons_succ, Act.put, List.setIfInBounds_toArray, List.set_cons_zero, List.set_cons_succ])
  refine wpAnyH_take (i := 13) (v := ?_) rfl (by kernel_rfl) (by kernel_rfl) (by kernel_rfl) (fun _ _ _ h => h) (Or.inl ⟨by rfl, ?_⟩) (by assumption) ?_
  rotate_left
  · intro wS hSw
    (have d0 := cellM hSw 0 rfl; have d1 := cellM hSw 1 rfl; have d2 := cellM hSw 2 rfl)
    go_simp
    all_goals with_reducible rfl
  (try simp only [List.getElem_toArray, List.getElem_cons_zero, List.getElem_cons_succ, Act.put, List.setIfInBounds_toArray, List.set_cons_zero, List.set_cons_succ])
  refine wpAnyH_take (i := 14) (v := ?_) rfl (by kernel_rfl) (by kernel_rfl) (by kernel_rfl) (fun _ _ _ h => h) (Or.inl ⟨by rfl, ?_⟩) (by assumption) ?_
  rotate_left
  · intro wS hSw
    (have d0 := cellM hSw 0 rfl; have d1 := cellM hSw 1 rfl; have d2 := cellM hSw 2 rfl)
    go_simp
    all_goals with_reducible rfl
  (try simp only [List.getElem_toArray, List.getElem_cons_zero, List.getElem_cons_succ, Act.put, List.setIfInBounds_toArray, List.set_cons_zero, List.set_cons_succ])
  refine wpAnyH_take (i := 15) (v := ?_) rfl (by kernel_rfl) (by kernel_rfl) (by kernel_rfl) (fun _ _ _ h => h) (Or.inl ⟨by rfl, ?_⟩) (by assumption) ?_
  rotate_left
  · intro wS hSw
    (have d0 := cellM hSw 0 rfl; have d1 := cellM hSw 1 rfl; have d2 := cellM hSw 2 rfl)
    go_simp
    all_goals with_reducible rfl
  (try simp only [List.getElem_toArray, List.getElem_cons_zero, List.getElem_cons_succ, Act.put, List.setIfInBounds_toArray, List.set_cons_zero, List.set_cons_succ])
  refine wpAnyH_take (i := 16) (v := ?_) rfl (by kernel_rfl) (by kernel_rfl) (by kernel_rfl) (fun _ _ _ h => h) (Or.inl ⟨by rfl, ?_⟩) (by assumption) ?_
  rotate_left
  · intro wS hSw
    (have d0 := cellM hSw 0 rfl; have d1 := cellM hSw 1 rfl; have d2 := cellM hSw 2 rfl)
    go_simp
    all_goals with_reducible rfl
  (try simp only [List.getElem_toArray, List.getElem_cons_zero, List.getElem_cons_succ, Act.put, List.setIfInBounds_toArray, List.set_cons_zero, List.set_cons_succ])
  refine held_one (i := 3) (by kernel_rfl) rfl (fun K hK => ?_)
  go_simp
  go_at_call 117
  refine (HN.out _).mono ?_
  rintro e wb ⟨rfl, rfl⟩
  refine hK.out _ _ HY.out.box (fun hH2 => ?_)
  clear hK K hHeld
  (try simp only [Act.put, List.setIfInBounds_toArray, List.set_cons_zero, List.set_cons_succ, List.getElem_toArray, List.getElem_cons_zero, List.getElem_cons_succ])
  (try simp only [w1, w2, w3])
  refine wpAnyH_take (i := 17) (v := ?_) rfl (by kernel_rfl) (by kernel_rfl) (by kernel_rfl) (fun _ _ _ h => h) (Or.inl ⟨by rfl, ?_⟩) (by assumption) ?_
  rotate_left
  · intro wS hSw
    (skip)
    go_simp
    all_goals with_reducible rfl
  (try simp only [List.getElem_toArray, List.getElem_cons_zero, List.getElem_cons_succ, Act.put, List.setIfInBounds_toArray, List.set_cons_zero, List.set_cons_succ])
  refine held_one (i := 18) (by kernel_rfl) rfl (fun K hK => ?_)
  go_simp
  go_at_call 116
  refine (HL.out _ HY.out.at_).mono ?_
  rintro e wc ⟨rfl, hb, hw, hk⟩
  have H3 := Lib.hid (HY.out.on hb hw hk)
  clear hb hw hk HY
  refine hK.out _ _ H3.out.box (fun hH3 => ?_)
  clear hK K hH2
  (try simp only [Act.put, List.setIfInBounds_toArray, List.set_cons_zero, List.set_cons_succ, List.getElem_toArray, List.getElem_cons_zero, List.getElem_cons_succ])
  refine wpAnyH_done (by kernel_rfl) ?_ _
  go_wp2
  go_end0
  exact ⟨rfl, H3.out.laid⟩
end
end Go.Proofs.YtoajommeiocfpaaGreat
namespace Go.Proofs.YtoajommeiocfpaaGreat
open Go Go.RowKit
set_option linter.unusedSimpArgs false
set_option linter.unusedVariables false
set_option maxRecDepth 100000
section
variable {B : Nat} {S : Nat → Prop} {W : World} {bb : Nat} {L : List Irx} {bg op : List Int}
set_option maxHeartbeats 8000000 in
theorem p_trLd (h : BuAt B S W bb L bg op) {c : Int} (hb : bits BinOp.and IntKind.u16 c 7 = 0) (jt jf : Nat) (k : BitVec 32) (i : Nat) (L' : List Irx) (op' : List Int)
    (HC : ∀ V, BuAt B (SwB S W) V bb L bg op → Calls Tryz.prog 65 #[.pointer (some ⟨bb, 0, none⟩), insV ⟨c, jt, jf, k⟩, .int .i64 0] V (LaidP B (SwB S W) bb L' bg op' V)) :
    Calls Tryz.prog 31 #[.pointer (some ⟨bb, 0, none⟩), insV ⟨c, jt, jf, k⟩, .int .i64 (i : Int)] W (LaidP B S bb L' bg op' W) := by
  have HB := Lib.hid (h.boxed (inB c jt jf k))
  have HC := Lib.hid HC
  clear h
  unfold LaidP at HC ⊢
  go_enter Tryz.func31, Tryz.ntmps31
  go_wp2_with (go_at_call 65; (refine (HC.out _ HB.out.at_).mono ?_); rintro e w4 ⟨rfl, hb', hw, hk⟩; have H4 := Lib.hid (HB.out.on hb' hw hk).laid; clear hb' hw hk)
  go_end0
  exact ⟨rfl, H4.out⟩
set_option maxHeartbeats 8000000 in
theorem p_trLdx (h : BuAt B S W bb L bg op) {c : Int} (hb : bits BinOp.and IntKind.u16 c 7 = 1) (jt jf : Nat) (k : BitVec 32) (i : Nat) (L' : List Irx) (op' : List Int)
    (HC : ∀ V, BuAt B (SwB S W) V bb L bg op → Calls Tryz.prog 65 #[.pointer (some ⟨bb, 0, none⟩), insV ⟨c, jt, jf, k⟩, .int .i64 1] V (LaidP B (SwB S W) bb L' bg op' V)) :
    Calls Tryz.prog 31 #[.pointer (some ⟨bb, 0, none⟩), insV ⟨c, jt, jf, k⟩, .int .i64 (i : Int)] W (LaidP B S bb L' bg op' W) := by
  have HB := Lib.hid (h.boxed (inB c jt jf k))
  have HC := Lib.hid HC
  clear h
  unfold LaidP at HC ⊢
  go_enter Tryz.func31, Tryz.ntmps31
  go_wp2_with (go_at_call 65; (refine (HC.out _ HB.out.at_).mono ?_); rintro e w4 ⟨rfl, hb', hw, hk⟩; have H4 := Lib.hid (HB.out.on hb' hw hk).laid; clear hb' hw hk)
  go_end0
  exact ⟨rfl, H4.out⟩
set_option maxHeartbeats 8000000 in
theorem p_trSt (h : BuAt B S W bb L bg op) (hn : L.length ≤ 100000000) {c : Int} (hb : bits BinOp.and IntKind.u16 c 7 = 2) (jt jf : Nat) (k : BitVec 32) (i : Nat) :
    Calls Tryz.prog 31 #[.pointer (some ⟨bb, 0, none⟩), insV ⟨c, jt, jf, k⟩, .int .i64 (i : Int)] W (LaidP B S bb (L ++ [irMv ((3 + k.toNat : Nat) : Int) 0]) bg op W) := by
  have HB := Lib.hid (h.boxed (inB c jt jf k))
  have HC := Lib.hid (fun V (h : BuAt B (SwB S W) V bb L bg op) => p_moveB h (by omega) ((3 + k.toNat : Nat) : Int) 0)
  have HS := Lib.hid (fun V => p_scratch k V)
  clear h
  unfold LaidP at HC ⊢
  generalize ((3 + k.toNat : Nat) : Int) = z at HC HS ⊢
  go_enter Tryz.func31, Tryz.ntmps31
  go_wp2
  refine wp_region_held_drew (S := fun W' => W'.heap[W.heap.size]? = some (inB c jt jf k)) (by kernel_rfl) HB.out.box (fun hHeld => ?_)
  have HB' : Hid (BoxB B S W (inB c jt jf k) (W.alloc (inB c jt jf k)).drew bb L bg op) := Lib.hid (HB.out.drew 1)
  clear HB
  generalize (W.alloc (inB c jt jf k)).drew = Y at HB' hHeld ⊢
  refine wpAnyH_take (i := 0) (v := ?_) rfl (by kernel_rfl) (by kernel_rfl) (by kernel_rfl) (fun _ _ _ h => h) (Or.inl ⟨by rfl, ?_⟩) (by assumption) ?_
  rotate_left
  · intro wS hSw
    (have d3 := cellM hSw 3 rfl)
    go_simp
    all_goals with_reducible rfl
  (try simp only [List.getElem_toArray, List.getElem_cons_zero, List.getElem_cons_succ, Act.put, List.setIfInBounds_toArray, List.set_cons_zero, List.set_cons_succ])
  refine wpAnyH_take (i := 1) (v := ?_) rfl (by kernel_rfl) (by kernel_rfl) (by kernel_rfl) (fun _ _ _ h => h) (Or.inl ⟨by rfl, ?_⟩) (by assumption) ?_
  rotate_left
  · intro wS hSw
    (have d3 := cellM hSw 3 rfl)
    go_simp
    all_goals with_reducible rfl
  (try simp only [List.getElem_toArray, List.getElem_cons_zero, List.getElem_cons_succ, Act.put, List.setIfInBounds_toArray, List.set_cons_zero, List.set_cons_succ])
  refine wpAnyH_take (i := 2) (v := ?_) rfl (by kernel_rfl) (by kernel_rfl) (by kernel_rfl) (fun _ _ _ h => h) (Or.inl ⟨by rfl, ?_⟩) (by assumption) ?_
  rotate_left
  · intro wS hSw
    (have d3 := cellM hSw 3 rfl)
    go_simp
    all_goals with_reducible rfl
  (try simp only [List.getElem_toArray, List.getElem_cons_zero, List.getElem_cons_succ, Act.put, List.setIfInBounds_toArray, List.set_cons_zero, List.set_cons_succ])
  refine wpAnyH_take (i := 3) (v := ?_) rfl (by kernel_rfl) (by kernel_rfl) (by kernel_rfl) (fun _ _ _ h => h) (Or.inl ⟨by rfl, ?_⟩) (by assumption) ?_
  rotate_left
  · intro wS hSw
    (have d3 := cellM hSw 3 rfl)
    go_simp
    all_goals with_reducible rfl
  (try simp only [List.getElem_toArray, List.getElem_cons_zero, List.getElem_cons_succ, Act.put, List.setIfInBounds_toArray, List.set_cons_zero, List.set_cons_succ])
  refine wpAnyH_take (i := 4) (v := ?_) rfl (by kernel_rfl) (by kernel_rfl) (by kernel_rfl) (fun _ _ _ h => h) (Or.inl ⟨by rfl, ?_⟩) (by assumption) ?_
  rotate_left
  · intro wS hSw
    (have d3 := cellM hSw 3 rfl)
    go_simp
    all_goals with_reducible rfl
  (try simp only [List.getElem_toArray, List.getElem_cons_zero, List.getElem_cons_succ, Act.put, List.setIfInBounds_toArray, List.set_cons_zero, List.set_cons_succ])
  refine held_one (i := 5) (by kernel_rfl) rfl (fun K hK => ?_)
  go_simp
  go_at_call 67
  refine (HS.out _).mono ?_
  rintro e w2 ⟨rfl, rfl⟩
  refine hK.out _ _ HB'.out.box (fun hH2 => ?_)
  clear hK K hHeld
  (try simp only [Act.put, List.setIfInBounds_toArray, List.set_cons_zero, List.set_cons_succ, List.getElem_toArray, List.getElem_cons_zero, List.getElem_cons_succ])
  refine held_one (i := 6) (by kernel_rfl) rfl (fun K hK => ?_)
  go_simp
  go_at_call 66
  refine (HC.out _ HB'.out.at_).mono ?_
  rintro e w3 ⟨rfl, hb', hw, hk⟩
  have H3 := Lib.hid (HB'.out.on hb' hw hk)
  clear hb' hw hk HB'
  refine hK.out _ _ H3.out.box (fun hH3 => ?_)
  clear hK K hH2
  (try simp only [Act.put, List.setIfInBounds_toArray, List.set_cons_zero, List.set_cons_succ, List.getElem_toArray, List.getElem_cons_zero, List.getElem_cons_succ])
  refine wpAnyH_done (by kernel_rfl) ?_ _
  go_wp2
  go_end0
  exact ⟨rfl, H3.out.laid⟩
set_option maxHeartbeats 8000000 in
theorem p_trStx (h : BuAt B S W bb L bg op) (hn : L.length ≤ 100000000) {c : Int} (hb : bits BinOp.and IntKind.u16 c 7 = 3) (jt jf : Nat) (k : BitVec 32) (i : Nat) :
    Calls Tryz.prog 31 #[.pointer (some ⟨bb, 0, none⟩), insV ⟨c, jt, jf, k⟩, .int .i64 (i : Int)] W (LaidP B S bb (L ++ [irMv ((3 + k.toNat : Nat) : Int) 1]) bg op W) := by
  have HB := Lib.hid (h.boxed (inB c jt jf k))
  have HC := Lib.hid (fun V (h : BuAt B (SwB S W) V bb L bg op) => p_moveB h (by omega) ((3 + k.toNat : Nat) : Int) 1)
  have HS := Lib.hid (fun V => p_scratch k V)
  clear h
  unfold LaidP at HC ⊢
  generalize ((3 + k.toNat : Nat) : Int) = z at HC HS ⊢
  go_enter Tryz.func31, Tryz.ntmps31
  go_wp2
  refine wp_region_held_drew (S := fun W' => W'.heap[W.heap.size]? = some (inB c jt jf k)) (by kernel_rfl) HB.out.box (fun hHeld => ?_)
  have HB' : Hid (BoxB B S W (inB c jt jf k) (W.alloc (inB c jt jf k)).drew bb L bg op) := Lib.hid (HB.out.drew 1)
  clear HB
  generalize (W.alloc (inB c jt jf k)).drew = Y at HB' hHeld ⊢
  refine wpAnyH_take (i := 0) (v := ?_) rfl (by kernel_rfl) (by kernel_rfl) (by kernel_rfl) (fun _ _ _ h => h) (Or.inl ⟨by rfl, ?_⟩) (by assumption) ?_
  rotate_left
  · intro wS hSw
    (have d3 := cellM hSw 3 rfl)
    go_simp
    all_goals with_reducible rfl
  (try simp only [List.getElem_toArray, List.getElem_cons_zero, List.getElem_cons_succ, Act.put, List.setIfInBounds_toArray, List.set_cons_zero, List.set_cons_succ])
  refine wpAnyH_take (i := 1) (v := ?_) rfl (by kernel_rfl) (by kernel_rfl) (by kernel_rfl) (fun _ _ _ h => h) (Or.inl ⟨by rfl, ?_⟩) (by assumption) ?_
  rotate_left
  · intro wS hSw
    (have d3 := cellM hSw 3 rfl)
    go_simp
    all_goals with_reducible rfl
  (try simp only [List.getElem_toArray, List.getElem_cons_zero, List.getElem_cons_succ, Act.put, List.setIfInBounds_toArray, List.set_cons_zero, List.set_cons_succ])
  refine wpAnyH_take (i := 2) (v := ?_) rfl (by kernel_rfl) (by kernel_rfl) (by kernel_rfl) (fun _ _ _ h => h) (Or.inl ⟨by rfl, ?_⟩) (by assumption) ?_
  rotate_left
  · intro wS hSw
    (have d3 := cellM hSw 3 rfl)
    go_simp
    all_goals with_reducible rfl
  (try simp only [List.getElem_toArray, List.getElem_cons_zero, List.getElem_cons_succ, Act.put, List.setIfInBounds_toArray, List.set_cons_zero, List.set_cons_succ])
  refine wpAnyH_take (i := 3) (v := ?_) rfl (by kernel_rfl) (by kernel_rfl) (by kernel_rfl) (fun _ _ _ h => h) (Or.inl ⟨by rfl, ?_⟩) (by assumption) ?_
  rotate_left
  · intro wS hSw
    (have d3 := cellM hSw 3 rfl)
    go_simp
    all_goals with_reducible rfl
  (try simp only [List.getElem_toArray, List.getElem_cons_zero, List.getElem_cons_succ, Act.put, List.setIfInBounds_toArray, List.set_cons_zero, List.set_cons_succ])
  refine wpAnyH_take (i := 4) (v := ?_) rfl (by kernel_rfl) (by kernel_rfl) (by kernel_rfl) (fun _ _ _ h => h) (Or.inl ⟨by rfl, ?_⟩) (by assumption) ?_
  rotate_left
  · intro wS hSw
    (have d3 := cellM hSw 3 rfl)
    go_simp
    all_goals with_reducible rfl
  (try simp only [List.getElem_toArray, List.getElem_cons_zero, List.getElem_cons_succ, Act.put, List.setIfInBounds_toArray, List.set_cons_zero, List.set_cons_succ])
  refine held_one (i := 5) (by kernel_rfl) rfl (fun K hK => ?_)
  go_simp
  go_at_call 67
  refine (HS.out _).mono ?_
  rintro e w2 ⟨rfl, rfl⟩
  refine hK.out _ _ HB'.out.box (fun hH2 => ?_)
  clear hK K hHeld
  (try simp only [Act.put, List.setIfInBounds_toArray, List.set_cons_zero, List.set_cons_succ, List.getElem_toArray, List.getElem_cons_zero, List.getElem_cons_succ])
  refine held_one (i := 6) (by kernel_rfl) rfl (fun K hK => ?_)
  go_simp
  go_at_call 66
  refine (HC.out _ HB'.out.at_).mono ?_
  rintro e w3 ⟨rfl, hb', hw, hk⟩
  have H3 := Lib.hid (HB'.out.on hb' hw hk)
  clear hb' hw hk HB'
  refine hK.out _ _ H3.out.box (fun hH3 => ?_)
  clear hK K hH2
  (try simp only [Act.put, List.setIfInBounds_toArray, List.set_cons_zero, List.set_cons_succ, List.getElem_toArray, List.getElem_cons_zero, List.getElem_cons_succ])
  refine wpAnyH_done (by kernel_rfl) ?_ _
  go_wp2
  go_end0
  exact ⟨rfl, H3.out.laid⟩
set_option maxHeartbeats 8000000 in
theorem p_trAlu (h : BuAt B S W bb L bg op) {c : Int} (hb : bits BinOp.and IntKind.u16 c 7 = 4) (jt jf : Nat) (k : BitVec 32) (i : Nat) (L' : List Irx) (op' : List Int)
    (HC : ∀ V, BuAt B (SwB S W) V bb L bg op → Calls Tryz.prog 68 #[.pointer (some ⟨bb, 0, none⟩), insV ⟨c, jt, jf, k⟩] V (LaidP B (SwB S W) bb L' bg op' V)) :
    Calls Tryz.prog 31 #[.pointer (some ⟨bb, 0, none⟩), insV ⟨c, jt, jf, k⟩, .int .i64 (i : Int)] W (LaidP B S bb L' bg op' W) := by
  have HB := Lib.hid (h.boxed (inB c jt jf k))
  have HC := Lib.hid HC
  clear h
  unfold LaidP at HC ⊢
  go_enter Tryz.func31, Tryz.ntmps31
  go_wp2_with (go_at_call 68; (refine (HC.out _ HB.out.at_).mono ?_); rintro e w4 ⟨rfl, hb', hw, hk⟩; have H4 := Lib.hid (HB.out.on hb' hw hk).laid; clear hb' hw hk)
  go_end0
  exact ⟨rfl, H4.out⟩
set_option maxHeartbeats 8000000 in
theorem p_trJmp (h : BuAt B S W bb L bg op) {c : Int} (hb : bits BinOp.and IntKind.u16 c 7 = 5) (jt jf : Nat) (k : BitVec 32) (i : Nat) (L' : List Irx) (op' : List Int)
    (HC : ∀ V, BuAt B (SwB S W) V bb L bg op → Calls Tryz.prog 69 #[.pointer (some ⟨bb, 0, none⟩), insV ⟨c, jt, jf, k⟩, .int .i64 (i : Int)] V (LaidP B (SwB S W) bb L' bg op' V)) :
    Calls Tryz.prog 31 #[.pointer (some ⟨bb, 0, none⟩), insV ⟨c, jt, jf, k⟩, .int .i64 (i : Int)] W (LaidP B S bb L' bg op' W) := by
  have HB := Lib.hid (h.boxed (inB c jt jf k))
  have HC := Lib.hid HC
  clear h
  unfold LaidP at HC ⊢
  go_enter Tryz.func31, Tryz.ntmps31
  go_wp2_with (go_at_call 69; (refine (HC.out _ HB.out.at_).mono ?_); rintro e w4 ⟨rfl, hb', hw, hk⟩; have H4 := Lib.hid (HB.out.on hb' hw hk).laid; clear hb' hw hk)
  go_end0
  exact ⟨rfl, H4.out⟩
set_option maxHeartbeats 8000000 in
theorem p_trRet (h : BuAt B S W bb L bg op) {c : Int} (hb : bits BinOp.and IntKind.u16 c 7 = 6) (jt jf : Nat) (k : BitVec 32) (i : Nat) (L' : List Irx) (op' : List Int)
    (HC : ∀ V, BuAt B (SwB S W) V bb L bg op → Calls Tryz.prog 70 #[.pointer (some ⟨bb, 0, none⟩), insV ⟨c, jt, jf, k⟩] V (LaidP B (SwB S W) bb L' bg op' V)) :
    Calls Tryz.prog 31 #[.pointer (some ⟨bb, 0, none⟩), insV ⟨c, jt, jf, k⟩, .int .i64 (i : Int)] W (LaidP B S bb L' bg op' W) := by
  have HB := Lib.hid (h.boxed (inB c jt jf k))
  have HC := Lib.hid HC
  clear h
  unfold LaidP at HC ⊢
  go_enter Tryz.func31, Tryz.ntmps31
  go_wp2_with (go_at_call 70; (refine (HC.out _ HB.out.at_).mono ?_); rintro e w4 ⟨rfl, hb', hw, hk⟩; have H4 := Lib.hid (HB.out.on hb' hw hk).laid; clear hb' hw hk)
  go_end0
  exact ⟨rfl, H4.out⟩
set_option maxHeartbeats 8000000 in
theorem p_trTax (h : BuAt B S W bb L bg op) (hn : L.length ≤ 100000000) (jt jf : Nat) (k : BitVec 32) (i : Nat) :
    Calls Tryz.prog 31 #[.pointer (some ⟨bb, 0, none⟩), insV ⟨7, jt, jf, k⟩, .int .i64 (i : Int)] W (LaidP B S bb (L ++ [irMv 1 0]) bg op W) := by
  have HB := Lib.hid (h.boxed (inB 7 jt jf k))
  have HC := Lib.hid (fun V (h : BuAt B (SwB S W) V bb L bg op) => p_moveB h (by omega) 1 0)
  clear h
  unfold LaidP at HC ⊢
  go_enter Tryz.func31, Tryz.ntmps31
  go_wp2_with (go_at_call 66; (refine (HC.out _ HB.out.at_).mono ?_); rintro e w4 ⟨rfl, hb', hw, hk⟩; have H4 := Lib.hid (HB.out.on hb' hw hk).laid; clear hb' hw hk)
  go_end0
  exact ⟨rfl, H4.out⟩
set_option maxHeartbeats 8000000 in
theorem p_trTxa (h : BuAt B S W bb L bg op) (hn : L.length ≤ 100000000) (jt jf : Nat) (k : BitVec 32) (i : Nat) :
    Calls Tryz.prog 31 #[.pointer (some ⟨bb, 0, none⟩), insV ⟨135, jt, jf, k⟩, .int .i64 (i : Int)] W (LaidP B S bb (L ++ [irMv 0 1]) bg op W) := by
  have HB := Lib.hid (h.boxed (inB 135 jt jf k))
  have HC := Lib.hid (fun V (h : BuAt B (SwB S W) V bb L bg op) => p_moveB h (by omega) 0 1)
  clear h
  unfold LaidP at HC ⊢
  go_enter Tryz.func31, Tryz.ntmps31
  go_wp2_with (go_at_call 66; (refine (HC.out _ HB.out.at_).mono ?_); rintro e w4 ⟨rfl, hb', hw, hk⟩; have H4 := Lib.hid (HB.out.on hb' hw hk).laid; clear hb' hw hk)
  go_end0
  exact ⟨rfl, H4.out⟩
theorem alu_class {c : Int} (h : aluC c = true ∨ c = 132) : bits BinOp.and IntKind.u16 c 7 = 4 := by
  rcases h with h | rfl
  · rcases alu_cs h with rfl | rfl | rfl | rfl | rfl | rfl | rfl | rfl | rfl | rfl | rfl | rfl | rfl | rfl | rfl | rfl | rfl | rfl <;> kernel_rfl
  · kernel_rfl
theorem jump_class {c : Int} (h : jumpC c = true ∨ c = 5) : bits BinOp.and IntKind.u16 c 7 = 5 := by
  rcases h with h | rfl
  · rcases jump_cs h with rfl | rfl | rfl | rfl | rfl | rfl | rfl | rfl <;> kernel_rfl
  · kernel_rfl
theorem alu_x {c : Int} (h : aluC c = true) : (usesX c = true → c = 12 ∨ c = 28 ∨ c = 44 ∨ c = 60 ∨ c = 76 ∨ c = 92 ∨ c = 108 ∨ c = 124 ∨ c = 172 ∨ c = 29 ∨ c = 45 ∨ c = 61 ∨ c = 77) ∧ (¬ usesX c = true → c = 4 ∨ c = 20 ∨ c = 36 ∨ c = 52 ∨ c = 68 ∨ c = 84 ∨ c = 100 ∨ c = 116 ∨ c = 164 ∨ c = 21 ∨ c = 37 ∨ c = 53 ∨ c = 69) := by
  rcases alu_cs h with rfl | rfl | rfl | rfl | rfl | rfl | rfl | rfl | rfl | rfl | rfl | rfl | rfl | rfl | rfl | rfl | rfl | rfl <;> exact ⟨fun g => by first | omega | exact absurd g (by decide), fun g => by first | omega | exact absurd (by decide) g⟩
theorem jump_x {c : Int} (h : jumpC c = true) : (usesX c = true → c = 12 ∨ c = 28 ∨ c = 44 ∨ c = 60 ∨ c = 76 ∨ c = 92 ∨ c = 108 ∨ c = 124 ∨ c = 172 ∨ c = 29 ∨ c = 45 ∨ c = 61 ∨ c = 77) ∧ (¬ usesX c = true → c = 4 ∨ c = 20 ∨ c = 36 ∨ c = 52 ∨ c = 68 ∨ c = 84 ∨ c = 100 ∨ c = 116 ∨ c = 164 ∨ c = 21 ∨ c = 37 ∨ c = 53 ∨ c = 69) := by
  rcases jump_cs h with rfl | rfl | rfl | rfl | rfl | rfl | rfl | rfl <;> exact ⟨fun g => by first | omega | exact absurd g (by decide), fun g => by first | omega | exact absurd (by decide) g⟩
theorem two_app (L : List Irx) (a b : Irx) : L ++ [a] ++ [b] = L ++ [a, b] := by rw [List.append_assoc]; rfl
theorem len_snoc (L : List Irx) (a : Irx) : (L ++ [a]).length = L.length + 1 := by rw [List.length_append]; rfl
set_option maxHeartbeats 4000000 in
/-- One instruction: what it becomes is laid, its open place is left open. -/
theorem p_translateB (h : BuAt B S W bb L bg op) (hn : L.length ≤ 10000000) (ho : op.length ≤ 10000000) (x : Ins) (hx : aluC x.code = true ∨ (aluC x.code = false ∧ jumpC x.code = true) ∨ (aluC x.code = false ∧ jumpC x.code = false ∧ restC x.code = true)) (i : Nat) (hi : i ≤ 10000000) (hjt : x.jt ≤ 10000000) (hjf : x.jf ≤ 10000000) :
    Calls Tryz.prog 31 #[.pointer (some ⟨bb, 0, none⟩), insV x, .int .i64 (i : Int)] W (LaidP B S bb (L ++ transI (fun k => k) x i L.length) bg (op ++ openT x L.length) W) := by
  obtain ⟨c, jt, jf, k⟩ := x
  simp only at hx hjt hjf
  by_cases h60 : c = 60
  · subst h60
    have e1 : transI (fun k => k) ⟨60, jt, jf, k⟩ i L.length = [irC 2 0#32, ⟨15, 0, 1, 2, 0#32, (L.length : Int) + 2, (L.length : Int) + 3⟩, irRet 2, ⟨7, 0, 0, 1, 0#32, 0, 0⟩] := rfl
    have e2 : openT ⟨60, jt, jf, k⟩ L.length = [] := rfl
    rw [e1, e2, List.append_nil]
    exact p_trAlu h (alu_class (.inl (by decide))) jt jf k i _ _ (fun V hV => p_comp60 hV hn jt jf k)
  rcases hx with ha | ⟨ha, hj⟩ | ⟨ha, hj, hr⟩
  · have hnj : ¬ jumpC c = true := fun g => by rw [(not_alu_jump g).1] at ha; cases ha
    have h5 : ¬ c = 5 := fun e => by subst e; revert ha; decide
    have e2 : openT ⟨c, jt, jf, k⟩ L.length = [] := by unfold openT; rw [if_neg hnj, if_neg h5]
    have e1 : transI (fun k => k) ⟨c, jt, jf, k⟩ i L.length = if usesX c = true then [⟨numOpN c, 0, 0, 1, 0#32, 0, 0⟩] else [irC 2 k, ⟨numOpN c, 0, 0, 2, 0#32, 0, 0⟩] := by unfold transI; simp only; rw [if_neg h60, if_pos ha]
    rw [e1, e2, List.append_nil]
    by_cases hu : usesX c = true
    · rw [if_pos hu]
      exact p_trAlu h (alu_class (.inl ha)) jt jf k i _ _ (fun V hV => p_compG hV ha h60 jt jf k 1 L (by omega) (fun V' hV' => p_operandX hV' ((alu_x ha).1 hu) jt jf k))
    · rw [if_neg hu, ← two_app]
      exact p_trAlu h (alu_class (.inl ha)) jt jf k i _ _ (fun V hV => p_compG hV ha h60 jt jf k 2 (L ++ [irC 2 k]) (by rw [len_snoc]; omega) (fun V' hV' => p_operandK hV' (by omega) ((alu_x ha).2 hu) jt jf k))
  · have e2 : openT ⟨c, jt, jf, k⟩ L.length = if usesX c = true then [(L.length : Int)] else [((L.length + 1 : Nat) : Int)] := by unfold openT; rw [if_pos hj]
    rw [trans_jump _ hj, e2]
    by_cases hu : usesX c = true
    · rw [if_pos hu, if_pos hu]
      exact p_trJmp h (jump_class (.inl hj)) jt jf k i _ _ (fun V hV => p_jumpG hV (by omega) hj jt jf k i (by omega) (by omega) (by omega) 1 L (by omega) (fun V' hV' => p_operandX hV' ((jump_x hj).1 hu) jt jf k))
    · rw [if_neg hu, if_neg hu, ← two_app, ← len_snoc L (irC 2 k)]
      exact p_trJmp h (jump_class (.inl hj)) jt jf k i _ _ (fun V hV => p_jumpG hV (by omega) hj jt jf k i (by omega) (by omega) (by omega) 2 (L ++ [irC 2 k]) (by rw [len_snoc]; omega) (fun V' hV' => p_operandK hV' (by omega) ((jump_x hj).2 hu) jt jf k))
  · by_cases h5 : c = 5
    · subst h5
      exact p_trJmp h (jump_class (.inr rfl)) jt jf k i _ _ (fun V hV => p_jumpJa hV (by omega) (by omega) jt jf k i (by omega))
    have e2 : openT ⟨c, jt, jf, k⟩ L.length = [] := by unfold openT; rw [if_neg (by rw [hj]; decide), if_neg h5]
    rw [e2, List.append_nil]
    rcases rest_cases hr with rfl | rfl | rfl | rfl | rfl | rfl | rfl | rfl | rfl | rfl | rfl | rfl | rfl | rfl | rfl
    · exact p_trLd h (by kernel_rfl) jt jf k i _ _ (fun V hV => p_ldAbsB hV (by omega) (.inl rfl) jt jf k 0)
    · exact p_trLd h (by kernel_rfl) jt jf k i _ _ (fun V hV => p_ldLenB hV (by omega) (.inl rfl) jt jf k 0)
    · exact p_trLdx h (by kernel_rfl) jt jf k i _ _ (fun V hV => p_ldLenB hV (by omega) (.inr rfl) jt jf k 1)
    · exact p_trLd h (by kernel_rfl) jt jf k i _ _ (fun V hV => p_ldImmB hV (by omega) (.inl rfl) jt jf k 0)
    · exact p_trLdx h (by kernel_rfl) jt jf k i _ _ (fun V hV => p_ldImmB hV (by omega) (.inr rfl) jt jf k 1)
    · exact p_trLd h (by kernel_rfl) jt jf k i _ _ (fun V hV => p_ldMemB hV (by omega) (.inl rfl) jt jf k 0)
    · exact p_trLdx h (by kernel_rfl) jt jf k i _ _ (fun V hV => p_ldMemB hV (by omega) (.inr rfl) jt jf k 1)
    · exact p_trSt h (by omega) (by kernel_rfl) jt jf k i
    · exact p_trStx h (by omega) (by kernel_rfl) jt jf k i
    · exact p_trAlu h (by kernel_rfl) jt jf k i _ _ (fun V hV => p_compNeg hV (by omega) jt jf k)
    · exact absurd rfl h5
    · exact p_trRet h (by kernel_rfl) jt jf k i _ _ (fun V hV => p_end6 hV (by omega) jt jf k)
    · exact p_trRet h (by kernel_rfl) jt jf k i _ _ (fun V hV => p_end22 hV (by omega) jt jf k)
    · exact p_trTax h (by omega) jt jf k i
    · exact p_trTxa h (by omega) jt jf k i
end
end Go.Proofs.YtoajommeiocfpaaGreat
namespace Go.Proofs.YtoajommeiocfpaaGreat
open Go Go.RowKit
set_option linter.unusedSimpArgs false
set_option linter.unusedVariables false
set_option maxRecDepth 100000

theorem own_putB {w : World} {B : Nat} {e : TypeId} {sz n c g : Nat} {xs : List Value} (h : w.ownsRow B e sz (.slice (some ⟨g, 0, none⟩) n c) n xs) (k : Nat) (u : Value) : (w.setCell ⟨g, k, none⟩ u).ownsRow B e sz (.slice (some ⟨g, 0, none⟩) n c) n (xs.set k u) := by
  obtain ⟨h1, h⟩ := h
  refine ⟨by rw [List.length_set]; exact h1, ?_⟩
  rcases h with ⟨e1, e2⟩ | ⟨g', c', cur, e1, hB, hg, hc, hm, hs, ht⟩
  · injection e1 with e1; cases e1
  · injection e1 with e1 _ e3
    injection e1 with e1
    injection e1 with e1
    subst e1 e3
    refine .inr ⟨g, c, cur.setIfInBounds k u, rfl, hB, ?_, hc, hm, by rw [Array.size_setIfInBounds]; exact hs, ?_⟩
    · unfold World.setCell
      simp only [Array.getElem?_modify, if_true, hg]
      rfl
    · rw [Array.toList_setIfInBounds, List.take_set, ht]
theorem own_cellB {w : World} {B : Nat} {e : TypeId} {sz n c g : Nat} {xs : List Value} (h : w.ownsRow B e sz (.slice (some ⟨g, 0, none⟩) n c) n xs) {k : Nat} {u : Value} (hu : xs[k]? = some u) : w.cell? ⟨g, k, none⟩ = some u ∧ w.frozen? ⟨g, k, none⟩ = false := by
  rcases h.2 with ⟨e1, e2⟩ | ⟨g', c', cur, e1, hB, hg, hc, hm, hs, ht⟩
  · injection e1 with e1; cases e1
  · injection e1 with e1 _ e3
    injection e1 with e1
    injection e1 with e1
    subst e1 e3
    rw [← ht, List.getElem?_take] at hu
    split at hu
    · exact ⟨by unfold World.cell?; rw [hg]; simpa using hu, by unfold World.frozen?; rw [hg]; simp⟩
    · cases hu
theorem own_addrB {w : World} {B : Nat} {e : TypeId} {sz n c : Nat} {A : Option Addr} {xs : List Value} (h : w.ownsRow B e sz (.slice A n c) n xs) (hn : 0 < n) : ∃ g, A = some ⟨g, 0, none⟩ := by
  rcases h.2 with ⟨e1, e2⟩ | ⟨g', c', cur, e1, hB, hg, hc, hm, hs, ht⟩
  · omega
  · injection e1 with e1 _ e3
    exact ⟨g', e1⟩
theorem cell_otherB {W : World} {g k p i : Nat} {v : Value} (h : p ≠ g) : (W.setCell ⟨g, k, none⟩ v).cell? ⟨p, i, none⟩ = W.cell? ⟨p, i, none⟩ := World.cell?_of_block (a := ⟨p, i, none⟩) (set_otherB h)
theorem irsL_cons (x : Irx) (l : List Irx) : irsL (x :: l) = irL x ++ irsL l := by unfold irsL; rw [List.flatMap_cons]
theorem irs_get : ∀ (l : List Irx) (k : Nat), k < l.length → ∀ (j : Nat) (u : Value), (irL (l.getD k irZ))[j]? = some u → (irsL l)[k * 7 + j]? = some u
  | [], k, h => absurd h (by simp)
  | x :: l, 0, _ => fun j u hu => by
    have hu : (irL x)[j]? = some u := hu
    rw [irsL_cons, Nat.zero_mul, Nat.zero_add, List.getElem?_append_left (List.getElem?_eq_some_iff.1 hu).1]; exact hu
  | x :: l, k + 1, h => fun j u hu => by
    rw [irsL_cons, List.getElem?_append_right (by show 7 ≤ _; omega), show (k + 1) * 7 + j - (irL x).length = k * 7 + j by show (k + 1) * 7 + j - 7 = _; omega]
    exact irs_get l k (by simpa using h) j u hu
theorem irs_set : ∀ (l : List Irx) (k : Nat), k < l.length → ∀ (o d a b t f t' f' : Int) (kk : BitVec 32), l.getD k irZ = ⟨o, d, a, b, kk, t, f⟩ → irsL (l.set k ⟨o, d, a, b, kk, t', f'⟩) = ((irsL l).set (k * 7 + 5) (.int .i64 t')).set (k * 7 + 6) (.int .i64 f')
  | [], k, h => absurd h (by simp)
  | x :: l, 0, _ => fun o d a b t f t' f' kk hx => by
    obtain rfl : x = ⟨o, d, a, b, kk, t, f⟩ := hx
    rw [List.set_cons_zero, irsL_cons, irsL_cons]
    rfl
  | x :: l, k + 1, h => fun o d a b t f t' f' kk hx => by
    rw [List.set_cons_succ, irsL_cons, irsL_cons, irs_set l k (by simpa using h) o d a b t f t' f' kk hx,
      List.set_append_right _ _ (by show 7 ≤ _; omega), List.set_append_right _ _ (by show 7 ≤ _; omega), show (k + 1) * 7 + 5 - (irL x).length = k * 7 + 5 by show (k + 1) * 7 + 5 - 7 = _; omega, show (k + 1) * 7 + 6 - (irL x).length = k * 7 + 6 by show (k + 1) * 7 + 6 - 7 = _; omega]
/-- The builder, its rows by name. -/
structure BuX (B : Nat) (S : Nat → Prop) (W : World) (bb : Nat) (L : List Irx) (bg op : List Int) (A1 : Option Addr) (n1 c1 : Nat) (A2 : Option Addr) (n2 c2 : Nat) (A3 : Option Addr) (n3 c3 : Nat) : Prop where
  l1 : L.length = n1
  l2 : bg.length = n2
  l3 : op.length = n3
  box : W.heap[bb]? = some (bldO (.slice A1 n1 c1) (.slice A2 n2 c2) (.slice A3 n3 c3))
  r : R3 B S W (.slice A1 n1 c1) n1 (irsL L) (.slice A2 n2 c2) n2 (izL bg) (.slice A3 n3 c3) n3 (izL op)
  base : B ≤ bb
  apart : ∀ k, S k → k ≠ bb
section
variable {B : Nat} {S : Nat → Prop} {W : World} {bb : Nat} {L : List Irx} {bg op : List Int} {A1 A2 A3 : Option Addr} {n1 c1 n2 c2 n3 c3 : Nat}
theorem BuAt.named (h : BuAt B S W bb L bg op) : ∃ A1 c1 A2 c2 A3 c3, BuX B S W bb L bg op A1 L.length c1 A2 bg.length c2 A3 op.length c3 := by
  obtain ⟨A1, c1, A2, c2, A3, c3, h1, h2, h3, h4⟩ := h
  exact ⟨A1, c1, A2, c2, A3, c3, rfl, rfl, rfl, h1, h2, h3, h4⟩
theorem BuX.at_ (h : BuX B S W bb L bg op A1 n1 c1 A2 n2 c2 A3 n3 c3) : BuAt B S W bb L bg op := by
  obtain ⟨rfl, rfl, rfl, h1, h2, h3, h4⟩ := h
  exact ⟨A1, c1, A2, c2, A3, c3, h1, h2, h3, h4⟩
theorem ap_some {v : Value} {g n c : Nat} (h : ApB v (.slice (some ⟨g, 0, none⟩) n c)) : v.ownBlock ≠ some g := by
  rcases h with h | h
  · rw [h]; simp
  · exact h
theorem BuX.put {g : Nat} (h : BuX B S W bb L bg op (some ⟨g, 0, none⟩) n1 c1 A2 n2 c2 A3 n3 c3) (k : Nat) (u : Value) {ys : List Value} (hr : R3 B S W (.slice (some ⟨g, 0, none⟩) n1 c1) n1 ys (.slice A2 n2 c2) n2 (izL bg) (.slice A3 n3 c3) n3 (izL op)) :
    (W.setCell ⟨g, k, none⟩ u).heap[bb]? = some (bldO (.slice (some ⟨g, 0, none⟩) n1 c1) (.slice A2 n2 c2) (.slice A3 n3 c3)) ∧ R3 B S (W.setCell ⟨g, k, none⟩ u) (.slice (some ⟨g, 0, none⟩) n1 c1) n1 (ys.set k u) (.slice A2 n2 c2) n2 (izL bg) (.slice A3 n3 c3) n3 (izL op) ∧ B ≤ g ∧ g ≠ bb := by
  have hne : bb ≠ g := fun e => own_neB (T := 70) (by decide) hr.r1 h.box (by rw [e]; rfl)
  refine ⟨(set_otherB hne).trans h.box, ⟨own_putB hr.r1 k u, own_setB hr.r2 (ap_some hr.a21), own_setB hr.r3 (ap_some hr.a31), hr.a21, hr.a31, hr.a32, fun k' hk => ⟨by simpa [World.setCell] using (hr.s k' hk).1, (hr.s k' hk).2⟩⟩, (hr.r1.lt g rfl).1, fun e => hne e.symm⟩
theorem izV_get {l : List Int} {i : Nat} {z : Int} (h : l[i]? = some z) : (izL l)[i]? = some (.int .i64 z) := by
  unfold izL
  rw [List.getElem?_map, h]; rfl
set_option maxHeartbeats 16000000 in
theorem p_settleB (h : BuX B S W bb L bg op A1 n1 c1 A2 n2 c2 A3 n3 c3) (beg : Nat → Nat) (hbg : ∀ t, t < n2 → bg[t]? = some (beg t : Int))
    (hO : ∀ z ∈ op, ∃ (o d a b : Int) (k : BitVec 32) (t f : Nat), z.toNat < n1 ∧ 0 ≤ z ∧ L.getD z.toNat irZ = ⟨o, d, a, b, k, (t : Int), (f : Int)⟩ ∧ t < n2 ∧ f < n2) (hup : op.Pairwise (· < ·)) (hn1 : n1 ≤ 100000000) (hn2 : n2 ≤ 100000000) (hn3 : n3 ≤ 100000000) :
    Calls Tryz.prog 32 #[.pointer (some ⟨bb, 1, none⟩), .slice A1 n1 c1] W fun e w' => e = .returned (.tuple #[]) ∧ BuX B S w' bb (settleN beg L op) bg op A1 n1 c1 A2 n2 c2 A3 n3 c3 ∧ Below B W w' ∧ ∀ k, S k → w'.heap[k]? = W.heap[k]? := by
  have H0 := Lib.hid h
  have d2 := cellM h.box 2 (v := .slice A3 n3 c3) rfl
  have hB : B ≤ W.heap.size := by have := (Array.getElem?_eq_some_iff.1 h.box).1; have := h.base; omega
  have HM := Lib.hid (And.intro hbg (And.intro hO (And.intro hup hB)))
  clear h hbg hO hup hB
  go_enter Tryz.func32, Tryz.ntmps32
  go_wp2
  go_loopw [12] (fun i wr => ∃ m : Nat, i = .int .i64 (m : Int) ∧ m ≤ n3 ∧ BuX B S wr bb (settleN beg L (op.take m)) bg op A1 n1 c1 A2 n2 c2 A3 n3 c3 ∧ Below B W wr ∧ ∀ k, S k → wr.heap[k]? = W.heap[k]?) (fun i _ => n3 - (intOf i).toNat)
  case atStart => exact ⟨0, rfl, Nat.zero_le _, H0.out, Below.refl _ _, fun k hk => rfl⟩
  case round =>
    obtain ⟨m, rfl, hm, hX, hBl, hS⟩ := hrel
    by_cases hlt : m < n3
    · have hlt' : (m : Int) < (n3 : Int) := by omega
      obtain ⟨z, hz⟩ : ∃ z, op[m]? = some z := ⟨_, List.getElem?_eq_getElem (by have := hX.l3; omega)⟩
      have hzm : z ∈ op := List.mem_of_getElem? hz
      obtain ⟨o, d, a, b, kk, t, f, h1, h2, h3, h4, h5⟩ := HM.out.2.1 z hzm
      obtain ⟨zn, rfl⟩ : ∃ zn : Nat, z = (zn : Int) := ⟨z.toNat, by omega⟩
      rw [Int.toNat_natCast] at h1 h3
      have htk : op.take (m + 1) = op.take m ++ [(zn : Int)] := by rw [List.take_add_one, hz]; rfl
      have hcur : (settleN beg L (op.take m)).getD zn irZ = ⟨o, d, a, b, kk, (t : Int), (f : Int)⟩ := by
        rw [settle_out beg (op.take m) L zn, h3]
        intro y hy
        have : y < (zn : Int) := by
          have hp := HM.out.2.2.1
          have e : op = op.take m ++ op.drop m := (List.take_append_drop m op).symm
          rw [e] at hp
          refine (List.pairwise_append.1 hp).2.2 y hy _ ?_
          rw [List.mem_iff_getElem?]
          exact ⟨0, by rw [List.getElem?_drop, Nat.add_zero]; exact hz⟩
        obtain ⟨_, _, _, _, _, _, _, g1, g2, _⟩ := HM.out.2.1 y (List.mem_of_mem_take hy)
        omega
      have hnext : settleN beg L (op.take (m + 1)) = (settleN beg L (op.take m)).set zn ⟨o, d, a, b, kk, (beg t : Int), (beg f : Int)⟩ := by
        rw [htk, settle_app, settleN, settleN, Int.toNat_natCast, hcur]; rfl
      have hlen : zn < (settleN beg L (op.take m)).length := by rw [hX.l1]; exact h1
      obtain ⟨g1, rfl⟩ := own_addrB hX.r.r1 (by omega)
      obtain ⟨g2, rfl⟩ := own_addrB hX.r.r2 (by omega)
      obtain ⟨g3, rfl⟩ := own_addrB hX.r.r3 (by omega)
      have hXY : BuX B S wr.drew bb (settleN beg L (op.take m)) bg op (some ⟨g1, 0, none⟩) n1 c1 (some ⟨g2, 0, none⟩) n2 c2 (some ⟨g3, 0, none⟩) n3 c3 := ⟨hX.l1, hX.l2, hX.l3, hX.box, hX.r.below (below_drawn (Below.refl _ _) 1), hX.base, hX.apart⟩
      have cz := own_cellB hX.r.r3 (izV_get hz)
      have eT := irs_get _ zn hlen 5 (.int .i64 (t : Int)) (by rw [hcur]; rfl)
      have eF := irs_get _ zn hlen 6 (.int .i64 (f : Int)) (by rw [hcur]; rfl)
      have ct := own_cellB hXY.r.r1 eT
      have cf := own_cellB hXY.r.r1 eF
      have bt := own_cellB hXY.r.r2 (izV_get (HM.out.1 t h4))
      have bf := own_cellB hXY.r.r2 (izV_get (HM.out.1 f h5))
      have cb := cellM hXY.box 1 (v := .slice (some ⟨g2, 0, none⟩) n2 c2) rfl
      have P1 := hXY.put (zn * 7 + 5) (.int .i64 (beg t : Int)) hXY.r
      have hX1 : BuX B S (wr.drew.setCell ⟨g1, zn * 7 + 5, none⟩ (.int .i64 (beg t : Int))) bb (settleN beg L (op.take m)) bg op (some ⟨g1, 0, none⟩) n1 c1 (some ⟨g2, 0, none⟩) n2 c2 (some ⟨g3, 0, none⟩) n3 c3 → True := fun _ => trivial
      have cf1 := own_cellB P1.2.1.r1 (show ((irsL (settleN beg L (op.take m))).set (zn * 7 + 5) (.int .i64 (beg t : Int)))[zn * 7 + 6]? = some (.int .i64 (f : Int)) by rw [List.getElem?_set_ne (by omega)]; exact eF)
      have hne2 : g2 ≠ g1 := fun e => ap_some hX.r.a21 (by rw [← e]; rfl)
      have hneb : bb ≠ g1 := fun e => P1.2.2.2 e.symm
      have P2 : ((wr.drew.setCell ⟨g1, zn * 7 + 5, none⟩ (.int .i64 (beg t : Int))).setCell ⟨g1, zn * 7 + 6, none⟩ (.int .i64 (beg f : Int))).heap[bb]? = some (bldO (.slice (some ⟨g1, 0, none⟩) n1 c1) (.slice (some ⟨g2, 0, none⟩) n2 c2) (.slice (some ⟨g3, 0, none⟩) n3 c3)) := (set_otherB hneb).trans P1.1
      have P3 : R3 B S ((wr.drew.setCell ⟨g1, zn * 7 + 5, none⟩ (.int .i64 (beg t : Int))).setCell ⟨g1, zn * 7 + 6, none⟩ (.int .i64 (beg f : Int))) (.slice (some ⟨g1, 0, none⟩) n1 c1) n1 (irsL (settleN beg L (op.take (m + 1)))) (.slice (some ⟨g2, 0, none⟩) n2 c2) n2 (izL bg) (.slice (some ⟨g3, 0, none⟩) n3 c3) n3 (izL op) := by
        rw [hnext, irs_set _ zn hlen o d a b t f (beg t) (beg f) kk hcur]
        have R := P1.2.1
        exact ⟨own_putB R.r1 _ _, own_setB R.r2 (ap_some R.a21), own_setB R.r3 (ap_some R.a31), R.a21, R.a31, R.a32, fun k' hk => ⟨by simpa [World.setCell] using (R.s k' hk).1, (R.s k' hk).2⟩⟩
      have P4 : BuX B S ((wr.drew.setCell ⟨g1, zn * 7 + 5, none⟩ (.int .i64 (beg t : Int))).setCell ⟨g1, zn * 7 + 6, none⟩ (.int .i64 (beg f : Int))) bb (settleN beg L (op.take (m + 1))) bg op (some ⟨g1, 0, none⟩) n1 c1 (some ⟨g2, 0, none⟩) n2 c2 (some ⟨g3, 0, none⟩) n3 c3 :=
        ⟨by rw [settle_len, ← settle_len beg (op.take m) L]; exact hX.l1, hX.l2, hX.l3, P2, P3, hX.base, hX.apart⟩
      have hBY : Below B W wr.drew := below_drawn hBl 1
      have P5 : Below B W ((wr.drew.setCell ⟨g1, zn * 7 + 5, none⟩ (.int .i64 (beg t : Int))).setCell ⟨g1, zn * 7 + 6, none⟩ (.int .i64 (beg f : Int))) := (hBY.setCell (p := ⟨g1, zn * 7 + 5, none⟩) P1.2.2.1 _).setCell (p := ⟨g1, zn * 7 + 6, none⟩) P1.2.2.1 _
      have P6 : ∀ k, S k → ((wr.drew.setCell ⟨g1, zn * 7 + 5, none⟩ (.int .i64 (beg t : Int))).setCell ⟨g1, zn * 7 + 6, none⟩ (.int .i64 (beg f : Int))).heap[k]? = W.heap[k]? := fun k hk => by
        have hne : k ≠ g1 := fun e => (hX.r.s k hk).2.1 (by rw [e]; rfl)
        exact ((set_otherB hne).trans (set_otherB hne)).trans (hS k hk)
      have HE := Lib.hid (show ∃ m' : Nat, Value.int IntKind.i64 ((m : Int) + 1) = .int .i64 (m' : Int) ∧ m' ≤ n3 ∧ BuX B S ((wr.drew.setCell ⟨g1, zn * 7 + 5, none⟩ (.int .i64 (beg t : Int))).setCell ⟨g1, zn * 7 + 6, none⟩ (.int .i64 (beg f : Int))) bb (settleN beg L (op.take m')) bg op (some ⟨g1, 0, none⟩) n1 c1 (some ⟨g2, 0, none⟩) n2 c2 (some ⟨g3, 0, none⟩) n3 c3 ∧ Below B W ((wr.drew.setCell ⟨g1, zn * 7 + 5, none⟩ (.int .i64 (beg t : Int))).setCell ⟨g1, zn * 7 + 6, none⟩ (.int .i64 (beg f : Int))) ∧ ∀ k, S k → ((wr.drew.setCell ⟨g1, zn * 7 + 5, none⟩ (.int .i64 (beg t : Int))).setCell ⟨g1, zn * 7 + 6, none⟩ (.int .i64 (beg f : Int))).heap[k]? = W.heap[k]? from ⟨m + 1, by rw [show ((m + 1 : Nat) : Int) = (m : Int) + 1 from rfl], by omega, P4, P5, P6⟩)
      have HS1 := Lib.hid (show (wr.drew.setCell ⟨g1, zn * 7 + 5, none⟩ (.int .i64 (beg t : Int))).cell? ⟨bb, 1, none⟩ = some (.slice (some ⟨g2, 0, none⟩) n2 c2) ∧ (wr.drew.setCell ⟨g1, zn * 7 + 5, none⟩ (.int .i64 (beg t : Int))).cell? ⟨g2, t, none⟩ = some (.int .i64 (beg t : Int)) ∧ (wr.drew.setCell ⟨g1, zn * 7 + 5, none⟩ (.int .i64 (beg t : Int))).cell? ⟨g2, f, none⟩ = some (.int .i64 (beg f : Int)) from ⟨(cell_otherB hneb).trans cb, (cell_otherB hne2).trans bt.1, (cell_otherB hne2).trans bf.1⟩)
      have HS2 := Lib.hid (show ((wr.drew.setCell ⟨g1, zn * 7 + 5, none⟩ (.int .i64 (beg t : Int))).setCell ⟨g1, zn * 7 + 6, none⟩ (.int .i64 (beg f : Int))).cell? ⟨bb, 1, none⟩ = some (.slice (some ⟨g2, 0, none⟩) n2 c2) ∧ ((wr.drew.setCell ⟨g1, zn * 7 + 5, none⟩ (.int .i64 (beg t : Int))).setCell ⟨g1, zn * 7 + 6, none⟩ (.int .i64 (beg f : Int))).cell? ⟨g2, t, none⟩ = some (.int .i64 (beg t : Int)) ∧ ((wr.drew.setCell ⟨g1, zn * 7 + 5, none⟩ (.int .i64 (beg t : Int))).setCell ⟨g1, zn * 7 + 6, none⟩ (.int .i64 (beg f : Int))).cell? ⟨g2, f, none⟩ = some (.int .i64 (beg f : Int)) from ⟨(cell_otherB hneb).trans HS1.out.1, (cell_otherB hne2).trans HS1.out.2.1, (cell_otherB hne2).trans HS1.out.2.2⟩)
      have HC := Lib.hid (And.intro ct (And.intro cf (And.intro cf1 (show wr.drew.cell? ⟨bb, 1, none⟩ = some (.slice (some ⟨g2, 0, none⟩) n2 c2) ∧ wr.drew.cell? ⟨g2, t, none⟩ = some (.int .i64 (beg t : Int)) ∧ wr.drew.cell? ⟨g2, f, none⟩ = some (.int .i64 (beg f : Int)) from ⟨cb, bt.1, bf.1⟩))))
      clear hX hXY P1 hX1 P2 P3 P4 P5 P6 hBY hBl hS hne2 hneb hnext htk hcur hlen h3 hz hzm H0 d2 ct cf cf1 cb bt bf eT eF
      have k1 : (zn : Int) < (n1 : Int) := by omega
      have k2 : (t : Int) < (n2 : Int) := by omega
      have k3 : (f : Int) < (n2 : Int) := by omega
      have hwm : IntKind.i64.wrap ((m : Int) + 1) = (m : Int) + 1 := IntWalk.i64_in _ (by omega)
      go_wp2
      refine wp_region_held_drew (S := fun W' => W'.cell? ⟨bb, 1, none⟩ = some (.slice (some ⟨g2, 0, none⟩) n2 c2) ∧ W'.cell? ⟨g2, t, none⟩ = some (.int .i64 (beg t : Int)) ∧ W'.cell? ⟨g2, f, none⟩ = some (.int .i64 (beg f : Int))) (by kernel_rfl) HC.out.2.2.2 (fun hHeld => ?_)
      obtain ⟨⟨cT, fT⟩, ⟨cF, fF⟩, ⟨cG, fG⟩, _⟩ := HC.out
      clear HC cz
      generalize wr.drew = Y at *
      refine wpAnyH_take (i := 0) (v := ?_) rfl (by kernel_rfl) (by kernel_rfl) (by kernel_rfl) (fun _ _ _ h => h) (Or.inl ⟨by rfl, ?_⟩) (by assumption) ?_
      rotate_left
      · intro wS hSw
        (have d0 := hSw.1; have d1 := hSw.2.1; have d2 := hSw.2.2)
        go_simp
        all_goals with_reducible rfl
      (try simp only [List.getElem_toArray, List.getElem_cons_zero, List.getElem_cons_succ, Act.put, List.setIfInBounds_toArray, List.set_cons_zero, List.set_cons_succ])
      refine wpAnyH_take (i := 1) (v := ?_) rfl (by kernel_rfl) (by kernel_rfl) (by kernel_rfl) (fun _ _ _ h => h) (Or.inl ⟨by rfl, ?_⟩) (by assumption) ?_
      rotate_left
      · intro wS hSw
        (have d0 := hSw.1; have d1 := hSw.2.1; have d2 := hSw.2.2)
        go_simp
        all_goals with_reducible rfl
      (try simp only [List.getElem_toArray, List.getElem_cons_zero, List.getElem_cons_succ, Act.put, List.setIfInBounds_toArray, List.set_cons_zero, List.set_cons_succ])
      refine wpAnyH_take (i := 2) (v := ?_) rfl (by kernel_rfl) (by kernel_rfl) (by kernel_rfl) (fun _ _ _ h => h) (Or.inl ⟨by rfl, ?_⟩) (by assumption) ?_
      rotate_left
      · intro wS hSw
        (have d0 := hSw.1; have d1 := hSw.2.1; have d2 := hSw.2.2)
        go_simp
        all_goals with_reducible rfl
      (try simp only [List.getElem_toArray, List.getElem_cons_zero, List.getElem_cons_succ, Act.put, List.setIfInBounds_toArray, List.set_cons_zero, List.set_cons_succ])
      refine wpAnyH_take (i := 3) (v := ?_) rfl (by kernel_rfl) (by kernel_rfl) (by kernel_rfl) (fun _ _ _ h => h) (Or.inl ⟨by rfl, ?_⟩) (by assumption) ?_
      rotate_left
      · intro wS hSw
        (have d0 := hSw.1; have d1 := hSw.2.1; have d2 := hSw.2.2)
        go_simp
        all_goals with_reducible rfl
      (try simp only [List.getElem_toArray, List.getElem_cons_zero, List.getElem_cons_succ, Act.put, List.setIfInBounds_toArray, List.set_cons_zero, List.set_cons_succ])
      refine wpAnyH_take (i := 4) (v := ?_) rfl (by kernel_rfl) (by kernel_rfl) (by kernel_rfl) (fun _ _ _ h => h) (Or.inl ⟨by rfl, ?_⟩) (by assumption) ?_
      rotate_left
      · intro wS hSw
        (have d0 := hSw.1; have d1 := hSw.2.1; have d2 := hSw.2.2)
        go_simp
        all_goals with_reducible rfl
      (try simp only [List.getElem_toArray, List.getElem_cons_zero, List.getElem_cons_succ, Act.put, List.setIfInBounds_toArray, List.set_cons_zero, List.set_cons_succ])
      refine wpAnyH_take (i := 5) (v := ?_) rfl (by kernel_rfl) (by kernel_rfl) (by kernel_rfl) (fun _ _ _ h => h) (Or.inl ⟨by rfl, ?_⟩) (by assumption) ?_
      rotate_left
      · intro wS hSw
        (have d0 := hSw.1; have d1 := hSw.2.1; have d2 := hSw.2.2)
        go_simp
        all_goals with_reducible rfl
      (try simp only [List.getElem_toArray, List.getElem_cons_zero, List.getElem_cons_succ, Act.put, List.setIfInBounds_toArray, List.set_cons_zero, List.set_cons_succ])
      refine wpAnyH_take (i := 6) (v := ?_) rfl (by kernel_rfl) (by kernel_rfl) (by kernel_rfl) (fun _ _ _ h => h) (Or.inl ⟨by rfl, ?_⟩) (by assumption) ?_
      rotate_left
      · intro wS hSw
        (have d0 := hSw.1; have d1 := hSw.2.1; have d2 := hSw.2.2)
        go_simp
        all_goals with_reducible rfl
      (try simp only [List.getElem_toArray, List.getElem_cons_zero, List.getElem_cons_succ, Act.put, List.setIfInBounds_toArray, List.set_cons_zero, List.set_cons_succ])
      refine wpAnyH_take (i := 7) (v := ?_) rfl (by kernel_rfl) (by kernel_rfl) (by kernel_rfl) (fun _ _ _ h => h) (Or.inl ⟨by rfl, ?_⟩) (by assumption) ?_
      rotate_left
      · intro wS hSw
        (have d0 := hSw.1; have d1 := hSw.2.1; have d2 := hSw.2.2)
        go_simp
        all_goals with_reducible rfl
      (try simp only [List.getElem_toArray, List.getElem_cons_zero, List.getElem_cons_succ, Act.put, List.setIfInBounds_toArray, List.set_cons_zero, List.set_cons_succ])
      refine wpAnyH_take (i := 8) (v := ?_) rfl (by kernel_rfl) (by kernel_rfl) (by kernel_rfl) (fun _ _ _ h => h) (Or.inl ⟨by rfl, ?_⟩) (by assumption) ?_
      rotate_left
      · intro wS hSw
        (have d0 := hSw.1; have d1 := hSw.2.1; have d2 := hSw.2.2)
        go_simp
        all_goals with_reducible rfl
      (try simp only [List.getElem_toArray, List.getElem_cons_zero, List.getElem_cons_succ, Act.put, List.setIfInBounds_toArray, List.set_cons_zero, List.set_cons_succ])
      refine wpAnyH_take (i := 12) (v := ?_) rfl (by kernel_rfl) (by kernel_rfl) (by kernel_rfl) (fun _ _ _ h => h) (Or.inl ⟨by rfl, ?_⟩) (by assumption) ?_
      rotate_left
      · intro wS hSw
        (have d0 := hSw.1; have d1 := hSw.2.1; have d2 := hSw.2.2)
        go_simp
        all_goals with_reducible rfl
      (try simp only [List.getElem_toArray, List.getElem_cons_zero, List.getElem_cons_succ, Act.put, List.setIfInBounds_toArray, List.set_cons_zero, List.set_cons_succ])
      refine wpAnyH_take (i := 13) (v := ?_) rfl (by kernel_rfl) (by kernel_rfl) (by kernel_rfl) (fun _ _ _ h => h) (Or.inl ⟨by rfl, ?_⟩) (by assumption) ?_
      rotate_left
      · intro wS hSw
        (have d0 := hSw.1; have d1 := hSw.2.1; have d2 := hSw.2.2)
        go_simp
        all_goals with_reducible rfl
      (try simp only [List.getElem_toArray, List.getElem_cons_zero, List.getElem_cons_succ, Act.put, List.setIfInBounds_toArray, List.set_cons_zero, List.set_cons_succ])
      refine wpAnyH_take (i := 14) (v := ?_) rfl (by kernel_rfl) (by kernel_rfl) (by kernel_rfl) (fun _ _ _ h => h) (Or.inl ⟨by rfl, ?_⟩) (by assumption) ?_
      rotate_left
      · intro wS hSw
        (have d0 := hSw.1; have d1 := hSw.2.1; have d2 := hSw.2.2)
        go_simp
        all_goals with_reducible rfl
      (try simp only [List.getElem_toArray, List.getElem_cons_zero, List.getElem_cons_succ, Act.put, List.setIfInBounds_toArray, List.set_cons_zero, List.set_cons_succ])
      refine wpAnyH_take (i := 15) (v := ?_) rfl (by kernel_rfl) (by kernel_rfl) (by kernel_rfl) (fun _ _ _ h => h) (Or.inl ⟨by rfl, ?_⟩) (by assumption) ?_
      rotate_left
      · intro wS hSw
        (have d0 := hSw.1; have d1 := hSw.2.1; have d2 := hSw.2.2)
        go_simp
        all_goals with_reducible rfl
      (try simp only [List.getElem_toArray, List.getElem_cons_zero, List.getElem_cons_succ, Act.put, List.setIfInBounds_toArray, List.set_cons_zero, List.set_cons_succ])
      refine wpAnyH_take (i := 16) (v := ?_) rfl (by kernel_rfl) (by kernel_rfl) (by kernel_rfl) (fun _ _ _ h => h) (Or.inl ⟨by rfl, ?_⟩) (by assumption) ?_
      rotate_left
      · intro wS hSw
        (have d0 := hSw.1; have d1 := hSw.2.1; have d2 := hSw.2.2)
        go_simp
        all_goals with_reducible rfl
      (try simp only [List.getElem_toArray, List.getElem_cons_zero, List.getElem_cons_succ, Act.put, List.setIfInBounds_toArray, List.set_cons_zero, List.set_cons_succ])
      refine wpAnyH_take (i := 17) (v := ?_) rfl (by kernel_rfl) (by kernel_rfl) (by kernel_rfl) (fun _ _ _ h => h) (Or.inl ⟨by rfl, ?_⟩) (by assumption) ?_
      rotate_left
      · intro wS hSw
        (have d0 := hSw.1; have d1 := hSw.2.1; have d2 := hSw.2.2)
        go_simp
        all_goals with_reducible rfl
      (try simp only [List.getElem_toArray, List.getElem_cons_zero, List.getElem_cons_succ, Act.put, List.setIfInBounds_toArray, List.set_cons_zero, List.set_cons_succ])
      refine wpAnyH_take (i := 18) (v := ?_) rfl (by kernel_rfl) (by kernel_rfl) (by kernel_rfl) (fun _ _ _ h => h) (Or.inl ⟨by rfl, ?_⟩) (by assumption) ?_
      rotate_left
      · intro wS hSw
        (have d0 := hSw.1; have d1 := hSw.2.1; have d2 := hSw.2.2)
        go_simp
        all_goals with_reducible rfl
      (try simp only [List.getElem_toArray, List.getElem_cons_zero, List.getElem_cons_succ, Act.put, List.setIfInBounds_toArray, List.set_cons_zero, List.set_cons_succ])
      refine wpAnyH_ready (rs := [9, 19]) (by kernel_rfl) (by simp) (AllReadyH.cons rfl (fun K hK => ?_) (AllReadyH.cons rfl (fun K hK => ?_) AllReadyH.nil))
      · go_simp
        refine hK.out _ _ hHeld (fun hH1 => ?_)
        clear hK K hHeld
        (try simp only [Act.put, List.setIfInBounds_toArray, List.set_cons_zero, List.set_cons_succ, List.getElem_toArray, List.getElem_cons_zero, List.getElem_cons_succ])
        refine wpAnyH_take (i := 10) (v := ?_) rfl (by kernel_rfl) (by kernel_rfl) (by kernel_rfl) (fun _ _ _ h => h) (Or.inl ⟨by rfl, ?_⟩) (by assumption) ?_
        rotate_left
        · intro wS hSw
          (have d0 := hSw.1; have d1 := hSw.2.1; have d2 := hSw.2.2)
          go_simp
          all_goals with_reducible rfl
        (try simp only [List.getElem_toArray, List.getElem_cons_zero, List.getElem_cons_succ, Act.put, List.setIfInBounds_toArray, List.set_cons_zero, List.set_cons_succ])
        refine wpAnyH_take (i := 11) (v := ?_) rfl (by kernel_rfl) (by kernel_rfl) (by kernel_rfl) (fun _ _ _ h => h) (Or.inl ⟨by rfl, ?_⟩) (by assumption) ?_
        rotate_left
        · intro wS hSw
          (have d0 := hSw.1; have d1 := hSw.2.1; have d2 := hSw.2.2)
          go_simp
          all_goals with_reducible rfl
        (try simp only [List.getElem_toArray, List.getElem_cons_zero, List.getElem_cons_succ, Act.put, List.setIfInBounds_toArray, List.set_cons_zero, List.set_cons_succ])
        refine held_one (i := 19) (by kernel_rfl) rfl (fun K hK => ?_)
        go_simp
        refine hK.out _ _ hH1 (fun hH2 => ?_)
        clear hK K hH1
        (try simp only [Act.put, List.setIfInBounds_toArray, List.set_cons_zero, List.set_cons_succ, List.getElem_toArray, List.getElem_cons_zero, List.getElem_cons_succ])
        refine wpAnyH_take (i := 20) (v := ?_) rfl (by kernel_rfl) (by kernel_rfl) (by kernel_rfl) (fun _ _ _ h => h) (Or.inl ⟨by rfl, ?_⟩) (by assumption) ?_
        rotate_left
        · intro wS hSw
          (have d0 := hSw.1; have d1 := hSw.2.1; have d2 := hSw.2.2)
          go_simp
          all_goals with_reducible rfl
        (try simp only [List.getElem_toArray, List.getElem_cons_zero, List.getElem_cons_succ, Act.put, List.setIfInBounds_toArray, List.set_cons_zero, List.set_cons_succ])
        refine wpAnyH_take (i := 21) (v := ?_) rfl (by kernel_rfl) (by kernel_rfl) (by kernel_rfl) (fun _ _ _ h => h) (Or.inl ⟨by rfl, ?_⟩) (by assumption) ?_
        rotate_left
        · intro wS hSw
          (have d0 := hSw.1; have d1 := hSw.2.1; have d2 := hSw.2.2)
          go_simp
          all_goals with_reducible rfl
        (try simp only [List.getElem_toArray, List.getElem_cons_zero, List.getElem_cons_succ, Act.put, List.setIfInBounds_toArray, List.set_cons_zero, List.set_cons_succ])
        refine wpAnyH_take (i := 22) (v := ?_) rfl (by kernel_rfl) (by kernel_rfl) (by kernel_rfl) (fun _ _ _ h => h) (Or.inl ⟨by rfl, ?_⟩) (by assumption) ?_
        rotate_left
        · intro wS hSw
          (have d0 := hSw.1; have d1 := hSw.2.1; have d2 := hSw.2.2)
          go_simp
          all_goals with_reducible rfl
        (try simp only [List.getElem_toArray, List.getElem_cons_zero, List.getElem_cons_succ, Act.put, List.setIfInBounds_toArray, List.set_cons_zero, List.set_cons_succ])
        refine wpAnyH_take (i := 23) (v := ?_) rfl (by kernel_rfl) (by kernel_rfl) (by kernel_rfl) (fun _ _ _ h => h) (Or.inl ⟨by rfl, ?_⟩) (by assumption) ?_
        rotate_left
        · intro wS hSw
          (have d0 := hSw.1; have d1 := hSw.2.1; have d2 := hSw.2.2)
          go_simp
          all_goals with_reducible rfl
        (try simp only [List.getElem_toArray, List.getElem_cons_zero, List.getElem_cons_succ, Act.put, List.setIfInBounds_toArray, List.set_cons_zero, List.set_cons_succ])
        refine held_one (i := 24) (by kernel_rfl) rfl (fun K hK => ?_)
        go_simp
        refine hK.out _ _ HS1.out (fun hH3 => ?_)
        clear hK K hH2
        (try simp only [Act.put, List.setIfInBounds_toArray, List.set_cons_zero, List.set_cons_succ, List.getElem_toArray, List.getElem_cons_zero, List.getElem_cons_succ])
        refine wpAnyH_take (i := 25) (v := ?_) rfl (by kernel_rfl) (by kernel_rfl) (by kernel_rfl) (fun _ _ _ h => h) (Or.inl ⟨by rfl, ?_⟩) (by assumption) ?_
        rotate_left
        · intro wS hSw
          (skip)
          go_simp
          all_goals with_reducible rfl
        (try simp only [List.getElem_toArray, List.getElem_cons_zero, List.getElem_cons_succ, Act.put, List.setIfInBounds_toArray, List.set_cons_zero, List.set_cons_succ])
        refine wpAnyH_take (i := 26) (v := ?_) rfl (by kernel_rfl) (by kernel_rfl) (by kernel_rfl) (fun _ _ _ h => h) (Or.inl ⟨by rfl, ?_⟩) (by assumption) ?_
        rotate_left
        · intro wS hSw
          (skip)
          go_simp
          all_goals with_reducible rfl
        (try simp only [List.getElem_toArray, List.getElem_cons_zero, List.getElem_cons_succ, Act.put, List.setIfInBounds_toArray, List.set_cons_zero, List.set_cons_succ])
        refine held_one (i := 27) (by kernel_rfl) rfl (fun K hK => ?_)
        go_simp
        refine hK.out _ _ HS2.out (fun hH4 => ?_)
        clear hK K hH3
        (try simp only [Act.put, List.setIfInBounds_toArray, List.set_cons_zero, List.set_cons_succ, List.getElem_toArray, List.getElem_cons_zero, List.getElem_cons_succ])
        refine wpAnyH_done (by kernel_rfl) ?_ _
        go_wp2
        exact ⟨HE.out, by simp [intOf]; omega⟩
      · go_simp
        refine hK.out _ _ hHeld (fun hH1 => ?_)
        clear hK K hHeld
        (try simp only [Act.put, List.setIfInBounds_toArray, List.set_cons_zero, List.set_cons_succ, List.getElem_toArray, List.getElem_cons_zero, List.getElem_cons_succ])
        refine wpAnyH_take (i := 20) (v := ?_) rfl (by kernel_rfl) (by kernel_rfl) (by kernel_rfl) (fun _ _ _ h => h) (Or.inl ⟨by rfl, ?_⟩) (by assumption) ?_
        rotate_left
        · intro wS hSw
          (have d0 := hSw.1; have d1 := hSw.2.1; have d2 := hSw.2.2)
          go_simp
          all_goals with_reducible rfl
        (try simp only [List.getElem_toArray, List.getElem_cons_zero, List.getElem_cons_succ, Act.put, List.setIfInBounds_toArray, List.set_cons_zero, List.set_cons_succ])
        refine wpAnyH_take (i := 21) (v := ?_) rfl (by kernel_rfl) (by kernel_rfl) (by kernel_rfl) (fun _ _ _ h => h) (Or.inl ⟨by rfl, ?_⟩) (by assumption) ?_
        rotate_left
        · intro wS hSw
          (have d0 := hSw.1; have d1 := hSw.2.1; have d2 := hSw.2.2)
          go_simp
          all_goals with_reducible rfl
        (try simp only [List.getElem_toArray, List.getElem_cons_zero, List.getElem_cons_succ, Act.put, List.setIfInBounds_toArray, List.set_cons_zero, List.set_cons_succ])
        refine held_one (i := 9) (by kernel_rfl) rfl (fun K hK => ?_)
        go_simp
        refine hK.out _ _ hH1 (fun hH2 => ?_)
        clear hK K hH1
        (try simp only [Act.put, List.setIfInBounds_toArray, List.set_cons_zero, List.set_cons_succ, List.getElem_toArray, List.getElem_cons_zero, List.getElem_cons_succ])
        refine wpAnyH_take (i := 10) (v := ?_) rfl (by kernel_rfl) (by kernel_rfl) (by kernel_rfl) (fun _ _ _ h => h) (Or.inl ⟨by rfl, ?_⟩) (by assumption) ?_
        rotate_left
        · intro wS hSw
          (have d0 := hSw.1; have d1 := hSw.2.1; have d2 := hSw.2.2)
          go_simp
          all_goals with_reducible rfl
        (try simp only [List.getElem_toArray, List.getElem_cons_zero, List.getElem_cons_succ, Act.put, List.setIfInBounds_toArray, List.set_cons_zero, List.set_cons_succ])
        refine wpAnyH_take (i := 11) (v := ?_) rfl (by kernel_rfl) (by kernel_rfl) (by kernel_rfl) (fun _ _ _ h => h) (Or.inl ⟨by rfl, ?_⟩) (by assumption) ?_
        rotate_left
        · intro wS hSw
          (have d0 := hSw.1; have d1 := hSw.2.1; have d2 := hSw.2.2)
          go_simp
          all_goals with_reducible rfl
        (try simp only [List.getElem_toArray, List.getElem_cons_zero, List.getElem_cons_succ, Act.put, List.setIfInBounds_toArray, List.set_cons_zero, List.set_cons_succ])
        refine wpAnyH_take (i := 22) (v := ?_) rfl (by kernel_rfl) (by kernel_rfl) (by kernel_rfl) (fun _ _ _ h => h) (Or.inl ⟨by rfl, ?_⟩) (by assumption) ?_
        rotate_left
        · intro wS hSw
          (have d0 := hSw.1; have d1 := hSw.2.1; have d2 := hSw.2.2)
          go_simp
          all_goals with_reducible rfl
        (try simp only [List.getElem_toArray, List.getElem_cons_zero, List.getElem_cons_succ, Act.put, List.setIfInBounds_toArray, List.set_cons_zero, List.set_cons_succ])
        refine wpAnyH_take (i := 23) (v := ?_) rfl (by kernel_rfl) (by kernel_rfl) (by kernel_rfl) (fun _ _ _ h => h) (Or.inl ⟨by rfl, ?_⟩) (by assumption) ?_
        rotate_left
        · intro wS hSw
          (have d0 := hSw.1; have d1 := hSw.2.1; have d2 := hSw.2.2)
          go_simp
          all_goals with_reducible rfl
        (try simp only [List.getElem_toArray, List.getElem_cons_zero, List.getElem_cons_succ, Act.put, List.setIfInBounds_toArray, List.set_cons_zero, List.set_cons_succ])
        refine held_one (i := 24) (by kernel_rfl) rfl (fun K hK => ?_)
        go_simp
        refine hK.out _ _ HS1.out (fun hH3 => ?_)
        clear hK K hH2
        (try simp only [Act.put, List.setIfInBounds_toArray, List.set_cons_zero, List.set_cons_succ, List.getElem_toArray, List.getElem_cons_zero, List.getElem_cons_succ])
        refine wpAnyH_take (i := 25) (v := ?_) rfl (by kernel_rfl) (by kernel_rfl) (by kernel_rfl) (fun _ _ _ h => h) (Or.inl ⟨by rfl, ?_⟩) (by assumption) ?_
        rotate_left
        · intro wS hSw
          (skip)
          go_simp
          all_goals with_reducible rfl
        (try simp only [List.getElem_toArray, List.getElem_cons_zero, List.getElem_cons_succ, Act.put, List.setIfInBounds_toArray, List.set_cons_zero, List.set_cons_succ])
        refine wpAnyH_take (i := 26) (v := ?_) rfl (by kernel_rfl) (by kernel_rfl) (by kernel_rfl) (fun _ _ _ h => h) (Or.inl ⟨by rfl, ?_⟩) (by assumption) ?_
        rotate_left
        · intro wS hSw
          (skip)
          go_simp
          all_goals with_reducible rfl
        (try simp only [List.getElem_toArray, List.getElem_cons_zero, List.getElem_cons_succ, Act.put, List.setIfInBounds_toArray, List.set_cons_zero, List.set_cons_succ])
        refine held_one (i := 27) (by kernel_rfl) rfl (fun K hK => ?_)
        go_simp
        refine hK.out _ _ HS2.out (fun hH4 => ?_)
        clear hK K hH3
        (try simp only [Act.put, List.setIfInBounds_toArray, List.set_cons_zero, List.set_cons_succ, List.getElem_toArray, List.getElem_cons_zero, List.getElem_cons_succ])
        refine wpAnyH_done (by kernel_rfl) ?_ _
        go_wp2
        exact ⟨HE.out, by simp [intOf]; omega⟩
    · have hlt' : ¬ (m : Int) < (n3 : Int) := by omega
      obtain rfl : m = n3 := by omega
      have he : op.take m = op := List.take_of_length_le (by have := hX.l3; omega)
      rw [he] at hX
      have HX := Lib.hid (And.intro hX (And.intro hBl hS))
      clear hX hBl hS H0 d2
      go_wp2
      go_end0
      exact ⟨rfl, HX.out⟩
end
end Go.Proofs.YtoajommeiocfpaaGreat
namespace Go.Proofs.YtoajommeiocfpaaGreat
open Go Go.RowKit
set_option linter.unusedSimpArgs false
set_option linter.unusedVariables false
set_option maxRecDepth 100000

theorem results_cellB {fn : Func} {p : Tmp} {ty : TypeId} (h : fn.results = #[.cell p ty]) (tmps : Array Value) (P : Program) (w : World) : (results fn tmps).run P w = ((asAddr (tmps.getD p undef)).run P w).andThen fun a w₁ => (loadVar ty a).run P w₁ := by
  simp only [results, h]
  simp [Sem.run_bind, Result.andThen]
theorem own_nilB (W : World) (B : Nat) (e : TypeId) (sz : Nat) : W.ownsRow B e sz (.slice none 0 0) 0 [] := ⟨by simp, .inl ⟨rfl, rfl⟩⟩
theorem bu_first (W : World) (t : Obj) (S : Nat → Prop) (hS : ∀ k, S k → k < W.heap.size + 1) : BuAt (W.heap.size + 1) S ((W.alloc t).alloc (bldO (.slice none 0 0) (.slice none 0 0) (.slice none 0 0))) (W.heap.size + 1) [] [] [] := by
  have hs : (W.alloc t).heap.size = W.heap.size + 1 := by simp
  refine ⟨none, 0, none, 0, none, 0, ?_, ⟨own_nilB _ _ _ _, own_nilB _ _ _ _, own_nilB _ _ _ _, .inl rfl, .inl rfl, .inl rfl, fun k hk => ⟨?_, by simp [Value.ownBlock], by simp [Value.ownBlock], by simp [Value.ownBlock]⟩⟩, Nat.le_refl _, fun k hk => by have := hS k hk; omega⟩
  · have := World.alloc_heap_new (W.alloc t) (bldO (.slice none 0 0) (.slice none 0 0) (.slice none 0 0))
    rwa [hs] at this
  · have := hS k hk
    simp; omega
/-- A row of one's own is a program of registers. -/
theorem ir_of_own {w : World} {B c : Nat} {A : Option Addr} {l : List Irx} (h : w.ownsRow B 40 7 (.slice A l.length c) l.length (irsL l)) (hn : l.length ≤ maxLen) : IrAt w A l.length (fun k => l.getD k irZ) :=
  ⟨hn, fun h0 => by
    obtain ⟨g, rfl⟩ := own_addrB h h0
    refine ⟨g, 0, rfl, (h.lt g rfl).2, fun i hi j u hj => ?_⟩
    rw [Nat.zero_add]
    exact (own_cellB h (irs_get l i hi j u hj)).1⟩
def FromP (q : Nat → Ins) (n : Nat) (w : World) (e : Ending) (w' : World) : Prop := ∃ A c, e = .returned (mirV 19 A (begN q n) c) ∧ IrAt w' A (begN q n) (progT q n) ∧ Below w.heap.size w w' ∧ ∀ a, A = some a → w.heap.size ≤ a.block
set_option maxHeartbeats 8000000 in
theorem p_build (w : World) (A : Option Addr) (n cap : Nat) (q : Nat → Ins) (h : ProgAt w A n q) (hok : ∀ i, i < n → (q i).OK) (ha : Accepted q n) :
    Calls Tryz.prog 13 #[.slice A n cap] w (FromP q n w) := by
  have hmax := ha.max
  have hone := fun i hi => one_ok.1 (ha.all i hi)
  have hP := Lib.hid h
  have HA := Lib.hid (And.intro ha (And.intro hok hone))
  have H0 : Hid (BuAt (w.heap.size + 1) (fun k => k = w.heap.size) ((w.alloc (mirO 0 none 0 0)).alloc (bldO (.slice none 0 0) (.slice none 0 0) (.slice none 0 0))) (w.heap.size + 1) [] [] []) := Lib.hid (bu_first w _ _ (fun k hk => by omega))
  have hsz : (w.alloc (mirO 0 none 0 0)).heap.size = w.heap.size + 1 := by simp
  clear h ha hok hone
  unfold FromP
  go_enter Tryz.func13, Tryz.ntmps13
  go_wp2
  go_loopw [8] (fun i wr => ∃ m : Nat, i = .int .i64 (m : Int) ∧ m ≤ n ∧ BuAt (w.heap.size + 1) (fun k => k = w.heap.size) wr (w.heap.size + 1) (rawT q m) (listB q m) (listO q m) ∧ wr.heap[w.heap.size]? = some (mirO 0 none 0 0) ∧ Below w.heap.size w wr) (fun i _ => n - (intOf i).toNat)
  case atStart => exact ⟨0, rfl, Nat.zero_le _, H0.out, kept_allocM (World.alloc_heap_new w _) _, onM (lboxM w _) (lboxM _ _)⟩
  case round =>
    obtain ⟨m, rfl, hm, hBu, hbx, hBl⟩ := hrel
    clear H0
    have hml := list_len q (fun k => k) m
    have hmm := beg_most q m
    by_cases hlt : m < n
    · have hlt' : (m : Int) < (n : Int) := by omega
      obtain ⟨qb, qo, rfl, hl, hc⟩ := (hP.out.below hBl) (by omega)
      obtain ⟨i0, i1, i2, i3⟩ := hc m hlt
      have hx := HA.out.2.1 m hlt
      have ho := HA.out.2.2 m hlt
      have HB := Lib.hid (hBu.boxed (inB (q m).code (q m).jt (q m).jf (q m).k))
      have HN : Hid (∀ V, BuAt (w.heap.size + 1) (SwB (fun k => k = w.heap.size) wr) V (w.heap.size + 1) (rawT q m) (listB q m) (listO q m) → Calls Tryz.prog 30 #[.pointer (some ⟨w.heap.size + 1, 0, none⟩)] V fun e w' => e = .returned (.int .i64 (begN q m : Int)) ∧ w' = V) := Lib.hid fun V h => (p_nextB h).mono fun e w' hh => ⟨by rw [hh.1, hml], hh.2⟩
      have HG := Lib.hid (fun V (h : BuAt (w.heap.size + 1) (SwB (fun k => k = w.heap.size) wr) V (w.heap.size + 1) (rawT q m) (listB q m) (listO q m)) => p_beginB h (by rw [listB_len]; omega) (begN q m : Int))
      have HT : Hid (∀ V, BuAt (w.heap.size + 1) (SwB (fun k => k = w.heap.size) wr) V (w.heap.size + 1) (rawT q m) (listB q m ++ [(begN q m : Int)]) (listO q m) → Calls Tryz.prog 31 #[.pointer (some ⟨w.heap.size + 1, 0, none⟩), .agg #[.int .u16 (q m).code, .int .u8 ((q m).jt : Int), .int .u8 ((q m).jf : Int), .int .u32 ((q m).k.toNat : Int)], .int .i64 (m : Int)] V (LaidP (w.heap.size + 1) (SwB (fun k => k = w.heap.size) wr) (w.heap.size + 1) (rawT q (m + 1)) (listB q (m + 1)) (listO q (m + 1)) V)) := Lib.hid fun V h => by
        have := p_translateB h (by rw [hml]; omega) (by have := open_len q m; omega) (q m) (seals_three (k := (q m).k) ho.wrong) m (by omega) (by have := hx.2.2.1; omega) (by have := hx.2.2.2; omega)
        rw [hml] at this
        exact this
      have HK := Lib.hid (And.intro hbx hBl)
      have hwm : IntKind.i64.wrap ((m : Int) + 1) = (m : Int) + 1 := IntWalk.i64_in _ (by omega)
      clear hBu hbx hBl hx ho hc
      unfold LaidP at HT
      go_wp2_with (first
        | (go_at_call 30; (refine (HN.out _ HB.out.at_).mono ?_); rintro e w2 ⟨rfl, rfl⟩)
        | (go_at_call 29; (refine (HG.out _ HB.out.at_).mono ?_); rintro e w3 ⟨rfl, hb, hw, hk⟩; have H3 := Lib.hid (HB.out.on hb hw hk); clear hb hw hk; have d0 := cellM H3.out.box 0 rfl; have d1 := cellM H3.out.box 1 rfl; have d2 := cellM H3.out.box 2 rfl; have d3 := cellM H3.out.box 3 rfl)
        | (go_at_call 31; (refine (HT.out _ H3.out.at_).mono ?_); rintro e w4 ⟨rfl, hb, hw, hk⟩; have H4 := Lib.hid (H3.out.on hb hw hk).laid; clear hb hw hk))
      exact ⟨⟨m + 1, by rfl, by omega, H4.out.1, (H4.out.2.2 _ rfl).trans HK.out.1, HK.out.2.trans (H4.out.2.1.mono (by omega))⟩, by simp [intOf]; omega⟩
    · have hlt' : ¬ (m : Int) < (n : Int) := by omega
      obtain rfl : m = n := by omega
      obtain ⟨A1, c1, A2, c2, A3, c3, hX⟩ := hBu.named
      rw [hml, listB_len] at hX
      have hol := open_len q m
      generalize hn3 : (listO q m).length = n3 at hX hol
      have HS := Lib.hid (p_settleB hX (begN q) (fun t ht => listB_get q ht) (fun z hz => by
        obtain ⟨o, d, a, b, k, t, f, h1, h2, h3, h4, h5⟩ := open_fine q (N := m) (fun i hi => by
          have g := HA.out.2.2 i hi
          exact ⟨fun hj => by have := g.jump hj; omega, fun hj => by have := g.ja hj; omega⟩) hz
        exact ⟨o, d, a, b, k, t, f, by rw [← hml]; exact h1, h2, h3, h4, h5⟩) (open_up q m) (by omega) (by omega) (by omega))
      rw [settle_whole] at HS
      have e0 := cellM hX.box 0 (v := .slice A1 (begN q m) c1) rfl
      have HK := Lib.hid (And.intro hbx hBl)
      have hmx : begN q m ≤ maxLen := by unfold maxLen; omega
      clear hBu hbx hBl hX
      go_wp2_with (go_at_call 32; (refine HS.out.mono ?_); rintro e w5 ⟨rfl, hX5, hw, hk⟩; have H5 := Lib.hid (And.intro hX5 (And.intro ((hk _ rfl).trans HK.out.1) (HK.out.2.trans (hw.mono (by omega))))); clear hX5 hw hk; have e1 := cellM H5.out.1.box 0 (v := .slice A1 (begN q m) c1) rfl; have x0 := cellM H5.out.2.1 0 rfl; have x1 := cellM H5.out.2.1 1 rfl; have z0 := frozenB H5.out.2.1 0; have z1 := frozenB H5.out.2.1 1)
      (try simp only [Exit.inBlock, Exit.then])
      refine bodyPost_ret (v := mirV 19 A1 (begN q m) c1) ?_ rfl ?_
      · rw [results_cellB rfl]
        go_simp
      · have hX := H5.out.1
        have hne := (hX.r.s _ rfl).2.1
        have ho := own_setB (k := 1) (u := .slice A1 (begN q m) c1) (own_setB (k := 0) (u := .int .i64 19) hX.r.r1 hne) hne
        have hl : (listT q (begN q) m).length = begN q m := list_len q (begN q) m
        refine ⟨A1, c1, rfl, ?_, (H5.out.2.2.setCell (p := ⟨w.heap.size, 0, none⟩) (Nat.le_refl _) _).setCell (p := ⟨w.heap.size, 1, none⟩) (Nat.le_refl _) _, fun a ea => by
          have := (hX.r.r1.lt a.block (by rw [ea]; rfl)).1
          omega⟩
        have hi := ir_of_own (l := listT q (begN q) m) (c := c1) (A := A1) (by rw [hl]; exact ho) (by rw [hl]; exact hmx)
        rw [hl] at hi
        exact hi
/-- What From answers. -/
def FrP (q : Nat → Ins) (n : Nat) (w : World) (e : Ending) (w' : World) : Prop :=
  (Accepted q n → ∃ A c, e = .returned (.tuple #[mirV 19 A (begN q n) c, .int .i64 0]) ∧ IrAt w' A (begN q n) (progT q n) ∧ Below w.heap.size w w') ∧
  (¬ Accepted q n → e = .returned (.tuple #[mirV 0 none 0 0, .int .i64 1]) ∧ Below w.heap.size w w')
set_option maxHeartbeats 4000000 in
theorem p_From (w : World) (A : Option Addr) (n cap : Nat) (q : Nat → Ins) (h : ProgAt w A n q) (hok : ∀ i, i < n → (q i).OK) :
    Calls Tryz.prog 6 #[.slice A n cap] w (FrP q n w) := by
  have HC := Lib.hid (check_Check (w.alloc (mirO 0 none 0 0)) A n cap q (h.below (lboxM w _)) hok)
  unfold CheckP at HC
  by_cases ha : Accepted q n
  · have he : checkE q n = 0 := check_is.2 ha
    rw [he] at HC
    have HP := Lib.hid (fun V (hb : Below (w.alloc (mirO 0 none 0 0)).heap.size (w.alloc (mirO 0 none 0 0)) V) => p_build V A n cap q ((h.below (lboxM w _)).below hb) hok ha)
    unfold FromP at HP
    suffices hs : Calls Tryz.prog 6 #[.slice A n cap] w (fun e w' => ∃ A c, e = .returned (.tuple #[mirV 19 A (begN q n) c, .int .i64 0]) ∧ IrAt w' A (begN q n) (progT q n) ∧ Below w.heap.size w w') from hs.mono fun e w' hh => ⟨fun _ => hh, fun g => absurd ha g⟩
    have HB := Lib.hid (fun V (hb : Below (w.alloc (mirO 0 none 0 0)).heap.size (w.alloc (mirO 0 none 0 0)) V) => And.intro (onM (lboxM w _) hb) (keepM (World.alloc_heap_new w (mirO 0 none 0 0)) hb))
    clear h hok ha he
    go_enter Tryz.func6, Tryz.ntmps6
    go_wp2_with (first
      | (go_at_call 12; (refine HC.out.mono ?_); rintro e w1 ⟨rfl, hb⟩; have H1 := Lib.hid hb; clear hb)
      | (go_at_call 13; (refine (HP.out _ H1.out).mono ?_); rintro e w2 ⟨A2, c2, rfl, hi, hb, hba⟩; have HA2 := Lib.hid hba; clear hba; have H2 := Lib.hid (And.intro hi (And.intro ((HB.out _ H1.out).1.trans (hb.mono (HB.out _ H1.out).1.size)) (keepM (HB.out _ H1.out).2 hb))); clear hi hb; have x0 := cellM H2.out.2.2 0 rfl; have x1 := cellM H2.out.2.2 1 rfl; have z0 := frozenB H2.out.2.2 0; have z1 := frozenB H2.out.2.2 1))
    (try simp only [Exit.inBlock, Exit.then])
    refine bodyPost_ret (v := .tuple #[mirV 19 A2 (begN q n) c2, .int .i64 0]) ?_ rfl ?_
    · rw [results_cell_tmp rfl]
      go_simp
    · refine ⟨A2, c2, rfl, ?_, (H2.out.2.1.setCell (p := ⟨w.heap.size, 0, none⟩) (Nat.le_refl _) _).setCell (p := ⟨w.heap.size, 1, none⟩) (Nat.le_refl _) _⟩
      have hne : 0 < begN q n → ∀ ad, A2 = some ad → some ad.block ≠ some w.heap.size := fun _ ad ea e => by
        have h1 := HA2.out ad ea
        injection e with e
        have h2 := H1.out.size
        have h3 : (w.alloc (mirO 0 none 0 0)).heap.size = w.heap.size + 1 := by simp
        omega
      exact (H2.out.1.grown (grown_set (World.grownBy.refl w2 _) 0 _) hne).grown (grown_set (World.grownBy.refl _ _) 1 _) hne
  · have he : ¬ checkE q n = 0 := fun g => ha (check_is.1 g)
    suffices hs : Calls Tryz.prog 6 #[.slice A n cap] w (fun e w' => e = .returned (.tuple #[mirV 0 none 0 0, .int .i64 1]) ∧ Below w.heap.size w w') from hs.mono fun e w' hh => ⟨fun g => absurd g ha, fun _ => hh⟩
    have HB := Lib.hid (fun V (hb : Below (w.alloc (mirO 0 none 0 0)).heap.size (w.alloc (mirO 0 none 0 0)) V) => And.intro (onM (lboxM w _) hb) (keepM (World.alloc_heap_new w (mirO 0 none 0 0)) hb))
    clear h hok ha
    generalize checkE q n = ce at HC he
    go_enter Tryz.func6, Tryz.ntmps6
    go_wp2_with (first
      | (go_at_call 12; (refine HC.out.mono ?_); rintro e w1 ⟨rfl, hb⟩; have H1 := Lib.hid (HB.out _ hb); clear hb; have x0 := cellM H1.out.2 0 rfl; have x1 := cellM H1.out.2 1 rfl; have z0 := frozenB H1.out.2 0; have z1 := frozenB H1.out.2 1))
    (try simp only [Exit.inBlock, Exit.then])
    refine bodyPost_ret (v := .tuple #[mirV 0 none 0 0, .int .i64 1]) ?_ rfl ?_
    · rw [results_cell_tmp rfl]
      go_simp
    · exact ⟨rfl, (H1.out.1.setCell (p := ⟨w.heap.size, 0, none⟩) (Nat.le_refl _) _).setCell (p := ⟨w.heap.size, 1, none⟩) (Nat.le_refl _) _⟩
end Go.Proofs.YtoajommeiocfpaaGreat
