/-
  The program's Blocks, Above, Longest. Conditions: those that each names.
-/
import Derived.Test.YtaphbcjehcnggaaFwWay
import Derived.Test.YtaphbcjehcnggaaFlowDoc
import Derived.Test.YtaphbcjehcnggaaFwLoops
import Derived.Test.YtaphbcjehcnggaaCbpfLent
namespace Go.Proofs.Ytaphbcjehcnggaa
open Go
set_option linter.unusedSimpArgs false
set_option linter.unusedVariables false

section
variable {q : Nat → Ins} {n : Nat}
theorem come_split {pre : List Nat} {x : Nat} : ∀ {k : Nat}, pre ++ [x] <+: comeN q n k → pre = comeN q n x ∧ x < k ∧ reachF q n x = true
  | 0, h => by have := h.length_le; simp [comeN] at this
  | k + 1, h => by
    rw [come_on] at h
    by_cases hr : reachF q n k = true
    · rw [if_pos hr, List.prefix_concat_iff] at h
      rcases h with h | h
      · have := List.append_inj' h rfl
        injection this.2 with h2 _
        rw [h2]; exact ⟨this.1, Nat.lt_succ_self _, hr⟩
      · have := come_split h
        exact ⟨this.1, Nat.lt_succ_of_lt this.2.1, this.2.2⟩
    · rw [if_neg hr, List.append_nil] at h
      have := come_split h
      exact ⟨this.1, Nat.lt_succ_of_lt this.2.1, this.2.2⟩
/-- How many of some places begin blocks. -/
def lenP (q : Nat → Ins) (n : Nat) (pre : List Nat) : Nat := (pre.filter fun i => !goesF q n i).length
theorem lenP_snoc (pre : List Nat) (x : Nat) : lenP q n (pre ++ [x]) = lenP q n pre + (if goesF q n x = true then 0 else 1) := by
  unfold lenP
  rw [List.filter_append, List.length_append]
  congr 1
  cases h : goesF q n x with
  | true => rw [if_pos rfl]; simp [h]
  | false => rw [if_neg (by decide)]; simp [h]
theorem lenP_come : ∀ k, lenP q n (comeN q n k) = (blkN q n k).length
  | 0 => rfl
  | k + 1 => by
    rw [come_on, blkN]
    have ih := lenP_come k
    cases hr : reachF q n k with
    | false => rw [if_neg (by decide), List.append_nil, if_pos rfl]; exact ih
    | true =>
      rw [if_pos rfl, lenP_snoc, ih]
      cases hg : goesF q n k with
      | true => rw [if_pos rfl, if_neg (by decide), if_pos rfl, end_len]; rfl
      | false => rw [if_neg (by decide), if_neg (by decide), if_neg (by decide), List.length_append]; rfl
theorem lenP_all : lenP q n (comeF q n) = (blkF q n).length := lenP_come n
/-- An instruction that continues the one ahead. -/
theorem blk_goes {x : Nat} (hx : x < n) (hr : reachF q n x = true) (hg : goesF q n x = true) : 0 < (blkN q n x).length ∧ (blkN q n x).length - 1 < (blkF q n).length ∧ x < ((blkF q n).getD ((blkN q n x).length - 1) (0, 0)).2 := by
  have B := blk_all (q := q) (n := n)
  have hc := B.come x hx hr
  have hn : numF q n x = (blkN q n x).length - 1 := by
    unfold numF
    rw [blkN, if_neg (by rw [hr]; decide), if_pos hg, end_len]
  rw [hn] at hc
  refine ⟨?_, hc.1, hc.2.2⟩
  have hp := goes_pos hg
  have := (blk_inv (q := q) (n := n) x (by omega)).last hp.1 hp.2.1
  exact this.1
/-- One that begins a block. -/
theorem blk_begins {x : Nat} (hx : x < n) (hr : reachF q n x = true) (hg : goesF q n x = false) : (blkN q n x).length < (blkF q n).length ∧ ((blkF q n).getD (blkN q n x).length (0, 0)).1 = x ∧ numF q n x = (blkN q n x).length ∧ (0 < (blkN q n x).length → ((blkF q n).getD ((blkN q n x).length - 1) (0, 0)).2 ≤ x) := by
  have B := blk_all (q := q) (n := n)
  have hc := B.come x hx hr
  have hn : numF q n x = (blkN q n x).length := by
    unfold numF
    rw [blkN, if_neg (by rw [hr]; decide), if_neg (by rw [hg]; decide), List.length_append]
    rfl
  rw [hn] at hc
  have h1 : ((blkF q n).getD (blkN q n x).length (0, 0)).1 = x := by
    rcases Nat.lt_or_ge ((blkF q n).getD (blkN q n x).length (0, 0)).1 x with h | h
    · have := B.goes _ x hc.1 h hc.2.2
      rw [hg] at this; cases this
    · omega
  refine ⟨hc.1, h1, hn, fun h0 => ?_⟩
  have := B.rise ((blkN q n x).length - 1) (by omega)
  rw [show (blkN q n x).length - 1 + 1 = (blkN q n x).length by omega, h1] at this
  exact this
theorem next_straight {p : Nat} (hp : p < n) (h1 : ((q p).code == 6 || (q p).code == 22) = false) (h2 : ((q p).code == 5 || jumpC (q p).code) = false) (hl : p + 1 < n) : nextF10 q n p = [p + 1] := by
  unfold nextF10 candF
  simp only [Bool.or_eq_false_iff, beq_eq_false_iff_ne, ne_eq] at h1 h2
  rw [if_pos hp, if_neg (by omega), if_neg h2.1, if_neg (by rw [h2.2]; decide)]
  simp [hl]
theorem next_ret10 {p : Nat} (hp : p < n) (h : (q p).code = 6 ∨ (q p).code = 22) : nextF10 q n p = [] := by
  unfold nextF10 candF
  rw [if_pos hp, if_pos h]; rfl
theorem into_pos : ∀ {m i j : Nat}, i < m → reachF q n i = true → j ∈ nextF10 q n i → 0 < intoN q n m j
  | m + 1, i, j, hi, hr, hj => by
    rw [intoN]
    by_cases e : i = m
    · subst e; rw [if_pos ⟨hr, hj⟩]; omega
    · have := into_pos (m := m) (by omega) hr hj
      omega
/-- The place behind it is found. -/
theorem end_is {x e : Nat} (hx : x < n) (hr : reachF q n x = true) (hg : goesF q n x = false) (h : EndAt q n (intoN q n n) x e) : e = ((blkF q n).getD (blkN q n x).length (0, 0)).2 := by
  have B := blk_all (q := q) (n := n)
  obtain ⟨hc, h1, hn, _⟩ := blk_begins hx hr hg
  obtain ⟨t, ht⟩ : ∃ t, t = ((blkF q n).getD (blkN q n x).length (0, 0)).2 := ⟨_, rfl⟩
  obtain ⟨e1, e2, e3, e4⟩ := h
  have hE := B.each _ hc
  rw [h1, ← ht] at hE
  rw [← ht]
  have hin : ∀ j, x < j → j < t → stopF q (intoN q n n) j = false := fun j j1 j2 => by
    have hp := goes_pos (B.goes _ j hc (by rw [h1]; exact j1) (by rw [← ht]; exact j2))
    obtain ⟨p1, p2, p3, p4, p5, p6⟩ := hp
    have hne : ¬ ((q (j - 1)).code = 6 ∨ (q (j - 1)).code = 22) := fun h => by
      rw [next_ret10 (by omega) h] at p3; cases p3
    unfold stopF
    rw [p4, p6]
    simp only [not_or] at hne
    simp [hne.1, hne.2, p5]
  rcases Nat.lt_trichotomy e t with g | g | g
  · rcases e4 with e4 | e4
    · omega
    · rw [hin e e1 g] at e4; cases e4
  · exact g
  · exfalso
    have hs := e3 t (by omega) g
    have hl := B.back _ (t - 1) hc (by rw [h1]; omega) (by rw [← ht]; omega)
    unfold stopF at hs
    rw [Bool.or_eq_false_iff, Bool.or_eq_false_iff] at hs
    obtain ⟨⟨s1, s2⟩, s3⟩ := hs
    have hnx := next_straight (q := q) (n := n) (p := t - 1) (by omega) s1 s2 (by omega)
    rw [show t - 1 + 1 = t by omega] at hnx
    have hmem : t ∈ nextF10 q n (t - 1) := by rw [hnx]; simp
    have hrt := reach_next hl.1 hmem
    have hi0 := into_pos (m := n) (by omega : t - 1 < n) hl.1 hmem
    have hi1 : ¬ 1 < intoN q n n t := by simpa using s3
    have hgt : goesF q n t = true := by
      unfold goesF
      simp only [Bool.or_eq_false_iff, beq_eq_false_iff_ne, ne_eq] at s2
      rw [decide_eq_true (show 0 < t by omega), hl.1, hnx, s2.2]
      simp [s2.1]
      omega
    have htn := B.come t (by omega) hrt
    have hnt : numF q n t = (blkN q n t).length - 1 := by
      unfold numF
      rw [blkN, if_neg (by rw [hrt]; decide), if_pos hgt, end_len]
    have hnt2 : numF q n (t - 1) = (blkN q n t).length - 1 := by
      unfold numF
      rw [show t - 1 + 1 = t by omega]
    rw [hnt, ← hnt2, hl.2, ← ht] at htn
    omega
/-- Where a block leads to blocks begin. -/
theorem lead_begins {b y : Nat} (hb : b < (blkF q n).length) (hy : y ∈ nextF10 q n (((blkF q n).getD b (0, 0)).2 - 1)) : goesF q n y = false := by
  have B := blk_all (q := q) (n := n)
  have hE := B.each b hb
  have hl := B.back b (((blkF q n).getD b (0, 0)).2 - 1) hb (by omega) (by omega)
  cases hg : goesF q n y with
  | false => rfl
  | true =>
    exfalso
    obtain ⟨p1, p2, p3, p4, p5, p6⟩ := goes_pos hg
    have hmem : y ∈ nextF10 q n (y - 1) := by rw [p3]; simp
    have heq := into_one p6 hl.1 p2 hy hmem
    have hyt : y = ((blkF q n).getD b (0, 0)).2 := by omega
    have hyn := (next_in hy).2.1
    have hry := reach_next hl.1 hy
    have htn := B.come y hyn hry
    have hnt : numF q n y = (blkN q n y).length - 1 := by
      unfold numF
      rw [blkN, if_neg (by rw [hry]; decide), if_pos hg, end_len]
    have hnt2 : numF q n (y - 1) = (blkN q n y).length - 1 := by
      unfold numF
      rw [show y - 1 + 1 = y by omega]
    rw [hnt, ← hnt2, ← heq, hl.2] at htn
    omega
end
end Go.Proofs.Ytaphbcjehcnggaa
namespace Go.Proofs.Ytaphbcjehcnggaa
open Go Go.RowKit
set_option linter.unusedSimpArgs false
set_option linter.unusedVariables false

/-- Of the blocks that lay in V, those of X alone have turned. -/
structure TurnX (X : Nat → Prop) (V W : World) : Prop where
  os : W.os = V.os
  tape : W.tape = V.tape
  output : W.output = V.output
  size : V.heap.size ≤ W.heap.size
  block : ∀ k, k < V.heap.size → ¬ X k → W.heap[k]? = V.heap[k]?
section
variable {X : Nat → Prop} {V W W' : World}
theorem TurnX.refl (X : Nat → Prop) (V : World) : TurnX X V V := ⟨rfl, rfl, rfl, Nat.le_refl _, fun _ _ _ => rfl⟩
theorem TurnX.on {row : Option Nat} (h : TurnX X V W) (hg : W.grownBy W' row) (hr : ∀ r, row = some r → V.heap.size ≤ r ∨ X r) : TurnX X V W' :=
  ⟨hg.os.trans h.os, hg.tape.trans h.tape, hg.output.trans h.output, Nat.le_trans h.size hg.size, fun k hk hX => (hg.block k (Nat.lt_of_lt_of_le hk h.size) (fun e => by
    rcases hr k e.symm with g | g
    · omega
    · exact hX g)).trans (h.block k hk hX)⟩
theorem TurnX.box {b : Nat} {t : TypeId} {v : Value} (h : TurnX X V W) (hb : Boxed V b t v) (hX : ¬ X b) : Boxed W b t v := (h.block b hb.lt hX).trans hb
theorem TurnX.row {b : Nat} {t : TypeId} {n : Nat} {f : Nat → Value} (h : TurnX X V W) (hb : V.rowIs b t n f) (hX : ¬ X b) : W.rowIs b t n f := by
  obtain ⟨c, h1, h2, h3⟩ := hb
  exact ⟨c, (h.block b (Array.getElem?_eq_some_iff.1 h1).1 hX).trans h1, h2, h3⟩
theorem TurnX.prog {A : Option Addr} {n : Nat} {q : Nat → Ins} (h : TurnX X V W) (hp : ProgAt V A n q) (hX : ∀ b o, A = some ⟨b, o, none⟩ → ¬ X b) : ProgAt W A n q := fun hn => by
  obtain ⟨qb, qo, rfl, hl, hc⟩ := hp hn
  have e := h.block qb hl (hX qb qo rfl)
  refine ⟨qb, qo, rfl, Nat.lt_of_lt_of_le hl h.size, fun i hi => ?_⟩
  obtain ⟨x0, x1, x2, x3⟩ := hc i hi
  exact ⟨(World.cell?_of_block e).trans x0, (World.cell?_of_block e).trans x1, (World.cell?_of_block e).trans x2, (World.cell?_of_block e).trans x3⟩
theorem TurnX.below {B : Nat} {w : World} (h : TurnX X V W) (hb : Below B w V) (hX : ∀ k, X k → B ≤ k) (hB : B ≤ V.heap.size) : Below B w W :=
  ⟨h.os.trans hb.os, h.tape.trans hb.tape, h.output.trans hb.output, Nat.le_trans hb.size h.size, fun k hk => (h.block k (by omega) (fun hx => by have := hX k hx; omega)).trans (hb.block k hk)⟩
end
/-- What a part of a round does: what its loop, and the loop's function, ask. -/
structure Stp (K : Nat → Obj → Prop) (X : Nat → Prop) (V W W' : World) : Prop where
  kf : KeepsFrom V.heap.size W W'
  ko : KeepO K W W'
  tx : TurnX X V W → TurnX X V W'
section
variable {K : Nat → Obj → Prop} {X : Nat → Prop} {V W W' W'' : World}
theorem Stp.refl (K : Nat → Obj → Prop) (X : Nat → Prop) (V W : World) : Stp K X V W W := ⟨.refl _ _, .refl _ _, id⟩
theorem Stp.trans (h : Stp K X V W W') (k : Stp K X V W' W'') : Stp K X V W W'' := ⟨h.kf.trans k.kf, h.ko.trans k.ko, fun g => k.tx (h.tx g)⟩
theorem Stp.below (h : Below W.heap.size W W') : Stp K X V W W' :=
  ⟨⟨h.size, fun k o _ hk _ => (h.block k (Array.getElem?_eq_some_iff.1 hk).1).trans hk⟩, ⟨h.size, fun k o hk _ => (h.block k (Array.getElem?_eq_some_iff.1 hk).1).trans hk⟩, fun g =>
    g.on (row := none) ⟨h.os, h.tape, h.output, h.size, fun k hk _ => h.block k hk⟩ fun r e => by cases e⟩
theorem Stp.set {b : Nat} (hX : X b) (hK : ∀ o, ¬ K b o) (j : Nat) (u : Value) : Stp K X V W (W.setCell ⟨b, j, none⟩ u) :=
  ⟨(KeepsOthers.setCell _ _ _).from _, KeepO.of_grown (grown_set (World.grownBy.refl W (some b)) j u) fun r e o _ hk => (by cases e; exact hK o hk), fun g => g.on (grown_set (World.grownBy.refl W (some b)) j u) fun r e => (by cases e; exact .inr hX)⟩
/-- An append onto a row of the loop's own. -/
theorem Stp.app {e : TypeId} {sz k : Nat} {v : Value} {xs : List Value} (hrow : W.ownsRow V.heap.size e sz v k xs) (hg : W.grownBy W' v.ownBlock) (hK : ∀ r c, V.heap.size ≤ r → ¬ K r (.cells c e (0, 0))) : Stp K X V W W' := by
  have hob : ∀ r o, v.ownBlock = some r → W.heap[r]? = some o → V.heap.size ≤ r ∧ ∃ c, o = .cells c e (0, 0) := fun r o er ho => by
    rcases hrow.2 with ⟨rfl, _⟩ | ⟨g, c, cur, rfl, hb, hgb, _⟩
    · simp [Value.ownBlock] at er
    · obtain rfl : g = r := by simpa [Value.ownBlock] using er
      rw [hgb] at ho; cases ho
      exact ⟨hb, _, rfl⟩
  refine ⟨(KeepsOthers.of_grownBy hg fun j o ej hj => ?_).from _, KeepO.of_grown hg fun r er o ho hk => ?_, fun t => t.on hg fun r er => .inl (hrow.lt r er).1⟩
  · obtain ⟨_, c, rfl⟩ := hob j o ej hj
    rfl
  · obtain ⟨hb, c, rfl⟩ := hob r o er ho
    exact hK r c hb hk
end
theorem own_abide {X Y : World} {row : Option Nat} {base : Nat} {e : TypeId} {sz : Nat} {v : Value} {n : Nat} {xs : List Value} (h : X.ownsRow base e sz v n xs) (hg : X.grownBy Y row) (hr : ∀ r, row = some r → ∃ o : Obj, X.heap[r]? = some o ∧ ∀ c, o ≠ .cells c e (0, 0)) : Y.ownsRow base e sz v n xs := by
  refine h.kept hg ?_
  rcases h.2 with ⟨rfl, _⟩ | ⟨g, cap, cur, rfl, _, hgb, _⟩
  · exact .inl rfl
  · refine .inr fun e' => ?_
    obtain ⟨o, ho, hc⟩ := hr g (by simpa [Value.ownBlock] using e'.symm)
    rw [hgb] at ho; cases ho; exact hc _ rfl
theorem ok_not {o : Obj} (h : okB o = true) {e : TypeId} (he : ¬ e = 4) : ∀ c, o ≠ .cells c e (0, 0) := fun c eo => by
  subst eo
  exact he (of_decide_eq_true h)
/-- The end of the last block so far. -/
def endP (q : Nat → Ins) (n : Nat) (pre : List Nat) : Nat := if lenP q n pre = 0 then 0 else ((blkF q n).getD (lenP q n pre - 1) (0, 0)).2
/-- While blocks are found. -/
structure B1At (V : World) (q : Nat → Ins) (n Be Bl Rn : Nat) (pre : List Nat) (W : World) : Prop where
  tr : TurnX (fun k => k = Be ∨ k = Bl ∨ k = Rn) V W
  en : Boxed W Be 3 (.int .i64 (endP q n pre : Int))
  lb : ∃ v, Boxed W Bl 34 v ∧ W.ownsRow V.heap.size 46 3 v (lenP q n pre) (blkL ((blkF q n).take (lenP q n pre)))
  num : ∃ f, NumsAt W Rn n f ∧ ∀ j ∈ pre, goesF q n j = false → f j = numF q n j
theorem b1_own (V : World) (q : Nat → Ins) (n Be Bl Rn : Nat) (h1 : Be < V.heap.size) (h2 : Bl < V.heap.size) (h3 : Rn < V.heap.size) : Abide okB V.heap.size (B1At V q n Be Bl Rn) := fun pre X Y row h hg hr => by
  have far : ∀ b, b < V.heap.size → some b ≠ row := fun b hb e => by have := (hr b e.symm).1; omega
  obtain ⟨v, v1, v2⟩ := h.lb
  obtain ⟨f, f1, f2⟩ := h.num
  exact ⟨h.tr.on hg fun r e => .inl (hr r e).1, h.en.kept hg (far _ h1), ⟨v, v1.kept hg (far _ h2), own_abide v2 hg fun r e => let ⟨_, o, ho, hk⟩ := hr r e; ⟨o, ho, ok_not hk (by decide)⟩⟩, ⟨f, row_other10 f1 hg (far _ h3), f2⟩⟩
/-- A place that continues the one ahead. -/
theorem B1At.goes {V : World} {q : Nat → Ins} {n Be Bl Rn : Nat} {pre : List Nat} {W : World} (h : B1At V q n Be Bl Rn pre W) {x : Nat} (hg : goesF q n x = true) : B1At V q n Be Bl Rn (pre ++ [x]) W := by
  have e : lenP q n (pre ++ [x]) = lenP q n pre := by rw [lenP_snoc, if_pos hg]; rfl
  obtain ⟨v, v1, v2⟩ := h.lb
  obtain ⟨f, f1, f2⟩ := h.num
  refine ⟨h.tr, by unfold endP; rw [e]; exact h.en, ⟨v, v1, by rw [e]; exact v2⟩, ⟨f, f1, fun j hj hgj => ?_⟩⟩
  rcases List.mem_append.1 hj with hj | hj
  · exact f2 j hj hgj
  · rw [List.mem_singleton.1 hj, hg] at hgj; cases hgj
theorem take_snoc {l : List (Nat × Nat)} {c : Nat} (h : c < l.length) : l.take (c + 1) = l.take c ++ [l.getD c (0, 0)] := by
  rw [List.take_add_one, List.getD_eq_getElem?_getD, List.getElem?_eq_getElem h]; rfl
/-- A place that begins a block: all that is put. -/
theorem B1At.begins {V : World} {q : Nat → Ins} {n Be Bl Rn : Nat} {pre : List Nat} {W w1 : World} (h : B1At V q n Be Bl Rn pre W) {x c T : Nat} (hT : T = ((blkF q n).getD c (0, 0)).2) (hg : goesF q n x = false) (hc : lenP q n pre = c) (hcl : c < (blkF q n).length) (hx : (blkF q n).getD c (0, 0) = (x, T)) (hnx : numF q n x = c)
    (l1 : Be < V.heap.size) (l2 : Bl < V.heap.size) (l3 : Rn < V.heap.size) (d1 : Be ≠ Bl) (d2 : Be ≠ Rn) (d3 : Bl ≠ Rn) {v v' : Value} {o : Obj} {g' cap' : Nat}
    (hv' : v' = .slice (some ⟨g', 0, none⟩) (c + 1) cap') (hv : W.ownsRow V.heap.size 46 3 v c (blkL ((blkF q n).take c))) (hvb : Boxed W Bl 34 v)
    (ho : w1.ownsRow V.heap.size 46 3 v' (c + 1) (blkL ((blkF q n).take c) ++ blkC (x, T)))
    (hgr : ((((W.setCell ⟨Be, 0, none⟩ (.int .i64 (T : Int))).setCell ⟨Rn, x, none⟩ (.int .i64 (c : Int))).alloc o)).grownBy w1 v.ownBlock) :
    Stp (comeK V.heap.size (fun k => k = Be ∨ k = Bl ∨ k = Rn)) (fun k => k = Be ∨ k = Bl ∨ k = Rn) V W (w1.setCell ⟨Bl, 0, none⟩ v') ∧ Boxed w1 Bl 34 v ∧ B1At V q n Be Bl Rn (pre ++ [x]) (w1.setCell ⟨Bl, 0, none⟩ v') := by
  have e : lenP q n (pre ++ [x]) = c + 1 := by rw [lenP_snoc, hc, if_neg (by rw [hg]; decide)]
  have hK : ∀ b, b = Be ∨ b = Bl ∨ b = Rn → ∀ ob, ¬ comeK V.heap.size (fun k => k = Be ∨ k = Bl ∨ k = Rn) b ob := fun b hb ob hk => by
    rcases hk with hk | hk
    · exact hk.2.1 hb
    · rcases hb with rfl | rfl | rfl <;> omega
  have s1 : Stp (comeK V.heap.size (fun k => k = Be ∨ k = Bl ∨ k = Rn)) (fun k => k = Be ∨ k = Bl ∨ k = Rn) V W (W.setCell ⟨Be, 0, none⟩ (.int .i64 (T : Int))) := Stp.set (.inl rfl) (hK _ (.inl rfl)) 0 _
  have s2 : Stp (comeK V.heap.size (fun k => k = Be ∨ k = Bl ∨ k = Rn)) (fun k => k = Be ∨ k = Bl ∨ k = Rn) V (W.setCell ⟨Be, 0, none⟩ (.int .i64 (T : Int))) ((W.setCell ⟨Be, 0, none⟩ (.int .i64 (T : Int))).setCell ⟨Rn, x, none⟩ (.int .i64 (c : Int))) := Stp.set (.inr (.inr rfl)) (hK _ (.inr (.inr rfl))) x _
  obtain ⟨Y, hY⟩ : ∃ Y, (W.setCell ⟨Be, 0, none⟩ (.int .i64 (T : Int))).setCell ⟨Rn, x, none⟩ (.int .i64 (c : Int)) = Y := ⟨_, rfl⟩
  have far : ∀ r, v.ownBlock = some r → V.heap.size ≤ r := fun r e => (hv.lt r e).1
  have rowY : Y.ownsRow V.heap.size 46 3 v c (blkL ((blkF q n).take c)) := by
    rw [← hY]; exact ownsRow_setCell_below (ownsRow_setCell_below hv l1 _) l3 _
  have bY1 : Boxed Y Bl 34 v := by
    rw [← hY]; exact (hvb.other (fun e => d1 e.symm) _).kept (grown_set (World.grownBy.refl _ (some Rn)) x _) (by simpa using d3)
  have bY2 : Boxed Y Be 3 (.int .i64 (T : Int)) := by
    rw [← hY]; exact (h.en.set _).kept (grown_set (World.grownBy.refl _ (some Rn)) x _) (by simpa using d2)
  obtain ⟨f, f1, f2⟩ := h.num
  have nY : NumsAt Y Rn n fun j => if j = x then c else f j := by
    rw [← hY]; exact NumsAt.set (row_other10 f1 (grown_set (World.grownBy.refl _ (some Be)) 0 _) (by simpa using fun e => d2 e.symm)) x c
  have s12 := s1.trans s2
  rw [hY] at s12 hgr
  have rowA := rowY.alloc o
  have s3 : Stp (comeK V.heap.size (fun k => k = Be ∨ k = Bl ∨ k = Rn)) (fun k => k = Be ∨ k = Bl ∨ k = Rn) V Y (Y.alloc o) := Stp.below (lbox10 _ _)
  have s4 : Stp (comeK V.heap.size (fun k => k = Be ∨ k = Bl ∨ k = Rn)) (fun k => k = Be ∨ k = Bl ∨ k = Rn) V (Y.alloc o) w1 := Stp.app rowA hgr fun r cc hr hk => by
    rcases hk with hk | ⟨_, (⟨_, hk⟩ | ⟨_, hk⟩ | ⟨_, hk⟩)⟩
    · omega
    · injection hk with _ hk; exact absurd hk (by decide)
    · injection hk with _ hk; exact absurd hk (by decide)
    · cases hk
  have s5 : Stp (comeK V.heap.size (fun k => k = Be ∨ k = Bl ∨ k = Rn)) (fun k => k = Be ∨ k = Bl ∨ k = Rn) V w1 (w1.setCell ⟨Bl, 0, none⟩ v') := Stp.set (.inr (.inl rfl)) (hK _ (.inr (.inl rfl))) 0 _
  have ne : ∀ b, b < V.heap.size → some b ≠ v.ownBlock := fun b hb e => by have := far b e.symm; omega
  have b1 : Boxed w1 Bl 34 v := (bY1.alloc o).kept hgr (ne _ l2)
  have b2 : Boxed w1 Be 3 (.int .i64 (T : Int)) := (bY2.alloc o).kept hgr (ne _ l1)
  have n1 : NumsAt w1 Rn n fun j => if j = x then c else f j := row_other10 (row_other10 nY (World.grownBy_alloc Y o none) (by simp)) hgr (ne _ l3)
  refine ⟨((s12.trans s3).trans s4).trans s5, b1, (((s12.trans s3).trans s4).trans s5).tx h.tr, ?_, ⟨v', b1.set v', ?_⟩, ⟨_, row_other10 n1 (grownBy_setCell' w1 Bl v') (by simpa using fun e => d3 e.symm), fun j hj hgj => ?_⟩⟩
  · have : endP q n (pre ++ [x]) = T := by unfold endP; rw [e, if_neg (by omega), Nat.add_sub_cancel, hT]
    rw [this]; exact b2.other d1 v'
  · rw [e, take_snoc hcl, blkL_snoc, hx]
    exact ownsRow_setCell_below ho l2 _
  · by_cases ej : j = x
    · rw [if_pos ej, ej]; exact hnx.symm
    · rw [if_neg ej]
      rcases List.mem_append.1 hj with hj | hj
      · exact f2 j hj hgj
      · exact absurd (List.mem_singleton.1 hj) ej
end Go.Proofs.Ytaphbcjehcnggaa
namespace Go.Proofs.Ytaphbcjehcnggaa
open Go Go.RowKit
set_option linter.unusedSimpArgs false
set_option linter.unusedVariables false

/-- The blocks' third cells, each a row of its own, laid since W0. -/
structure LdAt (W0 W : World) (q : Nat → Ins) (n g c : Nat) (nx : Nat → Value) (part : Nat → List Nat) : Prop where
  row : ∃ F, W.rowIs g 46 (c * 3) F ∧ ∀ b, b < (blkF q n).length → F (b * 3) = .int .i64 (((blkF q n).getD b (0, 0)).1 : Int) ∧ F (b * 3 + 1) = .int .i64 (((blkF q n).getD b (0, 0)).2 : Int) ∧ F (b * 3 + 2) = nx b
  own : ∀ b, b < (blkF q n).length → W.ownsRow W0.heap.size 3 1 (nx b) (part b).length (intL (part b))
  apart : ∀ b b', b < (blkF q n).length → b' < (blkF q n).length → b ≠ b' → (nx b).ownBlock = (nx b').ownBlock → (nx b).ownBlock = none
  gr : W0.grownBy W (some g)
  lt : g < W0.heap.size ∧ (blkF q n).length ≤ c
section
variable {W0 W W' V W1 : World} {q : Nat → Ins} {n g c : Nat} {nx : Nat → Value} {part part' : Nat → List Nat}
theorem LdAt.on {row : Option Nat} (h : LdAt W0 W q n g c nx part) (hg : W.grownBy W' row) (hr : ∀ r, row = some r → W0.heap.size ≤ r ∧ ∃ o : Obj, W.heap[r]? = some o ∧ o.isCells = false) : LdAt W0 W' q n g c nx part := by
  obtain ⟨F, F1, F2⟩ := h.row
  exact ⟨⟨F, row_grown10 F1 hg fun r e => (hr r e).2, F2⟩, fun b hb => own_row10 (h.own b hb) hg hr, h.apart, grown_on h.gr hg fun r e => .inl (hr r e).1, h.lt⟩
theorem LdAt.up (h : LdAt W0 W q n g c nx part) (hb : Below W.heap.size W W') : LdAt W0 W' q n g c nx part :=
  h.on (row := none) ⟨hb.os, hb.tape, hb.output, hb.size, fun k hk _ => hb.block k hk⟩ fun r e => by cases e
theorem LdAt.congr (h : LdAt W0 W q n g c nx part) (e : ∀ b, b < (blkF q n).length → part b = part' b) : LdAt W0 W q n g c nx part' :=
  ⟨h.row, fun b hb => by rw [← e b hb]; exact h.own b hb, h.apart, h.gr, h.lt⟩
theorem LdAt.cells (h : LdAt W0 W q n g c nx part) {b : Nat} (hb : b < (blkF q n).length) :
    W.cell? ⟨g, b * 3, none⟩ = some (.int .i64 (((blkF q n).getD b (0, 0)).1 : Int)) ∧ W.cell? ⟨g, b * 3 + 1, none⟩ = some (.int .i64 (((blkF q n).getD b (0, 0)).2 : Int)) ∧ W.cell? ⟨g, b * 3 + 2, none⟩ = some (nx b) ∧ W.frozen? ⟨g, b * 3 + 2, none⟩ = false := by
  obtain ⟨F, F1, F2⟩ := h.row
  obtain ⟨f0, f1, f2⟩ := F2 b hb
  have := h.lt
  exact ⟨by rw [World.rowIs.cell F1 (i := b * 3) (by omega), f0], by rw [World.rowIs.cell F1 (i := b * 3 + 1) (by omega), f1], by rw [World.rowIs.cell F1 (i := b * 3 + 2) (by omega), f2], World.rowIs.frozen F1 _⟩
theorem ld_more (h : LdAt W0 W q n g c nx part) {b : Nat} (hb : b < (blkF q n).length) {x : Nat} {v' : Value} (hV : Below W.heap.size W V)
    (ho : W1.ownsRow W0.heap.size 3 1 v' ((part b).length + 1) (intL (part b) ++ [.int .i64 (x : Int)])) (hgr : V.grownBy W1 (nx b).ownBlock) (hw : v'.ownBlock = (nx b).ownBlock ∨ v'.ownBlock = some V.heap.size) :
    LdAt W0 (W1.setCell ⟨g, b * 3 + 2, none⟩ v') q n g c (fun k => if k = b then v' else nx k) (fun k => if k = b then part b ++ [x] else part k) := by
  obtain ⟨l3, l5⟩ := h.lt
  have l4 := h.gr.size
  have h' := h.up hV
  have hrow : ∀ r, (nx b).ownBlock = some r → W0.heap.size ≤ r := fun r e => ((h'.own b hb).lt r e).1
  obtain ⟨F, F1, F2⟩ := h'.row
  have F1' : W1.rowIs g 46 (c * 3) F := row_other10 F1 hgr fun e => by have := hrow g e.symm; omega
  have hvo : ∀ k, v'.ownBlock = some k → W0.heap.size ≤ k ∧ k < W1.heap.size := fun k hk => ho.lt k hk
  have hnew : ∀ k, k < (blkF q n).length → k ≠ b → v'.ownBlock = (nx k).ownBlock → v'.ownBlock = none := fun k hk hkb e => by
    rcases hw with e1 | e1
    · rw [e1]; exact h.apart b k hb hk (fun q => hkb q.symm) (by rw [← e1]; exact e)
    · exfalso
      have := (h'.own k hk).lt V.heap.size (by rw [← e, e1])
      omega
  refine ⟨⟨_, World.rowIs.set F1' (b * 3 + 2) v', fun k hk => ?_⟩, fun k hk => ?_, fun k k' hk hk' hne e => ?_, ?_, l3, l5⟩
  · obtain ⟨f0, f1, f2⟩ := F2 k hk
    refine ⟨by rw [if_neg (by omega)]; exact f0, by rw [if_neg (by omega)]; exact f1, ?_⟩
    by_cases q : k = b
    · subst q; rw [if_pos rfl]; simp
    · rw [if_neg (by omega)]; simp only [q, if_false]; exact f2
  · by_cases q : k = b
    · subst q
      simp only [if_true]
      refine ownsRow_setCell_below ?_ l3 _
      rw [List.length_append, intL_snoc]; exact ho
    · simp only [q, if_false]
      refine ownsRow_setCell_below ((h'.own k hk).kept hgr ?_) l3 _
      by_cases e : (nx k).ownBlock = none
      · exact .inl e
      · exact .inr fun q' => e (h.apart k b hk hb q q')
  · by_cases q : k = b
    · subst q
      have q' : k' ≠ k := fun e => hne e.symm
      simp only [if_true, q', if_false] at e ⊢
      exact hnew k' hk' q' e
    · by_cases q' : k' = b
      · subst q'
        simp only [if_true, q, if_false] at e ⊢
        rw [e]; exact hnew k hk q e.symm
      · simp only [q, q', if_false] at e ⊢
        exact h.apart k k' hk hk' hne e
  · exact grown_on (grown_on h'.gr hgr fun r e => .inl (hrow r e)) (grown_set (World.grownBy.refl W1 (some g)) _ _) fun r e => .inr (by cases e; rfl)
theorem ld_end (h : LdAt W0 W q n g c nx part) (hp : ∀ b, b < (blkF q n).length → part b = leadF q n b) : BlksAt W (some ⟨g, 0, none⟩) (blkF q n) (leadF q n) := by
  refine ⟨g, 0, rfl, Nat.lt_of_lt_of_le h.lt.1 h.gr.size, fun b hb => ?_⟩
  obtain ⟨f0, f1, f2, _⟩ := h.cells hb
  obtain ⟨An, cn, e⟩ := own_form10 (h.own b hb)
  have ho := h.own b hb
  rw [e] at ho f2
  rw [Nat.zero_add]
  refine ⟨f0, f1, An, cn, by rw [f2, hp b hb], ?_⟩
  rw [← hp b hb]; exact own_ints ho
theorem ld_start {B : Nat} (ho : W.ownsRow B 46 3 (.slice (some ⟨g, 0, none⟩) (blkF q n).length c) (blkF q n).length (blkL (blkF q n))) : LdAt W W q n g c (fun _ => .slice none 0 0) (fun _ => []) := by
  obtain ⟨h1, ho⟩ := ho
  rcases ho with ⟨e1, _⟩ | ⟨g', c', cur, e1, hB, hg, hc, hm, hs, ht⟩
  · injection e1 with e1; cases e1
  · injection e1 with e1 _ e3
    injection e1 with e1
    injection e1 with e1
    subst e1 e3
    have hF : W.rowIs g 46 (c * 3) (fun k => cur.getD k undef) := ⟨cur, hg, hs, fun i hi => by
      show cur[i]? = some (cur.getD i undef)
      rw [Array.getD_eq_getD_getElem?, Array.getElem?_eq_getElem (by omega)]; rfl⟩
    have hcell : ∀ k u, k < (blkF q n).length * 3 → (blkL (blkF q n))[k]? = some u → cur.getD k undef = u := fun k u hk hu => by
      rw [← ht, List.getElem?_take, if_pos hk] at hu
      rw [Array.getD_eq_getD_getElem?, ← Array.getElem?_toList, hu]; rfl
    refine ⟨⟨_, hF, fun b hb => ?_⟩, fun b hb => World.ownsRow_nil _ _ _ _, fun b b' _ _ _ _ => rfl, World.grownBy.refl _ _, (Array.getElem?_eq_some_iff.1 hg).1, hc⟩
    obtain ⟨b0, b1, b2⟩ := blkL_get (blkF q n) b hb
    exact ⟨hcell _ _ (by omega) b0, hcell _ _ (by omega) b1, hcell _ _ (by omega) b2⟩
end
/-- .. between two blocks. -/
structure LdOut (W0 W : World) (q : Nat → Ins) (n g c b : Nat) (nx : Nat → Value) : Prop where
  led : LdAt W0 W q n g c nx (partB q n b [])
  nil : ∀ k, b ≤ k → k < (blkF q n).length → nx k = .slice none 0 0
/-- .. while one block's places are gone through. -/
structure LdIn (W0 W : World) (q : Nat → Ins) (n g c b : Nat) (l : List Nat) (S : Nat) (nx : Nat → Value) : Prop where
  led : LdAt W0 W q n g c nx (partB q n b l)
  nil : ∀ k, b < k → k < (blkF q n).length → nx k = .slice none 0 0
  here : ∀ r, (nx b).ownBlock = some r → S ≤ r
section
variable {W0 W W' V W1 : World} {q : Nat → Ins} {n g c b S : Nat} {l : List Nat} {nx : Nat → Value}
theorem LdIn.on {row : Option Nat} (h : LdIn W0 W q n g c b l S nx) (hg : W.grownBy W' row) (hr : ∀ r, row = some r → W0.heap.size ≤ r ∧ ∃ o : Obj, W.heap[r]? = some o ∧ o.isCells = false) : LdIn W0 W' q n g c b l S nx := ⟨h.led.on hg hr, h.nil, h.here⟩
theorem LdIn.up (h : LdIn W0 W q n g c b l S nx) (hb : Below W.heap.size W W') : LdIn W0 W' q n g c b l S nx := ⟨h.led.up hb, h.nil, h.here⟩
theorem LdOut.up (h : LdOut W0 W q n g c b nx) (hb : Below W.heap.size W W') : LdOut W0 W' q n g c b nx := ⟨h.led.up hb, h.nil⟩
theorem LdOut.in_ (h : LdOut W0 W q n g c b nx) (hb : b < (blkF q n).length) (S : Nat) : LdIn W0 W q n g c b [] S nx :=
  ⟨h.led, fun k h1 h2 => h.nil k (by omega) h2, fun r hr => by rw [h.nil b (Nat.le_refl _) hb] at hr; cases hr⟩
theorem LdIn.out (h : LdIn W0 W q n g c b l S nx) (hl : l = leadF q n b) : LdOut W0 W q n g c (b + 1) nx :=
  ⟨h.led.congr fun k hk => by
    unfold partB
    by_cases h1 : k < b
    · rw [if_pos h1, if_pos (by omega)]
    · rw [if_neg h1]
      by_cases h2 : k = b
      · rw [if_pos h2, if_pos (by omega), h2, hl]
      · rw [if_neg h2, if_neg (by omega)]
        by_cases h3 : k = b + 1
        · rw [if_pos h3]
        · rw [if_neg h3], fun k h1 h2 => h.nil k (by omega) h2⟩
theorem ld_one (h : LdIn W0 W q n g c b l S nx) {vb : Value} (hvb : nx b = vb) (hb : b < (blkF q n).length) {x : Nat} {v' : Value} (hV : Below W.heap.size W V) (hS : S ≤ V.heap.size)
    (ho : W1.ownsRow W0.heap.size 3 1 v' (l.length + 1) (intL l ++ [.int .i64 (x : Int)])) (hgr : V.grownBy W1 vb.ownBlock) (hw : v'.ownBlock = vb.ownBlock ∨ v'.ownBlock = some V.heap.size) : ∃ nx', LdIn W0 (W1.setCell ⟨g, b * 3 + 2, none⟩ v') q n g c b (l ++ [x]) S nx' := by
  have hp : partB q n b l b = l := by unfold partB; rw [if_neg (by omega), if_pos rfl]
  subst hvb
  refine ⟨_, (ld_more h.led hb hV (by rw [hp]; exact ho) hgr hw).congr (fun k hk => ?_), fun k h1 h2 => ?_, fun r hr => ?_⟩
  · rw [hp]
    unfold partB
    by_cases e : k = b
    · subst e; rw [if_pos rfl, if_neg (by omega), if_pos rfl]
    · rw [if_neg e]
      by_cases e2 : k < b
      · rw [if_pos e2, if_pos e2]
      · rw [if_neg e2, if_neg e2, if_neg e, if_neg e]
  · have e : k ≠ b := by omega
    simp only [e, if_false]
    exact h.nil k h1 h2
  · simp only [if_true] at hr
    rcases hw with e | e
    · exact h.here r (by rw [← e]; exact hr)
    · rw [e] at hr; injection hr with hr; omega
theorem ld_own (h : LdIn W0 W q n g c b l S nx) (hb : b < (blkF q n).length) : W.ownsRow W0.heap.size 3 1 (nx b) l.length (intL l) := by
  have := h.led.own b hb
  have hp : partB q n b l b = l := by unfold partB; rw [if_neg (by omega), if_pos rfl]
  rwa [hp] at this
end
/-- While a place is put behind the others of a block, in a round that began in W3. -/
structure A2At (W0 Z W3 W : World) (q : Nat → Ins) (n g c Bl Bi Bn nb len b : Nat) (cl : Nat) (l : List Nat) (y z : Nat) (vb : Value) : Prop where
  led : ∃ nx, nx b = vb ∧ LdIn W0 W q n g c b l Z.heap.size nx
  own : W.ownsRow W0.heap.size 3 1 vb l.length (intL l)
  stp : Stp (waysK Z.heap.size (fun k => k = g)) (fun k => k = g) Z W3 W
  tx : TurnX (fun k => k = g) Z W
  b1 : Boxed W Bl 34 (.slice (some ⟨g, 0, none⟩) len cl)
  b2 : Boxed W Bi 3 (.int .i64 (b : Int))
  b3 : Boxed W Bn 23 (.slice (some ⟨nb, 0, none⟩) n n)
  cz : W.cell? ⟨nb, y, none⟩ = some (.int .i64 (z : Int))
  next : W.cell? ⟨g, b * 3 + 2, none⟩ = some vb
  free : W.frozen? ⟨g, b * 3 + 2, none⟩ = false
  far : Bl < Z.heap.size ∧ Bi < Z.heap.size ∧ Bn < Z.heap.size ∧ nb < Z.heap.size ∧ g < W0.heap.size ∧ W0.heap.size ≤ Z.heap.size
  ne : Bl ≠ g ∧ Bi ≠ g ∧ Bn ≠ g ∧ nb ≠ g
  lt : b < (blkF q n).length
section
variable {W0 Z W3 W V Y4 : World} {q : Nat → Ins} {n g c Bl Bi Bn nb len b cl y z k9 : Nat} {l : List Nat} {vb v9 : Value}
theorem A2At.up (h : A2At W0 Z W3 W q n g c Bl Bi Bn nb len b cl l y z vb) (hb : Below W.heap.size W V) : A2At W0 Z W3 V q n g c Bl Bi Bn nb len b cl l y z vb := by
  obtain ⟨nx, e, hl⟩ := h.led
  have f := h.far
  have sz := h.tx.size
  have hf : V.frozen? ⟨g, b * 3 + 2, none⟩ = W.frozen? ⟨g, b * 3 + 2, none⟩ := by
    unfold World.frozen?
    rw [hb.block g (by omega)]
  exact ⟨⟨nx, e, hl.up hb⟩, own_below h.own hb, h.stp.trans (Stp.below hb), (Stp.below (K := waysK Z.heap.size (fun k => k = g)) hb).tx h.tx, (hb.block _ h.b1.lt).trans h.b1, (hb.block _ h.b2.lt).trans h.b2, (hb.block _ h.b3.lt).trans h.b3, (hb.cell (p := ⟨nb, y, none⟩) (by show nb < W.heap.size; omega)).trans h.cz, (hb.cell (p := ⟨g, b * 3 + 2, none⟩) (by show g < W.heap.size; omega)).trans h.next, hf.trans h.free, h.far, h.ne, h.lt⟩
theorem A2At.drew (h : A2At W0 Z W3 W q n g c Bl Bi Bn nb len b cl l y z vb) : A2At W0 Z W3 W.drew q n g c Bl Bi Bn nb len b cl l y z vb := h.up (Below.refl _ _).drew
/-- What loads ask. -/
def S2 (g len cl Bl Bi Bn nb n b y z : Nat) (W : World) : Prop :=
  W.cell? ⟨Bl, 0, none⟩ = some (.slice (some ⟨g, 0, none⟩) len cl) ∧ W.cell? ⟨Bi, 0, none⟩ = some (.int .i64 (b : Int)) ∧ W.cell? ⟨Bn, 0, none⟩ = some (.slice (some ⟨nb, 0, none⟩) n n) ∧ W.cell? ⟨nb, y, none⟩ = some (.int .i64 (z : Int))
theorem A2At.s (h : A2At W0 Z W3 W q n g c Bl Bi Bn nb len b cl l y z vb) : W.cell? ⟨Bl, 0, none⟩ = some (.slice (some ⟨g, 0, none⟩) len cl) ∧ W.cell? ⟨Bi, 0, none⟩ = some (.int .i64 (b : Int)) ∧ W.cell? ⟨Bn, 0, none⟩ = some (.slice (some ⟨nb, 0, none⟩) n n) ∧ W.cell? ⟨nb, y, none⟩ = some (.int .i64 (z : Int)) := ⟨h.b1.cell, h.b2.cell, h.b3.cell, h.cz⟩
structure A2On (W0 Z W3 W : World) (q : Nat → Ins) (n g c Bl Bi Bn nb len b : Nat) (cl : Nat) (l : List Nat) (y z : Nat) (vb : Value) (k9 : Nat) : Prop extends A2At W0 Z W3 W q n g c Bl Bi Bn nb len b cl l y z vb where
  new : ∀ j u, ([.int .i64 ((z : Nat) : Int)] : List Value)[j]? = some u → W.cell? ((⟨k9, 0, none⟩ : Addr).add j) = some u
  le : W0.heap.size ≤ W.heap.size
theorem A2At.more (h : A2At W0 Z W3 W q n g c Bl Bi Bn nb len b cl l y z vb) : A2On W0 Z W3 (W.alloc (.cells #[.int .i64 ((z : Nat) : Int)] 3)) q n g c Bl Bi Bn nb len b cl l y z vb W.heap.size :=
  ⟨h.up (lbox10 _ _), int_new10 _ _ _, by have := h.far; have := h.tx.size; simp; omega⟩
theorem a2_far (h : A2At W0 Z W3 W q n g c Bl Bi Bn nb len b cl l y z vb) {r : Nat} (e : vb.ownBlock = some r) : Z.heap.size ≤ r := by
  obtain ⟨nx, e2, hl⟩ := h.led
  exact hl.here r (by rw [e2]; exact e)
theorem a2_keep (h : A2On W0 Z W3 W q n g c Bl Bi Bn nb len b cl l y z vb k9) (hg : W.grownBy Y4 vb.ownBlock) :
    (Y4.cell? ⟨Bl, 0, none⟩ = some (.slice (some ⟨g, 0, none⟩) len cl) ∧ Y4.cell? ⟨Bi, 0, none⟩ = some (.int .i64 (b : Int)) ∧ Y4.cell? ⟨Bn, 0, none⟩ = some (.slice (some ⟨nb, 0, none⟩) n n) ∧ Y4.cell? ⟨nb, y, none⟩ = some (.int .i64 (z : Int))) ∧ Y4.cell? ⟨g, b * 3 + 2, none⟩ = some vb ∧ Y4.frozen? ⟨g, b * 3 + 2, none⟩ = false := by
  have f := h.far
  have sz := h.tx.size
  have k : ∀ r, r < Z.heap.size → Y4.heap[r]? = W.heap[r]? := fun r hr => hg.block r (by omega) fun e => by have := a2_far h.toA2At e.symm; omega
  have hb : ∀ {B : Nat} {t : TypeId} {v : Value}, B < Z.heap.size → Boxed W B t v → Boxed Y4 B t v := fun hB hb => (k _ hB).trans hb
  refine ⟨⟨(hb f.1 h.b1).cell, (hb f.2.1 h.b2).cell, (hb f.2.2.1 h.b3).cell, (World.cell?_of_block (a := ⟨nb, y, none⟩) (k nb (by omega))).trans h.cz⟩, (World.cell?_of_block (a := ⟨g, b * 3 + 2, none⟩) (k g (by omega))).trans h.next, ?_⟩
  have hf : Y4.frozen? ⟨g, b * 3 + 2, none⟩ = W.frozen? ⟨g, b * 3 + 2, none⟩ := by
    unfold World.frozen?
    rw [k g (by omega)]
  exact hf.trans h.free
theorem a2_end (h : A2On W0 Z W3 W q n g c Bl Bi Bn nb len b cl l y z vb k9) (ho : Y4.ownsRow W0.heap.size 3 1 v9 (l.length + 1) (intL l ++ [.int .i64 ((z : Nat) : Int)])) (hg : W.grownBy Y4 vb.ownBlock) (hw : v9.ownBlock = vb.ownBlock ∨ v9.ownBlock = some W.heap.size) :
    ((Y4.setCell ⟨g, b * 3 + 2, none⟩ v9).cell? ⟨Bl, 0, none⟩ = some (.slice (some ⟨g, 0, none⟩) len cl) ∧ (Y4.setCell ⟨g, b * 3 + 2, none⟩ v9).cell? ⟨Bi, 0, none⟩ = some (.int .i64 (b : Int)) ∧ (Y4.setCell ⟨g, b * 3 + 2, none⟩ v9).cell? ⟨Bn, 0, none⟩ = some (.slice (some ⟨nb, 0, none⟩) n n) ∧ (Y4.setCell ⟨g, b * 3 + 2, none⟩ v9).cell? ⟨nb, y, none⟩ = some (.int .i64 (z : Int))) ∧
    Stp (waysK Z.heap.size (fun k => k = g)) (fun k => k = g) Z W3 (Y4.setCell ⟨g, b * 3 + 2, none⟩ v9) ∧ TurnX (fun k => k = g) Z (Y4.setCell ⟨g, b * 3 + 2, none⟩ v9) ∧ ∃ nx', LdIn W0 (Y4.setCell ⟨g, b * 3 + 2, none⟩ v9) q n g c b (l ++ [z]) Z.heap.size nx' := by
  have hk := a2_keep h hg
  have f := h.far
  have ne := h.ne
  obtain ⟨nx, e, hl⟩ := h.led
  have hrow : W.ownsRow Z.heap.size 3 1 vb l.length (intL l) := by
    refine ⟨h.own.1, ?_⟩
    rcases h.own.2 with h2 | ⟨g', c', cur, e1, hB, rest⟩
    · exact .inl h2
    · exact .inr ⟨g', c', cur, e1, a2_far h.toA2At (by rw [e1]; rfl), rest⟩
  have s1 : Stp (waysK Z.heap.size (fun k => k = g)) (fun k => k = g) Z W Y4 := Stp.app hrow hg fun r cc hr hkk => by
    rcases hkk with hkk | ⟨_, cc2, hkk⟩
    · omega
    · injection hkk with _ hkk; exact absurd hkk (by decide)
  have s2 : Stp (waysK Z.heap.size (fun k => k = g)) (fun k => k = g) Z Y4 (Y4.setCell ⟨g, b * 3 + 2, none⟩ v9) := Stp.set (b := g) (X := fun k => k = g) rfl (fun o (hkk : waysK Z.heap.size (fun k => k = g) g o) => by
    rcases hkk with hkk | hkk
    · exact hkk.2.1 rfl
    · omega) _ _
  have s := h.stp.trans (s1.trans s2)
  refine ⟨⟨?_, ?_, ?_, ?_⟩, s, (s1.trans s2).tx h.tx, ld_one hl e h.lt (Below.refl _ _) h.tx.size ho hg hw⟩
  · rw [World.cell?_setCell_far _ _ _ _ (by show g ≠ Bl; omega)]; exact hk.1.1
  · rw [World.cell?_setCell_far _ _ _ _ (by show g ≠ Bi; omega)]; exact hk.1.2.1
  · rw [World.cell?_setCell_far _ _ _ _ (by show g ≠ Bn; omega)]; exact hk.1.2.2.1
  · rw [World.cell?_setCell_far _ _ _ _ (by show g ≠ nb; omega)]; exact hk.1.2.2.2
end
end Go.Proofs.Ytaphbcjehcnggaa
namespace Go.Proofs.Ytaphbcjehcnggaa
open Go Go.RowKit Go.Shelf
attribute [local go_sem] Oper.semAt_some
set_option linter.unusedSimpArgs false
set_option linter.unusedVariables false
set_option linter.unusedSectionVars false

/-- Where the first loop of blocks begins. -/
structure S1At (w V : World) (A : Option Addr) (n cap : Nat) (q : Nat → Ins) (Bl Bt Et Bn Rn Be : Nat) : Prop where
  bq : Boxed V w.heap.size 22 (.slice A n cap)
  l : Boxed V Bl 34 (.slice none 0 0)
  t : Boxed V Bt 23 (.slice (some ⟨Et, 0, none⟩) n n)
  ents : NumsAt V Et n (intoN q n n)
  nu : Boxed V Bn 23 (.slice (some ⟨Rn, 0, none⟩) n n)
  nums : NumsAt V Rn n (fun _ => 0)
  en : Boxed V Be 3 (.int .i64 0)
  bel : Below w.heap.size w V
  ne : w.heap.size < Bl ∧ Bl < Et ∧ Et < Bt ∧ Bt < Rn ∧ Rn < Bn ∧ Bn < Be ∧ Be < V.heap.size
theorem S1At.up {w V W : World} {A : Option Addr} {n cap : Nat} {q : Nat → Ins} {Bl Bt Et Bn Rn Be : Nat} (h : S1At w V A n cap q Bl Bt Et Bn Rn Be) (hb : Below V.heap.size V W) : S1At w W A n cap q Bl Bt Et Bn Rn Be :=
  ⟨(hb.block _ h.bq.lt).trans h.bq, (hb.block _ h.l.lt).trans h.l, (hb.block _ h.t.lt).trans h.t, h.ents.below hb, (hb.block _ h.nu.lt).trans h.nu, h.nums.below hb, (hb.block _ h.en.lt).trans h.en, h.bel.trans (hb.mono h.bel.size), by have := h.ne; have := hb.size; omega⟩
theorem s1_make {w W U : World} {A : Option Addr} {n cap : Nat} {q : Nat → Ins} {Et : Nat} {O : Obj} (hq : Boxed W w.heap.size 22 (.slice A n cap)) (hl : Boxed W (w.heap.size + 1) 34 (.slice none 0 0)) (hw : Below w.heap.size w W) (hz : W.heap.size = w.heap.size + 2)
    (hO : ∀ w : World, NumsAt (w.alloc O) w.heap.size n (fun _ => 0)) (he : NumsAt U Et n (intoN q n n)) (hle : w.heap.size + 2 ≤ Et) (hb : Below (w.heap.size + 2) W U) : S1At w ((((U.alloc (.cells #[.slice (some ⟨Et, 0, none⟩) n n] 23)).alloc O).alloc (.cells #[.slice (some ⟨U.heap.size + 1, 0, none⟩) n n] 23)).alloc (.cells #[.int .i64 0] 3)) A n cap q (w.heap.size + 1) U.heap.size Et (U.heap.size + 2) (U.heap.size + 1) (U.heap.size + 3) := by
  have hEt := he.lt
  have e1 := lbox10 U (.cells #[.slice (some ⟨Et, 0, none⟩) n n] 23)
  have b1 := Boxed.new U 23 (.slice (some ⟨Et, 0, none⟩) n n)
  have s1 : (U.alloc (.cells #[.slice (some ⟨Et, 0, none⟩) n n] 23)).heap.size = U.heap.size + 1 := by simp
  generalize U.alloc (.cells #[.slice (some ⟨Et, 0, none⟩) n n] 23) = U1 at e1 b1 s1 ⊢
  have e2 := lbox10 U1 O
  have n2 := hO U1
  have s2 : (U1.alloc O).heap.size = U.heap.size + 2 := by simp [s1]
  rw [s1] at n2
  generalize U1.alloc O = U2 at e2 n2 s2 ⊢
  have e3 := lbox10 U2 (.cells #[.slice (some ⟨U.heap.size + 1, 0, none⟩) n n] 23)
  have b3 := Boxed.new U2 23 (.slice (some ⟨U.heap.size + 1, 0, none⟩) n n)
  have s3 : (U2.alloc (.cells #[.slice (some ⟨U.heap.size + 1, 0, none⟩) n n] 23)).heap.size = U.heap.size + 3 := by simp [s2]
  rw [s2] at b3
  generalize U2.alloc (.cells #[.slice (some ⟨U.heap.size + 1, 0, none⟩) n n] 23) = U3 at e3 b3 s3 ⊢
  have e4 := lbox10 U3 (.cells #[.int .i64 0] 3)
  have b4 := Boxed.new U3 3 (.int .i64 0)
  rw [s3] at b4
  have s4 : (U3.alloc (.cells #[.int .i64 0] 3)).heap.size = U.heap.size + 4 := by simp [s3]
  generalize U3.alloc (.cells #[.int .i64 0] 3) = U4 at e4 b4 s4 ⊢
  have hsz := hb.size
  have f : Below U.heap.size U U4 := e1.trans ((e2.trans ((e3.trans (e4.mono (by omega))).mono (by omega))).mono (by omega))
  have g1 : ∀ {B : Nat} {t : TypeId} {v : Value}, B < U1.heap.size → Boxed U1 B t v → Boxed U4 B t v := fun hB h => (e4.block _ (by omega)).trans ((e3.block _ (by omega)).trans ((e2.block _ (by omega)).trans h))
  have g3 : ∀ {B : Nat} {t : TypeId} {v : Value}, B < U3.heap.size → Boxed U3 B t v → Boxed U4 B t v := fun hB h => (e4.block _ (by omega)).trans h
  exact ⟨(f.block _ (by omega)).trans ((hb.block _ (by omega)).trans hq), (f.block _ (by omega)).trans ((hb.block _ (by omega)).trans hl), g1 (by omega) b1, he.below f, g3 (by omega) b3, (n2.below e3).below e4, b4, (hw.trans (hb.mono (by omega))).trans (f.mono (by omega)), by omega⟩
theorem hb_box10 {W W' : World} {B N b : Nat} {t : TypeId} {v : Value} (hb : Below N W W') (hN : b < N) (h : Boxed W b t v) : Boxed W' b t v := (hb.block b hN).trans h
theorem blks_put {W : World} {A : Option Addr} {l : List (Nat × Nat)} {lead : Nat → List Nat} (h : BlksAt W A l lead) {E : Nat} {o o' : Obj} (ho : W.heap[E]? = some o) (hc : o.isCells = false) : BlksAt (W.putObj E o') A l lead := by
  have hg := grownBy_putObj' W E o'
  have hr : ∀ r, some E = some r → ∃ o : Obj, W.heap[r]? = some o ∧ o.isCells = false := fun r e => by cases e; exact ⟨o, ho, hc⟩
  obtain ⟨g, oo, rfl, hl, h⟩ := h
  refine ⟨g, oo, rfl, Nat.lt_of_lt_of_le hl hg.size, fun b hb => ?_⟩
  obtain ⟨h1, h2, An, cn, h3, h4⟩ := h b hb
  refine ⟨cell_kept h1 hg hr, cell_kept h2 hg hr, An, cn, cell_kept h3 hg hr, fun hn => ?_⟩
  obtain ⟨b', o', rfl, hl', hc'⟩ := h4 hn
  exact ⟨b', o', rfl, Nat.lt_of_lt_of_le hl' hg.size, fun i hi => cell_kept (hc' i hi) hg hr⟩
section
variable {w : World} {A : Option Addr} {n : Nat} (cap : Nat) {q : Nat → Ins} (h : ProgAt w A n q) (hok : ∀ i, i < n → (q i).OK) (h0 : 0 < n) (hn : n ≤ 4096) (hac : Accepted q n)
include h hok h0 hn hac
set_option maxHeartbeats 8000000 in
set_option maxRecDepth 100000 in
theorem p_blocks : Calls Try.prog 31 #[.slice A n cap] w fun e w' => ∃ A' c, e = .returned (.slice A' (blkF q n).length c) ∧ BlksAt w' A' (blkF q n) (leadF q n) ∧ Below w.heap.size w w' := by
  have HP := Lib.hid (And.intro h hok)
  obtain ⟨O, hmk, hO⟩ := make_zero 23 3 (.int .i64 0) 8 Try.underlying23 info_int10 rfl n (by omega) (by omega)
  have HO := Lib.hid hO
  have HQ : Hid (Boxed ((w.alloc (.cells #[.slice A n cap] 22)).alloc (.cells #[.slice none 0 0] 34)) w.heap.size 22 (.slice A n cap) ∧ Boxed ((w.alloc (.cells #[.slice A n cap] 22)).alloc (.cells #[.slice none 0 0] 34)) (w.heap.size + 1) 34 (.slice none 0 0) ∧ Below w.heap.size w ((w.alloc (.cells #[.slice A n cap] 22)).alloc (.cells #[.slice none 0 0] 34))) := Lib.hid (by
    have hd := Boxed.new (w.alloc (.cells #[.slice A n cap] 22)) 34 (.slice none 0 0)
    rw [World.size_alloc] at hd
    exact ⟨(Boxed.new w _ _).alloc _, hd, (lbox10 w _).trans ((lbox10 (w.alloc _) _).mono (by simp))⟩)
  have c1 := HQ.out.1.cell
  have HEN := Lib.hid (p_entriesOf (w := ((w.alloc (.cells #[.slice A n cap] 22)).alloc (.cells #[.slice none 0 0] 34))) cap (h.below HQ.out.2.2) hok h0 hn)
  have hz : ((w.alloc (.cells #[.slice A n cap] 22)).alloc (.cells #[.slice none 0 0] 34)).heap.size = w.heap.size + 2 := by simp
  rw [hz] at HEN
  clear h hok hO
  refine (callsIn_wide (n := 24)).1 ?_
  refine callsIn_of_wp_marks Try.func31 rfl trivial ?_ rfl
  simp only [Try.ntmps31, List.size_toArray, List.length_cons, List.length_nil, Nat.reduceAdd, Nat.reduceSub, Array.replicate_succ, Array.replicate_zero, List.push_toArray, List.append_toArray, List.nil_append, List.cons_append]
  gi_wp2_with (first
    | (refine ⟨trivial, ?_⟩; gi_at_call 43; refine (callsIn_wide.2 HEN.out).mono ?_; rintro e U ⟨Et, rfl, hnums, hle, hb⟩; have HU := Lib.hid (And.intro hnums (And.intro hle hb)); have hqU : Boxed U w.heap.size 22 (.slice A n cap) := (hb.block w.heap.size (by omega)).trans HQ.out.1; have hS0 := s1_make HQ.out.1 HQ.out.2.1 HQ.out.2.2 hz HO.out hnums hle hb; have HS0 := Lib.hid hS0; have cq := (hqU.alloc (.cells #[.slice (some ⟨Et, 0, none⟩) n n] 23)).cell; have cq2 := hS0.bq.cell; clear hnums hle hb hS0)
    | (refine ⟨trivial, ?_⟩; gi_at_call 30; refine (callsIn_wide.2 (p_comeTo A n cap _)).mono ?_; rintro e wc ⟨rfl, rfl⟩))
  have HAC := Lib.hid hac
  have hzN : ((((U.alloc (.cells #[.slice (some ⟨Et, 0, none⟩) n n] 23)).alloc O).alloc (.cells #[.slice (some ⟨U.heap.size + 1, 0, none⟩) n n] 23)).alloc (.cells #[.int .i64 0] 3)).heap.size = U.heap.size + 4 := by simp
  generalize (((U.alloc (.cells #[.slice (some ⟨Et, 0, none⟩) n n] 23)).alloc O).alloc (.cells #[.slice (some ⟨U.heap.size + 1, 0, none⟩) n n] 23)).alloc (.cells #[.int .i64 0] 3) = V0 at HS0 hzN ⊢
  obtain ⟨N, hN⟩ : ∃ N, N = U.heap.size := ⟨_, rfl⟩
  rw [← hN] at HS0 hzN ⊢
  have hNE := HS0.out.ne
  have HPV : Hid (ProgAt V0 A n q ∧ ∀ b o, A = some ⟨b, o, none⟩ → b < w.heap.size) := Lib.hid (by
    refine ⟨HP.out.1.below HS0.out.bel, fun b o e => ?_⟩
    obtain ⟨qb, qo, e2, hl, _⟩ := HP.out.1 h0
    rw [e2] at e; injection e with e; injection e with e _; omega)
  have hz0 : (V0.alloc (.cells #[.slice A n cap] 22)).heap.size = V0.heap.size + 1 := by simp
  have HS := Lib.hid (fun m hm => come_at cap HPV.out.1 HP.out.2 h0 hn (V := V0.alloc (.cells #[.slice A n cap] 22)) (D := (V0.alloc (.cells #[.slice A n cap] 22)).heap.size) (fun k => k = N + 3 ∨ k = w.heap.size + 1 ∨ k = N + 1) (Below.refl _ _) (Nat.le_refl _) (by omega) (by omega) (fun b o e => by have := HPV.out.2 b o e; omega) m hm)
  have HS1 := Lib.hid (HS0.out.up (lbox10 V0 (.cells #[.slice A n cap] 22)))
  have HPW := Lib.hid (HPV.out.1.below (lbox10 V0 (.cells #[.slice A n cap] 22)))
  have HA := Lib.hid HPV.out.2
  clear HPV HS0 hNE hmk c1 cq cq2 HU hqU HEN HQ hz HO hz0
  rw [hzN] at HS
  generalize V0.alloc (.cells #[.slice A n cap] 22) = V at HS HS1 HPW ⊢
  have hNE := HS1.out.ne
  have HI0 : Hid (B1At V q n (N + 3) (w.heap.size + 1) (N + 1) [] V) := Lib.hid ⟨TurnX.refl _ _, HS1.out.en, ⟨_, HS1.out.l, World.ownsRow_nil _ _ _ _⟩, ⟨_, HS1.out.nums, fun j hj => by cases hj⟩⟩
  clear hN hzN
  refine rangeO10 okB okB_rest (K := comeK V.heap.size (fun k => k = N + 3 ∨ k = w.heap.size + 1 ∨ k = N + 1)) (a₁ := fun a x => var10 #[18] 7 (encP x) (.int .i64 (x : Int)) a) rfl (by decide) (gf := 42) (lb := #[(.pointer (some ⟨N + 4, 0, none⟩))]) rfl trivial (enters_of Try.func42 (by kernel_rfl) rfl)
    (HS.out (24 - 1) (by decide)) (fun j r hj h => comeK_loop j r h) (fun _ => rfl) (B1At V q n (N + 3) (w.heap.size + 1) (N + 1)) (b1_own V q n _ _ _ (by omega) (by omega) (by omega)) HI0.out ?assign ?body ?don
  case assign =>
    intro l2 x W2 kk hkk
    have HKK := Lib.hid hkk
    clear hkk
    gi_wp2
    exact HKK.out _ (by simp [encP])
  case body =>
    rintro l2 r2 pre x a' W2 rfl hl2 hr2 hI hpre
    obtain ⟨hpx, hx, hrx⟩ := come_split hpre
    have hlen : lenP q n pre = (blkN q n x).length := by rw [hpx]; exact lenP_come x
    have HI := Lib.hid hI
    have c0 := hI.en.cell
    have c1 := (hI.tr.box HS1.out.bq (by omega)).cell
    have c2 := (hI.tr.box HS1.out.t (by omega)).cell
    have c3 := (hI.tr.box HS1.out.nu (by omega)).cell
    have hx' : (x : Int) < (n : Int) := by omega
    cases hg : goesF q n x with
    | true =>
      have hgo := blk_goes hx hrx hg
      have hlt : (x : Int) < (endP q n pre : Int) := by
        have : x < endP q n pre := by unfold endP; rw [hlen, if_neg (by omega)]; exact hgo.2.2
        omega
      have HG := Lib.hid hg
      clear hI hpre hg hpx hlen hgo
      gi_wp2
      exact ⟨KeepsFrom.refl _ _, KeepO.refl _ _, HI.out.goes HG.out⟩
    | false =>
      have hbe := blk_begins hx hrx hg
      have hlt : ¬ (x : Int) < (endP q n pre : Int) := by
        have : endP q n pre ≤ x := by
          unfold endP
          split
          · exact Nat.zero_le _
          · rw [hlen]; exact hbe.2.2.2 (by omega)
        omega
      have HEO := Lib.hid (p_endOf (w := W2) cap (hI.tr.prog HPW.out (fun b o e => by have := HA.out b o e; omega)) HP.out.2 hn (hI.tr.row HS1.out.ents (by omega)) hx)
      obtain ⟨T, hT⟩ : ∃ T, T = ((blkF q n).getD (blkN q n x).length (0, 0)).2 := ⟨_, rfl⟩
      have hET := fun E hE => (end_is (e := E) hx hrx hg hE).trans hT.symm
      have HET := Lib.hid hET
      obtain ⟨c, hc⟩ : ∃ c, c = (blkN q n x).length := ⟨_, rfl⟩
      rw [← hc] at hbe hT hlen
      have hcn : c ≤ n := by rw [hc]; exact Nat.le_trans (blk_len x) (by omega)
      have HG := Lib.hid (And.intro hg (And.intro hlen (And.intro hbe hT)))
      obtain ⟨v, hvb, hv⟩ := hI.lb
      rw [hlen] at hv
      obtain ⟨Av, cv, rfl⟩ := own_form10 hv
      have c4 := hvb.cell
      obtain ⟨f, hf, _⟩ := hI.num
      have c5 := hf.cell hx
      have c6 := hf.free x
      have c7 := fun u => (hvb.other (show w.heap.size + 1 ≠ N + 3 by omega) u).cell
      have c8 := fun u => (((hI.tr.box HS1.out.nu (by omega))).other (show N + 2 ≠ N + 3 by omega) u).cell
      have c9 := fun u => (((hI.tr.box HS1.out.bq (by omega))).other (show w.heap.size ≠ N + 3 by omega) u).cell
      have c10 := hI.en.frozen
      have c11 := (hI.en.set (.int .i64 (T : Int))).cell
      have HVB := Lib.hid hvb
      have HV := Lib.hid hv
      have HROW : Hid ((((W2.setCell ⟨N + 3, 0, none⟩ (.int .i64 (T : Int))).setCell ⟨N + 1, x, none⟩ (.int .i64 (c : Int))).alloc (.cells #[.int .i64 (x : Int), .int .i64 (T : Int), .slice none 0 0] 46)).ownsRow V.heap.size 46 3 (.slice Av c cv) c (blkL ((blkF q n).take c))) := Lib.hid ((ownsRow_setCell_below (ownsRow_setCell_below hv (show N + 3 < V.heap.size by omega) _) (show N + 1 < V.heap.size by omega) _).alloc _)
      have hsz2 := hI.tr.size
      have HNEW : Hid (∀ j u, (blkC (x, T))[j]? = some u → (((W2.setCell ⟨N + 3, 0, none⟩ (.int .i64 (T : Int))).setCell ⟨N + 1, x, none⟩ (.int .i64 (c : Int))).alloc (.cells #[.int .i64 (x : Int), .int .i64 (T : Int), .slice none 0 0] 46)).cell? ((⟨W2.heap.size, 0, none⟩ : Addr).add j) = some u) := Lib.hid (by
        have hb := blk_new10 ((W2.setCell ⟨N + 3, 0, none⟩ (.int .i64 (T : Int))).setCell ⟨N + 1, x, none⟩ (.int .i64 (c : Int))) x T
        rw [show ((W2.setCell ⟨N + 3, 0, none⟩ (.int .i64 (T : Int))).setCell ⟨N + 1, x, none⟩ (.int .i64 (c : Int))).heap.size = W2.heap.size by simp [World.setCell]] at hb
        exact hb)
      have HSZ : Hid (V.heap.size ≤ (((W2.setCell ⟨N + 3, 0, none⟩ (.int .i64 (T : Int))).setCell ⟨N + 1, x, none⟩ (.int .i64 (c : Int))).alloc (.cells #[.int .i64 (x : Int), .int .i64 (T : Int), .slice none 0 0] 46)).heap.size) := Lib.hid (by simp [World.setCell]; omega)
      have HXY : Hid ((blkF q n).getD c (0, 0) = (x, T)) := Lib.hid (Prod.ext hbe.2.1 hT.symm)
      obtain ⟨i1, hi1, hz1, hs1, hb1⟩ := info_parts6 info_blk10
      clear hpre hg hpx hlen hbe hET hT hc hI hvb hv hf hrx
      gi_wp2_with (first
        | (refine ⟨trivial, ?_⟩; gi_at_call 44; refine (CallsIn.inRound l2 (callsIn_wide.2 HEO.out)).mono ?_; rintro e w1 ⟨E, rfl, hend, hw1⟩; subst w1; have hE := HET.out E hend; clear hend; subst E)
        | (gi_at_builtin; refine wpListIn_append_own _ rfl _ _ 34 rfl V.heap.size 46 i1 _ 3 40 Try.underlying34 hi1 hz1 hs1 hb1 rfl (by decide) _ _ _ rfl HROW.out ⟨W2.heap.size, 0, none⟩ 1 1 (blkC (x, T)) rfl rfl (HNEW.out) (blk_one10 _ _) (by unfold maxLen; omega) (by omega) (HSZ.out) ?_; intro v' w1 hown' hgrow _; obtain ⟨g', cap', hv'⟩ := ownsRow_succ hown'; have HB := Lib.hid (HI.out.begins HG.out.2.2.2 HG.out.1 HG.out.2.1 HG.out.2.2.1.1 HXY.out HG.out.2.2.1.2.2.1 (by omega) (by omega) (by omega) (by omega) (by omega) (by omega) hv' HV.out HVB.out hown' hgrow); subst hv'; have d1 := HB.out.2.1.cell; have d2 := HB.out.2.1.frozen; clear hown' hgrow))
      exact ⟨HB.out.1.kf, HB.out.1.ko, HB.out.2.2⟩
  case don =>
    rintro W0 hI hd
    have hL0 : lenP q n (comeF q n) = (blkF q n).length := lenP_all
    obtain ⟨v, hvb, hv⟩ := hI.lb
    rw [hL0, List.take_length] at hv
    obtain ⟨g, c, rfl⟩ := own_some10 hv (blk_some h0)
    have hgV : V.heap.size ≤ g := (hv.lt g rfl).1
    have hst := ld_start hv
    obtain ⟨f, hf, hfn⟩ := hI.num
    obtain ⟨L, hL⟩ : ∃ L, L = (blkF q n).length := ⟨_, rfl⟩
    have hLn : L ≤ n := by rw [hL]; exact blk_len n
    have hbel : Below w.heap.size w W0 := hI.tr.below HS1.out.bel (fun k hk => by omega) (by omega)
    have HW0 := Lib.hid (And.intro (hI.tr.box HS1.out.bq (by omega)) (And.intro hvb (And.intro (hI.tr.box HS1.out.nu (by omega)) (And.intro hf (And.intro hfn hbel)))))
    have c4 := hvb.cell
    have HLE := Lib.hid hL
    rw [← hL] at c4
    have HST : Hid (LdOut W0 W0 q n g c 0 (fun _ => .slice none 0 0) ∧ Marks V.heap.size [V.heap.size] W0) := Lib.hid ⟨⟨hst.congr fun k hk => by unfold partB; rw [if_neg (by omega)]; split <;> rfl, fun _ _ _ => rfl⟩, (Marks.nil _ _).cons (Nat.le_refl _) (by simp) hd⟩
    have hV0 := hI.tr.size
    clear hI hd hvb hv hst hf hfn hL0 hbel hL HS HPW HI0
    gi_wp2
    refine wpIn_loop (fun a wr => ∃ (b : Nat) (Ds : List Nat) (nx : Nat → Value) (u8 u9 u40 u41 u42 u43 u44 u45 u46 u47 u48 u65 : Value), a = { tmps := #[.slice A n cap, .pointer (some ⟨w.heap.size, 0, none⟩), .slice none 0 0, .pointer (some ⟨w.heap.size + 1, 0, none⟩), .pointer (some ⟨N, 0, none⟩), .pointer (some ⟨N + 1 + 1, 0, none⟩), .pointer (some ⟨N + 1 + 1 + 1, 0, none⟩), undef, u8, u9, undef, .slice A n cap, .slice (some ⟨Et, 0, none⟩) n n, .slice A n cap, .int .i64 (n : Int), .slice (some ⟨N + 1, 0, none⟩) n n, .slice A n cap, .func (.func 42) #[] #[.pointer (some ⟨N + 1 + 1 + 1 + 1, 0, none⟩)], undef, undef, undef, undef, undef, undef, undef, undef, undef, undef, undef, undef, undef, undef, undef, undef, undef, undef, undef, .slice (some ⟨g, 0, none⟩) L c, .int .i64 (L : Int), .int .i64 (b : Int), u40, u41, u42, u43, u44, u45, u46, u47, u48, undef, undef, undef, undef, undef, undef, undef, undef, undef, undef, undef, undef, undef, undef, undef, undef, u65, undef], defers := marksL Ds } ∧ b ≤ L ∧ LdOut W0 wr q n g c b nx ∧ Marks V.heap.size Ds wr) (fun a _ => L - (intOf (a.tmps.getD 39 undef)).toNat) ?start ?round
    case start => exact ⟨0, [V.heap.size], _, _, _, _, _, _, _, _, _, _, _, _, _, rfl, Nat.zero_le _, HST.out.1, HST.out.2⟩
    case round =>
      rintro a wr ⟨b, Ds, nx, u8, u9, u40, u41, u42, u43, u44, u45, u46, u47, u48, u65, rfl, hb, hO, hM⟩
      have HO := Lib.hid (And.intro hO hM)
      clear HST c4
      by_cases hlt : b < L
      · have hlt' : (b : Int) < (L : Int) := by omega
        have hbl : b < (blkF q n).length := by rw [← HLE.out]; exact hlt
        obtain ⟨x0, x1, x2, x3⟩ := hO.led.cells hbl
        rw [hO.nil b (Nat.le_refl _) hbl] at x2
        obtain ⟨t1, t2, t3⟩ := blk_last hbl
        have hgr := hO.led.gr
        have bq := HW0.out.1.kept hgr (by simp; omega)
        have bl := HW0.out.2.1.kept hgr (by simp; omega)
        have bn := HW0.out.2.2.1.kept hgr (by simp; omega)
        have hnr := row_other10 HW0.out.2.2.2.1 hgr (by simp; omega)
        obtain ⟨F, hF⟩ : ∃ F, F = ((blkF q n).getD b (0, 0)).1 := ⟨_, rfl⟩
        obtain ⟨T, hT⟩ : ∃ T, T = ((blkF q n).getD b (0, 0)).2 := ⟨_, rfl⟩
        obtain ⟨p, hp⟩ : ∃ p, p = ((blkF q n).getD b (0, 0)).2 - 1 := ⟨_, rfl⟩
        have HLB := Lib.hid (fun y (hy : y ∈ nextF10 q n p) => lead_begins hbl (hp ▸ hy))
        have HLD : Hid (leadF q n b = (nextF10 q n p).map (numF q n)) := Lib.hid (by unfold leadF; rw [← hp])
        rw [← hF] at x0
        rw [← hT] at x1 t1 t2
        rw [← hp] at t3
        rw [← hT] at hp
        have hw7 : IntKind.i64.wrap ((T : Int) - 1) = (p : Int) := by rw [IntWalk.i64_in _ (by omega)]; omega
        have hw1 : IntKind.i64.wrap ((b : Int) + 1) = ((b + 1 : Nat) : Int) := by rw [IntWalk.i64_in _ (by omega)]; omega
        have hsz0 := hgr.size
        have bq2 := (bq.alloc (.cells #[.int .i64 (b : Int)] 3)).alloc (.cells #[.int .i64 (F : Int), .int .i64 (T : Int), .slice none 0 0] 46)
        have c1 := bq2.cell
        have hpw : ProgAt wr A n q := (HP.out.1.below HW0.out.2.2.2.2.2).grown hgr fun ad _ e => by
          obtain ⟨b', o', p'⟩ := ad
          obtain ⟨qb, qo, e2, _⟩ := HP.out.1 h0
          have := HA.out qb qo e2
          rw [e2] at e; injection e with e; injection e with e1; show b' ≠ _; omega
        have HB := Lib.hid (And.intro bl (And.intro bn (And.intro hnr (And.intro t3 hbl))))
        have HPW := Lib.hid hpw
        have HB2 := Lib.hid ((lbox10 wr (.cells #[.int .i64 (b : Int)] 3)).trans ((lbox10 (wr.alloc (.cells #[.int .i64 (b : Int)] 3)) (.cells #[.int .i64 (F : Int), .int .i64 (T : Int), .slice none 0 0] 46)).mono (by simp)))
        have HBI := Lib.hid ((Boxed.new wr 3 (.int .i64 (b : Int))).alloc (.cells #[.int .i64 (F : Int), .int .i64 (T : Int), .slice none 0 0] 46))
        clear hO hM bq bl bn hnr hgr bq2 hpw t3 hF hT hp hbl
        gi_wp2_with (refine ⟨trivial, ?_⟩; gi_at_call 26; refine (callsIn_wide.2 (p_ways A n cap (p : Int) _)).mono ?_; rintro e w1 ⟨rfl, rfl⟩)
        have hZsz : ((((wr.alloc (.cells #[.int .i64 (b : Int)] 3)).alloc (.cells #[.int .i64 (F : Int), .int .i64 (T : Int), .slice none 0 0] 46)).alloc (.cells #[.slice A n cap] 22)).alloc (.cells #[.int .i64 (p : Int)] 3)).heap.size = wr.heap.size + 4 := by simp
        have hW2sz : ((wr.alloc (.cells #[.int .i64 (b : Int)] 3)).alloc (.cells #[.int .i64 (F : Int), .int .i64 (T : Int), .slice none 0 0] 46)).heap.size = wr.heap.size + 2 := by simp
        have hgs : g < W0.heap.size := HO.out.1.led.lt.1
        have HS2 := Lib.hid (fun m' hm' => ways_at (w := ((wr.alloc (.cells #[.int .i64 (b : Int)] 3)).alloc (.cells #[.int .i64 (F : Int), .int .i64 (T : Int), .slice none 0 0] 46))) cap (HPW.out.below HB2.out) HP.out.2 (by omega) (p : Int) (V := ((((wr.alloc (.cells #[.int .i64 (b : Int)] 3)).alloc (.cells #[.int .i64 (F : Int), .int .i64 (T : Int), .slice none 0 0] 46)).alloc (.cells #[.slice A n cap] 22)).alloc (.cells #[.int .i64 (p : Int)] 3))) (D := ((((wr.alloc (.cells #[.int .i64 (b : Int)] 3)).alloc (.cells #[.int .i64 (F : Int), .int .i64 (T : Int), .slice none 0 0] 46)).alloc (.cells #[.slice A n cap] 22)).alloc (.cells #[.int .i64 (p : Int)] 3)).heap.size) (fun k => k = g) (show Below (((wr.alloc (.cells #[.int .i64 (b : Int)] 3)).alloc (.cells #[.int .i64 (F : Int), .int .i64 (T : Int), .slice none 0 0] 46)).heap.size + 2) ((((wr.alloc (.cells #[.int .i64 (b : Int)] 3)).alloc (.cells #[.int .i64 (F : Int), .int .i64 (T : Int), .slice none 0 0] 46)).alloc (.cells #[.slice A n cap] 22)).alloc (.cells #[.int .i64 (p : Int)] 3)) ((((wr.alloc (.cells #[.int .i64 (b : Int)] 3)).alloc (.cells #[.int .i64 (F : Int), .int .i64 (T : Int), .slice none 0 0] 46)).alloc (.cells #[.slice A n cap] 22)).alloc (.cells #[.int .i64 (p : Int)] 3)) from Below.refl _ _) (Nat.le_refl _) (by omega) ⟨by omega, by omega⟩ okN m' hm')
        have HBZ := Lib.hid (HB2.out.trans (((lbox10 ((wr.alloc (.cells #[.int .i64 (b : Int)] 3)).alloc (.cells #[.int .i64 (F : Int), .int .i64 (T : Int), .slice none 0 0] 46)) (.cells #[.slice A n cap] 22)).trans ((lbox10 _ (.cells #[.int .i64 (p : Int)] 3)).mono (by simp))).mono (by omega)))
        have HBX := Lib.hid (And.intro ((((HB.out.1.alloc (.cells #[.int .i64 (b : Int)] 3)).alloc (.cells #[.int .i64 (F : Int), .int .i64 (T : Int), .slice none 0 0] 46)).alloc (.cells #[.slice A n cap] 22)).alloc (.cells #[.int .i64 (p : Int)] 3)) (And.intro ((HBI.out.alloc (.cells #[.slice A n cap] 22)).alloc (.cells #[.int .i64 (p : Int)] 3)) ((((HB.out.2.1.alloc (.cells #[.int .i64 (b : Int)] 3)).alloc (.cells #[.int .i64 (F : Int), .int .i64 (T : Int), .slice none 0 0] 46)).alloc (.cells #[.slice A n cap] 22)).alloc (.cells #[.int .i64 (p : Int)] 3))))
        rw [next_z, hW2sz, hZsz] at HS2
        clear c1 hW2sz
        generalize (((wr.alloc (.cells #[.int .i64 (b : Int)] 3)).alloc (.cells #[.int .i64 (F : Int), .int .i64 (T : Int), .slice none 0 0] 46)).alloc (.cells #[.slice A n cap] 22)).alloc (.cells #[.int .i64 (p : Int)] 3) = Z at HS2 HBZ HBX hZsz ⊢
        have HZ : Hid (LdIn W0 Z q n g c b [] Z.heap.size nx) := Lib.hid ((HO.out.1.up HBZ.out).in_ HB.out.2.2.2.2 _)
        rw [← HLE.out] at HBX
        refine rangeO10 okN okN_rest (K := waysK (wr.heap.size + 4) (fun k => k = g)) (a₁ := fun a x => var10 #[49] 10 (encP x) (.int .i64 (x : Int)) a) rfl (by decide) (gf := 39) (lb := #[.pointer (some ⟨wr.heap.size + 2 + 1, 0, none⟩), .pointer (some ⟨wr.heap.size + 2, 0, none⟩)]) rfl trivial (enters_of Try.func39 (by kernel_rfl) rfl)
          (HS2.out (24 - 1) (by decide)) (fun j r hj h => by cases waysK_cells j _ h (by omega)) (fun _ => rfl) (fun pre2 W => (∃ nx', LdIn W0 W q n g c b (pre2.map (numF q n)) Z.heap.size nx') ∧ TurnX (fun k => k = g) Z W)
          (fun pre2 X Y row h hg hr => ⟨let ⟨nx', h1⟩ := h.1; ⟨nx', h1.on hg fun r e => let ⟨h2, o, h3, h4⟩ := hr r e; ⟨by omega, o, h3, okN_no h4⟩⟩, h.2.on hg fun r e => .inl (hr r e).1⟩) ⟨⟨nx, HZ.out⟩, TurnX.refl _ _⟩ ?assign2 ?body2 ?don2
        case assign2 =>
          intro l3 y W3 kk hkk
          have HKK := Lib.hid hkk
          clear hkk
          gi_wp2
          exact HKK.out _ (by simp [encP])
        case body2 =>
          rintro l3 r3 pre2 y a'' W3 rfl hl3 hr3 ⟨⟨nx', hli⟩, htx⟩ hpre2
          have hyy := last_in hpre2
          have hy : y < n := (next_in hyy).2.1
          have hy' : (y : Int) < (n : Int) := by omega
          have hry : reachF q n y = true := reach_next HB.out.2.2.2.1 hyy
          have hll : (pre2.map (numF q n)).length ≤ 2 := by
            have h1 := hpre2.length_le
            have h2 := next_len (q := q) (n := n) p
            rw [List.length_append] at h1
            rw [List.length_map]; omega
          have hfz := HW0.out.2.2.2.2.1 y (mem_come.2 ⟨hy, hry⟩) (HLB.out y hyy)
          have bl3 := htx.box HBX.out.1 (by omega)
          have bi3 := htx.box HBX.out.2.1 (by omega)
          have bn3 := htx.box HBX.out.2.2 (by omega)
          have nr2 : NumsAt Z (N + 1) n f := NumsAt.below HB.out.2.2.1 HBZ.out
          have nr3 : NumsAt W3 (N + 1) n f := htx.row nr2 (show N + 1 ≠ g by omega)
          have cz := nr3.cell hy
          obtain ⟨_, _, g3, g4⟩ := hli.led.cells HB.out.2.2.2.2
          have HOW := Lib.hid (ld_own hli HB.out.2.2.2.2)
          obtain ⟨z, hz⟩ : ∃ z, z = numF q n y := ⟨_, rfl⟩
          rw [hfz, ← hz] at cz
          generalize hv : nx' b = vb at g3 HOW
          obtain ⟨lp, hlp⟩ : ∃ lp, lp = pre2.map (numF q n) := ⟨_, rfl⟩
          rw [← hlp] at HOW hli hll
          have HLP := Lib.hid (And.intro hlp.symm hz.symm)
          have HLL := Lib.hid hll
          have HA0 : Hid (A2At W0 Z W3 W3 q n g c (w.heap.size + 1) wr.heap.size (N + 2) (N + 1) L b c lp y z vb) := Lib.hid ⟨⟨nx', hv, hli⟩, HOW.out, Stp.refl _ _ _ _, htx, bl3, bi3, bn3, cz, g3, g4, ⟨by omega, by omega, by omega, by omega, hgs, by omega⟩, ⟨by omega, by omega, by omega, by omega⟩, HB.out.2.2.2.2⟩
          clear hlp hz hv hli htx hpre2 hyy hry hfz bl3 bi3 bn3 nr2 nr3 cz g3 g4 HOW hll
          have s1 := HA0.out.s
          gi_wp2
          refine wpIn_region_held_drew (S := fun W' => W'.cell? ⟨w.heap.size + 1, 0, none⟩ = some (.slice (some ⟨g, 0, none⟩) L c) ∧ W'.cell? ⟨wr.heap.size, 0, none⟩ = some (.int .i64 (b : Int)) ∧ W'.cell? ⟨N + 2, 0, none⟩ = some (.slice (some ⟨N + 1, 0, none⟩) n n) ∧ W'.cell? ⟨N + 1, y, none⟩ = some (.int .i64 (z : Int))) (by kernel_rfl) (by kernel_rfl) (fun ⟨_, _, h⟩ => h) HA0.out.s (fun hHeld => ?_)
          have H1 := Lib.hid HA0.out.drew
          generalize W3.drew = Y at H1 hHeld ⊢
          clear s1 HA0
          refine wpAnyH_take (i := 0) (v := ?_) rfl (by kernel_rfl) (by kernel_rfl) (by kernel_rfl) (fun _ _ _ h => h) (Or.inl ⟨by rfl, ?_⟩) (by assumption) ?_
          rotate_left
          · intro wS hSw
            (obtain ⟨s1, s2, s3, s4⟩ := hSw)
            go_simp
            all_goals with_reducible rfl
          (try simp only [List.getElem_toArray, List.getElem_cons_zero, List.getElem_cons_succ, Act.put, List.setIfInBounds_toArray, List.set_cons_zero, List.set_cons_succ])
          refine wpAnyH_take (i := 1) (v := ?_) rfl (by kernel_rfl) (by kernel_rfl) (by kernel_rfl) (fun _ _ _ h => h) (Or.inl ⟨by rfl, ?_⟩) (by assumption) ?_
          rotate_left
          · intro wS hSw
            (obtain ⟨s1, s2, s3, s4⟩ := hSw)
            go_simp
            all_goals with_reducible rfl
          (try simp only [List.getElem_toArray, List.getElem_cons_zero, List.getElem_cons_succ, Act.put, List.setIfInBounds_toArray, List.set_cons_zero, List.set_cons_succ])
          refine wpAnyH_take (i := 2) (v := ?_) rfl (by kernel_rfl) (by kernel_rfl) (by kernel_rfl) (fun _ _ _ h => h) (Or.inl ⟨by rfl, ?_⟩) (by assumption) ?_
          rotate_left
          · intro wS hSw
            (obtain ⟨s1, s2, s3, s4⟩ := hSw)
            go_simp
            all_goals with_reducible rfl
          (try simp only [List.getElem_toArray, List.getElem_cons_zero, List.getElem_cons_succ, Act.put, List.setIfInBounds_toArray, List.set_cons_zero, List.set_cons_succ])
          refine wpAnyH_take (i := 3) (v := ?_) rfl (by kernel_rfl) (by kernel_rfl) (by kernel_rfl) (fun _ _ _ h => h) (Or.inl ⟨by rfl, ?_⟩) (by assumption) ?_
          rotate_left
          · intro wS hSw
            (obtain ⟨s1, s2, s3, s4⟩ := hSw)
            go_simp
            all_goals with_reducible rfl
          (try simp only [List.getElem_toArray, List.getElem_cons_zero, List.getElem_cons_succ, Act.put, List.setIfInBounds_toArray, List.set_cons_zero, List.set_cons_succ])
          refine wpAnyH_take (i := 4) (v := ?_) rfl (by kernel_rfl) (by kernel_rfl) (by kernel_rfl) (fun _ _ _ h => h) (Or.inl ⟨by rfl, ?_⟩) (by assumption) ?_
          rotate_left
          · intro wS hSw
            (obtain ⟨s1, s2, s3, s4⟩ := hSw)
            go_simp
            all_goals with_reducible rfl
          (try simp only [List.getElem_toArray, List.getElem_cons_zero, List.getElem_cons_succ, Act.put, List.setIfInBounds_toArray, List.set_cons_zero, List.set_cons_succ])
          refine wpAnyH_take (i := 5) (v := ?_) rfl (by kernel_rfl) (by kernel_rfl) (by kernel_rfl) (fun _ _ _ h => h) (Or.inl ⟨by rfl, ?_⟩) (by assumption) ?_
          rotate_left
          · intro wS hSw
            (obtain ⟨s1, s2, s3, s4⟩ := hSw)
            go_simp
            all_goals with_reducible rfl
          (try simp only [List.getElem_toArray, List.getElem_cons_zero, List.getElem_cons_succ, Act.put, List.setIfInBounds_toArray, List.set_cons_zero, List.set_cons_succ])
          refine wpAnyH_take (i := 7) (v := ?_) rfl (by kernel_rfl) (by kernel_rfl) (by kernel_rfl) (fun _ _ _ h => h) (Or.inl ⟨by rfl, ?_⟩) (by assumption) ?_
          rotate_left
          · intro wS hSw
            (obtain ⟨s1, s2, s3, s4⟩ := hSw)
            go_simp
            all_goals with_reducible rfl
          (try simp only [List.getElem_toArray, List.getElem_cons_zero, List.getElem_cons_succ, Act.put, List.setIfInBounds_toArray, List.set_cons_zero, List.set_cons_succ])
          refine wpAnyH_take (i := 8) (v := ?_) rfl (by kernel_rfl) (by kernel_rfl) (by kernel_rfl) (fun _ _ _ h => h) (Or.inl ⟨by rfl, ?_⟩) (by assumption) ?_
          rotate_left
          · intro wS hSw
            (obtain ⟨s1, s2, s3, s4⟩ := hSw)
            go_simp
            all_goals with_reducible rfl
          (try simp only [List.getElem_toArray, List.getElem_cons_zero, List.getElem_cons_succ, Act.put, List.setIfInBounds_toArray, List.set_cons_zero, List.set_cons_succ])
          refine wpAnyH_take (i := 9) (v := ?_) rfl (by kernel_rfl) (by kernel_rfl) (by kernel_rfl) (fun _ _ _ h => h) (Or.inl ⟨by rfl, ?_⟩) (by assumption) ?_
          rotate_left
          · intro wS hSw
            (obtain ⟨s1, s2, s3, s4⟩ := hSw)
            go_simp
            all_goals with_reducible rfl
          (try simp only [List.getElem_toArray, List.getElem_cons_zero, List.getElem_cons_succ, Act.put, List.setIfInBounds_toArray, List.set_cons_zero, List.set_cons_succ])
          refine wpAnyH_take (i := 10) (v := ?_) rfl (by kernel_rfl) (by kernel_rfl) (by kernel_rfl) (fun _ _ _ h => h) (Or.inl ⟨by rfl, ?_⟩) (by assumption) ?_
          rotate_left
          · intro wS hSw
            (obtain ⟨s1, s2, s3, s4⟩ := hSw)
            go_simp
            all_goals with_reducible rfl
          (try simp only [List.getElem_toArray, List.getElem_cons_zero, List.getElem_cons_succ, Act.put, List.setIfInBounds_toArray, List.set_cons_zero, List.set_cons_succ])
          refine wpAnyH_ready (rs := [6, 11]) (by kernel_rfl) (by simp) (AllReadyH.cons rfl (fun K hK => ?_) (AllReadyH.cons rfl (fun K hK => ?_) AllReadyH.nil))
          · have z0 := H1.out.next
            go_simp
            clear hHeld
            refine hK.out _ _ H1.out.s (fun hHeld0 => ?_)
            clear hK K z0
            (try simp only [Act.put, List.setIfInBounds_toArray, List.set_cons_zero, List.set_cons_succ, List.getElem_toArray, List.getElem_cons_zero, List.getElem_cons_succ])
            refine held_one (i := 11) (by kernel_rfl) rfl (fun K hK => ?_)
            go_simp
            have H3 := Lib.hid (H1.out.more (z := z))
            refine hK.out _ _ H3.out.s (fun hH2 => ?_)
            clear hK K hHeld0 H1
            (try simp only [Act.put, List.setIfInBounds_toArray, List.set_cons_zero, List.set_cons_succ, List.getElem_toArray, List.getElem_cons_zero, List.getElem_cons_succ])
            generalize hZ9 : Y.alloc (.cells #[.int .i64 ((z : Nat) : Int)] 3) = Y9 at H3 hH2 ⊢
            generalize Y.heap.size = k9 at H3 ⊢
            clear hZ9
            obtain ⟨i8, hi8, hz8, hs8, hb8⟩ := info_parts6 info_int10
            refine held_one (i := 12) (by kernel_rfl) rfl (fun K hK => ?_)
            rw [if_pos (by kernel_rfl)]
            refine oper_append6 (.tmp 56) (.tmp 61) 23 rfl W0.heap.size 3 i8 _ 1 8 Try.underlying23 hi8 hz8 hs8 hb8 rfl (by decide) vb lp.length (intL lp) rfl H3.out.own ⟨k9, 0, none⟩ 1 1 [.int .i64 ((z : Nat) : Int)] rfl rfl H3.out.new (int_one10 _ _) (by have := HLL.out; unfold maxLen; omega) (by have := HLL.out; omega) H3.out.le ?_
            intro v9 Y4 ho hg hv9
            obtain ⟨A9, c9, rfl⟩ := own_form10 ho
            have H4 := Lib.hid (a2_end H3.out ho hg hv9)
            have hS4 := a2_keep H3.out hg
            refine hK.out _ _ hS4.1 (fun hH3 => ?_)
            have z1 := hS4.2.1
            have z2 := hS4.2.2
            clear hK K hH2 ho hg hv9 H3 hS4
            (try simp only [Act.put, List.setIfInBounds_toArray, List.set_cons_zero, List.set_cons_succ, List.getElem_toArray, List.getElem_cons_zero, List.getElem_cons_succ])
            refine wpAnyH_take (i := 13) (v := ?_) rfl (by kernel_rfl) (by kernel_rfl) (by kernel_rfl) (fun _ _ _ h => h) (Or.inl ⟨by rfl, ?_⟩) (by assumption) ?_
            rotate_left
            · intro wS hSw
              (skip)
              go_simp
              all_goals with_reducible rfl
            (try simp only [List.getElem_toArray, List.getElem_cons_zero, List.getElem_cons_succ, Act.put, List.setIfInBounds_toArray, List.set_cons_zero, List.set_cons_succ])
            refine wpAnyH_take (i := 14) (v := ?_) rfl (by kernel_rfl) (by kernel_rfl) (by kernel_rfl) (fun _ _ _ h => h) (Or.inl ⟨by rfl, ?_⟩) (by assumption) ?_
            rotate_left
            · intro wS hSw
              (skip)
              go_simp
              all_goals with_reducible rfl
            (try simp only [List.getElem_toArray, List.getElem_cons_zero, List.getElem_cons_succ, Act.put, List.setIfInBounds_toArray, List.set_cons_zero, List.set_cons_succ])
            refine held_one (i := 15) (by kernel_rfl) rfl (fun K hK => ?_)
            go_simp
            refine hK.out _ _ H4.out.1 (fun hH5 => ?_)
            clear hK K hH3
            (try simp only [Act.put, List.setIfInBounds_toArray, List.set_cons_zero, List.set_cons_succ, List.getElem_toArray, List.getElem_cons_zero, List.getElem_cons_succ])
            refine wpAnyH_done (by kernel_rfl) ?_ _
            gi_wp2
            obtain ⟨nx9, hnx⟩ := H4.out.2.2.2
            exact ⟨H4.out.2.1.kf, by have h9 := H4.out.2.1.ko; rw [hZsz] at h9; exact h9, ⟨nx9, by rw [List.map_append, HLP.out.1, List.map_cons, List.map_nil, HLP.out.2]; exact hnx⟩, H4.out.2.2.1⟩
          · go_simp
            have H3 := Lib.hid (H1.out.more (z := z))
            clear hHeld
            refine hK.out _ _ H3.out.s (fun hHeld0 => ?_)
            clear hK K H1
            (try simp only [Act.put, List.setIfInBounds_toArray, List.set_cons_zero, List.set_cons_succ, List.getElem_toArray, List.getElem_cons_zero, List.getElem_cons_succ])
            refine held_one (i := 6) (by kernel_rfl) rfl (fun K hK => ?_)
            have z0 := H3.out.next
            go_simp
            refine hK.out _ _ H3.out.s (fun hH2 => ?_)
            clear hK K z0 hHeld0
            (try simp only [Act.put, List.setIfInBounds_toArray, List.set_cons_zero, List.set_cons_succ, List.getElem_toArray, List.getElem_cons_zero, List.getElem_cons_succ])
            generalize hZ9 : Y.alloc (.cells #[.int .i64 ((z : Nat) : Int)] 3) = Y9 at H3 hH2 ⊢
            generalize Y.heap.size = k9 at H3 ⊢
            clear hZ9
            obtain ⟨i8, hi8, hz8, hs8, hb8⟩ := info_parts6 info_int10
            refine held_one (i := 12) (by kernel_rfl) rfl (fun K hK => ?_)
            rw [if_pos (by kernel_rfl)]
            refine oper_append6 (.tmp 56) (.tmp 61) 23 rfl W0.heap.size 3 i8 _ 1 8 Try.underlying23 hi8 hz8 hs8 hb8 rfl (by decide) vb lp.length (intL lp) rfl H3.out.own ⟨k9, 0, none⟩ 1 1 [.int .i64 ((z : Nat) : Int)] rfl rfl H3.out.new (int_one10 _ _) (by have := HLL.out; unfold maxLen; omega) (by have := HLL.out; omega) H3.out.le ?_
            intro v9 Y4 ho hg hv9
            obtain ⟨A9, c9, rfl⟩ := own_form10 ho
            have H4 := Lib.hid (a2_end H3.out ho hg hv9)
            have hS4 := a2_keep H3.out hg
            refine hK.out _ _ hS4.1 (fun hH3 => ?_)
            have z1 := hS4.2.1
            have z2 := hS4.2.2
            clear hK K hH2 ho hg hv9 H3 hS4
            (try simp only [Act.put, List.setIfInBounds_toArray, List.set_cons_zero, List.set_cons_succ, List.getElem_toArray, List.getElem_cons_zero, List.getElem_cons_succ])
            refine wpAnyH_take (i := 13) (v := ?_) rfl (by kernel_rfl) (by kernel_rfl) (by kernel_rfl) (fun _ _ _ h => h) (Or.inl ⟨by rfl, ?_⟩) (by assumption) ?_
            rotate_left
            · intro wS hSw
              (skip)
              go_simp
              all_goals with_reducible rfl
            (try simp only [List.getElem_toArray, List.getElem_cons_zero, List.getElem_cons_succ, Act.put, List.setIfInBounds_toArray, List.set_cons_zero, List.set_cons_succ])
            refine wpAnyH_take (i := 14) (v := ?_) rfl (by kernel_rfl) (by kernel_rfl) (by kernel_rfl) (fun _ _ _ h => h) (Or.inl ⟨by rfl, ?_⟩) (by assumption) ?_
            rotate_left
            · intro wS hSw
              (skip)
              go_simp
              all_goals with_reducible rfl
            (try simp only [List.getElem_toArray, List.getElem_cons_zero, List.getElem_cons_succ, Act.put, List.setIfInBounds_toArray, List.set_cons_zero, List.set_cons_succ])
            refine held_one (i := 15) (by kernel_rfl) rfl (fun K hK => ?_)
            go_simp
            refine hK.out _ _ H4.out.1 (fun hH5 => ?_)
            clear hK K hH3
            (try simp only [Act.put, List.setIfInBounds_toArray, List.set_cons_zero, List.set_cons_succ, List.getElem_toArray, List.getElem_cons_zero, List.getElem_cons_succ])
            refine wpAnyH_done (by kernel_rfl) ?_ _
            gi_wp2
            obtain ⟨nx9, hnx⟩ := H4.out.2.2.2
            exact ⟨H4.out.2.1.kf, by have h9 := H4.out.2.1.ko; rw [hZsz] at h9; exact h9, ⟨nx9, by rw [List.map_append, HLP.out.1, List.map_cons, List.map_nil, HLP.out.2]; exact hnx⟩, H4.out.2.2.1⟩
        case don2 =>
          rintro W3 ⟨⟨nx', hli⟩, htx⟩ hd
          have HX : Hid (LdOut W0 W3 q n g c (b + 1) nx' ∧ Marks V.heap.size (Z.heap.size :: Ds) W3) := Lib.hid ⟨hli.out HLD.out.symm, (HO.out.2.on fun D hD ho => by
            have hlt := HO.out.2.lt hD
            have hne : ¬ D = g := fun e => by
              obtain ⟨FF, ⟨cc, hc1, _⟩, _⟩ := HO.out.1.led.row
              rw [e, hc1] at ho; cases ho
            exact (htx.block D (by omega) hne).trans ((HBZ.out.block D hlt).trans ho)).cons (by have := HO.out.1.led.gr.size; omega) (fun hm => by have := HO.out.2.lt hm; omega) hd⟩
          clear hli htx hd HS2
          gi_wp2
          exact ⟨⟨b + 1, Z.heap.size :: Ds, nx', _, _, _, _, _, _, _, _, _, _, _, _, rfl, by omega, HX.out.1, HX.out.2⟩, by simp [intOf]; omega⟩
      · obtain rfl : b = L := by omega
        have bl := HW0.out.2.1.kept hO.led.gr (by simp; omega)
        have c1 := bl.cell
        rw [← HLE.out] at c1
        have HX : Hid (BlksAt wr (some ⟨g, 0, none⟩) (blkF q n) (leadF q n) ∧ Below w.heap.size w wr) := Lib.hid ⟨ld_end hO.led (fun k hk => if_pos (by rw [HLE.out]; exact hk)), HW0.out.2.2.2.2.2.grown hO.led.gr HW0.out.2.2.2.2.2.size (fun k e => by cases e; omega)⟩
        clear hO hM bl
        gi_wp2
        refine marks_leave (B := V.heap.size) (T := fun Z' => BlksAt Z' (some ⟨g, 0, none⟩) (blkF q n) (leadF q n) ∧ Below w.heap.size w Z') (fun Z' E hZ hE ho => ⟨blks_put hZ.1 ho rfl, hZ.2.grown (grownBy_putObj' Z' E _) hZ.2.size (fun k e => by cases e; omega)⟩) (fun Z' hZ => ?_) Ds wr HO.out.2 HX.out
        exact ⟨_, results_tmp rfl _ _ _, _, _, by rw [← HLE.out]; rfl, hZ.1, hZ.2⟩
end
end Go.Proofs.Ytaphbcjehcnggaa
namespace Go.Proofs.Ytaphbcjehcnggaa
open Go Go.RowKit Go.Shelf
attribute [local go_sem] Oper.semAt_some
set_option linter.unusedSimpArgs false
set_option linter.unusedVariables false
set_option linter.unusedSectionVars false

/-- A place and its instruction, as a round's arguments. -/
abbrev encB (q : Nat → Ins) (x : Nat) : Array Value := #[.int .i64 (x : Int), .agg #[.int .u16 (q x).code, .int .u8 ((q x).jt : Int), .int .u8 ((q x).jf : Int), .int .u32 ((q x).k.toNat : Int)]]
/-- The last m places, from behind. -/
def backL (n m : Nat) : List Nat := (List.range m).map fun i => n - 1 - i
theorem backL_succ (n m : Nat) : backL n (m + 1) = backL n m ++ [n - 1 - m] := by
  unfold backL
  rw [List.range_succ, List.map_append]; rfl
theorem backL_len (n m : Nat) : (backL n m).length = m := by unfold backL; rw [List.length_map, List.length_range]
theorem backL_pre {n m k : Nat} (h : m ≤ k) : backL n m <+: backL n k := by
  obtain ⟨d, rfl⟩ := Nat.le.dest h
  clear h
  induction d with
  | zero => exact List.prefix_refl _
  | succ d ih => rw [← Nat.add_assoc, backL_succ]; exact ih.trans (List.prefix_append _ _)
theorem backL_split {n : Nat} {pre : List Nat} {x : Nat} (h : pre ++ [x] <+: backL n n) : x + pre.length + 1 = n := by
  have hl := h.length_le
  rw [List.length_append, backL_len] at hl
  have h1 : (backL n n)[pre.length]? = some x := by
    obtain ⟨r, hr⟩ := h
    rw [← hr]; simp
  unfold backL at h1
  simp at hl
  rw [List.getElem?_map, List.getElem?_range (by omega)] at h1
  injection h1 with h1
  have h2 : n - 1 - pre.length = x := h1
  omega
theorem p_backward (A : Option Addr) (n cap : Nat) (w : World) : Calls Try.prog 46 #[.slice A n cap] w fun e w' =>
    e = .returned (.func (.func 61) #[] #[.pointer (some ⟨w.heap.size, 0, none⟩)]) ∧ w' = w.alloc (.cells #[.slice A n cap] 22) := by
  go_enter Try.func46, Try.ntmps46
  go_wp2
  go_ret
  exact ⟨rfl, rfl⟩
section
variable (A : Option Addr) (n cap : Nat) (q : Nat → Ins) (D : Nat) (X : Nat → Prop) (Bq : Nat) (hn : n ≤ 4096) (hB : Bq < D ∧ ¬ X Bq) (hA : ∀ b o, A = some ⟨b, o, none⟩ → b < D ∧ ¬ X b)
include hn hB hA
set_option maxHeartbeats 4000000 in
set_option maxRecDepth 100000 in
theorem back_stops (ok : Obj → Bool) (m : Nat) (hm : 1 ≤ m) (w : World) (hw : Boxed w Bq 22 (.slice A n cap)) (hq : ProgAt w A n q) :
    SeqL ok Fence.wide m Try.prog 61 #[.pointer (some ⟨Bq, 0, none⟩)] (encB q) (KeepO (waysK D X)) (backL n n) w := fun l J W hbw hJ hY hj => by
  have hw0 : Boxed W Bq 22 (.slice A n cap) := (hbw.block _ hw.lt).trans hw
  have hq0 := hq.below hbw
  have c0 := hw0.cell
  have HI := Lib.hid (And.intro hw0 (And.intro hq0 hj))
  have hwr : IntKind.i64.wrap ((n : Int) - 1) = (n : Int) - 1 := IntWalk.i64_in _ (by omega)
  clear hw hq hbw hw0 hq0 hj
  refine callsIn_of_wp Try.func61 rfl trivial ?_ rfl
  simp only [Try.ntmps61, List.size_toArray, List.length_cons, List.length_nil, Nat.reduceAdd, Nat.reduceSub, Array.replicate_succ, Array.replicate_zero, List.push_toArray, List.append_toArray, List.nil_append, List.cons_append]
  gi_wp2
  gi_loopw [3] (fun i wr => ∃ k : Nat, k ≤ n ∧ i = .int .i64 ((n : Int) - 1 - (k : Int)) ∧ Boxed wr Bq 22 (.slice A n cap) ∧ ProgAt wr A n q ∧ J (backL n k) wr) (fun i _ => (intOf i + 1).toNat)
  case atStart => exact ⟨0, Nat.zero_le _, by simp, HI.out.1, HI.out.2.1, HI.out.2.2⟩
  case round =>
    obtain ⟨k, hk, rfl, hb, hp, hj⟩ := hrel
    clear HI
    by_cases hlt : k < n
    · obtain ⟨x, hx⟩ : ∃ x, x + k + 1 = n := ⟨n - k - 1, by omega⟩
      have hxi : (n : Int) - 1 - (k : Int) = (x : Int) := by omega
      rw [hxi]
      have hge : (0 : Int) ≤ (x : Int) := by omega
      have hxn : (x : Int) < (n : Int) := by omega
      obtain ⟨qb, qo, hAe, hqb, hqc⟩ := hp (by omega)
      obtain ⟨x0, x1, x2, x3⟩ := hqc x (by omega)
      have c1 := hb.cell
      have hw2 : IntKind.i64.wrap ((x : Int) - 1) = (x : Int) - 1 := IntWalk.i64_in _ (by omega)
      have HE := Lib.hid (show backL n (k + 1) = backL n k ++ [x] by rw [backL_succ, show n - 1 - k = x by omega])
      obtain ⟨fn, tmps, assign, body, hy, hR⟩ := hY (backL n k) x wr hj (by rw [← HE.out]; exact backL_pre (by omega))
      have HB := Lib.hid (And.intro hb (And.intro hp hx))
      dsimp only [encB] at hy
      have hA2 := hA qb qo hAe
      have HAA := Lib.hid hA
      clear hb hp hj hqc hY hA
      subst hAe
      gi_wp2
      refine hR.mono ?_
      rintro e W3 ⟨rfl, hJ3, hk3⟩
      have H3 : Hid (Boxed W3 Bq 22 (.slice (some ⟨qb, qo, none⟩) n cap) ∧ ProgAt W3 (some ⟨qb, qo, none⟩) n q ∧ J (backL n (k + 1)) W3) := Lib.hid ⟨hk3.box HB.out.1 (waysK_box hB.1 hB.2 _ _), prog_keep10 HB.out.2.1 hk3 fun b o e ob ho => .inl ⟨(HAA.out b o e).1, (HAA.out b o e).2, ho⟩, HE.out ▸ hJ3⟩
      clear hJ3 hk3 hy hR
      gi_wp2
      go_roundw
      case rel => exact ⟨k + 1, by omega, by have := HB.out.2.2; rw [show (n : Int) - 1 - ((k + 1 : Nat) : Int) = (x : Int) - 1 by omega], H3.out.1, H3.out.2.1, H3.out.2.2⟩
      case measure => simp [intOf]
    · obtain rfl : k = n := by omega
      have hneg : (k : Int) - 1 - (k : Int) = -1 := by omega
      rw [hneg]
      have HJ := Lib.hid hj
      clear hb hp hj hY
      gi_wp2
      go_end0
      exact ⟨⟨_, rfl⟩, HJ.out⟩
end
end Go.Proofs.Ytaphbcjehcnggaa
namespace Go.Proofs.Ytaphbcjehcnggaa
open Go Go.RowKit Go.Shelf
attribute [local go_sem] Oper.semAt_some
set_option linter.unusedSimpArgs false
set_option linter.unusedVariables false
set_option linter.unusedSectionVars false

/-- The longest way behind some places. -/
def mostF (q : Nat → Ins) (n m : Nat) (l : List Nat) : Nat := l.foldl (fun x k => max x (farN q n m k)) 0
theorem mostF_snoc (q : Nat → Ins) (n m : Nat) (l : List Nat) (x : Nat) : mostF q n m (l ++ [x]) = max (mostF q n m l) (farN q n m x) := by
  unfold mostF
  rw [List.foldl_append]; rfl
theorem mostF_le (q : Nat → Ins) (n m : Nat) (l : List Nat) : mostF q n m l ≤ m := by
  unfold mostF
  have : ∀ (l : List Nat) a, a ≤ m → l.foldl (fun x k => max x (farN q n m k)) a ≤ m := fun l => by
    induction l with
    | nil => exact fun a h => h
    | cons y l ih => exact fun a h => ih _ (Nat.max_le.2 ⟨h, far_le m y⟩)
  exact this l 0 (Nat.zero_le _)
theorem far_step {q : Nat → Ins} {n m x : Nat} (h : x + m + 1 = n) (j : Nat) : (if j = x then mostF q n m (nextF10 q n x) + 1 else farN q n m j) = farN q n (m + 1) j := by
  rw [farN, show n - (m + 1) = x by omega]
  by_cases e : j = x
  · rw [if_pos e, if_pos e, e]; rfl
  · rw [if_neg e, if_neg e]
/-- The steps of the last places are known. -/
structure LgAt (V : World) (R n : Nat) (q : Nat → Ins) (pre : List Nat) (W : World) : Prop where
  row : NumsAt W R n (farN q n pre.length)
  gr : TurnX (fun k => k = R) V W
theorem lg_own (V : World) (R n : Nat) (q : Nat → Ins) (hR : R < V.heap.size) (ok : Obj → Bool) : Abide ok V.heap.size (LgAt V R n q) := fun pre X Y row h hg hr =>
  ⟨row_other10 h.row hg fun e => by have := (hr R e.symm).1; omega, h.gr.on hg fun r e => .inl (hr r e).1⟩
/-- The most of some ways, in its box. -/
structure MsAt (Z : World) (Bm : Nat) (q : Nat → Ins) (n m : Nat) (pre : List Nat) (W : World) : Prop where
  bx : Boxed W Bm 3 (.int .i64 (mostF q n m pre : Int))
  gr : TurnX (fun k => k = Bm) Z W
theorem ms_own (Z : World) (Bm : Nat) (q : Nat → Ins) (n m : Nat) (hB : Bm < Z.heap.size) (ok : Obj → Bool) : Abide ok Z.heap.size (MsAt Z Bm q n m) := fun pre X Y row h hg hr =>
  ⟨h.bx.kept hg fun e => by have := (hr Bm e.symm).1; omega, h.gr.on hg fun r e => .inl (hr r e).1⟩
section
variable {w : World} {A : Option Addr} {n : Nat} (cap : Nat) {q : Nat → Ins} (h : ProgAt w A n q) (hok : ∀ i, i < n → (q i).OK) (h0 : 0 < n) (hn : n ≤ 4096)
include h hok h0 hn
set_option maxHeartbeats 8000000 in
set_option maxRecDepth 100000 in
theorem p_longest : Calls Try.prog 33 #[.slice A n cap] w fun e w' => e = .returned (.int .i64 ((farF q n : Nat) : Int)) ∧ Below w.heap.size w w' := by
  have HP := Lib.hid (And.intro h hok)
  obtain ⟨O, hmk, hO⟩ := make_zero 23 3 (.int .i64 0) 8 Try.underlying23 info_int10 rfl n (by omega) (by omega)
  have hV0 : Hid (Below w.heap.size w (((w.alloc (.cells #[.slice A n cap] 22)).alloc O).alloc (.cells #[.slice (some ⟨w.heap.size + 1, 0, none⟩) n n] 23)) ∧ Boxed (((w.alloc (.cells #[.slice A n cap] 22)).alloc O).alloc (.cells #[.slice (some ⟨w.heap.size + 1, 0, none⟩) n n] 23)) (w.heap.size + 2) 23 (.slice (some ⟨w.heap.size + 1, 0, none⟩) n n)
      ∧ Boxed (((w.alloc (.cells #[.slice A n cap] 22)).alloc O).alloc (.cells #[.slice (some ⟨w.heap.size + 1, 0, none⟩) n n] 23)) w.heap.size 22 (.slice A n cap)
      ∧ NumsAt (((w.alloc (.cells #[.slice A n cap] 22)).alloc O).alloc (.cells #[.slice (some ⟨w.heap.size + 1, 0, none⟩) n n] 23)) (w.heap.size + 1) n (fun _ => 0) ∧ (((w.alloc (.cells #[.slice A n cap] 22)).alloc O).alloc (.cells #[.slice (some ⟨w.heap.size + 1, 0, none⟩) n n] 23)).heap.size = w.heap.size + 3) := Lib.hid (by
    have hd := Boxed.new ((w.alloc (.cells #[.slice A n cap] 22)).alloc O) 23 (.slice (some ⟨w.heap.size + 1, 0, none⟩) n n)
    simp only [World.size_alloc] at hd
    have hq := ((Boxed.new w 22 (.slice A n cap)).alloc O).alloc (.cells #[.slice (some ⟨w.heap.size + 1, 0, none⟩) n n] 23)
    have hr : NumsAt ((w.alloc (.cells #[.slice A n cap] 22)).alloc O) (w.heap.size + 1) n (fun _ => 0) := by have := hO (w.alloc (.cells #[.slice A n cap] 22)); rwa [World.size_alloc] at this
    exact ⟨(lbox10 w _).trans (((lbox10 (w.alloc _) O).trans ((lbox10 ((w.alloc _).alloc O) _).mono (by simp))).mono (by simp)), hd, hq, hr.below (lbox10 _ _), by simp⟩)
  have c1 := (Boxed.new w 22 (.slice A n cap)).cell
  have c2 := hV0.out.2.2.1.cell
  clear h hok hO
  refine (callsIn_wide (n := 16)).1 ?_
  refine callsIn_of_wp_marks Try.func33 rfl trivial ?_ rfl
  simp only [Try.ntmps33, List.size_toArray, List.length_cons, List.length_nil, Nat.reduceAdd, Nat.reduceSub, Array.replicate_succ, Array.replicate_zero, List.push_toArray, List.append_toArray, List.nil_append, List.cons_append]
  gi_wp2_with (first
    | (refine ⟨trivial, ?_⟩; gi_at_call 46; refine (callsIn_wide.2 (p_backward A n cap _)).mono ?_; rintro e wc ⟨rfl, rfl⟩))
  generalize ((w.alloc (.cells #[.slice A n cap] 22)).alloc O).alloc (.cells #[.slice (some ⟨w.heap.size + 1, 0, none⟩) n n] 23) = V0 at hV0 ⊢
  have HV0 := Lib.hid hV0.out
  have HPV : Hid (ProgAt V0 A n q ∧ Below w.heap.size w V0 ∧ ∀ b o, A = some ⟨b, o, none⟩ → b < w.heap.size) := Lib.hid (by
    refine ⟨HP.out.1.below hV0.out.1, hV0.out.1, fun b o e => ?_⟩
    obtain ⟨qb, qo, e2, hl, _⟩ := HP.out.1 h0
    rw [e2] at e; injection e with e; injection e with e _; omega)
  clear hV0 hmk c1 c2
  have hz : V0.heap.size = w.heap.size + 3 := HV0.out.2.2.2.2
  have bq := Boxed.new V0 22 (.slice A n cap)
  rw [hz] at bq
  have HS := Lib.hid (fun m hm => back_stops A n cap q (w.heap.size + 4) (fun j => j = w.heap.size + 1) (w.heap.size + 3) hn ⟨by omega, by omega⟩ (fun b o e => by have := HPV.out.2.2 b o e; omega) okN m hm (V0.alloc (.cells #[.slice A n cap] 22)) bq (HPV.out.1.below (lbox10 _ _)))
  have HI : Hid (LgAt (V0.alloc (.cells #[.slice A n cap] 22)) (w.heap.size + 1) n q [] (V0.alloc (.cells #[.slice A n cap] 22)) ∧ Boxed (V0.alloc (.cells #[.slice A n cap] 22)) (w.heap.size + 2) 23 (.slice (some ⟨w.heap.size + 1, 0, none⟩) n n) ∧ Boxed (V0.alloc (.cells #[.slice A n cap] 22)) w.heap.size 22 (.slice A n cap) ∧ Below w.heap.size w (V0.alloc (.cells #[.slice A n cap] 22)) ∧ (V0.alloc (.cells #[.slice A n cap] 22)).heap.size = w.heap.size + 4 ∧ ProgAt (V0.alloc (.cells #[.slice A n cap] 22)) A n q) := Lib.hid
    ⟨⟨(HV0.out.2.2.2.1.below (lbox10 _ _)).congr fun j _ => rfl, TurnX.refl _ _⟩, HV0.out.2.1.alloc _, HV0.out.2.2.1.alloc _, HPV.out.2.1.trans ((lbox10 V0 _).mono HPV.out.2.1.size), by simp; omega, HPV.out.1.below (lbox10 _ _)⟩
  clear bq
  generalize V0.alloc (.cells #[.slice A n cap] 22) = V at HS HI ⊢
  have hVz : V.heap.size = w.heap.size + 4 := HI.out.2.2.2.2.1
  have HL := Lib.hid HPV.out.2.2
  clear HPV HV0 hz
  refine rangeO10 okN okN_rest (K := waysK (w.heap.size + 4) (fun j => j = w.heap.size + 1)) (a₁ := fun a x => var10 #[12, 13] 4 (encB q x) (.int .i64 (x : Int)) a) rfl (by decide) (gf := 61) (lb := #[.pointer (some ⟨w.heap.size + 3, 0, none⟩)]) rfl trivial (enters_of Try.func61 (by kernel_rfl) rfl)
    (HS.out (16 - 1) (by decide)) (fun j r hj h => by cases waysK_cells j _ h (by omega)) (fun _ => rfl) (LgAt V (w.heap.size + 1) n q) (lg_own V (w.heap.size + 1) n q (by omega) okN) HI.out.1 ?assign ?body ?don
  case assign =>
    intro l2 x W2 kk hkk
    have HKK := Lib.hid hkk
    clear hkk
    gi_wp2
    exact HKK.out _ (by simp [encB])
  case body =>
    rintro l2 r2 pre x a' W2 rfl hl2 hr2 hI hpre
    have hxs := backL_split hpre
    have hx : x < n := by omega
    have HI2 := Lib.hid hI
    have hbz := hI.gr.size
    have hq2 := hI.gr.box HI.out.2.2.1 (by omega)
    have hq3 := hq2.alloc (.cells #[.int .i64 0] 3)
    have c1 := hq3.cell
    have HXS := Lib.hid hxs
    have HPW : Hid (ProgAt W2 A n q) := Lib.hid (hI.gr.prog HI.out.2.2.2.2.2 fun b o e => by have := HL.out b o e; omega)
    clear hI hq2 hq3 hpre hxs
    gi_wp2_with (first
      | (refine ⟨trivial, ?_⟩; gi_at_call 26; refine (CallsIn.inRound l2 (callsIn_wide.2 (p_ways A n cap (x : Int) _))).mono ?_; rintro e w1 ⟨rfl, rfl⟩))
    have hYz : (W2.alloc (.cells #[.int .i64 0] 3)).heap.size = W2.heap.size + 1 := by simp
    have hsz : (((W2.alloc (.cells #[.int .i64 0] 3)).alloc (.cells #[.slice A n cap] 22)).alloc (.cells #[.int .i64 (x : Int)] 3)).heap.size = W2.heap.size + 3 := by simp
    have HBY := Lib.hid (lbox10 W2 (.cells #[.int .i64 0] 3))
    have HS2 := Lib.hid (fun m' hm' => ways_at (w := (W2.alloc (.cells #[.int .i64 0] 3))) cap (HPW.out.below HBY.out) HP.out.2 (by omega) (x : Int) (V := ((W2.alloc (.cells #[.int .i64 0] 3)).alloc (.cells #[.slice A n cap] 22)).alloc (.cells #[.int .i64 (x : Int)] 3)) (D := W2.heap.size + 3) (fun j => j = W2.heap.size) (show Below ((W2.alloc (.cells #[.int .i64 0] 3)).heap.size + 2) (((W2.alloc (.cells #[.int .i64 0] 3)).alloc (.cells #[.slice A n cap] 22)).alloc (.cells #[.int .i64 (x : Int)] 3)) (((W2.alloc (.cells #[.int .i64 0] 3)).alloc (.cells #[.slice A n cap] 22)).alloc (.cells #[.int .i64 (x : Int)] 3)) from Below.refl _ _) (by omega) (by omega) ⟨by omega, by omega⟩ okN m' hm')
    have hbw : Below W2.heap.size W2 (((W2.alloc (.cells #[.int .i64 0] 3)).alloc (.cells #[.slice A n cap] 22)).alloc (.cells #[.int .i64 (x : Int)] 3)) := HBY.out.trans (((lbox10 (W2.alloc (.cells #[.int .i64 0] 3)) (.cells #[.slice A n cap] 22)).trans ((lbox10 _ (.cells #[.int .i64 (x : Int)] 3)).mono (by simp))).mono (by omega))
    have HBW := Lib.hid hbw
    have HK : Hid (MsAt (((W2.alloc (.cells #[.int .i64 0] 3)).alloc (.cells #[.slice A n cap] 22)).alloc (.cells #[.int .i64 (x : Int)] 3)) W2.heap.size q n pre.length [] (((W2.alloc (.cells #[.int .i64 0] 3)).alloc (.cells #[.slice A n cap] 22)).alloc (.cells #[.int .i64 (x : Int)] 3))) := Lib.hid ⟨((Boxed.new W2 3 (.int .i64 0)).alloc (.cells #[.slice A n cap] 22)).alloc (.cells #[.int .i64 (x : Int)] 3), TurnX.refl _ _⟩
    have hr4 := (hbw.block l2 (Array.getElem?_eq_some_iff.1 hr2).1).trans hr2
    have hd2 := HI2.out.gr.box HI.out.2.1 (by omega)
    have HBX : Hid (Boxed (((W2.alloc (.cells #[.int .i64 0] 3)).alloc (.cells #[.slice A n cap] 22)).alloc (.cells #[.int .i64 (x : Int)] 3)) (w.heap.size + 2) 23 (.slice (some ⟨w.heap.size + 1, 0, none⟩) n n) ∧ NumsAt (((W2.alloc (.cells #[.int .i64 0] 3)).alloc (.cells #[.slice A n cap] 22)).alloc (.cells #[.int .i64 (x : Int)] 3)) (w.heap.size + 1) n (farN q n pre.length)) := Lib.hid ⟨(hbw.block _ hd2.lt).trans hd2, HI2.out.row.below hbw⟩
    rw [next_z, hYz] at HS2
    clear c1 hbw hd2
    generalize ((W2.alloc (.cells #[.int .i64 0] 3)).alloc (.cells #[.slice A n cap] 22)).alloc (.cells #[.int .i64 (x : Int)] 3) = Z at HS2 hsz HBW HK HBX hr4 ⊢
    refine rangeI10 okN okN_rest (l₀ := l2) (r₀ := r2) (K := waysK (W2.heap.size + 3) (fun j => j = W2.heap.size)) (a₁ := fun a y => var10 #[17] 6 (encP y) (.int .i64 (y : Int)) a) rfl hr4 (by decide) (gf := 39) (lb := #[.pointer (some ⟨W2.heap.size + 1 + 1, 0, none⟩), .pointer (some ⟨W2.heap.size + 1, 0, none⟩)]) rfl trivial (enters_of Try.func39 (by kernel_rfl) rfl)
      ((HS2.out (16 - 1 - 1 - 1) (by decide)).inRound l2) (fun j r hj h => by cases waysK_cells j _ h (by omega)) (fun _ => rfl) (MsAt Z W2.heap.size q n pre.length) (ms_own Z W2.heap.size q n pre.length (by omega) okN) HK.out ?assign2 ?body2 ?don2
    case assign2 =>
      intro l3 y W3 kk hkk
      have HKK := Lib.hid hkk
      clear hkk
      gi_wp2
      exact HKK.out _ (by simp [encP])
    case body2 =>
      rintro l3 pre2 y a'' W3 rfl hI3 hpre2
      have hy : y < n := (next_in (last_in hpre2)).2.1
      have hy' : (y : Int) < (n : Int) := by omega
      have hd3 := hI3.gr.box HBX.out.1 (by omega)
      have hn3 : NumsAt W3 (w.heap.size + 1) n (farN q n pre.length) := hI3.gr.row HBX.out.2 (by omega)
      have HY : Hid (W3.cell? ⟨w.heap.size + 2, 0, none⟩ = some (.slice (some ⟨w.heap.size + 1, 0, none⟩) n n) ∧ W3.cell? ⟨w.heap.size + 1, y, none⟩ = some (.int .i64 (farN q n pre.length y : Int))) := Lib.hid ⟨hd3.cell, hn3.cell hy⟩
      have HM := Lib.hid (mostF_snoc q n pre.length pre2 y)
      have HI3 := Lib.hid hI3
      clear hI3 hd3 hn3 hpre2
      generalize hu : mostF q n pre.length pre2 = u at HM
      have hbx : Boxed W3 W2.heap.size 3 (.int .i64 (u : Int)) := by rw [← hu]; exact HI3.out.bx
      generalize farN q n pre.length y = z at HY HM
      have HBU := Lib.hid (And.intro hbx (And.intro HI3.out.gr (Below.refl W3.heap.size W3)))
      clear hu hbx
      have s1 := HY.out
      gi_wp2
      refine wpIn_region_held_drew (S := fun W' => W'.cell? ⟨w.heap.size + 2, 0, none⟩ = some (.slice (some ⟨w.heap.size + 1, 0, none⟩) n n) ∧ W'.cell? ⟨w.heap.size + 1, y, none⟩ = some (.int .i64 (z : Int))) (by kernel_rfl) (by kernel_rfl) (fun ⟨_, _, h⟩ => h) HY.out (fun hHeld => ?_)
      have H1 : Hid (Boxed W3.drew W2.heap.size 3 (.int .i64 (u : Int)) ∧ TurnX (fun j => j = W2.heap.size) Z W3.drew ∧ Below W3.heap.size W3 W3.drew) := Lib.hid ⟨HBU.out.1, (Stp.below (K := waysK Z.heap.size (fun j => j = W2.heap.size)) (Below.refl _ _).drew).tx HBU.out.2.1, (Below.refl _ _).drew⟩
      have HYY : Hid (W3.drew.cell? ⟨w.heap.size + 2, 0, none⟩ = some (.slice (some ⟨w.heap.size + 1, 0, none⟩) n n) ∧ W3.drew.cell? ⟨w.heap.size + 1, y, none⟩ = some (.int .i64 (z : Int))) := Lib.hid HY.out
      clear s1 HI3 HBU HY
      generalize W3.drew = Y at H1 hHeld HYY ⊢
      refine wpAnyH_take (i := 1) (v := ?_) rfl (by kernel_rfl) (by kernel_rfl) (by kernel_rfl) (fun _ _ _ h => h) (Or.inl ⟨by rfl, ?_⟩) (by assumption) ?_
      rotate_left
      · intro wS hSw
        (obtain ⟨s1, s2⟩ := hSw)
        go_simp
        all_goals with_reducible rfl
      (try simp only [List.getElem_toArray, List.getElem_cons_zero, List.getElem_cons_succ, Act.put, List.setIfInBounds_toArray, List.set_cons_zero, List.set_cons_succ])
      refine wpAnyH_take (i := 2) (v := ?_) rfl (by kernel_rfl) (by kernel_rfl) (by kernel_rfl) (fun _ _ _ h => h) (Or.inl ⟨by rfl, ?_⟩) (by assumption) ?_
      rotate_left
      · intro wS hSw
        (obtain ⟨s1, s2⟩ := hSw)
        go_simp
        all_goals with_reducible rfl
      (try simp only [List.getElem_toArray, List.getElem_cons_zero, List.getElem_cons_succ, Act.put, List.setIfInBounds_toArray, List.set_cons_zero, List.set_cons_succ])
      refine wpAnyH_take (i := 3) (v := ?_) rfl (by kernel_rfl) (by kernel_rfl) (by kernel_rfl) (fun _ _ _ h => h) (Or.inl ⟨by rfl, ?_⟩) (by assumption) ?_
      rotate_left
      · intro wS hSw
        (obtain ⟨s1, s2⟩ := hSw)
        go_simp
        all_goals with_reducible rfl
      (try simp only [List.getElem_toArray, List.getElem_cons_zero, List.getElem_cons_succ, Act.put, List.setIfInBounds_toArray, List.set_cons_zero, List.set_cons_succ])
      refine wpAnyH_take (i := 4) (v := ?_) rfl (by kernel_rfl) (by kernel_rfl) (by kernel_rfl) (fun _ _ _ h => h) (Or.inl ⟨by rfl, ?_⟩) (by assumption) ?_
      rotate_left
      · intro wS hSw
        (obtain ⟨s1, s2⟩ := hSw)
        go_simp
        all_goals with_reducible rfl
      (try simp only [List.getElem_toArray, List.getElem_cons_zero, List.getElem_cons_succ, Act.put, List.setIfInBounds_toArray, List.set_cons_zero, List.set_cons_succ])
      refine held_one (i := 0) (by kernel_rfl) rfl (fun K hK => ?_)
      have x0 := H1.out.1.cell
      go_simp
      refine hK.out _ _ HYY.out (fun hH2 => ?_)
      clear hK K hHeld x0
      (try simp only [Act.put, List.setIfInBounds_toArray, List.set_cons_zero, List.set_cons_succ, List.getElem_toArray, List.getElem_cons_zero, List.getElem_cons_succ])
      refine held_one (i := 5) (by kernel_rfl) rfl (fun K hK => ?_)
      go_simp
      have hmx : (if u < z then (z : Int) else (u : Int)) = ((max u z : Nat) : Int) := by
        split <;> omega
      rw [hmx]
      have HMX : Hid (max u z = mostF q n pre.length (pre2 ++ [y])) := Lib.hid HM.out.symm
      generalize max u z = mx at HMX ⊢
      clear hmx
      refine hK.out _ _ HYY.out (fun hH3 => ?_)
      clear hK K hH2
      (try simp only [Act.put, List.setIfInBounds_toArray, List.set_cons_zero, List.set_cons_succ, List.getElem_toArray, List.getElem_cons_zero, List.getElem_cons_succ])
      refine held_one (i := 6) (by kernel_rfl) rfl (fun K hK => ?_)
      have x0 := H1.out.1.cell
      have x1 := H1.out.1.frozen
      go_simp
      refine hK.out _ _ ⟨by rw [World.cell?_setCell_far _ _ _ _ (by show W2.heap.size ≠ w.heap.size + 2; omega)]; exact HYY.out.1, by rw [World.cell?_setCell_far _ _ _ _ (by show W2.heap.size ≠ w.heap.size + 1; omega)]; exact HYY.out.2⟩ (fun hH4 => ?_)
      clear hK K hH3 x0 x1
      (try simp only [Act.put, List.setIfInBounds_toArray, List.set_cons_zero, List.set_cons_succ, List.getElem_toArray, List.getElem_cons_zero, List.getElem_cons_succ])
      refine wpAnyH_done (by kernel_rfl) ?_ _
      gi_wp2
      have hs : Stp (waysK (W2.heap.size + 3) (fun j => j = W2.heap.size)) (fun j => j = W2.heap.size) Z Y (Y.setCell ⟨W2.heap.size, 0, none⟩ (.int .i64 (mx : Int))) := Stp.set (b := W2.heap.size) (X := fun j => j = W2.heap.size) rfl (fun o (hk : waysK (W2.heap.size + 3) (fun j => j = W2.heap.size) W2.heap.size o) => by
        rcases hk with hk | hk
        · exact hk.2.1 rfl
        · have := hk.1; omega) _ _
      have hs0 := (Stp.below (K := waysK (W2.heap.size + 3) (fun j => j = W2.heap.size)) (X := fun j => j = W2.heap.size) (V := Z) H1.out.2.2).trans hs
      exact ⟨hs0.kf, hs0.ko, ⟨by rw [← HMX.out]; exact H1.out.1.set _, hs.tx H1.out.2.1⟩⟩
    case don2 =>
      rintro W3 hI3
      have hd3 := hI3.gr.box HBX.out.1 (by omega)
      have hn3 : NumsAt W3 (w.heap.size + 1) n (farN q n pre.length) := hI3.gr.row HBX.out.2 (by omega)
      have c3 := hd3.cell
      have c4 := hn3.cell hx
      have c5 := hn3.free x
      have hx' : (x : Int) < (n : Int) := by omega
      have hle := mostF_le q n pre.length (nextF10 q n x)
      have hplen : pre.length ≤ n := by have := HXS.out; omega
      have HFS := Lib.hid (fun j => far_step (q := q) HXS.out j)
      generalize hu : mostF q n pre.length (nextF10 q n x) = u at hle HFS
      have hbx : Boxed W3 W2.heap.size 3 (.int .i64 (u : Int)) := by rw [← hu]; exact hI3.bx
      have c6 := hbx.cell
      have hwu : IntKind.i64.wrap ((u : Int) + 1) = ((u + 1 : Nat) : Int) := by rw [IntWalk.i64_in _ (by omega)]; omega
      have HN3 := Lib.hid (And.intro hn3 hI3.gr)
      clear hI3 hd3 hn3 hbx hu hle
      gi_wp2
      have hst : Stp (waysK (w.heap.size + 4) (fun j => j = w.heap.size + 1)) (fun j => j = w.heap.size + 1) V W2 W3 := by
        have hg : W2.grownBy W3 none := ⟨HN3.out.2.os.trans HBW.out.os, HN3.out.2.tape.trans HBW.out.tape, HN3.out.2.output.trans HBW.out.output, Nat.le_trans HBW.out.size HN3.out.2.size, fun j hj _ => (HN3.out.2.block j (Nat.lt_of_lt_of_le hj HBW.out.size) (by omega)).trans (HBW.out.block j hj)⟩
        exact Stp.below ⟨hg.os, hg.tape, hg.output, hg.size, fun j hj => hg.block j hj (by simp)⟩
      have hs : Stp (waysK (w.heap.size + 4) (fun j => j = w.heap.size + 1)) (fun j => j = w.heap.size + 1) V W3 (W3.setCell ⟨w.heap.size + 1, x, none⟩ (.int .i64 ((u + 1 : Nat) : Int))) := Stp.set (b := w.heap.size + 1) (X := fun j => j = w.heap.size + 1) rfl (fun o (hk : waysK (w.heap.size + 4) (fun j => j = w.heap.size + 1) (w.heap.size + 1) o) => by
        rcases hk with hk | hk
        · exact hk.2.1 rfl
        · have := hk.1; omega) _ _
      have hs0 := hst.trans hs
      refine ⟨hs0.kf, hs0.ko, ⟨?_, hs0.tx HI2.out.gr⟩⟩
      rw [List.length_append]
      exact (HN3.out.1.set x (u + 1)).congr fun j _ => HFS.out j
  case don =>
    rintro W2 hI hd
    have hd2 := hI.gr.box HI.out.2.1 (by omega)
    have c3 := hd2.cell
    have hr : NumsAt W2 (w.heap.size + 1) n (farN q n n) := by have := hI.row; rwa [backL_len] at this
    have c4 : W2.cell? ⟨w.heap.size + 1, 0, none⟩ = some (.int .i64 ((farF q n : Nat) : Int)) := hr.cell h0
    have hlt0 : (0 : Int) < (n : Int) := by omega
    have HI2 := Lib.hid hI
    have HD := Lib.hid hd
    clear hI hd hd2 hr
    gi_wp2
    refine ⟨by simp, .inl ⟨_, _, rfl, run_takeDeferred HD.out, ?_⟩⟩
    refine ⟨_, results_tmp rfl _ _ _, rfl, ?_⟩
    exact (HI2.out.gr.below HI.out.2.2.2.1 (fun k e => by omega) (by omega)).trans ((belowK_b (w := V) (n₀ := w.heap.size) (by omega) W2 _ _ _ (Nat.le_refl _) HD.out rfl rfl))
end
end Go.Proofs.Ytaphbcjehcnggaa
namespace Go.Proofs.Ytaphbcjehcnggaa
open Go
set_option linter.unusedSimpArgs false
set_option linter.unusedVariables false

section
variable {q : Nat → Ins} {n : Nat}
/-- Each block but the first is led to. -/
theorem has_lead {b : Nat} (h0 : 0 < b) (hb : b < (blkF q n).length) : ∃ x, x < b ∧ b ∈ leadF q n x := by
  have B := blk_all (q := q) (n := n)
  have hE : fromB q n b < toB q n b := (B.each b hb).1
  have hn2 : toB q n b ≤ n := (B.each b hb).2
  have hk := B.back b (fromB q n b) hb (Nat.le_refl _) hE
  rcases reach_pred hk.1 with h | ⟨i, hi, hri, hpi⟩
  · exfalso
    have h4 : toB q n 0 ≤ fromB q n b := blk_rise hb h0
    have h5 : fromB q n 0 < toB q n 0 := (B.each 0 (by omega)).1
    omega
  · have hc := B.come i hi hri
    have hw := way_on hri hpi
    rw [hk.2] at hw
    rcases hw with ⟨h1, h2, h3⟩ | ⟨h1, h2, h3, h4, h5⟩
    · exfalso
      have h6 : fromB q n (numF q n i) ≤ i := hc.2.1
      rw [← h3] at h6
      omega
    · exact ⟨_, h4, h3⟩
theorem can_self {c x : Nat} (hx : x ≤ (blkF q n).length) : canN q n c x x = canF q n c x := by
  have := can_fix (q := q) (n := n) (c := c) (Nat.le_refl x) ((blkF q n).length - x) (by omega)
  rw [show x + ((blkF q n).length - x) = (blkF q n).length by omega] at this
  exact this.symm
/-- Who can be come to without one. -/
theorem can_is {c b : Nat} : ∀ m, m ≤ (blkF q n).length → canN q n c m b = true → (b = 0 ∧ c ≠ 0) ∨ ∃ x, x < m ∧ x ≠ c ∧ canF q n c x = true ∧ b ∈ leadF q n x
  | 0, _, h => .inl (by simpa [canN] using h)
  | m + 1, hm, h => by
    rw [canN, Bool.or_eq_true, Bool.and_eq_true, Bool.and_eq_true] at h
    rcases h with h | ⟨⟨h1, h2⟩, h3⟩
    · rcases can_is m (by omega) h with g | ⟨x, g1, g2⟩
      · exact .inl g
      · exact .inr ⟨x, by omega, g2⟩
    · exact .inr ⟨m, by omega, of_decide_eq_true h2, by rw [← can_self (by omega)]; exact h1, List.contains_iff_mem.1 h3⟩
theorem can_pred {c b : Nat} (hb : 0 < b) (h : canF q n c b = true) : ∃ x, x < (blkF q n).length ∧ x ≠ c ∧ canF q n c x = true ∧ b ∈ leadF q n x := by
  rcases can_is _ (Nat.le_refl _) h with g | g
  · omega
  · exact g
/-- One is another one's own, or above it. -/
def inD (q : Nat → Ins) (n : Nat) (c b : Nat) : Prop := c = b ∨ canF q n c b = false
theorem not_can {c b : Nat} (h : canF q n c b = false) (hcb : c ≠ b) : ∀ x, x < (blkF q n).length → b ∈ leadF q n x → inD q n c x := fun x hx hl => by
  by_cases e : c = x
  · exact .inl e
  · refine .inr ?_
    rw [Bool.eq_false_iff]
    intro g
    rw [can_on hx g (fun e' => e e'.symm) hl] at h; cases h
/-- Whoever is above a block stands ahead of it. -/
theorem above_lt {c : Nat} : ∀ (b : Nat), b < (blkF q n).length → c ≠ b → canF q n c b = false → c < b := fun b => by
  induction b using Nat.strongRecOn with
  | _ b ih =>
    intro hb hcb h
    rcases Nat.eq_zero_or_pos b with e | e
    · subst e
      rw [can_zero hcb] at h; cases h
    · obtain ⟨x, hx, hl⟩ := has_lead e hb
      rcases not_can h hcb x (by omega) hl with g | g
      · omega
      · by_cases ec : c = x
        · omega
        · have := ih x hx (by omega) ec g
          omega
theorem inD_le {c b : Nat} (hb : b < (blkF q n).length) (h : inD q n c b) : c ≤ b := by
  by_cases e : c = b
  · omega
  · rcases h with h | h
    · omega
    · have := above_lt b hb e h; omega
theorem inD_lead {c b x : Nat} (hx : x < (blkF q n).length) (hl : b ∈ leadF q n x) (h : inD q n c b) (hcb : c ≠ b) : inD q n c x := by
  rcases h with h | h
  · exact absurd h hcb
  · exact not_can h hcb x hx hl
/-- Whatever lies above all that lead to a block lies above it. -/
theorem inD_all {c b : Nat} (h0 : 0 < b) (hb : b < (blkF q n).length) (h : ∀ x, x < (blkF q n).length → b ∈ leadF q n x → inD q n c x) : inD q n c b := by
  by_cases e : c = b
  · exact .inl e
  · refine .inr ?_
    rw [Bool.eq_false_iff]
    intro g
    obtain ⟨x, x1, x2, x3, x4⟩ := can_pred h0 g
    rcases h x x1 x4 with g2 | g2
    · exact x2 g2.symm
    · rw [x3] at g2; cases g2
theorem inD_zero {b : Nat} (hb : b < (blkF q n).length) : inD q n 0 b := by
  induction b using Nat.strongRecOn with
  | _ b ih =>
    rcases Nat.eq_zero_or_pos b with e | e
    · exact .inl e.symm
    · exact inD_all e hb fun x hx hl => ih x (lead_in hx hl).1 hx
theorem inD_trans {c d : Nat} : ∀ (b : Nat), b < (blkF q n).length → inD q n c d → inD q n d b → inD q n c b := fun b => by
  induction b using Nat.strongRecOn with
  | _ b ih =>
    intro hb h1 h2
    by_cases e : d = b
    · subst e; exact h1
    · have hdb : d < b := by have := inD_le hb h2; omega
      refine inD_all (by omega) hb fun x hx hl => ?_
      exact ih x (lead_in hx hl).1 hx h1 (inD_lead hx hl h2 e)
/-- Of two that lie above a block one lies above the other. -/
theorem inD_total {c d : Nat} (hcd : c < d) : ∀ (b : Nat), b < (blkF q n).length → inD q n c b → inD q n d b → inD q n c d := fun b => by
  induction b using Nat.strongRecOn with
  | _ b ih =>
    intro hb h1 h2
    by_cases e : d = b
    · subst e; exact h1
    · have hdb : d < b := by have := inD_le hb h2; omega
      obtain ⟨x, hx, hl⟩ := has_lead (by omega : 0 < b) hb
      exact ih x hx (by omega) (inD_lead (by omega) hl h1 (by omega)) (inD_lead (by omega) hl h2 e)
theorem aboveN_is {b m : Nat} : ∀ k, m < k → b ≠ m ∧ canF q n m b = false → (∀ c, m < c → c < k → ¬ (b ≠ c ∧ canF q n c b = false)) → aboveN q n b k = (m : Int)
  | k + 1, hk, h1, h2 => by
    rw [aboveN]
    by_cases e : m = k
    · subst e; rw [if_pos h1]
    · rw [if_neg (h2 k (by omega) (by omega))]
      exact aboveN_is k (by omega) h1 fun c h3 h4 => h2 c h3 (by omega)
theorem aboveN_no {b : Nat} : ∀ k, (∀ c, c < k → ¬ (b ≠ c ∧ canF q n c b = false)) → aboveN q n b k = -1
  | 0, _ => rfl
  | k + 1, h => by
    rw [aboveN, if_neg (h k (by omega))]
    exact aboveN_no k fun c hc => h c (by omega)
theorem above_zero : aboveF q n 0 = -1 := aboveN_no _ fun c _ h => by
  rw [can_zero (fun e => h.1 e.symm)] at h; exact absurd h.2 (by decide)
/-- If all that lies above a block is above one, that one is the last above. -/
theorem above_at {b m : Nat} (hb : b < (blkF q n).length) (hm : m < b) (h : ∀ c, inD q n c b ↔ c = b ∨ inD q n c m) : aboveF q n b = (m : Int) := by
  have hmb : canF q n m b = false := by
    rcases (h m).2 (.inr (.inl rfl)) with g | g
    · omega
    · exact g
  refine aboveN_is _ (by omega) ⟨by omega, hmb⟩ fun c h1 h2 hc => ?_
  rcases (h c).1 (.inr hc.2) with g | g
  · exact hc.1 g.symm
  · have := inD_le (by omega) g; omega
/-- The last above. -/
theorem above_last {b : Nat} (h0 : 0 < b) (hb : b < (blkF q n).length) : ∃ m : Nat, aboveF q n b = (m : Int) ∧ m < b ∧ ∀ c, inD q n c b ↔ c = b ∨ inD q n c m := by
  have hex : ∃ m, m < b ∧ inD q n m b ∧ ∀ c, c < b → inD q n c b → c ≤ m := by
    have : ∀ k, k ≤ b → 0 < k → ∃ m, m < k ∧ inD q n m b ∧ ∀ c, c < k → inD q n c b → c ≤ m := fun k => by
      induction k with
      | zero => intro _ h; omega
      | succ k ih =>
        intro hk _
        rcases Classical.em (inD q n k b) with e | e
        · exact ⟨k, by omega, e, fun c hc _ => by omega⟩
        · rcases Nat.eq_zero_or_pos k with z | z
          · subst z; exact absurd (inD_zero hb) e
          · obtain ⟨m, m1, m2, m3⟩ := ih (by omega) z
            refine ⟨m, by omega, m2, fun c hc hd => ?_⟩
            by_cases ec : c = k
            · subst ec; exact absurd hd e
            · exact m3 c (by omega) hd
    exact this b (Nat.le_refl _) h0
  obtain ⟨m, m1, m2, m3⟩ := hex
  have hch : ∀ c, inD q n c b ↔ c = b ∨ inD q n c m := fun c => ⟨fun h => by
    by_cases e : c = b
    · exact .inl e
    · have hlt : c < b := by have := inD_le hb h; omega
      by_cases e2 : c = m
      · exact .inr (.inl e2)
      · exact .inr (inD_total (by have := m3 c hlt h; omega) b hb h m2), fun h => by
    rcases h with h | h
    · exact .inl h
    · exact inD_trans b hb h m2⟩
  exact ⟨m, above_at hb m1 hch, m1, hch⟩
/-- What is known of a block's last above, when block i's first kk ways have been gone. -/
def PdS (q : Nat → Ins) (n i kk j x : Nat) : Prop := (x < i ∧ j ∈ leadF q n x) ∨ (x = i ∧ j ∈ (leadF q n i).take kk)
structure UpA (q : Nat → Ins) (n i kk j : Nat) (u : Int) : Prop where
  done : j ≤ i → u = aboveF q n j
  no : i < j → (∀ x, ¬ PdS q n i kk j x) → u = -1
  some : i < j → (∃ x, PdS q n i kk j x) → ∃ m : Nat, u = (m : Int) ∧ m ≤ i ∧ ∀ c, inD q n c m ↔ ∀ x, PdS q n i kk j x → inD q n c x
theorem up_start {j : Nat} : UpA q n 0 0 j (-1) := by
  refine ⟨fun h => ?_, fun _ _ => rfl, fun _ h => ?_⟩
  · obtain rfl : j = 0 := by omega
    exact above_zero.symm
  · obtain ⟨x, h⟩ := h
    rcases h with h | h
    · omega
    · exact absurd h.2 (by simp)
/-- The next block's turn. -/
theorem up_next {i j : Nat} {u : Int} (hj : j < (blkF q n).length) (hi : i < (blkF q n).length) (h : UpA q n i (leadF q n i).length j u) : UpA q n (i + 1) 0 j u := by
  have hp : ∀ x, PdS q n i (leadF q n i).length j x ↔ PdS q n (i + 1) 0 j x := fun x => by
    unfold PdS
    rw [List.take_length, List.take_zero]
    constructor
    · rintro (⟨h1, h2⟩ | ⟨rfl, h2⟩)
      · exact .inl ⟨by omega, h2⟩
      · exact .inl ⟨by omega, h2⟩
    · rintro (⟨h1, h2⟩ | ⟨_, h2⟩)
      · by_cases e : x = i
        · subst e; exact .inr ⟨rfl, h2⟩
        · exact .inl ⟨by omega, h2⟩
      · exact absurd h2 (by simp)
  refine ⟨fun h1 => ?_, fun h1 h2 => h.no (by omega) fun x hx => h2 x ((hp x).1 hx), fun h1 h2 => ?_⟩
  · rcases Nat.lt_or_ge i j with g | g
    · obtain rfl : j = i + 1 := by omega
      obtain ⟨x0, hx0, hl0⟩ := has_lead (by omega : 0 < i + 1) hj
      obtain ⟨m, m1, m2, m3⟩ := h.some g ⟨x0, (hp x0).2 (.inl ⟨hx0, hl0⟩)⟩
      rw [m1]
      refine (above_at hj (by omega) fun c => ?_).symm
      constructor
      · intro hc
        by_cases e : c = i + 1
        · exact .inl e
        · refine .inr ((m3 c).2 fun x hx => ?_)
          rcases (hp x).1 hx with ⟨g1, g2⟩ | ⟨_, g2⟩
          · exact inD_lead (by omega) g2 hc e
          · exact absurd g2 (by simp)
      · rintro (hc | hc)
        · exact .inl hc
        · exact inD_all (by omega) hj fun x hx hl => (m3 c).1 hc x ((hp x).2 (.inl ⟨(lead_in hx hl).1, hl⟩))
    · exact h.done g
  · obtain ⟨x, hx⟩ := h2
    obtain ⟨m, m1, m2, m3⟩ := h.some (by omega) ⟨x, (hp x).2 hx⟩
    exact ⟨m, m1, by omega, fun c => (m3 c).trans ⟨fun g y hy => g y ((hp y).2 hy), fun g y hy => g y ((hp y).1 hy)⟩⟩
theorem pds_on {i kk j x y : Nat} (hk : kk < (leadF q n i).length) (hy : (leadF q n i).getD kk 0 = y) : PdS q n i (kk + 1) j x ↔ PdS q n i kk j x ∨ (x = i ∧ j = y) := by
  have e : (leadF q n i).take (kk + 1) = (leadF q n i).take kk ++ [y] := by
    rw [← hy, List.take_add_one, List.getD_eq_getElem?_getD, List.getElem?_eq_getElem hk]; rfl
  unfold PdS
  rw [e, List.mem_append, List.mem_singleton]
  constructor
  · rintro (h | ⟨rfl, h | h⟩)
    · exact .inl (.inl h)
    · exact .inl (.inr ⟨rfl, h⟩)
    · exact .inr ⟨rfl, h⟩
  · rintro ((h | ⟨rfl, h⟩) | ⟨rfl, h⟩)
    · exact .inl h
    · exact .inr ⟨rfl, .inl h⟩
    · exact .inr ⟨rfl, .inr h⟩
/-- Another block than the one that is led to. -/
theorem up_other {i kk j y : Nat} {u : Int} (hk : kk < (leadF q n i).length) (hy : (leadF q n i).getD kk 0 = y) (hj : j ≠ y) (h : UpA q n i kk j u) : UpA q n i (kk + 1) j u := by
  have hp : ∀ x, PdS q n i (kk + 1) j x ↔ PdS q n i kk j x := fun x => (pds_on hk hy).trans ⟨fun h => h.elim id fun h => absurd h.2 hj, .inl⟩
  refine ⟨h.done, fun h1 h2 => h.no h1 fun x hx => h2 x ((hp x).2 hx), fun h1 h2 => ?_⟩
  obtain ⟨x, hx⟩ := h2
  obtain ⟨m, m1, m2, m3⟩ := h.some h1 ⟨x, (hp x).1 hx⟩
  exact ⟨m, m1, m2, fun c => (m3 c).trans ⟨fun g y hy => g y ((hp y).1 hy), fun g y hy => g y ((hp y).2 hy)⟩⟩
/-- The first that leads to it. -/
theorem up_first {i kk y : Nat} (hi : i < y) (hk : kk < (leadF q n i).length) (hy : (leadF q n i).getD kk 0 = y) (hno : ∀ x, ¬ PdS q n i kk y x) : UpA q n i (kk + 1) y (i : Int) :=
  ⟨fun h => by omega, fun _ h2 => absurd ((pds_on hk hy).2 (.inr ⟨rfl, rfl⟩)) (h2 i), fun _ _ => ⟨i, rfl, Nat.le_refl _, fun c => ⟨fun g x hx => by
    rcases (pds_on hk hy).1 hx with hx | ⟨rfl, _⟩
    · exact absurd hx (hno x)
    · exact g, fun g => g i ((pds_on hk hy).2 (.inr ⟨rfl, rfl⟩))⟩⟩⟩
/-- One more. -/
theorem up_more {i kk y m : Nat} (hi : i < y) (hk : kk < (leadF q n i).length) (hy : (leadF q n i).getD kk 0 = y) {a : Nat} (ha : ∀ c, inD q n c a ↔ ∀ x, PdS q n i kk y x → inD q n c x) (hm : m ≤ i) (hmm : ∀ c, inD q n c m ↔ inD q n c a ∧ inD q n c i) : UpA q n i (kk + 1) y (m : Int) :=
  ⟨fun h => by omega, fun _ h2 => absurd ((pds_on hk hy).2 (.inr ⟨rfl, rfl⟩)) (h2 i), fun _ _ => ⟨m, rfl, hm, fun c => (hmm c).trans ⟨fun g x hx => by
    rcases (pds_on hk hy).1 hx with hx | ⟨rfl, _⟩
    · exact (ha c).1 g.1 x hx
    · exact g.2, fun g => ⟨(ha c).2 fun x hx => g x ((pds_on hk hy).2 (.inl hx)), g i ((pds_on hk hy).2 (.inr ⟨rfl, rfl⟩))⟩⟩⟩⟩
/-- A step of the search for what two have in common. -/
theorem meet_on {b c m : Nat} (hb : b < (blkF q n).length) (hc : c < (blkF q n).length) (hcb : c < b) (hm : ∀ x, inD q n x b ↔ x = b ∨ inD q n x m) (x : Nat) : inD q n x b ∧ inD q n x c ↔ inD q n x m ∧ inD q n x c := by
  constructor
  · rintro ⟨h1, h2⟩
    rcases (hm x).1 h1 with g | g
    · have := inD_le hc h2; omega
    · exact ⟨g, h2⟩
  · rintro ⟨h1, h2⟩
    exact ⟨(hm x).2 (.inr h1), h2⟩
end
end Go.Proofs.Ytaphbcjehcnggaa
namespace Go.Proofs.Ytaphbcjehcnggaa
open Go Go.RowKit
set_option linter.unusedSimpArgs false
set_option linter.unusedVariables false
set_option linter.unusedSectionVars false

set_option maxHeartbeats 1000000 in
theorem p_meet {w : World} {R L i : Nat} {f : Nat → Int} {q : Nat → Ins} {n : Nat} (hL : L = (blkF q n).length) (hr : ZsAt w R L f) (hf : ∀ j, j ≤ i → f j = aboveF q n j) (hi : i < L) (b0 c0 : Nat) (hb0 : b0 ≤ i) (hc0 : c0 ≤ i) :
    Calls Try.prog 45 #[.slice (some ⟨R, 0, none⟩) L L, .int .i64 (b0 : Int), .int .i64 (c0 : Int)] w fun e w' => ∃ m : Nat, e = .returned (.int .i64 (m : Int)) ∧ m ≤ i ∧ (∀ x, inD q n x m ↔ inD q n x b0 ∧ inD q n x c0) ∧ w' = w := by
  have HR := Lib.hid hr
  have HF := Lib.hid (And.intro hf hL)
  clear hr hf hL
  go_enter Try.func45, Try.ntmps45
  go_wp2
  go_loopw [1, 2] (fun b c wr => ∃ bN cN : Nat, b = .int .i64 (bN : Int) ∧ c = .int .i64 (cN : Int) ∧ bN ≤ i ∧ cN ≤ i ∧ wr = w ∧ ∀ x, (inD q n x bN ∧ inD q n x cN) ↔ (inD q n x b0 ∧ inD q n x c0)) (fun b c _ => (intOf b).toNat + (intOf c).toNat)
  case atStart => exact ⟨b0, c0, rfl, rfl, hb0, hc0, rfl, fun x => Iff.rfl⟩
  case round =>
    obtain ⟨bN, cN, rfl, rfl, hb, hc, rfl, hx⟩ := hrel
    have HX := Lib.hid hx
    clear hx
    rcases Nat.lt_trichotomy bN cN with g | g | g
    · have h1 : ((bN : Int) != (cN : Int)) = true := bne_iff_ne.2 (by omega)
      have h2 : ¬ (cN : Int) < (bN : Int) := by omega
      have h3 : (cN : Int) < (L : Int) := by omega
      obtain ⟨m, m1, m2, m3⟩ := above_last (q := q) (n := n) (b := cN) (by omega) (by rw [← HF.out.2]; omega)
      have c1 := HR.out.cell (i := cN) (by omega)
      rw [HF.out.1 cN hc, m1] at c1
      have HM := Lib.hid (And.intro m2 (fun x => meet_on (b := cN) (c := bN) (m := m) (q := q) (n := n) (by rw [← HF.out.2]; omega) (by rw [← HF.out.2]; omega) g m3 x))
      clear m1 m2 m3
      go_wp2
      exact ⟨⟨bN, m, rfl, rfl, hb, by have := HM.out.1; omega, trivial, fun x => ⟨fun h => (HX.out x).1 ⟨h.1, ((HM.out.2 x).2 ⟨h.2, h.1⟩).1⟩, fun h => by have h4 := (HX.out x).2 h; exact ⟨h4.1, ((HM.out.2 x).1 ⟨h4.2, h4.1⟩).1⟩⟩⟩, by have := HM.out.1; simp [intOf]; omega⟩
    · subst g
      have h1 : ((bN : Int) != (bN : Int)) = false := bne_self_eq_false _
      go_wp2
      go_ret
      exact ⟨bN, rfl, hb, fun x => ⟨fun h => (HX.out x).1 ⟨h, h⟩, fun h => ((HX.out x).2 h).1⟩, rfl⟩
    · have h1 : ((bN : Int) != (cN : Int)) = true := bne_iff_ne.2 (by omega)
      have h2 : (cN : Int) < (bN : Int) := by omega
      have h3 : (bN : Int) < (L : Int) := by omega
      obtain ⟨m, m1, m2, m3⟩ := above_last (q := q) (n := n) (b := bN) (by omega) (by rw [← HF.out.2]; omega)
      have c1 := HR.out.cell (i := bN) (by omega)
      rw [HF.out.1 bN hb, m1] at c1
      have HM := Lib.hid (And.intro m2 (fun x => meet_on (b := bN) (c := cN) (m := m) (q := q) (n := n) (by rw [← HF.out.2]; omega) (by rw [← HF.out.2]; omega) g m3 x))
      clear m1 m2 m3
      go_wp2
      exact ⟨⟨m, cN, rfl, rfl, by have := HM.out.1; omega, hc, trivial, fun x => (HM.out.2 x).symm.trans (HX.out x)⟩, by have := HM.out.1; simp [intOf]; omega⟩
/-- While what lies above is found. -/
structure AbAt (w W : World) (A : Option Addr) (q : Nat → Ins) (n R L i kk : Nat) (f : Nat → Int) : Prop where
  row : ZsAt W R L f
  up : ∀ j, j < L → UpA q n i kk j (f j)
  bel : Below w.heap.size w W
  le : w.heap.size ≤ R
theorem AbAt.q {w W : World} {A : Option Addr} {q : Nat → Ins} {n R L i kk : Nat} {f : Nat → Int} (h : AbAt w W A q n R L i kk f) (hb : BlksAt w A (blkF q n) (leadF q n)) : BlksAt W A (blkF q n) (leadF q n) := hb.below h.bel
theorem AbAt.below {w W W' : World} {A : Option Addr} {q : Nat → Ins} {n R L i kk : Nat} {f : Nat → Int} (h : AbAt w W A q n R L i kk f) (hb : Below W.heap.size W W') : AbAt w W' A q n R L i kk f := ⟨h.row.below hb, h.up, h.bel.trans (hb.mono h.bel.size), h.le⟩
theorem AbAt.set {w W : World} {A : Option Addr} {q : Nat → Ins} {n R L i kk y : Nat} {f : Nat → Int} (h : AbAt w W A q n R L i kk f) (hk : kk < (leadF q n i).length) (hy : (leadF q n i).getD kk 0 = y) {u : Int} (hu : UpA q n i (kk + 1) y u) : AbAt w (W.setCell ⟨R, y, none⟩ (.int .i64 u)) A q n R L i (kk + 1) (fun j => if j = y then u else f j) :=
  ⟨h.row.set y u, fun j hj => by
    by_cases e : j = y
    · rw [if_pos e, e]; exact hu
    · rw [if_neg e]; exact up_other hk hy e (h.up j hj), h.bel.setCell (p := ⟨R, y, none⟩) h.le _, h.le⟩
section
variable {w : World} {A : Option Addr} {n : Nat} (cap : Nat) {q : Nat → Ins} {L : Nat} (hL : L = (blkF q n).length) (h : BlksAt w A (blkF q n) (leadF q n)) (h0 : 0 < L) (hn : L ≤ 4096)
include hL h h0 hn
set_option maxHeartbeats 4000000 in
set_option maxRecDepth 100000 in
theorem p_above : Calls Try.prog 32 #[.slice A L cap] w fun e w' => ∃ R, e = .returned (.slice (some ⟨R, 0, none⟩) L L) ∧ ZsAt w' R L (aboveF q n) ∧ Below w.heap.size w w' := by
  obtain ⟨O, hmk, hO⟩ := make_zero 23 3 (.int .i64 0) 8 Try.underlying23 info_int10 rfl L (by omega) (by omega)
  have HB := Lib.hid (And.intro h hL)
  have HO : Hid (ZsAt (w.alloc O) w.heap.size L (fun _ => 0) ∧ Below w.heap.size w (w.alloc O)) := Lib.hid ⟨hO w, lbox10 _ _⟩
  clear h hL hO
  go_enter Try.func32, Try.ntmps32
  go_wp2
  go_loopw [14] (fun i wr => ∃ k : Nat, k ≤ L ∧ i = .int .i64 (k : Int) ∧ ZsAt wr w.heap.size L (fun j => if j < k then -1 else 0) ∧ Below w.heap.size w wr) (fun i _ => L - (intOf i).toNat)
  case atStart => exact ⟨0, Nat.zero_le _, rfl, HO.out.1.congr fun j _ => by simp, HO.out.2⟩
  case round =>
    obtain ⟨k, hk, rfl, hz, hb⟩ := hrel
    have HZ := Lib.hid (And.intro hz hb)
    clear HO
    by_cases hlt : k < L
    · have hlt' : (k : Int) < (L : Int) := by omega
      have hw1 : IntKind.i64.wrap ((k : Int) + 1) = ((k + 1 : Nat) : Int) := by rw [IntWalk.i64_in _ (by omega)]; omega
      have c1 := hz.cell hlt
      have c2 := hz.free k
      clear hz hb
      go_wp2
      refine ⟨⟨k + 1, by omega, by go_num, (HZ.out.1.set k (-1)).congr fun j _ => ?_, HZ.out.2.setCell (p := ⟨w.heap.size, k, none⟩) (Nat.le_refl _) _⟩, by simp [intOf]; omega⟩
      by_cases e : j = k
      · rw [if_pos e, if_pos (by omega)]
      · rw [if_neg e]
        by_cases g : j < k
        · rw [if_pos g, if_pos (by omega)]
        · rw [if_neg g, if_neg (by omega)]
    · obtain rfl : k = L := by omega
      clear hz hb
      go_wp2
      have HA : Hid (∃ f, AbAt w wr A q n w.heap.size k 0 0 f) := Lib.hid ⟨fun _ => -1, HZ.out.1.congr fun j hj => by rw [if_pos hj], fun j _ => up_start, HZ.out.2, Nat.le_refl _⟩
      clear HZ hmk
      go_loopw [23] (fun i V => ∃ (i' : Nat) (f : Nat → Int), i' ≤ k ∧ i = .int .i64 (i' : Int) ∧ (i' < k → AbAt w V A q n w.heap.size k i' 0 f) ∧ (i' = k → ZsAt V w.heap.size k (aboveF q n) ∧ Below w.heap.size w V)) (fun i _ => k - (intOf i).toNat)
      case atStart =>
        obtain ⟨f, hf⟩ := HA.out
        exact ⟨0, f, Nat.zero_le _, rfl, fun _ => hf, fun e => by omega⟩
      case round =>
        obtain ⟨i, f, hi, rfl, ha, hz⟩ := hrel
        clear HA
        by_cases hil : i < k
        · have HA := Lib.hid (ha hil)
          have hil' : (i : Int) < (k : Int) := by omega
          have hw1 : IntKind.i64.wrap ((i : Int) + 1) = ((i + 1 : Nat) : Int) := by rw [IntWalk.i64_in _ (by omega)]; omega
          obtain ⟨g, o, rfl, hgl, hgc⟩ := HB.out.1
          obtain ⟨x0, x1, An, cn, x2, hints⟩ := hgc i (by rw [← HB.out.2]; exact hil)
          have HI := Lib.hid hints
          obtain ⟨ls, hls⟩ : ∃ ls, ls = leadF q n i := ⟨_, rfl⟩
          rw [← hls] at x2 HI
          have HLS := Lib.hid hls
          generalize ((blkF q n).getD i (0, 0)).1 = F at x0
          generalize ((blkF q n).getD i (0, 0)).2 = T at x1
          replace x0 := (HA.out.bel.cell (p := ⟨g, o + i * 3, none⟩) hgl).trans x0
          replace x1 := (HA.out.bel.cell (p := ⟨g, o + i * 3 + 1, none⟩) hgl).trans x1
          replace x2 := (HA.out.bel.cell (p := ⟨g, o + i * 3 + 2, none⟩) hgl).trans x2
          have HAZ := Lib.hid (HA.out.below (lbox10 wr (.cells #[.int .i64 (F : Int), .int .i64 (T : Int), .slice An ls.length cn] 46)))
          have hlsn : ls.length ≤ 2 := by rw [hls]; exact lead_len
          clear ha hz hgc hints hls
          go_wp2
          generalize wr.alloc (.cells #[.int .i64 (F : Int), .int .i64 (T : Int), .slice An ls.length cn] 46) = Y0 at HAZ ⊢
          clear x0 x1 x2 HA
          go_loopw [31] (fun x Y => ∃ (kk : Nat) (f' : Nat → Int), kk ≤ ls.length ∧ x = .int .i64 (kk : Int) ∧ AbAt w Y (some ⟨g, o, none⟩) q n w.heap.size k i kk f') (fun x _ => ls.length - (intOf x).toNat)
          case atStart => exact ⟨0, f, Nat.zero_le _, rfl, HAZ.out⟩
          case round =>
            obtain ⟨kk, f', hkk, rfl, ha⟩ := hrel
            have HA := Lib.hid ha
            clear HAZ
            by_cases hl : kk < ls.length
            · have hl' : (kk : Int) < (ls.length : Int) := by omega
              have hw2 : IntKind.i64.wrap ((kk : Int) + 1) = ((kk + 1 : Nat) : Int) := by rw [IntWalk.i64_in _ (by omega)]; omega
              obtain ⟨ib, io, rfl, hib, y0⟩ := ints_cell HI.out hl
              have hkl : kk < (leadF q n i).length := by rw [← HLS.out]; exact hl
              obtain ⟨y, hy⟩ : ∃ y, y = ls.getD kk 0 := ⟨_, rfl⟩
              rw [← hy] at y0
              have hy2 : (leadF q n i).getD kk 0 = y := by rw [← HLS.out, hy]
              have hmem : y ∈ leadF q n i := by
                rw [← hy2, List.getD_eq_getElem?_getD, List.getElem?_eq_getElem hkl]; exact List.getElem_mem hkl
              have hyl := lead_in (q := q) (n := n) (by rw [← HB.out.2]; exact hil) hmem
              have hyk : y < k := by rw [HB.out.2]; exact hyl.2
              have hyk' : (y : Int) < (k : Int) := by omega
              replace y0 := (ha.bel.cell (p := ⟨ib, io + kk, none⟩) hib).trans y0
              have c1 := ha.row.cell hyk
              have c2 := ha.row.free y
              have HKL := Lib.hid (And.intro hkl (And.intro hy2 hyl.1))
              have hup := ha.up y hyk
              clear ha hy hy2 hmem hkl hib
              rcases Classical.em (∃ x, PdS q n i kk y x) with hp | hp
              · obtain ⟨m, m1, m2, m3⟩ := hup.some hyl.1 hp
                rw [m1] at c1
                have hne : ((m : Int) == -1) = false := beq_false_of_ne (by omega)
                have HMT := Lib.hid (p_meet (w := wr) (i := i) (q := q) (n := n) HB.out.2 HA.out.row (fun j hj => (HA.out.up j (by omega)).done hj) hil m i m2 (Nat.le_refl _))
                have HM3 := Lib.hid m3
                clear hup hyl hp m1 m3
                go_wp2_with (go_at_call 45; (with_reducible refine HMT.out.mono ?_); rintro e w1 ⟨m', rfl, hm1, hm2, hw1e⟩; subst w1; have HM := Lib.hid (And.intro hm1 hm2); clear hm1 hm2)
                exact ⟨⟨kk + 1, _, by omega, by go_num, HA.out.set HKL.out.1 HKL.out.2.1 (up_more HKL.out.2.2 HKL.out.1 HKL.out.2.1 HM3.out HM.out.1 HM.out.2)⟩, by simp [intOf]; omega⟩
              · have hno : ∀ x, ¬ PdS q n i kk y x := fun x hx => hp ⟨x, hx⟩
                rw [hup.no hyl.1 hno] at c1
                have HNO := Lib.hid hno
                clear hup hyl hp hno
                go_wp2
                exact ⟨⟨kk + 1, _, by omega, by go_num, HA.out.set HKL.out.1 HKL.out.2.1 (up_first HKL.out.2.2 HKL.out.1 HKL.out.2.1 HNO.out)⟩, by simp [intOf]; omega⟩
            · have hl' : ¬ (kk : Int) < (ls.length : Int) := by omega
              obtain rfl : kk = ls.length := by omega
              clear ha
              go_wp2
              refine ⟨⟨i + 1, f', by omega, by go_num, fun hlt => ?_, fun he => ?_⟩, by simp [intOf]; omega⟩
              · exact ⟨HA.out.row, fun j hj => up_next (by rw [← HB.out.2]; exact hj) (by rw [← HB.out.2]; exact hil) (by rw [← HLS.out]; exact HA.out.up j hj), HA.out.bel, HA.out.le⟩
              · refine ⟨HA.out.row.congr fun j hj => ?_, HA.out.bel⟩
                exact (up_next (i := i) (by rw [← HB.out.2]; exact hj) (by rw [← HB.out.2]; exact hil) (by rw [← HLS.out]; exact HA.out.up j hj)).done (by omega)
        · obtain rfl : i = k := by omega
          have HZ := Lib.hid (hz rfl)
          clear ha hz
          go_wp2
          go_ret
          exact ⟨_, rfl, HZ.out⟩
end
end Go.Proofs.Ytaphbcjehcnggaa
namespace Go.Proofs.Ytaphbcjehcnggaa
open Go Go.RowKit
set_option linter.unusedSimpArgs false
set_option linter.unusedVariables false
set_option linter.unusedSectionVars false

section
variable {w : World} {A : Option Addr} {n : Nat} (cap : Nat) {q : Nat → Ins} (h : ProgAt w A n q) (hok : ∀ i, i < n → (q i).OK) (hn : n ≤ 17592186044416)
include h hok hn
theorem p_Blocks10 : Calls Try.prog 15 #[.slice A n cap] w fun e w' => ∃ A' m c E, e = .returned (.tuple #[.slice A' m c, .int .i64 E]) ∧ ((checkE q n = 0 ∧ E = 0 ∧ m = (blkF q n).length ∧ BlksAt w' A' (blkF q n) (leadF q n)) ∨ (checkE q n ≠ 0 ∧ E = 1 ∧ m = 0)) ∧ Below w.heap.size w w' := by
  have HA := Lib.hid (p_accepted10 cap h hok)
  by_cases h0 : checkE q n = 0
  · have ha := check_is.1 h0
    have HR := Lib.hid (fun w1 (hb : Below w.heap.size w w1) => p_blocks cap (h.below hb) hok ha.pos ha.max ha)
    have e : decide (checkE q n = 0) = true := decide_eq_true h0
    rw [e] at HA
    have H0 := Lib.hid h0
    clear h hok h0 e ha
    go_enter Try.func15, Try.ntmps15
    go_wp2_with (first
      | (go_at_call 31; (with_reducible refine (HR.out _ H1.out).mono ?_); rintro e w2 ⟨A2, c2, rfl, hr, hb⟩; have H2 := Lib.hid (And.intro hr hb); clear hr hb)
      | (go_at_call 29; (with_reducible refine HA.out.mono ?_); rintro e w1 ⟨rfl, hb⟩; have H1 := Lib.hid hb; clear hb))
    go_ret2
    exact ⟨_, _, _, _, rfl, .inl ⟨H0.out, rfl, rfl, H2.out.1⟩, H1.out.trans (H2.out.2.mono H1.out.size)⟩
  · have e : decide (checkE q n = 0) = false := decide_eq_false h0
    rw [e] at HA
    have H0 := Lib.hid h0
    clear h hok h0 e
    go_enter Try.func15, Try.ntmps15
    go_wp2_with (go_at_call 29; (with_reducible refine HA.out.mono ?_); rintro e w1 ⟨rfl, hb⟩; have H1 := Lib.hid hb; clear hb)
    go_ret2
    exact ⟨_, _, _, _, rfl, .inr ⟨H0.out, rfl, rfl⟩, H1.out⟩
theorem p_Above10 : Calls Try.prog 16 #[.slice A n cap] w fun e w' => ∃ A' m c E, e = .returned (.tuple #[.slice A' m c, .int .i64 E]) ∧ ((checkE q n = 0 ∧ E = 0 ∧ m = (blkF q n).length ∧ Holds w' A' (blkF q n).length fun i => .int .i64 (aboveF q n i)) ∨ (checkE q n ≠ 0 ∧ E = 1 ∧ m = 0)) ∧ Below w.heap.size w w' := by
  have HA := Lib.hid (p_accepted10 cap h hok)
  by_cases h0 : checkE q n = 0
  · have ha := check_is.1 h0
    have HR := Lib.hid (fun w1 (hb : Below w.heap.size w w1) => p_blocks cap (h.below hb) hok ha.pos ha.max ha)
    have HAB := Lib.hid (fun (w1 : World) (A1 : Option Addr) (c1 : Nat) (hb : BlksAt w1 A1 (blkF q n) (leadF q n)) => p_above c1 rfl hb (blk_some ha.pos) (Nat.le_trans (blk_len n) ha.max))
    have e : decide (checkE q n = 0) = true := decide_eq_true h0
    rw [e] at HA
    have H0 := Lib.hid h0
    clear h hok h0 e ha
    go_enter Try.func16, Try.ntmps16
    go_wp2_with (first
      | (go_at_call 32; (with_reducible refine (HAB.out _ _ _ H2.out.1).mono ?_); rintro e w3 ⟨R, rfl, hr, hb⟩; have H3 := Lib.hid (And.intro hr hb); clear hr hb)
      | (go_at_call 31; (with_reducible refine (HR.out _ H1.out).mono ?_); rintro e w2 ⟨A2, c2, rfl, hr, hb⟩; have H2 := Lib.hid (And.intro hr hb); clear hr hb)
      | (go_at_call 29; (with_reducible refine HA.out.mono ?_); rintro e w1 ⟨rfl, hb⟩; have H1 := Lib.hid hb; clear hb))
    go_ret2
    have hb2 := H1.out.trans (H2.out.2.mono H1.out.size)
    exact ⟨_, _, _, _, rfl, .inl ⟨H0.out, rfl, rfl, H3.out.1.holds⟩, hb2.trans (H3.out.2.mono hb2.size)⟩
  · have e : decide (checkE q n = 0) = false := decide_eq_false h0
    rw [e] at HA
    have H0 := Lib.hid h0
    clear h hok h0 e
    go_enter Try.func16, Try.ntmps16
    go_wp2_with (go_at_call 29; (with_reducible refine HA.out.mono ?_); rintro e w1 ⟨rfl, hb⟩; have H1 := Lib.hid hb; clear hb)
    go_ret2
    exact ⟨_, _, _, _, rfl, .inr ⟨H0.out, rfl, rfl⟩, H1.out⟩
theorem p_Longest10 : Calls Try.prog 17 #[.slice A n cap] w fun e w' => ∃ m E : Int, e = .returned (.tuple #[.int .i64 m, .int .i64 E]) ∧ ((checkE q n = 0 ∧ E = 0 ∧ m = ((farF q n : Nat) : Int)) ∨ (checkE q n ≠ 0 ∧ E = 1 ∧ m = 0)) ∧ Below w.heap.size w w' := by
  have HA := Lib.hid (p_accepted10 cap h hok)
  by_cases h0 : checkE q n = 0
  · have ha := check_is.1 h0
    have HR := Lib.hid (fun w1 (hb : Below w.heap.size w w1) => p_longest cap (h.below hb) hok ha.pos ha.max)
    have e : decide (checkE q n = 0) = true := decide_eq_true h0
    rw [e] at HA
    have H0 := Lib.hid h0
    clear h hok h0 e ha
    go_enter Try.func17, Try.ntmps17
    go_wp2_with (first
      | (go_at_call 33; (with_reducible refine (HR.out _ H1.out).mono ?_); rintro e w2 ⟨rfl, hb⟩; have H2 := Lib.hid hb; clear hb)
      | (go_at_call 29; (with_reducible refine HA.out.mono ?_); rintro e w1 ⟨rfl, hb⟩; have H1 := Lib.hid hb; clear hb))
    go_ret2
    exact ⟨_, _, rfl, .inl ⟨H0.out, rfl, rfl⟩, H1.out.trans (H2.out.mono H1.out.size)⟩
  · have e : decide (checkE q n = 0) = false := decide_eq_false h0
    rw [e] at HA
    have H0 := Lib.hid h0
    clear h hok h0 e
    go_enter Try.func17, Try.ntmps17
    go_wp2_with (go_at_call 29; (with_reducible refine HA.out.mono ?_); rintro e w1 ⟨rfl, hb⟩; have H1 := Lib.hid hb; clear hb)
    go_ret2
    exact ⟨_, _, rfl, .inr ⟨H0.out, rfl, rfl⟩, H1.out⟩
end
end Go.Proofs.Ytaphbcjehcnggaa
namespace Go.Proofs.Ytaphbcjehcnggaa
open Go Go.RowKit
set_option linter.unusedSimpArgs false
set_option linter.unusedVariables false

def somQ : Nat → Ins
  | 0 => ⟨32, 0, 0, 0#32⟩
  | 1 => ⟨21, 0, 1, 5#32⟩
  | 2 => ⟨6, 0, 0, 1#32⟩
  | 3 => ⟨6, 0, 0, 2#32⟩
  | _ => ⟨6, 0, 0, 3#32⟩
theorem som_facts : checkE somQ 5 = 0 ∧ farF somQ 5 = 3 ∧ reachF somQ 5 3 = true ∧ reachF somQ 5 4 = false := by
  refine ⟨by kernel_rfl, by kernel_rfl, by kernel_rfl, by kernel_rfl⟩
abbrev somO : Obj := .cells #[.int .u16 32, .int .u8 0, .int .u8 0, .int .u32 0, .int .u16 21, .int .u8 0, .int .u8 1, .int .u32 5, .int .u16 6, .int .u8 0, .int .u8 0, .int .u32 1, .int .u16 6, .int .u8 0, .int .u8 0, .int .u32 2, .int .u16 6, .int .u8 0, .int .u8 0, .int .u32 3] 56
theorem som_ok : ∀ i, i < 5 → (somQ i).OK := fun i hi => by
  have : i = 0 ∨ i = 1 ∨ i = 2 ∨ i = 3 ∨ i = 4 := by omega
  rcases this with rfl | rfl | rfl | rfl | rfl <;> exact ⟨by decide, by decide, by decide, by decide⟩
theorem som_prog (w : World) : ProgAt (w.alloc somO) (some ⟨w.heap.size, 0, none⟩) 5 somQ := fun _ => by
  refine ⟨w.heap.size, 0, rfl, by simp, fun i hi => ?_⟩
  have : i = 0 ∨ i = 1 ∨ i = 2 ∨ i = 3 ∨ i = 4 := by omega
  rcases this with rfl | rfl | rfl | rfl | rfl <;> exact ⟨by simp [somQ], by simp [somQ], by simp [somQ], by simp [somQ]⟩
theorem l_some10 (w : World) : Calls Try.prog 24 #[] w fun e w' => e = .returned (.slice (some ⟨w.heap.size, 0, none⟩) 5 5) ∧ ProgAt w' (some ⟨w.heap.size, 0, none⟩) 5 somQ ∧ Below w.heap.size w w' := by
  have HP := Lib.hid (som_prog w)
  go_enter Try.func24, Try.ntmps24
  go_wp2
  go_ret
  exact ⟨rfl, HP.out, lbox10 w _⟩
theorem head_long (w : World) (b : Nat) (h : ProgAt w (some ⟨b, 0, none⟩) 5 somQ) : Calls Try.prog 17 #[.slice (some ⟨b, 0, none⟩) 5 5] w fun e w' => e = .returned (.tuple #[.int .i64 3, .int .i64 0]) ∧ Below w.heap.size w w' := by
  refine (p_Longest10 5 h som_ok (by decide)).mono ?_
  rintro e w' ⟨m, E, rfl, (⟨_, rfl, rfl⟩ | ⟨h0, _⟩), hb⟩
  · exact ⟨by rw [som_facts.2.1]; rfl, hb⟩
  · exact absurd som_facts.1 h0
theorem head_reach (w : World) (b : Nat) (h : ProgAt w (some ⟨b, 0, none⟩) 5 somQ) : Calls Try.prog 14 #[.slice (some ⟨b, 0, none⟩) 5 5] w fun e w' => ∃ g o c, e = .returned (.tuple #[.slice (some ⟨g, o, none⟩) 5 c, .int .i64 0]) ∧ w'.cell? ⟨g, o + 3, none⟩ = some (.bool true) ∧ w'.cell? ⟨g, o + 4, none⟩ = some (.bool false) ∧ Below w.heap.size w w' := by
  refine (p_Reach10 5 h som_ok (by decide)).mono ?_
  rintro e w' ⟨A', m, c, E, rfl, (⟨_, rfl, rfl, hh⟩ | ⟨h0, _⟩), hb⟩
  · obtain ⟨g, o, rfl, _, hc⟩ := hh (by decide)
    refine ⟨g, o, c, rfl, ?_, ?_, hb⟩
    · exact (hc 3 (by decide)).trans (by show some (Value.bool (reachF somQ 5 3)) = _; rw [som_facts.2.2.1])
    · exact (hc 4 (by decide)).trans (by show some (Value.bool (reachF somQ 5 4)) = _; rw [som_facts.2.2.2])
  · exact absurd som_facts.1 h0
set_option maxHeartbeats 1000000 in
set_option maxRecDepth 100000 in
theorem l_head10 (w : World) : Calls Try.prog 8 #[] w fun e w' => e = .returned (.bool true) ∧ Below w.heap.size w w' := by
  have HS := Lib.hid (fun V => l_some10 V)
  go_enter Try.func8, Try.ntmps8
  go_wp2_with (first
    | (go_at_call 14; (with_reducible refine (head_reach _ _ H3.out.1).mono ?_); rintro e w4 ⟨g4, o4, c4, rfl, x3, x4, hb⟩; have H4 := Lib.hid (H3.out.2.trans (hb.mono H3.out.2.size)); clear hb)
    | (go_at_call 17; (with_reducible refine (head_long _ _ H1.out.1).mono ?_); rintro e w2 ⟨rfl, hb⟩; have H2 := Lib.hid (H1.out.2.trans (hb.mono H1.out.2.size)); clear hb)
    | (go_at_call 24; (with_reducible refine (HS.out w2).mono ?_); rintro e w3 ⟨rfl, hp, hb⟩; have H3 := Lib.hid (And.intro hp (H2.out.trans (hb.mono H2.out.size))); clear hp hb)
    | (go_at_call 24; (with_reducible refine (HS.out w).mono ?_); rintro e w1 ⟨rfl, hp, hb⟩; have H1 := Lib.hid (And.intro hp hb); clear hp hb))
  go_ret
  exact ⟨rfl, H4.out⟩
end Go.Proofs.Ytaphbcjehcnggaa
