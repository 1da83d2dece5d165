/-
  A decision's program answers what the decision answers, within five steps a node, and is accepted: as plain functions. No condition: nothing here speaks of a program of Go's.
-/
import Derived.Test.YtgpjiflgocgolaaLowPure
import Derived.Test.YtgpjiflgocgolaaCheckSpec
import Derived.Test.YtgpjiflgocgolaaCbpfHead
namespace Go.Proofs.Ytgpjiflgocgolaa
open Go
set_option linter.unusedSimpArgs false
set_option linter.unusedVariables false

/-- The decision's words of data. -/
def wordD (nr arch ip : Nat) (args : Nat → Nat) (p : Nat) : Nat :=
  if p = 0 then nr else if p = 1 then arch else if p = 2 then ip % 4294967296 else if p = 3 then ip / 4294967296 % 4294967296
  else if p % 2 = 0 then args (p / 2 - 2) % 4294967296 else args (p / 2 - 2) / 4294967296 % 4294967296
/-! ### Instructions -/
def toIns (x : I4) : Ins := ⟨(x.1 : Int), x.2.1, x.2.2.1, BitVec.ofNat 32 x.2.2.2⟩
def progI (xs : List I4) : Nat → Ins := fun i => toIns (xs.getD i (0, 0, 0, 0))
/-- A node's numbers fit 32 bits. -/
structure NdB (x : Nd) : Prop where
  word : x.word < 4294967296
  mask : x.mask < 4294967296
  k : x.k < 4294967296
/-- Does a node's test hold? -/
def holdsN (word : Nat → BitVec 32) (x : Nd) : Bool :=
  let a := if x.mask = 4294967295 then word x.off.toNat else word x.off.toNat &&& BitVec.ofNat 32 x.mask
  saysN (if x.op = 1 then 16 else if x.op = 2 then 32 else if x.op = 3 then 48 else 64) a (BitVec.ofNat 32 x.k)
def wayN (word : Nat → BitVec 32) (x : Nd) : Int := if holdsN word x = true then x.t else x.f
/-- What a decision says, from a node on: the word, and how many nodes are met. -/
def goN (nd : Nat → Nd) (word : Nat → BitVec 32) : Nat → Nat → Nat × Nat
  | 0, _ => (0, 0)
  | f + 1, i => if (nd i).leaf = true then ((nd i).word, 1) else ((goN nd word f (wayN word (nd i)).toNat).1, (goN nd word f (wayN word (nd i)).toNat).2 + 1)
section
variable {nd : Nat → Nd} {n : Nat}
/-- What all nodes of a decision have. -/
structure DecN (nd : Nat → Nd) (n : Nat) : Prop where
  val : ValN nd n
  off : ∀ i, i < n → (nd i).leaf = false → 0 ≤ (nd i).off ∧ (nd i).off < 64 ∧ (nd i).off % 4 = 0
  op : ∀ i, i < n → (nd i).leaf = false → 1 ≤ (nd i).op ∧ (nd i).op ≤ 4
theorem dec_ok (h : (chkN nd n).1 = 0) : DecN nd n := by
  have hv := chk_ok nd n h
  have hall : ∀ i, i < n → faultN (nd i) i n = 0 := by
    unfold chkN at h
    have := hv.pos; have := hv.le
    rw [if_neg (by omega)] at h
    exact fun i hi => find_ok nd n n 0 h i (Nat.zero_le _) (by omega)
  have key : ∀ i, i < n → (nd i).leaf = false → (0 ≤ (nd i).off ∧ (nd i).off < 64 ∧ (nd i).off % 4 = 0) ∧ (1 ≤ (nd i).op ∧ (nd i).op ≤ 4) := fun i hi hl => by
    have := hall i hi
    unfold faultN at this
    rw [if_neg (by rw [hl]; decide)] at this
    split at this
    · exact absurd this (by decide)
    · rename_i g
      constructor
      · exact Decidable.byContradiction fun q => g (.inl q)
      · exact Decidable.byContradiction fun q => g (.inr q)
  exact ⟨hv, fun i hi hl => (key i hi hl).1, fun i hi hl => (key i hi hl).2⟩
/-- The ways do not change any more. -/
theorem long_fix (hv : ValN nd n) : stepN nd n (longN nd n) = longN nd n := by
  rcases Classical.em (∃ i, i < n ∧ iterN nd n (2 * n + 1) i ≠ iterN nd n (2 * n) i) with h | h
  · exfalso
    have grow : ∀ k, k ≤ 2 * n + 1 → k ≤ cntN (iterN nd n k) n := by
      intro k
      induction k with
      | zero => intro _; exact Nat.zero_le _
      | succ k ih =>
        intro hk
        rcases Classical.em (∃ i, i < n ∧ iterN nd n (k + 1) i ≠ iterN nd n k i) with g | g
        · have := iter_more hv k g; have := ih (by omega); omega
        · exfalso
          have hs : ∀ i, i < n → iterN nd n (k + 1) i = iterN nd n k i := fun i hi => Decidable.byContradiction fun q => g ⟨i, hi, q⟩
          have e1 := ways_stay (iter_same hs) (2 * n - k)
          have e2 := ways_stay (iter_same hs) (2 * n + 1 - k)
          rw [show k + (2 * n - k) = 2 * n by omega] at e1
          rw [show k + (2 * n + 1 - k) = 2 * n + 1 by omega] at e2
          obtain ⟨i, hi, hne⟩ := h
          exact hne (by rw [e1, e2])
    have := grow (2 * n + 1) (Nat.le_refl _)
    have := cnt_le (iterN nd n (2 * n + 1)) n
    omega
  · exact iter_same (fun i hi => Decidable.byContradiction fun q => h ⟨i, hi, q⟩)
/-! ### Where a node's instructions stand -/
theorem emit_at (lg : Ways) : ∀ m i j, i < m → j < sizeN (nd i) (lg i) → (emitN nd lg m)[firstN nd lg i + j]? = (insN nd lg i)[j]?
  | 0, i, j, h, _ => by omega
  | m + 1, i, j, h, hj => by
    rw [emitN]
    have hl := emit_len nd lg m
    have hn := ins_len nd lg i
    rcases Nat.lt_or_ge i m with g | g
    · have hm := first_mono nd lg (show i + 1 ≤ m by omega)
      rw [firstN] at hm
      rw [List.getElem?_append_left (by omega)]
      exact emit_at lg m i j g hj
    · obtain rfl : i = m := by omega
      rw [List.getElem?_append_right (by omega), hl, Nat.add_sub_cancel_left]
theorem prog_at {lg : Ways} {i j : Nat} {x : I4} (hi : i < n) (hx : (insN nd lg i)[j]? = some x) : progI (emitN nd lg n) (firstN nd lg i + j) = toIns x := by
  have hj : j < sizeN (nd i) (lg i) := by
    have := (List.getElem?_eq_some_iff.1 hx).1
    rwa [ins_len] at this
  unfold progI
  rw [List.getD_eq_getElem?_getD, emit_at lg n i j hi hj, hx]
  rfl
/-- Each place is one of a node's. -/
theorem node_of (lg : Ways) : ∀ m p, p < firstN nd lg m → ∃ i j, i < m ∧ j < sizeN (nd i) (lg i) ∧ p = firstN nd lg i + j
  | 0, p, h => by rw [firstN] at h; omega
  | m + 1, p, h => by
    rcases Nat.lt_or_ge p (firstN nd lg m) with g | g
    · obtain ⟨i, j, h1, h2, h3⟩ := node_of lg m p g
      exact ⟨i, j, by omega, h2, h3⟩
    · rw [firstN] at h
      exact ⟨m, p - firstN nd lg m, by omega, by omega, by omega⟩
/-! ### A node's instructions, one by one -/
def hdN (x : Nd) : Nat := if x.mask = 4294967295 then 1 else 2
theorem ins_load {lg : Ways} {i : Nat} (hl : (nd i).leaf = false) : (insN nd lg i)[0]? = some (32, 0, 0, u32N (nd i).off) := by
  unfold insN headN
  rw [if_neg (by rw [hl]; decide)]
  split <;> rfl
theorem ins_mask {lg : Ways} {i : Nat} (hl : (nd i).leaf = false) (hm : ¬ (nd i).mask = 4294967295) : (insN nd lg i)[1]? = some (84, 0, 0, (nd i).mask) := by
  unfold insN headN
  rw [if_neg (by rw [hl]; decide), if_neg hm]
  rfl
theorem ins_jump {lg : Ways} {i : Nat} (hl : (nd i).leaf = false) : (insN nd lg i)[hdN (nd i)]? = some (jumpN nd lg i) := by
  unfold insN headN hdN
  rw [if_neg (by rw [hl]; decide)]
  split <;> rfl
theorem ins_wayT {lg : Ways} {i : Nat} (hl : (nd i).leaf = false) (ht : (lg i).1 = true) : (insN nd lg i)[hdN (nd i) + 1]? = some (5, 0, 0, u32N (overT nd lg i - 1)) := by
  unfold insN headN hdN wayT
  rw [if_neg (by rw [hl]; decide), if_pos ht]
  split <;> rfl
theorem ins_wayF {lg : Ways} {i : Nat} (hl : (nd i).leaf = false) (hf : (lg i).2 = true) : (insN nd lg i)[hdN (nd i) + manyN (lg i)]? = some (5, 0, 0, u32N (overF nd lg i - (manyN (lg i) : Int))) := by
  unfold insN headN hdN wayF wayT
  rw [if_neg (by rw [hl]; decide), if_pos hf]
  have hm : manyN (lg i) = (if (lg i).1 = true then 1 else 0) + 1 := by unfold manyN; rw [if_pos hf]
  generalize u32N (overT nd lg i - 1) = a
  generalize u32N (overF nd lg i - (manyN (lg i) : Int)) = b
  rw [hm]
  by_cases h1 : (lg i).1 = true
  · rw [if_pos h1, if_pos h1]; split <;> rfl
  · rw [if_neg h1, if_neg h1]; split <;> rfl
theorem beh_hd {lg : Ways} {i : Nat} (hl : (nd i).leaf = false) : behN nd lg i = ((firstN nd lg i + hdN (nd i) + 1 : Nat) : Int) := by
  unfold behN hdN
  rw [firstN]
  unfold sizeN
  rw [if_neg (by rw [hl]; decide)]
  split <;> omega
/-- How far the ways are. -/
theorem overs (D : DecN nd n) (lg : Ways) {i : Nat} (hi : i < n) (hl : (nd i).leaf = false) :
    ((manyN (lg i) : Int) ≤ overT nd lg i ∧ overT nd lg i = (firstN nd lg (nd i).t.toNat : Int) - behN nd lg i) ∧ ((manyN (lg i) : Int) ≤ overF nd lg i ∧ overF nd lg i = (firstN nd lg (nd i).f.toNat : Int) - behN nd lg i) := by
  have hw := D.val.ways i hi hl
  have h1 := first_mono nd lg (show i + 1 ≤ (nd i).t.toNat by omega)
  have h2 := first_mono nd lg (show i + 1 ≤ (nd i).f.toNat by omega)
  unfold overT overF behN
  omega
theorem first_lt (lg : Ways) {a b : Nat} (h : a < b) : firstN nd lg a < firstN nd lg b := by
  have h1 := first_mono nd lg (show a + 1 ≤ b by omega)
  have h2 := size_le (nd a) (lg a)
  rw [firstN] at h1; omega
/-! ### Steps -/
end
theorem step_at {q : Nat → Ins} {N : Nat} {word : Nat → BitVec 32} {s : Mach} {x : Ins} (hd : s.done = false) (hp : s.place < N) (hx : q s.place = x) (hw : wrongE x.code x.k = 0) : s.step q N 64 word = s.does word x := by
  unfold Mach.step
  rw [if_neg (by rw [hd]; decide), if_neg (by decide), if_neg (by omega), hx, if_neg (fun g => g hw)]
theorem does_load (word : Nat → BitVec 32) (s : Mach) (k : Nat) : s.does word (toIns (32, 0, 0, k)) = Mach.on { s with a := word (BitVec.ofNat 32 k).toNat } 1 := rfl
theorem does_and (word : Nat → BitVec 32) (s : Mach) (k : Nat) : s.does word (toIns (84, 0, 0, k)) = Mach.on { s with a := s.a &&& BitVec.ofNat 32 k } 1 := by
  have h1 : aluC 84 = true := by decide
  have h2 : usesX 84 = false := by decide
  have h3 : opN 84 = 80 := by decide
  have h4 : ∀ a b, twoN 80 a b = a &&& b := fun _ _ => rfl
  simp [Mach.does, toIns, h1, h2, h3, h4]
theorem does_ja (word : Nat → BitVec 32) (s : Mach) (k : Nat) : s.does word (toIns (5, 0, 0, k)) = s.on (1 + (BitVec.ofNat 32 k).toNat) := rfl
theorem does_ret (word : Nat → BitVec 32) (s : Mach) (k : Nat) : s.does word (toIns (6, 0, 0, k)) = s.ends (BitVec.ofNat 32 k) := rfl
theorem does_jump (word : Nat → BitVec 32) (s : Mach) (o : Int) (ho : 1 ≤ o ∧ o ≤ 4) (jt jf k : Nat) : s.does word (toIns (codeN o, jt, jf, k)) = s.on (1 + (if saysN (if o = 1 then 16 else if o = 2 then 32 else if o = 3 then 48 else 64) s.a (BitVec.ofNat 32 k) = true then jt else jf)) := by
  have key : ∀ (c : Nat) (p : Int), aluC (c : Int) = false → jumpC (c : Int) = true → usesX (c : Int) = false → opN (c : Int) = p → s.does word (toIns (c, jt, jf, k)) = s.on (1 + (if saysN p s.a (BitVec.ofNat 32 k) = true then jt else jf)) := fun c p h1 h2 h3 h4 => by
    subst h4
    simp [Mach.does, toIns, h1, h2, h3]
  rcases (by omega : o = 1 ∨ o = 2 ∨ o = 3 ∨ o = 4) with rfl | rfl | rfl | rfl
  · exact key 21 16 (by decide) (by decide) (by decide) (by decide)
  · exact key 37 32 (by decide) (by decide) (by decide) (by decide)
  · exact key 53 48 (by decide) (by decide) (by decide) (by decide)
  · exact key 69 64 (by decide) (by decide) (by decide) (by decide)
theorem wrong_jump (o : Int) (ho : 1 ≤ o ∧ o ≤ 4) (k : BitVec 32) : wrongE (codeN o : Int) k = 0 := by
  rcases (by omega : o = 1 ∨ o = 2 ∨ o = 3 ∨ o = 4) with rfl | rfl | rfl | rfl <;> rfl
theorem wrong_ja (k : BitVec 32) : wrongE 5 k = 0 := rfl
theorem wrong_ret (k : BitVec 32) : wrongE 6 k = 0 := rfl
theorem wrong_and (k : BitVec 32) : wrongE 84 k = 0 := rfl
theorem wrong_load {k : BitVec 32} (h : k.toNat ≤ 60 ∧ k.toNat % 4 = 0) : wrongE 32 k = 0 := by
  unfold wrongE
  rw [if_neg (by decide), if_neg (by omega), if_neg (by omega), if_neg (fun g => absurd g.1 (by decide))]
/-- Steps, one after another. -/
def stepM (q : Nat → Ins) (N : Nat) (word : Nat → BitVec 32) : Nat → Mach → Mach
  | 0, s => s
  | m + 1, s => stepM q N word m (s.step q N 64 word)
theorem stepM_add (q : Nat → Ins) (N : Nat) (word : Nat → BitVec 32) (b : Nat) : ∀ a s, stepM q N word (a + b) s = stepM q N word b (stepM q N word a s)
  | 0, s => by rw [Nat.zero_add]; rfl
  | a + 1, s => by rw [show a + 1 + b = (a + b) + 1 by omega]; show stepM q N word (a + b) _ = _; rw [stepM_add q N word b a]; rfl
theorem stepM_iter (q : Nat → Ins) (N : Nat) (word : Nat → BitVec 32) : ∀ m, stepM q N word m Mach.start = iterS q N 64 word m
  | 0 => rfl
  | m + 1 => by
    rw [stepM_add q N word 1 m, stepM_iter q N word m]; rfl
/-! ### A node's way -/
section
variable {nd : Nat → Nd} {n : Nat} {lg : Ways} {word : Nat → BitVec 32}
theorem far_is (hfix : stepN nd n lg = lg) {i : Nat} (hi : i < n) (hl : (nd i).leaf = false) : lg i = (decide (255 < overT nd lg i), decide (255 < overF nd lg i)) :=
  (congrFun hfix i).symm.trans (if_pos ⟨hi, hl⟩)
theorem at_lt {i j : Nat} (hi : i < n) (hj : j < sizeN (nd i) (lg i)) : firstN nd lg i + j < firstN nd lg n := by
  have := first_mono nd lg (show i + 1 ≤ n by omega)
  rw [firstN] at this; omega
theorem len_of {i j : Nat} {x : I4} (hx : (insN nd lg i)[j]? = some x) : j < sizeN (nd i) (lg i) := by
  have := (List.getElem?_eq_some_iff.1 hx).1
  rwa [ins_len] at this
/-- A step at a node's instruction. -/
theorem step_in {i j : Nat} {x : I4} (hi : i < n) (hx : (insN nd lg i)[j]? = some x) {s : Mach} (hd : s.done = false) (hp : s.place = firstN nd lg i + j) (hw : wrongE (toIns x).code (toIns x).k = 0) :
    s.step (progI (emitN nd lg n)) (firstN nd lg n) 64 word = s.does word (toIns x) :=
  step_at hd (by rw [hp]; exact at_lt hi (len_of hx)) (by rw [hp]; exact prog_at hi hx) hw
theorem off_is {z : Int} (h : 0 ≤ z ∧ z < 64) : (BitVec.ofNat 32 (u32N z)).toNat = z.toNat := by
  unfold u32N
  rw [BitVec.toNat_ofNat]; omega
/-- The word is loaded, and masked. -/
theorem head_run (D : DecN nd n) {i : Nat} (hi : i < n) (hl : (nd i).leaf = false) (s : Mach) (hd : s.done = false) (hp : s.place = firstN nd lg i) :
    ∃ s', stepM (progI (emitN nd lg n)) (firstN nd lg n) word (hdN (nd i)) s = s' ∧ s'.done = false ∧ s'.place = firstN nd lg i + hdN (nd i) ∧ s'.err = s.err ∧ s'.steps = s.steps + hdN (nd i) ∧
      s'.a = (if (nd i).mask = 4294967295 then word (nd i).off.toNat else word (nd i).off.toNat &&& BitVec.ofNat 32 (nd i).mask) := by
  have ho := D.off i hi hl
  have hof := off_is (z := (nd i).off) ⟨ho.1, ho.2.1⟩
  have h1 := step_in (word := word) hi (ins_load (lg := lg) hl) hd (by rw [hp]; rfl) (wrong_load (k := BitVec.ofNat 32 (u32N (nd i).off)) (by rw [hof]; omega))
  rw [does_load, hof] at h1
  by_cases hm : (nd i).mask = 4294967295
  · have hh : hdN (nd i) = 1 := if_pos hm
    rw [hh, if_pos hm]
    exact ⟨_, h1, hd, by show s.place + 1 = _; rw [hp], rfl, rfl, rfl⟩
  · have hh : hdN (nd i) = 2 := if_neg hm
    rw [hh, if_neg hm]
    have h2 := step_in (word := word) hi (ins_mask (lg := lg) hl hm) (s := Mach.on { s with a := word (nd i).off.toNat } 1) hd (by show s.place + 1 = _; rw [hp]) (wrong_and _)
    rw [does_and] at h2
    have h3 := (congrArg (fun z => Mach.step (progI (emitN nd lg n)) (firstN nd lg n) 64 word z) h1).trans h2
    exact ⟨_, h3, hd, by show s.place + 1 + 1 = _; rw [hp], rfl, rfl, rfl⟩
theorem u8_small {z : Int} (h : 0 ≤ z ∧ z ≤ 255) : u8N z = z.toNat := by unfold u8N; omega
theorem u32_small {z : Int} (h : 0 ≤ z ∧ z < 4294967296) : (BitVec.ofNat 32 (u32N z)).toNat = z.toNat := by
  unfold u32N
  rw [BitVec.toNat_ofNat]; omega
/-- A test's way. -/
theorem way_run (D : DecN nd n) (hfix : stepN nd n lg = lg) {i : Nat} (hi : i < n) (hl : (nd i).leaf = false) (s : Mach) (hd : s.done = false) (hp : s.place = firstN nd lg i) (hN : firstN nd lg n ≤ 4096) :
    ∃ m s', 2 ≤ m ∧ m ≤ 4 ∧ stepM (progI (emitN nd lg n)) (firstN nd lg n) word m s = s' ∧ s'.done = false ∧ s'.place = firstN nd lg (wayN word (nd i)).toNat ∧ s'.err = s.err ∧ s'.steps = s.steps + m := by
  obtain ⟨s1, hs1, d1, p1, e1, t1, a1⟩ := head_run (lg := lg) (word := word) D hi hl s hd hp
  have hh : 1 ≤ hdN (nd i) ∧ hdN (nd i) ≤ 2 := by unfold hdN; split <;> omega
  have hov := overs D lg hi hl
  have hb := beh_hd (lg := lg) hl
  have hw := D.val.ways i hi hl
  have hT : firstN nd lg (nd i).t.toNat < firstN nd lg n := first_lt lg (by omega)
  have hF : firstN nd lg (nd i).f.toNat < firstN nd lg n := first_lt lg (by omega)
  have hfar := far_is hfix hi hl
  have h2 := step_in (word := word) hi (ins_jump (lg := lg) hl) d1 p1 (wrong_jump _ (D.op i hi hl) _)
  have hj : (jumpN nd lg i) = (codeN (nd i).op, (jumpN nd lg i).2.1, (jumpN nd lg i).2.2.1, (nd i).k) := rfl
  rw [hj, does_jump word s1 _ (D.op i hi hl), a1] at h2
  have hcond : saysN (if (nd i).op = 1 then 16 else if (nd i).op = 2 then 32 else if (nd i).op = 3 then 48 else 64) (if (nd i).mask = 4294967295 then word (nd i).off.toNat else word (nd i).off.toNat &&& BitVec.ofNat 32 (nd i).mask) (BitVec.ofNat 32 (nd i).k) = holdsN word (nd i) := rfl
  rw [hcond] at h2
  have hone : ∀ m', stepM (progI (emitN nd lg n)) (firstN nd lg n) word (hdN (nd i) + (1 + m')) s = stepM (progI (emitN nd lg n)) (firstN nd lg n) word m' (s1.step (progI (emitN nd lg n)) (firstN nd lg n) 64 word) := fun m' => by
    rw [stepM_add, hs1, Nat.add_comm 1 m']; rfl
  unfold wayN
  by_cases hc : holdsN word (nd i) = true
  · rw [if_pos hc] at h2 ⊢
    by_cases hlong : (lg i).1 = true
    · have hlo : 255 < overT nd lg i := by rw [hfar] at hlong; exact of_decide_eq_true hlong
      have hjt : (jumpN nd lg i).2.1 = 0 := by
        show u8N (if (lg i).1 = true then 0 else overT nd lg i) = 0
        rw [if_pos hlong]; rfl
      rw [hjt] at h2
      have hk := u32_small (z := overT nd lg i - 1) (by omega)
      have h3 := step_in (word := word) hi (ins_wayT (lg := lg) hl hlong) (s := s1.on (1 + 0)) d1 (by show s1.place + (1 + 0) = _; rw [p1]; omega) (wrong_ja _)
      rw [does_ja, hk] at h3
      have h4 := (congrArg (fun z => Mach.step (progI (emitN nd lg n)) (firstN nd lg n) 64 word z) h2).trans h3
      refine ⟨hdN (nd i) + (1 + 1), _, by omega, by omega, (hone 1).trans h4, d1, ?_, e1, ?_⟩
      · show s1.place + (1 + 0) + (1 + (overT nd lg i - 1).toNat) = _
        rw [p1]; omega
      · show s1.steps + 1 + 1 = _
        rw [t1]; omega
    · have hlo : ¬ 255 < overT nd lg i := fun g => by rw [hfar] at hlong; exact hlong (decide_eq_true g)
      have hjt : (jumpN nd lg i).2.1 = (overT nd lg i).toNat := by
        show u8N (if (lg i).1 = true then 0 else overT nd lg i) = _
        rw [if_neg hlong]; exact u8_small (by omega)
      rw [hjt] at h2
      refine ⟨hdN (nd i) + (1 + 0), _, by omega, by omega, (hone 0).trans h2, d1, ?_, e1, ?_⟩
      · show s1.place + (1 + (overT nd lg i).toNat) = _
        rw [p1]; omega
      · show s1.steps + 1 = _
        rw [t1]; omega
  · rw [if_neg hc] at h2 ⊢
    by_cases hlong : (lg i).2 = true
    · have hlo : 255 < overF nd lg i := by rw [hfar] at hlong; exact of_decide_eq_true hlong
      have hmany : 1 ≤ manyN (lg i) ∧ manyN (lg i) ≤ 2 := by
        refine ⟨?_, many_le _⟩
        unfold manyN; rw [if_pos hlong]; omega
      have hjf : (jumpN nd lg i).2.2.1 = manyN (lg i) - 1 := by
        show u8N (if (lg i).2 = true then (manyN (lg i) : Int) - 1 else overF nd lg i) = _
        rw [if_pos hlong, u8_small (by omega)]; omega
      rw [hjf] at h2
      have hk := u32_small (z := overF nd lg i - (manyN (lg i) : Int)) (by omega)
      have h3 := step_in (word := word) hi (ins_wayF (lg := lg) hl hlong) (s := s1.on (1 + (manyN (lg i) - 1))) d1 (by show s1.place + (1 + (manyN (lg i) - 1)) = _; rw [p1]; omega) (wrong_ja _)
      rw [does_ja, hk] at h3
      have h4 := (congrArg (fun z => Mach.step (progI (emitN nd lg n)) (firstN nd lg n) 64 word z) h2).trans h3
      refine ⟨hdN (nd i) + (1 + 1), _, by omega, by omega, (hone 1).trans h4, d1, ?_, e1, ?_⟩
      · show s1.place + (1 + (manyN (lg i) - 1)) + (1 + (overF nd lg i - (manyN (lg i) : Int)).toNat) = _
        rw [p1]; omega
      · show s1.steps + 1 + 1 = _
        rw [t1]; omega
    · have hlo : ¬ 255 < overF nd lg i := fun g => by rw [hfar] at hlong; exact hlong (decide_eq_true g)
      have hjf : (jumpN nd lg i).2.2.1 = (overF nd lg i).toNat := by
        show u8N (if (lg i).2 = true then (manyN (lg i) : Int) - 1 else overF nd lg i) = _
        rw [if_neg hlong]; exact u8_small (by omega)
      rw [hjf] at h2
      refine ⟨hdN (nd i) + (1 + 0), _, by omega, by omega, (hone 0).trans h2, d1, ?_, e1, ?_⟩
      · show s1.place + (1 + (overF nd lg i).toNat) = _
        rw [p1]; omega
      · show s1.steps + 1 = _
        rw [t1]; omega
/-- A decision's program, from a node on. -/
theorem go_run (D : DecN nd n) (hfix : stepN nd n lg = lg) (hN : firstN nd lg n ≤ 4096) : ∀ f i, i < n → n - i ≤ f → ∀ s : Mach, s.done = false → s.place = firstN nd lg i → s.err = 0 →
    ∃ m s', stepM (progI (emitN nd lg n)) (firstN nd lg n) word m s = s' ∧ s'.done = true ∧ s'.err = 0 ∧ s'.ans = BitVec.ofNat 32 (goN nd word f i).1 ∧ s'.steps = s.steps + m ∧ 1 ≤ (goN nd word f i).2 ∧ m + 3 ≤ 4 * (goN nd word f i).2 ∧ 2 * (goN nd word f i).2 ≤ m + 1
  | 0, i, hi, hf, _, _, _, _ => by omega
  | f + 1, i, hi, hf, s, hd, hp, he => by
    by_cases hl : (nd i).leaf = true
    · have hx : (insN nd lg i)[0]? = some (6, 0, 0, (nd i).word) := by unfold insN; rw [if_pos hl]; rfl
      have h1 := step_in (word := word) hi hx hd hp (wrong_ret _)
      rw [does_ret] at h1
      have hg : goN nd word (f + 1) i = ((nd i).word, 1) := by rw [goN, if_pos hl]
      rw [hg]
      exact ⟨1, _, h1, rfl, he, rfl, rfl, Nat.le_refl _, Nat.le_refl _, Nat.le_refl _⟩
    · have hl' : (nd i).leaf = false := by cases hh : (nd i).leaf; rfl; exact absurd hh hl
      obtain ⟨m, s1, m1, m2, h1, d1, p1, e1, t1⟩ := way_run (word := word) D hfix hi hl' s hd hp hN
      have hw := D.val.ways i hi hl'
      have hway : i < (wayN word (nd i)).toNat ∧ (wayN word (nd i)).toNat < n := by unfold wayN; split <;> omega
      obtain ⟨m', s2, h2, d2, e2, a2, t2, g1, g2, g3⟩ := go_run D hfix hN f (wayN word (nd i)).toNat hway.2 (by omega) s1 d1 p1 (e1.trans he)
      have hg : goN nd word (f + 1) i = ((goN nd word f (wayN word (nd i)).toNat).1, (goN nd word f (wayN word (nd i)).toNat).2 + 1) := by rw [goN, if_neg hl]
      rw [hg]
      refine ⟨m + m', s2, by rw [stepM_add, h1]; exact h2, d2, e2, a2, by rw [t2, t1]; omega, by show 1 ≤ _ + 1; omega, ?_, ?_⟩
      · show m + m' + 3 ≤ 4 * (_ + 1); omega
      · show 2 * (_ + 1) ≤ m + m' + 1; omega
/-- A decision's program answers what the decision answers, within five steps a node. -/
theorem dec_run (D : DecN nd n) (hfix : stepN nd n lg = lg) (hN : firstN nd lg n ≤ 4096) (word : Nat → BitVec 32) : (runM (progI (emitN nd lg n)) (firstN nd lg n) 64 word).err = 0 ∧ (runM (progI (emitN nd lg n)) (firstN nd lg n) 64 word).ans = BitVec.ofNat 32 (goN nd word n 0).1 ∧
    1 ≤ (goN nd word n 0).2 ∧ (runM (progI (emitN nd lg n)) (firstN nd lg n) 64 word).steps ≤ 5 * (goN nd word n 0).2 ∧ min (goN nd word n 0).2 2 ≤ (runM (progI (emitN nd lg n)) (firstN nd lg n) 64 word).steps := by
  have hp := D.val.pos
  obtain ⟨m, s', h1, d1, e1, a1, t1, g1, g2, g3⟩ := go_run (lg := lg) (word := word) D hfix hN n 0 hp (by omega) Mach.start rfl rfl rfl
  rw [stepM_iter] at h1
  have hs : (iterS (progI (emitN nd lg n)) (firstN nd lg n) 64 word m).steps ≤ firstN nd lg n := iter_within _ _ _ _ m
  have hst : s'.steps = m := by rw [t1]; show 0 + m = m; omega
  have hr := iter_is_run (progI (emitN nd lg n)) (firstN nd lg n) 64 word (k := m) (by rw [h1]; exact d1) (by rw [h1, hst] at hs; omega)
  rw [← hr, h1, hst]
  exact ⟨e1, a1, g1, by omega, by omega⟩
/-! ### .. and is accepted -/
theorem ok_ret (k l : Nat) : OneOK (toIns (6, 0, 0, k)) l := ⟨(by decide : sealsC 6 = true), fun e => absurd (show (6 : Int) = 5 from e) (by decide), fun e => absurd (show jumpC 6 = true from e) (by decide), fun e => absurd (show (6 : Int) = 32 from e) (by decide), fun e => absurd (show (6 : Int) = 52 from e) (by decide), fun e => absurd (show (6 : Int) = 100 ∨ (6 : Int) = 116 from e) (by decide), fun e => absurd (show (6 : Int) = 96 ∨ (6 : Int) = 97 ∨ (6 : Int) = 2 ∨ (6 : Int) = 3 from e) (by decide)⟩
theorem ok_and (k l : Nat) : OneOK (toIns (84, 0, 0, k)) l := ⟨(by decide : sealsC 84 = true), fun e => absurd (show (84 : Int) = 5 from e) (by decide), fun e => absurd (show jumpC 84 = true from e) (by decide), fun e => absurd (show (84 : Int) = 32 from e) (by decide), fun e => absurd (show (84 : Int) = 52 from e) (by decide), fun e => absurd (show (84 : Int) = 100 ∨ (84 : Int) = 116 from e) (by decide), fun e => absurd (show (84 : Int) = 96 ∨ (84 : Int) = 97 ∨ (84 : Int) = 2 ∨ (84 : Int) = 3 from e) (by decide)⟩
theorem ok_load {k l : Nat} (h : (BitVec.ofNat 32 k).toNat ≤ 60 ∧ (BitVec.ofNat 32 k).toNat % 4 = 0) : OneOK (toIns (32, 0, 0, k)) l := ⟨(by decide : sealsC 32 = true), fun e => absurd (show (32 : Int) = 5 from e) (by decide), fun e => absurd (show jumpC 32 = true from e) (by decide), fun _ => h, fun e => absurd (show (32 : Int) = 52 from e) (by decide), fun e => absurd (show (32 : Int) = 100 ∨ (32 : Int) = 116 from e) (by decide), fun e => absurd (show (32 : Int) = 96 ∨ (32 : Int) = 97 ∨ (32 : Int) = 2 ∨ (32 : Int) = 3 from e) (by decide)⟩
theorem ok_ja {k l : Nat} (h : (BitVec.ofNat 32 k).toNat < l) : OneOK (toIns (5, 0, 0, k)) l := ⟨(by decide : sealsC 5 = true), fun _ => h, fun e => absurd (show jumpC 5 = true from e) (by decide), fun e => absurd (show (5 : Int) = 32 from e) (by decide), fun e => absurd (show (5 : Int) = 52 from e) (by decide), fun e => absurd (show (5 : Int) = 100 ∨ (5 : Int) = 116 from e) (by decide), fun e => absurd (show (5 : Int) = 96 ∨ (5 : Int) = 97 ∨ (5 : Int) = 2 ∨ (5 : Int) = 3 from e) (by decide)⟩
theorem ok_jump {o : Int} (ho : 1 ≤ o ∧ o ≤ 4) {jt jf k l : Nat} (h : jt < l ∧ jf < l) : OneOK (toIns (codeN o, jt, jf, k)) l := by
  have key : ∀ c : Nat, sealsC (c : Int) = true → (c : Int) ≠ 5 → (c : Int) ≠ 32 → (c : Int) ≠ 52 → ¬ ((c : Int) = 100 ∨ (c : Int) = 116) → ¬ ((c : Int) = 96 ∨ (c : Int) = 97 ∨ (c : Int) = 2 ∨ (c : Int) = 3) → OneOK (toIns (c, jt, jf, k)) l := fun c h1 h2 h3 h4 h5 h6 =>
    ⟨h1, fun e => absurd e h2, fun _ => h, fun e => absurd e h3, fun e => absurd e h4, fun e => absurd e h5, fun e => absurd e h6⟩
  rcases (by omega : o = 1 ∨ o = 2 ∨ o = 3 ∨ o = 4) with rfl | rfl | rfl | rfl
  · exact key 21 (by decide) (by decide) (by decide) (by decide) (by decide) (by decide)
  · exact key 37 (by decide) (by decide) (by decide) (by decide) (by decide) (by decide)
  · exact key 53 (by decide) (by decide) (by decide) (by decide) (by decide) (by decide)
  · exact key 69 (by decide) (by decide) (by decide) (by decide) (by decide) (by decide)
theorem ins_ok (D : DecN nd n) (hfix : stepN nd n lg = lg) (hN : firstN nd lg n ≤ 4096) {i j : Nat} (hi : i < n) (hj : j < sizeN (nd i) (lg i)) : ∃ x, (insN nd lg i)[j]? = some x ∧ OneOK (toIns x) (firstN nd lg n - (firstN nd lg i + j) - 1) := by
  by_cases hl : (nd i).leaf = true
  · have hs : sizeN (nd i) (lg i) = 1 := by unfold sizeN; rw [if_pos hl]
    obtain rfl : j = 0 := by omega
    exact ⟨_, by unfold insN; rw [if_pos hl]; rfl, ok_ret _ _⟩
  · have hl' : (nd i).leaf = false := by cases hh : (nd i).leaf; rfl; exact absurd hh hl
    have hh : 1 ≤ hdN (nd i) ∧ hdN (nd i) ≤ 2 := by unfold hdN; split <;> omega
    have hsz : sizeN (nd i) (lg i) = hdN (nd i) + 1 + manyN (lg i) := by
      unfold sizeN hdN; rw [if_neg hl]; split <;> omega
    have hov := overs D lg hi hl'
    have hb := beh_hd (lg := lg) hl'
    have hw := D.val.ways i hi hl'
    have hT : firstN nd lg (nd i).t.toNat < firstN nd lg n := first_lt lg (by omega)
    have hF : firstN nd lg (nd i).f.toNat < firstN nd lg n := first_lt lg (by omega)
    have hnext : firstN nd lg (i + 1) < firstN nd lg n := first_lt lg (by omega)
    rw [firstN, hsz] at hnext
    have hfar := far_is hfix hi hl'
    have hm2 := many_le (lg i)
    rcases (by omega : j = 0 ∨ (j = 1 ∧ hdN (nd i) = 2) ∨ j = hdN (nd i) ∨ hdN (nd i) < j) with e | ⟨e, e2⟩ | e | e
    · subst e
      have ho := D.off i hi hl'
      have hof := off_is (z := (nd i).off) ⟨ho.1, ho.2.1⟩
      exact ⟨_, ins_load hl', ok_load (by rw [hof]; omega)⟩
    · subst e
      have hm : ¬ (nd i).mask = 4294967295 := fun g => by unfold hdN at e2; rw [if_pos g] at e2; omega
      exact ⟨_, ins_mask hl' hm, ok_and _ _⟩
    · subst e
      refine ⟨_, ins_jump hl', ok_jump (D.op i hi hl') ⟨?_, ?_⟩⟩
      · show u8N (if (lg i).1 = true then 0 else overT nd lg i) < _
        by_cases h1 : (lg i).1 = true
        · rw [if_pos h1]; show 0 < _; omega
        · have hlo : ¬ 255 < overT nd lg i := fun g => by rw [hfar] at h1; exact h1 (decide_eq_true g)
          rw [if_neg h1, u8_small (by omega)]; omega
      · show u8N (if (lg i).2 = true then (manyN (lg i) : Int) - 1 else overF nd lg i) < _
        by_cases h1 : (lg i).2 = true
        · have hmany : 1 ≤ manyN (lg i) := by unfold manyN; rw [if_pos h1]; omega
          rw [if_pos h1, u8_small (by omega)]; omega
        · have hlo : ¬ 255 < overF nd lg i := fun g => by rw [hfar] at h1; exact h1 (decide_eq_true g)
          rw [if_neg h1, u8_small (by omega)]; omega
    · by_cases h1 : (lg i).1 = true ∧ j = hdN (nd i) + 1
      · obtain ⟨h1, rfl⟩ := h1
        have hlo : 255 < overT nd lg i := by rw [hfar] at h1; exact of_decide_eq_true h1
        have hk := u32_small (z := overT nd lg i - 1) (by omega)
        exact ⟨_, ins_wayT hl' h1, ok_ja (by rw [hk]; omega)⟩
      · have h2 : (lg i).2 = true ∧ j = hdN (nd i) + manyN (lg i) := by
          unfold manyN at hm2 hsz ⊢
          cases ht : (lg i).1 <;> cases hf : (lg i).2 <;> simp only [ht, hf, if_true, if_false, Bool.false_eq_true, true_and, false_and] at * <;> omega
        obtain ⟨h2, rfl⟩ := h2
        have hlo : 255 < overF nd lg i := by rw [hfar] at h2; exact of_decide_eq_true h2
        have hk := u32_small (z := overF nd lg i - (manyN (lg i) : Int)) (by omega)
        exact ⟨_, ins_wayF hl' h2, ok_ja (by rw [hk]; omega)⟩
theorem dec_accepted (D : DecN nd n) (hfix : stepN nd n lg = lg) (hN : firstN nd lg n ≤ 4096) : Accepted (progI (emitN nd lg n)) (firstN nd lg n) := by
  have hp := D.val.pos
  refine ⟨by have := first_le nd lg n; omega, hN, fun p hpN => ?_, ?_⟩
  · obtain ⟨i, j, hi, hj, rfl⟩ := node_of lg n p hpN
    obtain ⟨x, hx, hok⟩ := ins_ok D hfix hN hi hj
    exact one_ok.2 (by rw [prog_at hi hx]; exact hok)
  · have hl : (nd (n - 1)).leaf = true := by
      cases hh : (nd (n - 1)).leaf
      · have := D.val.ways (n - 1) (by omega) hh; omega
      · rfl
    have hx : (insN nd lg (n - 1))[0]? = some (6, 0, 0, (nd (n - 1)).word) := by unfold insN; rw [if_pos hl]; rfl
    have hs : firstN nd lg n = firstN nd lg (n - 1) + 1 := by
      have e : n = (n - 1) + 1 := by omega
      rw [e, firstN]
      have : sizeN (nd (n - 1)) (lg (n - 1)) = 1 := by unfold sizeN; rw [if_pos hl]
      rw [this]; simp
    have := prog_at (n := n) (by omega) hx
    rw [show firstN nd lg n - 1 = firstN nd lg (n - 1) + 0 by omega, this]
    exact .inl rfl
end
end Go.Proofs.Ytgpjiflgocgolaa
