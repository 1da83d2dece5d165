/-
  Nodes in memory; which nodes may be a decision: contracts of both sides. Conditions: those that each names.
-/
import Derived.Test.YtgpjiflgocgolaaLowPure
import Derived.Test.YtgpjiflgocgolaaFrame
import Derived.Test.YtgpjiflgocgolaaChecked
import Derived.WalkSpells
import Derived.WalkLawsBesides
import Derived.Lib.Hide
namespace Go.Proofs.Ytgpjiflgocgolaa
open Go Go.RowKit
set_option linter.unusedSimpArgs false
set_option linter.unusedVariables false

theorem lboxL (w : World) (o : Obj) : Below w.heap.size w (w.alloc o) := (Below.refl _ _).alloc (Nat.le_refl _) o
abbrev ndC (x : Nd) : List Value := [.bool x.leaf, .int .u32 (x.word : Int), .int .i64 x.off, .int .u32 (x.mask : Int), .int .i64 x.op, .int .u32 (x.k : Int), .int .i64 x.t, .int .i64 x.f]
abbrev ndV (x : Nd) : Value := .agg #[.bool x.leaf, .int .u32 (x.word : Int), .int .i64 x.off, .int .u32 (x.mask : Int), .int .i64 x.op, .int .u32 (x.k : Int), .int .i64 x.t, .int .i64 x.f]
abbrev ndO (x : Nd) : Obj := .cells #[.bool x.leaf, .int .u32 (x.word : Int), .int .i64 x.off, .int .u32 (x.mask : Int), .int .i64 x.op, .int .u32 (x.k : Int), .int .i64 x.t, .int .i64 x.f] 48
/-- Nodes in a slice. -/
def NdAt (W : World) (A : Option Addr) (n : Nat) (nd : Nat → Nd) : Prop := n ≤ maxLen ∧ (0 < n → ∃ b o, A = some ⟨b, o, none⟩ ∧ b < W.heap.size ∧ ∀ i, i < n → ∀ j u, (ndC (nd i))[j]? = some u → W.cell? ⟨b, o + i * 8 + j, none⟩ = some u)
theorem NdAt.below {W W' : World} {A : Option Addr} {n : Nat} {nd : Nat → Nd} (h : NdAt W A n nd) (hb : Below W.heap.size W W') : NdAt W' A n nd :=
  ⟨h.1, fun hn => by
    obtain ⟨b, o, rfl, hl, hc⟩ := h.2 hn
    exact ⟨b, o, rfl, Nat.lt_of_lt_of_le hl hb.size, fun i hi j u hj => (hb.cell (p := ⟨b, o + i * 8 + j, none⟩) hl).trans (hc i hi j u hj)⟩⟩
/-- A node's cells. -/
theorem nd_at {W : World} {A : Option Addr} {n : Nat} {nd : Nat → Nd} (h : NdAt W A n nd) {i : Nat} (hi : i < n) : ∃ b o, A = some ⟨b, o, none⟩ ∧ b < W.heap.size ∧
    W.cell? ⟨b, o + i * 8, none⟩ = some (.bool (nd i).leaf) ∧ W.cell? ⟨b, o + i * 8 + 1, none⟩ = some (.int .u32 ((nd i).word : Int)) ∧ W.cell? ⟨b, o + i * 8 + 2, none⟩ = some (.int .i64 (nd i).off) ∧ W.cell? ⟨b, o + i * 8 + 3, none⟩ = some (.int .u32 ((nd i).mask : Int)) ∧
    W.cell? ⟨b, o + i * 8 + 4, none⟩ = some (.int .i64 (nd i).op) ∧ W.cell? ⟨b, o + i * 8 + 5, none⟩ = some (.int .u32 ((nd i).k : Int)) ∧ W.cell? ⟨b, o + i * 8 + 6, none⟩ = some (.int .i64 (nd i).t) ∧ W.cell? ⟨b, o + i * 8 + 7, none⟩ = some (.int .i64 (nd i).f) := by
  obtain ⟨b, o, rfl, hl, hc⟩ := h.2 (by omega)
  exact ⟨b, o, rfl, hl, hc i hi 0 _ rfl, hc i hi 1 _ rfl, hc i hi 2 _ rfl, hc i hi 3 _ rfl, hc i hi 4 _ rfl, hc i hi 5 _ rfl, hc i hi 6 _ rfl, hc i hi 7 _ rfl⟩
/-! ### Check: the program -/
def offB (z : Int) : Bool := decide (0 ≤ z ∧ z < 64 ∧ z % 4 = 0)
def opB (z : Int) : Bool := decide (1 ≤ z ∧ z ≤ 4)
def aheadB (z : Int) (i n : Nat) : Bool := decide ((i : Int) < z ∧ z < n)
theorem p_isOff (z : Int) (w : World) : Calls Try.prog 49 #[.int .i64 z] w fun e w' => e = .returned (.bool (offB z)) ∧ w' = w := by
  by_cases h0 : 0 ≤ z
  · by_cases h1 : z < 64
    · have hm : z.tmod 4 = z % 4 := Int.tmod_eq_emod_of_nonneg h0
      go_enter Try.func49, Try.ntmps49
      go_wp2
      go_ret
      exact ⟨by unfold offB; simp [h0, h1, hm]; exact Bool.beq_eq_decide_eq _ _, rfl⟩
    · go_enter Try.func49, Try.ntmps49
      go_wp2
      go_ret
      exact ⟨by unfold offB; simp [h0, h1]; omega, rfl⟩
  · go_enter Try.func49, Try.ntmps49
    go_wp2
    go_ret
    exact ⟨by unfold offB; simp [h0]; omega, rfl⟩
theorem p_isOp (z : Int) (w : World) : Calls Try.prog 50 #[.int .i64 z] w fun e w' => e = .returned (.bool (opB z)) ∧ w' = w := by
  by_cases h0 : 1 ≤ z
  · go_enter Try.func50, Try.ntmps50
    go_wp2
    go_ret
    exact ⟨by unfold opB; simp [h0], rfl⟩
  · go_enter Try.func50, Try.ntmps50
    go_wp2
    go_ret
    exact ⟨by unfold opB; simp [h0]; omega, rfl⟩
theorem p_isAhead (z : Int) (i n : Nat) (w : World) : Calls Try.prog 51 #[.int .i64 z, .int .i64 i, .int .i64 n] w fun e w' => e = .returned (.bool (aheadB z i n)) ∧ w' = w := by
  by_cases h0 : (i : Int) < z
  · go_enter Try.func51, Try.ntmps51
    go_wp2
    go_ret
    exact ⟨by unfold aheadB; simp [h0], rfl⟩
  · go_enter Try.func51, Try.ntmps51
    go_wp2
    go_ret
    exact ⟨by unfold aheadB; simp [h0]; omega, rfl⟩
theorem fault_is (x : Nd) (i n : Nat) : faultN x i n = if x.leaf = true then 0 else if offB x.off = false ∨ opB x.op = false then 84 else if aheadB x.t i n = false ∨ aheadB x.f i n = false then 85 else 0 := by
  unfold faultN offB opB aheadB
  simp only [decide_eq_false_iff_not]
set_option maxHeartbeats 1000000 in
theorem p_nodeFault (x : Nd) (i n : Nat) (w : World) : Calls Try.prog 26 #[ndV x, .int .i64 i, .int .i64 n] w fun e w' => e = .returned (.int .i64 (faultN x i n)) ∧ Below w.heap.size w w' := by
  have HO := Lib.hid (fun W => p_isOff x.off W)
  have HP := Lib.hid (fun W => p_isOp x.op W)
  have HT := Lib.hid (fun W => p_isAhead x.t i n W)
  have HF := Lib.hid (fun W => p_isAhead x.f i n W)
  have HB := Lib.hid (lboxL w (ndO x))
  rw [fault_is]
  generalize offB x.off = bo at HO ⊢
  generalize opB x.op = bp at HP ⊢
  generalize aheadB x.t i n = bt at HT ⊢
  generalize aheadB x.f i n = bf at HF ⊢
  obtain ⟨leaf, word, off, mask, op, k, t, f⟩ := x
  cases leaf <;> cases bo <;> cases bp <;> cases bt <;> cases bf <;>
  (go_enter Try.func26, Try.ntmps26
   go_wp2_with (first
    | (go_at_call 49; (with_reducible refine (HO.out _).mono ?_); rintro e wa ⟨rfl, rfl⟩)
    | (go_at_call 50; (with_reducible refine (HP.out _).mono ?_); rintro e wa ⟨rfl, rfl⟩)
    | (go_at_call 51; (with_reducible refine (HT.out _).mono ?_); rintro e wa ⟨rfl, rfl⟩)
    | (go_at_call 51; (with_reducible refine (HF.out _).mono ?_); rintro e wa ⟨rfl, rfl⟩))
   go_ret
   exact ⟨rfl, HB.out⟩)
/-- The first k are as they may be. -/
theorem find_from (nd : Nat → Nd) (n : Nat) : ∀ k, k ≤ n → (∀ j, j < k → faultN (nd j) j n = 0) → findN nd n 0 n = findN nd n k (n - k)
  | 0, _, _ => rfl
  | k + 1, hk, h => by
    rw [find_from nd n k (by omega) (fun j hj => h j (by omega)), show n - k = (n - (k + 1)) + 1 by omega, findN, if_pos (h k (by omega))]
theorem find_at (nd : Nat → Nd) (n : Nat) {k : Nat} (hk : k < n) (h : ∀ j, j < k → faultN (nd j) j n = 0) (hf : faultN (nd k) k n ≠ 0) : findN nd n 0 n = (faultN (nd k) k n, k) := by
  rw [find_from nd n k (by omega) h, show n - k = (n - (k + 1)) + 1 by omega, findN, if_neg hf]
theorem find_all (nd : Nat → Nd) (n : Nat) (h : ∀ j, j < n → faultN (nd j) j n = 0) : findN nd n 0 n = (0, 0) := by
  rw [find_from nd n n (Nat.le_refl _) h, Nat.sub_self]; rfl
set_option maxHeartbeats 1000000 in
theorem p_DCheck (w : World) (A : Option Addr) (n cap : Nat) (nd : Nat → Nd) (h : NdAt w A n nd) :
    Calls Try.prog 12 #[.slice A n cap] w fun e w' => e = .returned (.tuple #[.int .i64 (chkN nd n).1, .int .i64 ((chkN nd n).2 : Int)]) ∧ Below w.heap.size w w' := by
  have HN := Lib.hid h
  clear h
  unfold chkN
  by_cases h0 : n = 0
  · subst h0
    go_enter Try.func12, Try.ntmps12
    go_wp2
    go_ret2
    exact ⟨rfl, Below.refl _ _⟩
  by_cases h1 : 4096 < n
  · have h1' : (4096 : Int) < (n : Int) := by omega
    rw [if_pos (.inr h1)]
    go_enter Try.func12, Try.ntmps12
    go_wp2
    go_ret2
    exact ⟨rfl, Below.refl _ _⟩
  rw [if_neg (by omega)]
  have h2 : ¬ (4096 : Int) < (n : Int) := by omega
  have HF : Hid (∀ i W, Calls Try.prog 26 #[ndV (nd i), .int .i64 i, .int .i64 n] W fun e w' => e = .returned (.int .i64 (faultN (nd i) i n)) ∧ Below W.heap.size W w') := Lib.hid fun i W => p_nodeFault (nd i) i n W
  go_enter Try.func12, Try.ntmps12
  go_wp2
  go_loopw [17] (fun i wr => ∃ k : Nat, k ≤ n ∧ i = .int .i64 (k : Int) ∧ (∀ j, j < k → faultN (nd j) j n = 0) ∧ Below w.heap.size w wr) (fun i _ => n - (intOf i).toNat)
  case atStart => exact ⟨0, by omega, rfl, fun j hj => by omega, Below.refl _ _⟩
  case round =>
    obtain ⟨k, hk, rfl, hall, hb⟩ := hrel
    have HB := Lib.hid (And.intro hall hb)
    by_cases hlt : k < n
    · have hlt' : (k : Int) < (n : Int) := by omega
      obtain ⟨b, o, rfl, hl, c0, c1, c2, c3, c4, c5, c6, c7⟩ := nd_at (HN.out.below hb) hlt
      clear hall hb
      by_cases hf : faultN (nd k) k n = 0
      · go_wp2_with (go_at_call 26; (with_reducible refine (HF.out k _).mono ?_); rintro e w1 ⟨rfl, hb1⟩; have HB1 := Lib.hid hb1; clear hb1)
        exact ⟨⟨k + 1, by omega, by go_num, fun j hj => by rcases Nat.lt_or_ge j k with g | g; exact HB.out.1 j g; rw [show j = k by omega]; exact hf, HB.out.2.trans (((lboxL wr _).trans (HB1.out.mono (by simp))).mono HB.out.2.size)⟩, by simp [intOf]; omega⟩
      · have hfb : (faultN (nd k) k n == 0) = false := beq_false_of_ne hf
        have HE := Lib.hid (find_at nd n hlt HB.out.1 hf)
        go_wp2_with (go_at_call 26; (with_reducible refine (HF.out k _).mono ?_); rintro e w1 ⟨rfl, hb1⟩; have HB1 := Lib.hid hb1; clear hb1)
        go_ret2
        exact ⟨by rw [HE.out] <;> rfl, HB.out.2.trans (((lboxL wr _).trans (HB1.out.mono (by simp))).mono HB.out.2.size)⟩
    · clear hall hb
      go_wp2
      go_ret2
      exact ⟨by rw [find_all nd n (fun j hj => HB.out.1 j (by omega))]; rfl, HB.out.2⟩
end Go.Proofs.Ytgpjiflgocgolaa
