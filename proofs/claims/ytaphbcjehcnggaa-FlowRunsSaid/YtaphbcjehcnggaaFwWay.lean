/-
  What the program tells of one place, one after another: ways, what can be come to, how many lead to each place, where a block ends. Conditions: those that each names.
-/
import Derived.Test.YtaphbcjehcnggaaPCodes
import Derived.Test.YtaphbcjehcnggaaFlowInt
import Derived.Test.YtaphbcjehcnggaaFlowPure
import Derived.Test.YtaphbcjehcnggaaFwLoops
import Derived.Test.YtaphbcjehcnggaaFlowDoc
import Derived.RangeFuncBound
import Derived.Shelf.Abstract
import Derived.Shelf.RegionOpen
import Derived.WalkKit
import Derived.OwnWalkIn
import Derived.TacticsInMore
import Derived.LoopNIn
import Derived.LoopIn
import Derived.Laws.EntriesVeiled
import Derived.Maps.AppendAt
import Derived.Test.YtaphbcjehcnggaaPCheck
import Derived.Scope
namespace Go.Proofs.Ytaphbcjehcnggaa
open Go Go.RowKit
set_option linter.unusedSimpArgs false
set_option linter.unusedVariables false
set_option linter.unusedSectionVars false

theorem p_isReturn10 (c : Int) (w : World) : Calls Try.prog 55 #[.int .u16 c] w fun e w' => e = .returned (.bool (c == 6 || c == 22)) ∧ w = w' := by
  go_enter Try.func55, Try.ntmps55
  go_wp2
  all_goals
    go_ret
    refine ⟨?_, rfl⟩
    simp_all
theorem p_isBranch10 (c : Int) (hc : 0 ≤ c ∧ c < 65536) (w : World) : Calls Try.prog 56 #[.int .u16 c] w fun e w' => e = .returned (.bool (jumpC c)) ∧ w = w' := by
  rcases hb : jumpC c with _ | _
  · have h : ¬ (c = 21 ∨ c = 37 ∨ c = 53 ∨ c = 69 ∨ c = 29 ∨ c = 45 ∨ c = 61 ∨ c = 77) := by
      simpa [jumpC, jumpL] using hb
    simp only [not_or] at h
    obtain ⟨a1, a2, a3, a4, b1, b2, b3, b4⟩ := h
    have g1 := clr_not hc.1 hc.2 21#16 a1 b1
    have g2 := clr_not hc.1 hc.2 37#16 a2 b2
    have g3 := clr_not hc.1 hc.2 53#16 a3 b3
    have g4 := clr_not hc.1 hc.2 69#16 a4 b4
    simp at g1 g2 g3 g4
    clear hb a1 a2 a3 a4 b1 b2 b3 b4 hc
    go_enter Try.func56, Try.ntmps56
    go_wp2
    go_ret
    exact ⟨rfl, rfl⟩
  · rcases jump_cases hb with rfl | rfl | rfl | rfl | rfl | rfl | rfl | rfl
    all_goals
      clear hb
      go_enter Try.func56, Try.ntmps56
      go_wp2
      go_ret
      exact ⟨rfl, rfl⟩
theorem p_isJump10 (c : Int) (hc : 0 ≤ c ∧ c < 65536) (w : World) : Calls Try.prog 60 #[.int .u16 c] w fun e w' => e = .returned (.bool (c == 5 || jumpC c)) ∧ w = w' := by
  have H := Lib.hid (p_isBranch10 c hc w)
  by_cases h : c = 5
  · subst h
    clear H
    go_enter Try.func60, Try.ntmps60
    go_wp2
    go_ret
    exact ⟨rfl, rfl⟩
  · have hb : (c == 5) = false := beq_false_of_ne h
    rw [hb, Bool.false_or]
    generalize jumpC c = b at H ⊢
    clear h
    go_enter Try.func60, Try.ntmps60
    go_wp2_with (go_at_call 56; (with_reducible refine H.out.mono ?_); rintro e w' ⟨rfl, rfl⟩)
    go_ret
    exact ⟨rfl, rfl⟩
/-- How many instructions one goes over, by each of its ways. -/
def oversF (x : Ins) : List Nat :=
  if x.code = 6 ∨ x.code = 22 then [] else if x.code = 5 then [x.k.toNat] else if jumpC x.code = true then (if x.jt = x.jf then [x.jt] else [x.jt, x.jf]) else [0]
theorem overs_len (x : Ins) : (oversF x).length ≤ 2 := by
  unfold oversF
  split
  · exact Nat.zero_le _
  · split
    · exact Nat.le_succ _
    · split
      · split
        · exact Nat.le_succ _
        · exact Nat.le_refl _
      · exact Nat.le_succ _
theorem overs_lt {x : Ins} (hx : x.OK) : ∀ o ∈ oversF x, o < 4294967296 := fun o h => by
  have h1 := x.k.isLt
  have h2 := hx.2.2.1
  have h3 := hx.2.2.2
  unfold oversF at h
  split at h
  · cases h
  · split at h
    · rw [List.mem_singleton.1 h]; exact h1
    · split at h
      · split at h
        · rw [List.mem_singleton.1 h]; omega
        · simp only [List.mem_cons, List.not_mem_nil, or_false] at h
          rcases h with rfl | rfl <;> omega
      · rw [List.mem_singleton.1 h]; omega
/-- The places that are gone to: those that there are. -/
theorem next_overs {q : Nat → Ins} {n p : Nat} (hp : p < n) : nextF10 q n p = ((oversF (q p)).filter fun o => decide (o < n - 1 - p)).map fun o => p + 1 + o := by
  have hf : ∀ o, (decide (p + 1 + o < n)) = decide (o < n - 1 - p) := fun o => by
    rw [Bool.eq_iff_iff, decide_eq_true_eq, decide_eq_true_eq]; omega
  unfold nextF10 candF oversF
  rw [if_pos hp]
  split
  · rfl
  · split
    · by_cases g : (q p).k.toNat < n
      · rw [if_pos g]
        simp only [List.filter_cons, List.filter_nil, hf]
        split <;> rfl
      · rw [if_neg g]
        simp only [List.filter_cons, List.filter_nil]
        rw [if_neg (by simp; omega)]
        rfl
    · split
      · split
        · simp only [List.filter_cons, List.filter_nil, hf]
          split <;> rfl
        · simp only [List.filter_cons, List.filter_nil, hf]
          split <;> split <;> rfl
      · have : decide (p + 1 < n) = decide (0 < n - 1 - p) := hf 0
        simp only [List.filter_cons, List.filter_nil, this]
        split <;> rfl
/-- Numbers of 32 bits in a row of the call's own. -/
def OvrAt (W : World) (B : Nat) (A : Option Addr) (l : List Nat) : Prop := l ≠ [] → ∃ b, A = some ⟨b, 0, none⟩ ∧ B ≤ b ∧ W.rowIs b 54 l.length fun i => .int .u32 ((l.getD i 0 : Nat) : Int)
def OvrP (w : World) (l : List Nat) (e : Ending) (w' : World) : Prop := ∃ A c, e = .returned (.slice A l.length c) ∧ OvrAt w' w.heap.size A l ∧ Below w.heap.size w w'
theorem ovr_one (w : World) (o : Obj) (x : Nat) : OvrP w [x] (.returned (.slice (some ⟨w.heap.size + 1, 0, none⟩) 1 1)) ((w.alloc o).alloc (.cells #[.int .u32 (x : Int)] 54)) :=
  ⟨_, _, rfl, fun _ => ⟨_, rfl, Nat.le_succ _, #[.int .u32 (x : Int)], by have := World.alloc_heap_new (w.alloc o) (.cells #[.int .u32 (x : Int)] 54); rwa [World.size_alloc] at this, rfl, fun j hj => by
    cases j with
    | zero => rfl
    | succ j => exact absurd hj (by simp)⟩, (lbox10 w o).trans ((lbox10 (w.alloc o) _).mono (by simp))⟩
theorem ovr_two (w : World) (o : Obj) (x y : Nat) : OvrP w [x, y] (.returned (.slice (some ⟨w.heap.size + 1, 0, none⟩) 2 2)) ((w.alloc o).alloc (.cells #[.int .u32 (x : Int), .int .u32 (y : Int)] 54)) :=
  ⟨_, _, rfl, fun _ => ⟨_, rfl, Nat.le_succ _, #[.int .u32 (x : Int), .int .u32 (y : Int)], by have := World.alloc_heap_new (w.alloc o) (.cells #[.int .u32 (x : Int), .int .u32 (y : Int)] 54); rwa [World.size_alloc] at this, rfl, fun j hj => by
    cases j with
    | zero => rfl
    | succ j => cases j with
      | zero => rfl
      | succ j => exact absurd hj (by simp)⟩, (lbox10 w o).trans ((lbox10 (w.alloc o) _).mono (by simp))⟩
section
variable (w : World) (code : Int) (jt jf k : Nat) (hc : 0 ≤ code ∧ code < 65536) (hjt : jt < 256) (hjf : jf < 256) (hk : k < 4294967296)
include hc hjt hjf hk
theorem overs_ret (h : code = 6 ∨ code = 22) : Calls Try.prog 40 #[.agg #[.int .u16 code, .int .u8 (jt : Int), .int .u8 (jf : Int), .int .u32 (k : Int)]] w (OvrP w []) := by
  have hb : (code == 6 || code == 22) = true := by rcases h with rfl | rfl <;> rfl
  have HR := Lib.hid (fun V => p_isReturn10 code V)
  rw [hb] at HR
  have HE : Hid (∀ o, OvrP w [] (.returned (.slice none 0 0)) (w.alloc o)) := Lib.hid fun o => ⟨_, _, rfl, fun h => absurd rfl h, lbox10 w o⟩
  clear h hb
  go_enter Try.func40, Try.ntmps40
  go_wp2_with (go_at_call 55; (with_reducible refine (HR.out _).mono ?_); rintro e w' ⟨rfl, rfl⟩)
  go_ret
  exact HE.out _
theorem overs_ja (h : code = 5) : Calls Try.prog 40 #[.agg #[.int .u16 code, .int .u8 (jt : Int), .int .u8 (jf : Int), .int .u32 (k : Int)]] w (OvrP w [k]) := by
  subst h
  have HR := Lib.hid (fun V => p_isReturn10 5 V)
  have HE := Lib.hid (fun o => ovr_one w o k)
  go_enter Try.func40, Try.ntmps40
  go_wp2_with (go_at_call 55; (with_reducible refine (HR.out _).mono ?_); rintro e w' ⟨rfl, rfl⟩)
  go_ret
  exact HE.out _
theorem overs_on (h1 : (code == 6 || code == 22) = false) (h2 : ¬ code = 5) (h3 : jumpC code = false) : Calls Try.prog 40 #[.agg #[.int .u16 code, .int .u8 (jt : Int), .int .u8 (jf : Int), .int .u32 (k : Int)]] w (OvrP w [0]) := by
  have HR := Lib.hid (fun V => p_isReturn10 code V)
  rw [h1] at HR
  have HJ := Lib.hid (fun V => p_isBranch10 code hc V)
  rw [h3] at HJ
  have hb : (code == 5) = false := beq_false_of_ne h2
  have HE := Lib.hid (fun o => ovr_one w o 0)
  clear h1 h3
  go_enter Try.func40, Try.ntmps40
  go_wp2_with (first
    | (go_at_call 55; (with_reducible refine (HR.out _).mono ?_); rintro e w' ⟨rfl, rfl⟩)
    | (go_at_call 56; (with_reducible refine (HJ.out _).mono ?_); rintro e w' ⟨rfl, rfl⟩))
  go_ret
  exact HE.out _
theorem overs_same (h1 : (code == 6 || code == 22) = false) (h2 : ¬ code = 5) (h3 : jumpC code = true) (h4 : jt = jf) : Calls Try.prog 40 #[.agg #[.int .u16 code, .int .u8 (jt : Int), .int .u8 (jf : Int), .int .u32 (k : Int)]] w (OvrP w [jt]) := by
  subst h4
  have HR := Lib.hid (fun V => p_isReturn10 code V)
  rw [h1] at HR
  have HJ := Lib.hid (fun V => p_isBranch10 code hc V)
  rw [h3] at HJ
  have hb : (code == 5) = false := beq_false_of_ne h2
  have HE := Lib.hid (fun o => ovr_one w o jt)
  have hw1 : IntKind.u32.wrap (jt : Int) = (jt : Int) := by rw [IntKind.wrap_u32]; omega
  clear h1 h3
  go_enter Try.func40, Try.ntmps40
  go_wp2_with (first
    | (go_at_call 55; (with_reducible refine (HR.out _).mono ?_); rintro e w' ⟨rfl, rfl⟩)
    | (go_at_call 56; (with_reducible refine (HJ.out _).mono ?_); rintro e w' ⟨rfl, rfl⟩))
  go_ret
  exact HE.out _
theorem overs_two (h1 : (code == 6 || code == 22) = false) (h2 : ¬ code = 5) (h3 : jumpC code = true) (h4 : ¬ jt = jf) : Calls Try.prog 40 #[.agg #[.int .u16 code, .int .u8 (jt : Int), .int .u8 (jf : Int), .int .u32 (k : Int)]] w (OvrP w [jt, jf]) := by
  have HR := Lib.hid (fun V => p_isReturn10 code V)
  rw [h1] at HR
  have HJ := Lib.hid (fun V => p_isBranch10 code hc V)
  rw [h3] at HJ
  have hb : (code == 5) = false := beq_false_of_ne h2
  have h4' : ¬ (jt : Int) = (jf : Int) := by omega
  have h5 : ((jt : Int) == (jf : Int)) = false := beq_false_of_ne h4'
  have HE := Lib.hid (fun o => ovr_two w o jt jf)
  have hw1 : IntKind.u32.wrap (jt : Int) = (jt : Int) := by rw [IntKind.wrap_u32]; omega
  have hw2 : IntKind.u32.wrap (jf : Int) = (jf : Int) := by rw [IntKind.wrap_u32]; omega
  clear h1 h3
  go_enter Try.func40, Try.ntmps40
  go_wp2_with (first
    | (go_at_call 55; (with_reducible refine (HR.out _).mono ?_); rintro e w' ⟨rfl, rfl⟩)
    | (go_at_call 56; (with_reducible refine (HJ.out _).mono ?_); rintro e w' ⟨rfl, rfl⟩))
  go_ret
  exact HE.out _
end
theorem p_overs (x : Ins) (hx : x.OK) (w : World) : Calls Try.prog 40 #[.agg #[.int .u16 x.code, .int .u8 (x.jt : Int), .int .u8 (x.jf : Int), .int .u32 (x.k.toNat : Int)]] w (OvrP w (oversF x)) := by
  obtain ⟨code, jt, jf, k⟩ := x
  obtain ⟨h1, h2, h3, h4⟩ := hx
  have hk := k.isLt
  unfold oversF
  dsimp only at h1 h2 h3 h4 ⊢
  split
  · exact overs_ret w code jt jf k.toNat ⟨h1, h2⟩ h3 h4 hk (by assumption)
  · rename_i g
    have g' : (code == 6 || code == 22) = false := by
      rw [Bool.eq_false_iff]; intro h; exact g (by simpa using h)
    split
    · exact overs_ja w code jt jf k.toNat ⟨h1, h2⟩ h3 h4 hk (by assumption)
    · split
      · split
        · exact overs_same w code jt jf k.toNat ⟨h1, h2⟩ h3 h4 hk g' (by assumption) (by assumption) (by assumption)
        · exact overs_two w code jt jf k.toNat ⟨h1, h2⟩ h3 h4 hk g' (by assumption) (by assumption) (by assumption)
      · rename_i g3
        exact overs_on w code jt jf k.toNat ⟨h1, h2⟩ h3 h4 hk g' (by assumption) (by simpa using g3)
end Go.Proofs.Ytaphbcjehcnggaa
namespace Go.Proofs.Ytaphbcjehcnggaa
open Go Go.RowKit Go.Shelf
attribute [local go_sem] Oper.semAt_some
set_option linter.unusedSimpArgs false
set_option linter.unusedVariables false
set_option linter.unusedSectionVars false

theorem abides_below10 {β : Type} {ok : Obj → Bool} {B : Nat} {J : β → World → Prop} (h : Abide ok B J) {s : β} {W W' : World} (hs : J s W) (hb : Below W.heap.size W W') : J s W' :=
  h s W W' none hs ⟨hb.os, hb.tape, hb.output, hb.size, fun k hk _ => hb.block k hk⟩ (fun r e => by cases e)
/-- A place as a round's argument. -/
abbrev encP (x : Nat) : Array Value := #[.int .i64 (x : Int)]
theorem p_ways (A : Option Addr) (n cap : Nat) (at_ : Int) (w : World) : Calls Try.prog 26 #[.slice A n cap, .int .i64 at_] w fun e w' =>
    e = .returned (.func (.func 39) #[] #[.pointer (some ⟨w.heap.size + 1, 0, none⟩), .pointer (some ⟨w.heap.size, 0, none⟩)]) ∧ w' = (w.alloc (.cells #[.slice A n cap] 22)).alloc (.cells #[.int .i64 at_] 3) := by
  go_enter Try.func26, Try.ntmps26
  go_wp2
  go_ret
  exact ⟨rfl, rfl⟩
/-- What a round over the ways keeps: cells below D but for X; rows of 32 bits at or beyond D. -/
def waysK (D : Nat) (X : Nat → Prop) (k : Nat) (o : Obj) : Prop := (k < D ∧ ¬ X k ∧ o.isCells = true) ∨ (D ≤ k ∧ ∃ c, o = .cells c 54 (0, 0))
theorem waysK_cells {D : Nat} {X : Nat → Prop} : ∀ j o, waysK D X j o → D ≤ j → o.isCells = true := fun j o h hD => by
  rcases h with h | ⟨_, c, rfl⟩
  · exact h.2.2
  · rfl
theorem waysK_box {D : Nat} {X : Nat → Prop} {k : Nat} (h : k < D) (hX : ¬ X k) (c : Array Value) (t : TypeId) : waysK D X k (.cells c t (0, 0)) := .inl ⟨h, hX, rfl⟩
theorem waysK_row {D : Nat} {X : Nat → Prop} {k : Nat} (h : D ≤ k) (c : Array Value) : waysK D X k (.cells c 54 (0, 0)) := .inr ⟨h, c, rfl⟩
/-- The first k ways, as places. -/
def wayP (n p : Nat) (l : List Nat) (k : Nat) : List Nat := ((l.take k).filter fun o => decide (o < n - 1 - p)).map fun o => p + 1 + o
theorem wayP_on {n p k : Nat} {l : List Nat} (h : k < l.length) : wayP n p l (k + 1) = wayP n p l k ++ (if l.getD k 0 < n - 1 - p then [p + 1 + l.getD k 0] else []) := by
  unfold wayP
  rw [List.take_add_one, List.getElem?_eq_getElem h, List.filter_append, List.map_append]
  congr 1
  have : l.getD k 0 = l[k] := by rw [List.getD_eq_getElem?_getD, List.getElem?_eq_getElem h]; rfl
  rw [this]
  simp only [Option.toList_some, List.filter_cons, List.filter_nil]
  by_cases g : l[k] < n - 1 - p
  · rw [if_pos g, if_pos (by simpa using g)]; rfl
  · rw [if_neg g, if_neg (by simpa using g)]; rfl
theorem wayP_all (n p : Nat) (l : List Nat) : wayP n p l l.length = (l.filter fun o => decide (o < n - 1 - p)).map fun o => p + 1 + o := by unfold wayP; rw [List.take_length]
theorem wayP_le {n p k : Nat} {l : List Nat} : (wayP n p l k).length ≤ k := by
  unfold wayP
  rw [List.length_map]
  refine Nat.le_trans (List.length_filter_le _ _) ?_
  rw [List.length_take]; omega
theorem wayP_pre {n p k : Nat} {l : List Nat} : wayP n p l k <+: wayP n p l l.length := by
  unfold wayP
  rw [List.take_length]
  exact ((List.take_prefix k l).filter _).map _
section
variable (A : Option Addr) (n cap : Nat) (q : Nat → Ins) (D : Nat) (X : Nat → Prop) (Bq Ba : Nat) (hn : n ≤ 17592186044416)
/-- What stands between two rounds. -/
structure WayAt (at_ : Int) (W : World) : Prop where
  q : Boxed W Bq 22 (.slice A n cap)
  at_ : Boxed W Ba 3 (.int .i64 at_)
  lq : Bq < D ∧ ¬ X Bq
  la : Ba < D ∧ ¬ X Ba
theorem WayAt.keep {A : Option Addr} {n cap : Nat} {D : Nat} {X : Nat → Prop} {Bq Ba : Nat} {at_ : Int} {W W' : World} (h : WayAt A n cap D X Bq Ba at_ W) (hk : KeepO (waysK D X) W W') : WayAt A n cap D X Bq Ba at_ W' :=
  ⟨hk.box h.q (waysK_box h.lq.1 h.lq.2 _ _), hk.box h.at_ (waysK_box h.la.1 h.la.2 _ _), h.lq, h.la⟩
theorem WayAt.below {A : Option Addr} {n cap : Nat} {D : Nat} {X : Nat → Prop} {Bq Ba : Nat} {at_ : Int} {W W' : World} (h : WayAt A n cap D X Bq Ba at_ W) (hb : Below W.heap.size W W') : WayAt A n cap D X Bq Ba at_ W' :=
  ⟨(hb.block _ h.q.lt).trans h.q, (hb.block _ h.at_.lt).trans h.at_, h.lq, h.la⟩
include hn
set_option maxHeartbeats 1000000 in
set_option maxRecDepth 100000 in
theorem ways1_none (at_ : Int) (ho : at_ < 0 ∨ (n : Int) ≤ at_) (m : Nat) (hm : 1 ≤ m) (l : Nat) (J : List Nat → World → Prop) (W : World) (hw : WayAt A n cap D X Bq Ba at_ W) (h0 : J [] W) :
    CallsIn Fence.wide m Try.prog 39 #[.func (.yield l) #[] #[], .pointer (some ⟨Ba, 0, none⟩), .pointer (some ⟨Bq, 0, none⟩)] W fun e W' => (∃ v, e = .returned v) ∧ J [] W' := by
  have c1 := hw.q.cell
  have c2 := hw.at_.cell
  have HJ := Lib.hid h0
  clear h0 hw
  refine callsIn_of_wp Try.func39 rfl trivial ?_ rfl
  simp only [Try.ntmps39, List.size_toArray, List.length_cons, List.length_nil, Nat.reduceAdd, Nat.reduceSub, Array.replicate_succ, Array.replicate_zero, List.push_toArray, List.append_toArray, List.nil_append, List.cons_append]
  by_cases h1 : at_ < 0
  · clear ho
    gi_wp2
    refine bodyPost_ret (results_none rfl _ _ _) rfl ?_
    exact ⟨⟨_, rfl⟩, HJ.out⟩
  · have h2 : (n : Int) ≤ at_ := by omega
    clear ho
    gi_wp2
    refine bodyPost_ret (results_none rfl _ _ _) rfl ?_
    exact ⟨⟨_, rfl⟩, HJ.out⟩
set_option maxHeartbeats 4000000 in
set_option maxRecDepth 100000 in
theorem ways1_some (hok : ∀ i, i < n → (q i).OK) (p : Nat) (hp : p < n) (m : Nat) (hm : 1 ≤ m) (l : Nat) (J : List Nat → World → Prop) (ok : Obj → Bool) (B0 : Nat) (hJ : Abide ok B0 J)
    (hY : ∀ pre x W, J pre W → pre ++ [x] <+: nextF10 q n p → YieldAt Fence.wide (m - 1) Try.prog l (encP x) W fun e W' =>
      e = .returned (.bool true) ∧ J (pre ++ [x]) W' ∧ KeepO (waysK D X) W W')
    (W : World) (hD : D ≤ W.heap.size) (hw : WayAt A n cap D X Bq Ba (p : Int) W) (hq : ProgAt W A n q) (h0 : J [] W) :
    CallsIn Fence.wide m Try.prog 39 #[.func (.yield l) #[] #[], .pointer (some ⟨Ba, 0, none⟩), .pointer (some ⟨Bq, 0, none⟩)] W fun e W' => (∃ v, e = .returned v) ∧
      J (nextF10 q n p) W' := by
  obtain ⟨qb, qo, rfl, hqb, hqc⟩ := hq (by omega)
  obtain ⟨x0, x1, x2, x3⟩ := hqc p hp
  have hoks := hok p hp
  have HO := Lib.hid (fun V => p_overs (q p) hoks V)
  have HOL := Lib.hid (And.intro (overs_len (q p)) (overs_lt hoks))
  rw [next_overs hp] at hY ⊢
  have c1 := hw.q.cell
  have c2 := hw.at_.cell
  have HW := Lib.hid hw
  have HJ := Lib.hid h0
  clear h0 hw hqc hok hq
  generalize hC : oversF (q p) = C at HO HOL hY ⊢
  clear hC hoks
  generalize (q p).code = code at x0 HO
  generalize (q p).jt = jt at x1 HO
  generalize (q p).jf = jf at x2 HO
  generalize (q p).k.toNat = kk at x3 HO
  rw [← wayP_all] at hY ⊢
  have hp0 : ¬ (p : Int) < 0 := by omega
  have hp1 : ¬ (n : Int) ≤ (p : Int) := by omega
  have hpn : (p : Int) < (n : Int) := by omega
  have hw0 : IntKind.i64.wrap ((n : Int) - 1) = ((n - 1 : Nat) : Int) := by rw [IntWalk.i64_in _ (by omega)]; omega
  have hw1 : IntKind.i64.wrap (((n - 1 : Nat) : Int) - (p : Int)) = ((n - 1 - p : Nat) : Int) := by rw [IntWalk.i64_in _ (by omega)]; omega
  refine callsIn_of_wp Try.func39 rfl trivial ?_ rfl
  simp only [Try.ntmps39, List.size_toArray, List.length_cons, List.length_nil, Nat.reduceAdd, Nat.reduceSub, Array.replicate_succ, Array.replicate_zero, List.push_toArray, List.append_toArray, List.nil_append, List.cons_append]
  gi_wp2_with (refine ⟨trivial, ?_⟩; gi_at_call 40; refine (callsIn_wide.2 (HO.out _)).mono ?_; rintro e w1 ⟨A2, cc, rfl, hov, hb⟩; have HV := Lib.hid (And.intro hov hb); clear hov hb)
  have HJ1 : Hid (J [] w1) := Lib.hid (abides_below10 hJ HJ.out HV.out.2)
  have HW1 : Hid (WayAt (some ⟨qb, qo, none⟩) n cap D X Bq Ba (p : Int) w1) := Lib.hid (HW.out.below HV.out.2)
  have HA2 : Hid (OvrAt w1 D A2 C) := Lib.hid fun h => by
    obtain ⟨b, e, hle, hr⟩ := HV.out.1 h
    exact ⟨b, e, Nat.le_trans hD hle, hr⟩
  clear HV HJ HW c1 c2 x0 x1 x2 x3 HO
  gi_loopw [26] (fun i wr => ∃ k : Nat, k ≤ C.length ∧ i = .int .i64 (k : Int) ∧ J (wayP n p C k) wr ∧ WayAt (some ⟨qb, qo, none⟩) n cap D X Bq Ba (p : Int) wr ∧ OvrAt wr D A2 C) (fun i _ => C.length - (intOf i).toNat)
  case atStart => exact ⟨0, Nat.zero_le _, rfl, HJ1.out, HW1.out, HA2.out⟩
  case round =>
    obtain ⟨k, hk, rfl, hj, hw, ho⟩ := hrel
    clear HJ1 HW1 HA2
    have HJ := Lib.hid hj
    have HW := Lib.hid hw
    have HA := Lib.hid ho
    by_cases hlt : k < C.length
    · have hlt' : (k : Int) < (C.length : Int) := by omega
      have hlen := HOL.out.1
      have hwk : IntKind.i64.wrap ((k : Int) + 1) = ((k + 1 : Nat) : Int) := by rw [IntWalk.i64_in _ (by omega)]; omega
      obtain ⟨b, rfl, hb, hr⟩ := ho (by intro e; rw [e] at hlt; exact absurd hlt (by simp))
      have y0 := World.rowIs.cell hr hlt
      have c2 := hw.at_.cell
      have HP := Lib.hid (wayP_on (n := n) (p := p) hlt)
      have hov : C.getD k 0 < 4294967296 := HOL.out.2 _ (by rw [List.getD_eq_getElem?_getD, List.getElem?_eq_getElem hlt]; exact List.getElem_mem hlt)
      have HQ := Lib.hid (And.intro (fun hlo : C.getD k 0 < n - 1 - p => hY (wayP n p C k) (p + 1 + C.getD k 0) wr hj (by have h1 := wayP_on (n := n) (p := p) hlt; rw [if_pos hlo] at h1; rw [← h1]; exact wayP_pre)) trivial)
      clear hj hw ho hr hY
      generalize hov2 : C.getD k 0 = ov at y0 HP HQ hov
      clear hov2
      have hu1 : IntKind.u64.wrap (ov : Int) = (ov : Int) := by rw [IntKind.wrap_u64]; omega
      have hu2 : IntKind.u64.wrap ((n - 1 - p : Nat) : Int) = ((n - 1 - p : Nat) : Int) := by rw [IntKind.wrap_u64]; omega
      by_cases hlo : ov < n - 1 - p
      · have hlo' : (ov : Int) < ((n - 1 - p : Nat) : Int) := by omega
        have hi1 : IntKind.i64.wrap (ov : Int) = (ov : Int) := IntWalk.i64_in _ (by omega)
        have hi2 : IntKind.i64.wrap ((p : Int) + 1) = ((p + 1 : Nat) : Int) := by rw [IntWalk.i64_in _ (by omega)]; omega
        have hi3 : IntKind.i64.wrap (((p + 1 : Nat) : Int) + (ov : Int)) = ((p + 1 + ov : Nat) : Int) := by rw [IntWalk.i64_in _ (by omega)]; omega
        obtain ⟨fn, tmps, assign, body, hy, hR⟩ := HQ.out.1 hlo
        rw [if_pos hlo] at HP
        dsimp only [encP] at hy
        rw [show ((p + 1 + ov : Nat) : Int) = (p : Int) + 1 + (ov : Int) by omega] at hy
        clear HQ
        gi_wp2
        refine hR.mono ?_
        rintro e W3 ⟨rfl, hJ3, hk3⟩
        have HJ3 : Hid (J (wayP n p C (k + 1)) W3) := Lib.hid (HP.out ▸ hJ3)
        have HW3 : Hid (WayAt (some ⟨qb, qo, none⟩) n cap D X Bq Ba (p : Int) W3) := Lib.hid (HW.out.keep hk3)
        have HA3 : Hid (OvrAt W3 D (some ⟨b, 0, none⟩) C) := Lib.hid fun h => by
          obtain ⟨b', e, hle, hr⟩ := HA.out h
          exact ⟨b', e, hle, hk3.row hr fun c => waysK_row hle c⟩
        clear hJ3 hk3 hy hR
        gi_wp2
        go_roundw
        case rel => exact ⟨k + 1, by omega, by go_num, HJ3.out, HW3.out, HA3.out⟩
        case measure => simp [intOf]; omega
      · have hlo' : ¬ (ov : Int) < ((n - 1 - p : Nat) : Int) := by omega
        rw [if_neg hlo, List.append_nil] at HP
        clear HQ
        gi_wp2
        refine ⟨fun _ h => (by cases h), ?_⟩
        gi_wp2
        go_roundw
        case rel => exact ⟨k + 1, by omega, by go_num, by rw [HP.out]; exact HJ.out, HW.out, HA.out⟩
        case measure => simp [intOf]; omega
    · have hlt' : ¬ (k : Int) < (C.length : Int) := by omega
      obtain rfl : C.length = k := by omega
      clear hj hw ho
      gi_wp2
      go_end0
      exact ⟨⟨_, rfl⟩, HJ.out⟩
/-- What the program's ways hand to a loop. -/
theorem ways_stops (hok : ∀ i, i < n → (q i).OK) (at_ : Int) (ok : Obj → Bool) (m : Nat) (hm : 1 ≤ m) (w : World) (hD : D ≤ w.heap.size) (hw : WayAt A n cap D X Bq Ba at_ w) (hq : ProgAt w A n q) :
    SeqL ok Fence.wide m Try.prog 39 #[.pointer (some ⟨Ba, 0, none⟩), .pointer (some ⟨Bq, 0, none⟩)] encP (KeepO (waysK D X)) (nextZ q n at_) w := fun l J W hb hJ hY h0 => by
  have hw' : WayAt A n cap D X Bq Ba at_ W := hw.below hb
  by_cases h : at_ < 0 ∨ (n : Int) ≤ at_
  · have e : nextZ q n at_ = [] := by
      unfold nextZ nextF10
      split
      · rw [if_neg (by omega)]
      · rfl
    rw [e]
    refine (ways1_none A n cap D X Bq Ba hn at_ h m hm l J W hw' h0).mono ?_
    rintro e' W' ⟨h1, h2⟩
    exact ⟨h1, h2⟩
  · obtain ⟨p, rfl⟩ : ∃ p : Nat, at_ = (p : Int) := ⟨at_.toNat, by omega⟩
    have e : nextZ q n (p : Int) = nextF10 q n p := by unfold nextZ; rw [if_pos (by omega)]; rfl
    rw [e] at hY ⊢
    exact ways1_some A n cap q D X Bq Ba hn hok p (by omega) m hm l J ok _ hJ hY W (Nat.le_trans hD hb.size) hw' (hq.below hb) h0
end
end Go.Proofs.Ytaphbcjehcnggaa
namespace Go.Proofs.Ytaphbcjehcnggaa
open Go Go.RowKit Go.Shelf
attribute [local go_sem] Oper.semAt_some
set_option linter.unusedSimpArgs false
set_option linter.unusedVariables false
set_option linter.unusedSectionVars false

/-- What AppendSeq has gathered. -/
structure GatAt (w : World) (D : Nat) (pre : List Nat) (W : World) : Prop where
  row : ∃ v, Boxed W w.heap.size 23 v ∧ W.ownsRow D 3 1 v pre.length (intL pre)
  bel : Below w.heap.size w W
theorem box_row10 {X : World} {B : Nat} {t : TypeId} {v : Value} {row : Option Nat} {B0 : Nat} (h : Boxed X B t v) (hr : ∀ r, row = some r → B0 ≤ r ∧ ∃ o : Obj, X.heap[r]? = some o ∧ o.isCells = false) : some B ≠ row := fun e => by
  obtain ⟨_, o, ho, hc⟩ := hr B e.symm
  rw [show X.heap[B]? = _ from h] at ho; cases ho; cases hc
theorem own_row10 {X Y : World} {row : Option Nat} {B0 base : Nat} {e : TypeId} {sz : Nat} {v : Value} {n : Nat} {xs : List Value} (h : X.ownsRow base e sz v n xs) (hg : X.grownBy Y row) (hr : ∀ r, row = some r → B0 ≤ r ∧ ∃ o : Obj, X.heap[r]? = some o ∧ o.isCells = false) : Y.ownsRow base e sz v n xs := by
  refine h.kept hg ?_
  rcases h.2 with ⟨rfl, _⟩ | ⟨g, cap, cur, rfl, _, hgb, _⟩
  · exact .inl rfl
  · refine .inr fun e' => ?_
    obtain ⟨_, o, ho, hc⟩ := hr g (by simpa [Value.ownBlock] using e'.symm)
    rw [hgb] at ho; cases ho; cases hc
theorem gat_own (w : World) (D : Nat) {B : Nat} (hB : w.heap.size ≤ B) : Abide okN B (GatAt w D) := fun pre X Y row h hg hr' =>
  have hr : ∀ r, row = some r → B ≤ r ∧ ∃ o : Obj, X.heap[r]? = some o ∧ o.isCells = false := fun r e => let ⟨h1, o, h2, h3⟩ := hr' r e; ⟨h1, o, h2, okN_no h3⟩
  ⟨let ⟨v, h1, h2⟩ := h.row; ⟨v, h1.kept hg (box_row10 h1 hr), own_row10 h2 hg hr⟩, h.bel.grown hg h.bel.size (fun k e => Nat.le_trans hB (hr k e).1)⟩
/-- What an append onto the gathered keeps. -/
theorem append_keep {W w1 : World} {D : Nat} {X : Nat → Prop} {B : Nat} {v v' : Value} {k : Nat} {xs : List Value} {o : Obj} (hrow : W.ownsRow B 3 1 v k xs) (hne : some B ≠ v.ownBlock) (hg : (W.alloc o).grownBy w1 v.ownBlock) (hB : X B) (hBD : B + 1 = D) :
    KeepO (waysK D X) W (w1.setCell ⟨B, 0, none⟩ v') := by
  refine (KeepO.of_grown (World.grownBy_alloc W o none) fun r e => by cases e).trans ((KeepO.of_grown hg fun r e o2 h2 hk => ?_).trans (KeepO.of_grown (grownBy_setCell' w1 B v') fun r e o2 h2 hk => ?_))
  · rcases (hrow.alloc o).2 with ⟨rfl, _⟩ | ⟨g, c, cur, rfl, hDg, hgb, _⟩
    · simp [Value.ownBlock] at e
    · obtain rfl : g = r := by simpa [Value.ownBlock] using e
      rw [hgb] at h2; cases h2
      have hgB : B ≠ g := fun e => hne (by rw [e]; rfl)
      rcases hk with hk | ⟨_, c', hc⟩
      · have := hk.1; omega
      · injection hc with _ hc; exact absurd hc (by decide)
  · cases e
    rcases hk with hk | ⟨hk, _⟩
    · exact hk.2.1 hB
    · omega
section
variable {n : Nat} (q : Nat → Ins) (at_ : Int)
set_option maxHeartbeats 2000000 in
set_option maxRecDepth 100000 in
theorem p_appendSeq (l : List Nat) (hl : l.length ≤ 2) (gf : Nat) (lb : Array Value) (eg : ∀ args w, (callFunc gf args).run Try.prog w = .ok (.enter gf args) w) (w : World)
    (hseq : ∀ V m, 1 ≤ m → Below w.heap.size w V → w.heap.size < V.heap.size → SeqL okN Fence.wide m Try.prog gf lb encP (KeepO (waysK V.heap.size (fun k => k = w.heap.size))) l V) :
    Calls Try.prog 38 #[.slice none 0 0, .func (.func gf) #[] lb] w fun e w' => ∃ A c, e = .returned (.slice A l.length c) ∧ IntsAt w' A l ∧ Below w.heap.size w w' := by
  refine (callsIn_wide (n := 8)).1 ?_
  refine callsIn_of_wp_marks Try.func38 rfl trivial ?_ rfl
  simp only [Try.ntmps38, List.size_toArray, List.length_cons, List.length_nil, Nat.reduceAdd, Nat.reduceSub, Array.replicate_succ, Array.replicate_zero, List.push_toArray, List.append_toArray, List.nil_append, List.cons_append]
  have HS := Lib.hid hseq
  clear hseq
  obtain ⟨i0, hi, hz0, hz1, hz2⟩ := info_parts info_int10
  gi_wp2
  have hV : (w.alloc (.cells #[.slice none 0 0] 23)).heap.size = w.heap.size + 1 := by simp
  have hB0 : Below w.heap.size w (w.alloc (.cells #[.slice none 0 0] 23)) := lbox10 w _
  have bS := Boxed.new w 23 (.slice none 0 0)
  have h0 : GatAt w w.heap.size [] (w.alloc (.cells #[.slice none 0 0] 23)) := ⟨⟨_, bS, World.ownsRow_nil _ _ _ _⟩, hB0⟩
  have HQ := HS.out (w.alloc (.cells #[.slice none 0 0] 23)) (8 - 1) (by decide) hB0 (by omega)
  rw [hV] at HQ
  refine rangeO10 okN okN_rest (K := waysK (w.heap.size + 1) (fun k => k = w.heap.size)) (a₁ := fun a x => var10 #[7] 5 (encP x) (.int .i64 (x : Int)) a) rfl (by decide) (gf := gf) (lb := lb) rfl trivial eg HQ (fun j r hj h => by cases waysK_cells j _ h (by omega)) (fun _ => rfl)
    (GatAt w w.heap.size) (gat_own w _ (by omega)) h0 ?assign ?body ?done
  case assign =>
    intro l2 x W k hk
    have HKK := Lib.hid hk
    clear hk
    gi_wp2
    exact HKK.out _ (by simp [encP])
  case body =>
    rintro l2 r pre x a' W rfl hl2 hr2 ⟨⟨v, hv, hrow⟩, hB⟩ hpre
    have hlt : pre.length < 2 := by have := hpre.length_le; rw [List.length_append] at this; simp at this; omega
    have hc := hv.cell
    have HROW := Lib.hid hrow
    have HV := Lib.hid hv
    have HBW := Lib.hid hB
    clear hrow hv hB hpre
    gi_wp2_with (gi_at_builtin; refine wpListIn_append_own _ rfl _ _ 23 rfl w.heap.size 3 i0 (.int .i64 0) 1 8 Try.underlying23 hi hz0 hz1 hz2 rfl (by decide) _ _ _ rfl (HROW.out.alloc _) ⟨W.heap.size, 0, none⟩ 1 1 [.int .i64 (x : Int)] rfl rfl (cell_one_new _ _ _) (by simp [Value.oneCell']) (by unfold maxLen; omega) (by omega) (by have := HBW.out.size; simp; omega) ?_; intro v' w1 hown' hgrow _; obtain ⟨g', cap', rfl⟩ := ownsRow_succ hown'; have HAP := Lib.hid (HV.out.appended (by decide) HROW.out HBW.out.size (Nat.le_refl _) hown' hgrow); have HK := Lib.hid (append_keep (X := fun k => k = w.heap.size) (v' := .slice (some ⟨g', 0, none⟩) (pre.length + 1) cap') HROW.out (HV.out.not_row (by decide) HROW.out) hgrow rfl rfl); have hc1 := HAP.out.1.cell; have hf1 := HAP.out.1.frozen; clear hown' hgrow)
    obtain ⟨_, hv2, hr2, hk2, hb2⟩ := HAP.out
    exact ⟨hk2.from _, HK.out, ⟨_, hv2, by rw [List.length_append, intL_snoc]; exact hr2⟩, HBW.out.trans hb2⟩
  case done =>
    rintro W ⟨⟨v, hv, hrow⟩, hB⟩ hK
    have hc := hv.cell
    have HROW := Lib.hid hrow
    have HBW := Lib.hid hB
    have HKD := Lib.hid hK
    clear hrow hB hK
    obtain ⟨A, c, rfl⟩ := own_form10 HROW.out
    gi_wp2
    refine ⟨by simp, .inl ⟨_, _, rfl, run_takeDeferred HKD.out, ?_⟩⟩
    exact ⟨_, results_tmp rfl _ _ _, A, c, rfl, own_ints (ownsRow_putObj HROW.out _ HKD.out rfl), HBW.out.trans (belowK_b (w := w) (Nat.le_refl _) W _ _ _ (by omega) HKD.out rfl rfl)⟩
theorem p_collect (l : List Nat) (hl : l.length ≤ 2) (gf : Nat) (lb : Array Value) (eg : ∀ args w, (callFunc gf args).run Try.prog w = .ok (.enter gf args) w) (w : World)
    (hseq : ∀ V m, 1 ≤ m → Below w.heap.size w V → w.heap.size < V.heap.size → SeqL okN Fence.wide m Try.prog gf lb encP (KeepO (waysK V.heap.size (fun k => k = w.heap.size))) l V) :
    Calls Try.prog 25 #[.func (.func gf) #[] lb] w fun e w' => ∃ A c, e = .returned (.slice A l.length c) ∧ IntsAt w' A l ∧ Below w.heap.size w w' := by
  have HA := Lib.hid (p_appendSeq l hl gf lb eg w hseq)
  clear hseq eg
  go_enter Try.func25, Try.ntmps25
  go_wp2_with (go_at_call 38; (with_reducible refine HA.out.mono ?_); rintro e w1 ⟨A1, c1, rfl, h⟩; have H1 := Lib.hid h; clear h)
  go_ret
  exact ⟨_, _, rfl, H1.out⟩
end
/-- What stands behind the program's ways: its two boxes. -/
theorem ways_at {w : World} {A : Option Addr} {n : Nat} (cap : Nat) {q : Nat → Ins} (h : ProgAt w A n q) (hok : ∀ i, i < n → (q i).OK) (hn : n ≤ 17592186044416) (at_ : Int) {V : World} {D : Nat} (X : Nat → Prop)
    (hb : Below (w.heap.size + 2) ((w.alloc (.cells #[.slice A n cap] 22)).alloc (.cells #[.int .i64 at_] 3)) V) (hD : D ≤ V.heap.size) (hD2 : w.heap.size + 2 ≤ D) (hX : ¬ X w.heap.size ∧ ¬ X (w.heap.size + 1)) (ok : Obj → Bool) (m : Nat) (hm : 1 ≤ m) :
    SeqL ok Fence.wide m Try.prog 39 #[.pointer (some ⟨w.heap.size + 1, 0, none⟩), .pointer (some ⟨w.heap.size, 0, none⟩)] encP (KeepO (waysK D X)) (nextZ q n at_) V := by
  have b0 := Boxed.new w 22 (.slice A n cap)
  have b1 := Boxed.new (w.alloc (.cells #[.slice A n cap] 22)) 3 (.int .i64 at_)
  rw [World.size_alloc] at b1
  have b2 := b0.alloc (.cells #[.int .i64 at_] 3)
  have hw : Below w.heap.size w V := ((lbox10 w _).trans ((lbox10 (w.alloc _) _).mono (by simp))).trans (hb.mono (by omega))
  exact ways_stops A n cap q D X w.heap.size (w.heap.size + 1) hn hok at_ ok m hm V hD ⟨(hb.block _ (by omega)).trans b2, (hb.block _ (by omega)).trans b1, ⟨by omega, hX.1⟩, ⟨by omega, hX.2⟩⟩ (h.below hw)
theorem p_Next10 {w : World} {A : Option Addr} {n : Nat} (cap : Nat) {q : Nat → Ins} (h : ProgAt w A n q) (hok : ∀ i, i < n → (q i).OK) (hn : n ≤ 17592186044416) (at_ : Int) :
    Calls Try.prog 10 #[.slice A n cap, .int .i64 at_] w fun e w' => ∃ A' c, e = .returned (.slice A' (nextZ q n at_).length c) ∧ IntsAt w' A' (nextZ q n at_) ∧ Below w.heap.size w w' := by
  have hlen : (nextZ q n at_).length ≤ 2 := by
    unfold nextZ
    split
    · exact next_len _
    · exact Nat.zero_le _
  have HC := Lib.hid (p_collect (nextZ q n at_) hlen 39 #[.pointer (some ⟨w.heap.size + 1, 0, none⟩), .pointer (some ⟨w.heap.size, 0, none⟩)] (enters_of Try.func39 (by kernel_rfl) rfl) ((w.alloc (.cells #[.slice A n cap] 22)).alloc (.cells #[.int .i64 at_] 3))
    (fun V m hm hb hlt => ways_at cap h hok hn at_ _ (hb.mono (by simp)) (Nat.le_refl _) (by simp at hlt; omega) ⟨by simp; omega, by simp⟩ okN m hm))
  have HB : Hid (Below w.heap.size w ((w.alloc (.cells #[.slice A n cap] 22)).alloc (.cells #[.int .i64 at_] 3))) := Lib.hid ((lbox10 w _).trans ((lbox10 (w.alloc _) _).mono (by simp)))
  generalize nextZ q n at_ = l at HC ⊢
  clear h hok hlen hn
  go_enter Try.func10, Try.ntmps10
  go_wp2_with (first
    | (go_at_call 26; (with_reducible refine (p_ways A n cap at_ _).mono ?_); rintro e w1 ⟨rfl, rfl⟩)
    | (go_at_call 25; (with_reducible refine HC.out.mono ?_); rintro e w2 ⟨A2, c2, rfl, h1, h2⟩; have H2 := Lib.hid (And.intro h1 (HB.out.trans (h2.mono HB.out.size))); clear h1 h2))
  go_ret
  exact ⟨_, _, rfl, H2.out⟩
end Go.Proofs.Ytaphbcjehcnggaa
namespace Go.Proofs.Ytaphbcjehcnggaa
open Go Go.RowKit Go.Shelf
attribute [local go_sem] Oper.semAt_some
set_option linter.unusedSimpArgs false
set_option linter.unusedVariables false
set_option linter.unusedSectionVars false

theorem p_comeTo (A : Option Addr) (n cap : Nat) (w : World) : Calls Try.prog 30 #[.slice A n cap] w fun e w' =>
    e = .returned (.func (.func 42) #[] #[.pointer (some ⟨w.heap.size, 0, none⟩)]) ∧ w' = w.alloc (.cells #[.slice A n cap] 22) := by
  go_enter Try.func30, Try.ntmps30
  go_wp2
  go_ret
  exact ⟨rfl, rfl⟩
/-- What such a loop's function may turn: what is no cells, and bools. -/
def okB (o : Obj) : Bool := match o with
  | .cells _ t _ => decide (t = 4)
  | _ => true
theorem okB_rest (o : Obj) (h : o.isCells = false) : okB o = true := by
  cases o <;> first | rfl | cases h
theorem okB_bool (c : Array Value) : okB (.cells c 4 (0, 0)) = true := by simp [okB]
/-- What a round keeps: cells below D but for X; and, at or beyond D, bools, slices of bools in boxes, and marks. -/
def comeK (D : Nat) (X : Nat → Prop) (k : Nat) (o : Obj) : Prop :=
  (k < D ∧ ¬ X k ∧ o.isCells = true) ∨ (D ≤ k ∧ ((∃ c, o = .cells c 4 (0, 0)) ∨ (∃ c, o = .cells c 30 (0, 0)) ∨ ∃ d, o = .deferred d))
theorem comeK_loop {D : Nat} {X : Nat → Prop} (j : Nat) (r : Loop) : ¬ comeK D X j (.loop r) := fun h => by
  rcases h with ⟨_, _, h⟩ | ⟨_, (⟨_, h⟩ | ⟨_, h⟩ | ⟨_, h⟩)⟩ <;> cases h
theorem prog_keep10 {K : Nat → Obj → Prop} {W W' : World} {A : Option Addr} {n : Nat} {q : Nat → Ins} (h : ProgAt W A n q) (hk : KeepO K W W') (hA : ∀ b o, A = some ⟨b, o, none⟩ → ∀ ob : Obj, ob.isCells = true → K b ob) : ProgAt W' A n q := fun hn => by
  obtain ⟨qb, qo, rfl, hl, hc⟩ := h hn
  obtain ⟨ob, ho, hob⟩ := cells_of_cell (hc 0 hn).1
  have e : W'.heap[qb]? = W.heap[qb]? := (hk.same qb ob ho (hA qb qo rfl ob hob)).trans (show W.heap[qb]? = some ob from ho).symm
  refine ⟨qb, qo, rfl, Nat.lt_of_lt_of_le hl hk.size, fun i hi => ?_⟩
  obtain ⟨x0, x1, x2, x3⟩ := hc i hi
  exact ⟨(World.cell?_of_block e).trans x0, (World.cell?_of_block e).trans x1, (World.cell?_of_block e).trans x2, (World.cell?_of_block e).trans x3⟩
/-- The places that can be come to, up to one. -/
def comeN (q : Nat → Ins) (n k : Nat) : List Nat := (List.range k).filter fun i => reachF q n i
def comeF (q : Nat → Ins) (n : Nat) : List Nat := comeN q n n
theorem come_on (q : Nat → Ins) (n k : Nat) : comeN q n (k + 1) = comeN q n k ++ (if reachF q n k = true then [k] else []) := by
  unfold comeN
  rw [List.range_succ, List.filter_append]
  congr 1
  by_cases h : reachF q n k = true
  · rw [if_pos h, List.filter_cons, if_pos h]; rfl
  · rw [if_neg h, List.filter_cons, if_neg h]; rfl
theorem come_len (q : Nat → Ins) (n k : Nat) : (comeN q n k).length ≤ k := by
  unfold comeN
  refine Nat.le_trans (List.length_filter_le _ _) ?_
  rw [List.length_range]; exact Nat.le_refl _
theorem come_pre {q : Nat → Ins} {n k m : Nat} (h : k ≤ m) : comeN q n k <+: comeN q n m := by
  obtain ⟨d, rfl⟩ := Nat.le.dest h
  clear h
  induction d with
  | zero => exact List.prefix_refl _
  | succ d ih => rw [← Nat.add_assoc, come_on]; exact ih.trans (List.prefix_append _ _)
theorem grown_on {V X Y : World} {g : Nat} {row : Option Nat} (h : V.grownBy X (some g)) (k : X.grownBy Y row) (hr : ∀ r, row = some r → V.heap.size ≤ r ∨ r = g) : V.grownBy Y (some g) :=
  ⟨k.os.trans h.os, k.tape.trans h.tape, k.output.trans h.output, Nat.le_trans h.size k.size, fun j hj hne => by
    rw [k.block j (Nat.lt_of_lt_of_le hj h.size) (fun e => ?_), h.block j hj hne]
    rcases hr j e.symm with g | g
    · omega
    · exact hne (by rw [g])⟩
theorem row_grown10 {X Y : World} {b : Nat} {t : TypeId} {n : Nat} {f : Nat → Value} {row : Option Nat} (h : X.rowIs b t n f) (hg : X.grownBy Y row) (hr : ∀ r, row = some r → ∃ o : Obj, X.heap[r]? = some o ∧ o.isCells = false) : Y.rowIs b t n f := by
  obtain ⟨c, h1, h2, h3⟩ := h
  refine ⟨c, (hg.block b (Array.getElem?_eq_some_iff.1 h1).1 fun e => ?_).trans h1, h2, h3⟩
  obtain ⟨o, ho, hc⟩ := hr b e.symm
  rw [h1] at ho; cases ho; cases hc
theorem row_other10 {X Y : World} {b : Nat} {t : TypeId} {n : Nat} {f : Nat → Value} {row : Option Nat} (h : X.rowIs b t n f) (hg : X.grownBy Y row) (hr : some b ≠ row) : Y.rowIs b t n f := by
  obtain ⟨c, h1, h2, h3⟩ := h
  exact ⟨c, (hg.block b (Array.getElem?_eq_some_iff.1 h1).1 hr).trans h1, h2, h3⟩
/-- While the ways of one place are gone through: some of them have been marked. -/
structure MkAt (V : World) (R n : Nat) (q : Nat → Ins) (k : Nat) (pre : List Nat) (W : World) : Prop where
  row : BoolsAt W R n fun j => reachN q n k j || pre.contains j
  gr : V.grownBy W (some R)
theorem mk_own (V : World) (R n : Nat) (q : Nat → Ins) (k : Nat) : Abide okN V.heap.size (MkAt V R n q k) := fun pre X Y row h hg hr =>
  ⟨row_grown10 h.row hg fun r e => let ⟨_, o, h2, h3⟩ := hr r e; ⟨o, h2, okN_no h3⟩, grown_on h.gr hg fun r e => .inl (hr r e).1⟩
theorem MkAt.on {V : World} {R n : Nat} {q : Nat → Ins} {k : Nat} {pre : List Nat} {W : World} (h : MkAt V R n q k pre W) (x : Nat) : MkAt V R n q k (pre ++ [x]) (W.setCell ⟨R, x, none⟩ (.bool true)) :=
  ⟨(h.row.on x).congr fun j _ => by
      rw [Bool.eq_iff_iff]
      simp only [List.contains_append, List.contains_cons, List.contains_nil, Bool.or_eq_true, decide_eq_true_eq, beq_iff_eq, Bool.or_false]
      constructor
      · rintro ((h | h) | h)
        · exact .inl h
        · exact .inr (.inl h)
        · exact .inr (.inr h)
      · rintro (h | (h | h))
        · exact .inl (.inl h)
        · exact .inl (.inr h)
        · exact .inr h, grown_on h.gr (grown_set (World.grownBy.refl W (some R)) x _) fun r e => .inr (by cases e; rfl)⟩
/-- What stands between two rounds. -/
structure CmAt (A : Option Addr) (n cap : Nat) (q : Nat → Ins) (Bq R k : Nat) (Ds : List Nat) (W : World) : Prop where
  bx : Boxed W Bq 22 (.slice A n cap)
  prog : ProgAt W A n q
  hd : Boxed W (R + 1) 30 (.slice (some ⟨R, 0, none⟩) n n)
  row : BoolsAt W R n (reachN q n k)
  marks : Marks (R + 2) Ds W
section
variable {A : Option Addr} {n cap : Nat} {q : Nat → Ins} {D : Nat} {X : Nat → Prop} {Bq R k : Nat} {Ds : List Nat} {W W' : World}
theorem CmAt.keep (h : CmAt A n cap q Bq R k Ds W) (hk : KeepO (comeK D X) W W') (hB : Bq < D ∧ ¬ X Bq) (hA : ∀ b o, A = some ⟨b, o, none⟩ → b < D ∧ ¬ X b) (hR : D ≤ R) : CmAt A n cap q Bq R k Ds W' :=
  ⟨hk.box h.bx (.inl ⟨hB.1, hB.2, rfl⟩), prog_keep10 h.prog hk fun b o e ob ho => .inl ⟨(hA b o e).1, (hA b o e).2, ho⟩, hk.box h.hd (.inr ⟨by omega, .inr (.inl ⟨_, rfl⟩)⟩),
   hk.row h.row fun c => .inr ⟨hR, .inl ⟨c, rfl⟩⟩, h.marks.on fun E hE ho => hk.same E _ ho (.inr ⟨by have := (h.marks.2 E hE).1; omega, .inr (.inr ⟨_, rfl⟩)⟩)⟩
theorem CmAt.big (h : CmAt A n cap q Bq R k Ds W) : R + 2 ≤ W.heap.size := h.hd.lt
theorem CmAt.grown (h : CmAt A n cap q Bq R k Ds W) (hg : W.grownBy W' (some R)) (hB : Bq < R) (hA : ∀ b o, A = some ⟨b, o, none⟩ → b < R) {f : Nat → Bool} (hr : BoolsAt W' R n f) (hf : ∀ j, j < n → f j = reachN q n (k + 1) j) {E : Nat} (hE : W.heap.size ≤ E) (hd : W'.heap[E]? = some (.deferred (some []))) :
    CmAt A n cap q Bq R (k + 1) (E :: Ds) W' :=
  ⟨h.bx.kept hg (by simp; omega), h.prog.grown hg (fun ad _ e => by obtain ⟨b, o, p⟩ := ad; obtain ⟨qb, qo, e2, _⟩ := h.prog ‹_›; rw [e2] at e; injection e with e; have := hA qb qo e2; injection e with e1; show b ≠ R; omega), h.hd.kept hg (by simp), hr.congr hf,
   (h.marks.on fun F hF ho => (hg.block F (h.marks.lt hF) (by have := (h.marks.2 F hF).1; simp; omega)).trans ho).cons (by have := h.big; omega) (fun hm => by have := h.marks.lt hm; omega) hd⟩
theorem CmAt.step (h : CmAt A n cap q Bq R k Ds W) (hr : reachN q n k k = false) : CmAt A n cap q Bq R (k + 1) Ds W := ⟨h.bx, h.prog, h.hd, h.row.congr fun j _ => reach_stay hr j, h.marks⟩
end
theorem come_all {q : Nat → Ins} {n k : Nat} (h : reachN q n k k = true) (j : Nat) : (reachN q n k j || (nextF10 q n k).contains j) = reachN q n (k + 1) j := by
  rw [reachN, h, Bool.true_and]
section
variable (A : Option Addr) (n cap : Nat) (q : Nat → Ins) (D : Nat) (X : Nat → Prop) (Bq : Nat) (h0 : 0 < n) (hn : n ≤ 4096) (hok : ∀ i, i < n → (q i).OK) (hB : Bq < D ∧ ¬ X Bq) (hA : ∀ b o, A = some ⟨b, o, none⟩ → b < D ∧ ¬ X b)
include h0 hn hok hB hA
set_option maxHeartbeats 4000000 in
set_option maxRecDepth 100000 in
theorem come1 (m : Nat) (hm : 4 ≤ m) (l : Nat) (J : List Nat → World → Prop) (W : World) (hJ : Abide okB W.heap.size J)
    (hY : ∀ pre x V, J pre V → pre ++ [x] <+: comeF q n → YieldAt Fence.wide (m - 1) Try.prog l (encP x) V fun e V' =>
      e = .returned (.bool true) ∧ J (pre ++ [x]) V' ∧ KeepO (comeK D X) V V')
    (hD : D ≤ W.heap.size) (hw : Boxed W Bq 22 (.slice A n cap)) (hq : ProgAt W A n q) (hj : J [] W) :
    CallsIn Fence.wide m Try.prog 42 #[.func (.yield l) #[] #[], .pointer (some ⟨Bq, 0, none⟩)] W fun e V => (∃ v, e = .returned v) ∧
      J (comeF q n) V := by
  obtain ⟨O, hmk, hO⟩ := make_zero 30 4 (.bool false) 1 Try.underlying30 info_bool10 rfl n (by omega) (by omega)
  have h1m : 1 ≤ m := by omega
  have h1m : 1 ≤ m := by omega
  have h1m : 1 ≤ m := by omega
  have h1m : 1 ≤ m := by omega
  refine callsIn_of_wp_marks Try.func42 rfl trivial ?_ rfl
  simp only [Try.ntmps42, List.size_toArray, List.length_cons, List.length_nil, Nat.reduceAdd, Nat.reduceSub, Array.replicate_succ, Array.replicate_zero, List.push_toArray, List.append_toArray, List.nil_append, List.cons_append]
  have c1 := hw.cell
  have HQ := Lib.hid (And.intro hw hq)
  have HJ := Lib.hid hj
  have HO := Lib.hid hO
  have x0 := ((hO W).cell h0)
  have f0 := ((hO W).frozen 0)
  have hlt0 : (0 : Int) < (n : Int) := by omega
  have hRW : W.heap.size = W.heap.size := rfl
  have hV : Hid (CmAt A n cap q Bq W.heap.size 0 [] (((W.alloc O).setCell ⟨W.heap.size, 0, none⟩ (.bool true)).alloc (.cells #[.slice (some ⟨W.heap.size, 0, none⟩) n n] 30)) ∧ J [] (((W.alloc O).setCell ⟨W.heap.size, 0, none⟩ (.bool true)).alloc (.cells #[.slice (some ⟨W.heap.size, 0, none⟩) n n] 30))) := Lib.hid (by
    have hb1 := (lbox10 W O).setCell (p := ⟨W.heap.size, 0, none⟩) (Nat.le_refl _) (.bool true)
    have hb2 := hb1.trans ((lbox10 ((W.alloc O).setCell ⟨W.heap.size, 0, none⟩ (.bool true)) (.cells #[.slice (some ⟨W.heap.size, 0, none⟩) n n] 30)).mono hb1.size)
    have hz : ((W.alloc O).setCell ⟨W.heap.size, 0, none⟩ (.bool true)).heap.size = W.heap.size + 1 := by simp [World.setCell]
    have hd := Boxed.new ((W.alloc O).setCell ⟨W.heap.size, 0, none⟩ (.bool true)) 30 (.slice (some ⟨W.heap.size, 0, none⟩) n n)
    rw [hz] at hd
    have hr : BoolsAt (W.alloc O) W.heap.size n (fun _ => false) := hO W
    refine ⟨⟨(hb2.block _ hw.lt).trans hw, hq.below hb2, hd, (((hr.on 0).below (lbox10 _ _)).congr fun j _ => by simp [reachN]), Marks.nil _ _⟩, hJ [] W _ none hj ⟨hb2.os, hb2.tape, hb2.output, hb2.size, fun k hk _ => hb2.block k hk⟩ (fun r e => by cases e)⟩)
  have c2 := hV.out.1.bx.cell
  clear hw hq hj hO hRW
  gi_wp2
  clear HQ HJ HO x0 f0 c2 hmk c1
  generalize ((W.alloc O).setCell ⟨W.heap.size, 0, none⟩ (.bool true)).alloc (.cells #[.slice (some ⟨W.heap.size, 0, none⟩) n n] 30) = V0 at hV ⊢
  generalize hR : W.heap.size = R at hV hJ hD ⊢
  clear hR
  have HV := Lib.hid hV.out
  clear hV
  refine wpIn_loop (fun a wr => ∃ (k : Nat) (Ds : List Nat) (u4 u14 u15 u16 u17 u18 u19 u20 u21 u22 u23 u28 u29 u30 u31 u32 : Value), a = { tmps := #[.func (.yield l) #[] #[], .pointer (some ⟨Bq, 0, none⟩), undef, .pointer (some ⟨R + 1, 0, none⟩), u4, undef, .slice A n cap, .int .i64 (n : Int), .slice (some ⟨R, 0, none⟩) n n, .slice (some ⟨R, 0, none⟩) n n, .pointer (some ⟨R, 0, none⟩), .slice A n cap, .int .i64 (n : Int), .int .i64 (k : Int), u14, u15, u16, u17, u18, u19, u20, u21, u22, u23, undef, undef, undef, undef, u28, u29, u30, u31, u32], defers := marksL Ds } ∧ k ≤ n ∧ CmAt A n cap q Bq R k Ds wr ∧ J (comeN q n k) wr) (fun a _ => n - (intOf (a.tmps.getD 13 undef)).toNat) ?start ?round
  case start => exact ⟨0, [], _, _, _, _, _, _, _, _, _, _, _, _, _, _, _, _, rfl, Nat.zero_le _, HV.out.1, HV.out.2⟩
  case round =>
    rintro a wr ⟨k, Ds, u4, u14, u15, u16, u17, u18, u19, u20, u21, u22, u23, u28, u29, u30, u31, u32, rfl, hk, hC, hJk⟩
    have HC := Lib.hid hC
    have HJ := Lib.hid hJk
    clear HV
    by_cases hlt : k < n
    · have hlt' : (k : Int) < (n : Int) := by omega
      have hw1 : IntKind.i64.wrap ((k : Int) + 1) = ((k + 1 : Nat) : Int) := by rw [IntWalk.i64_in _ (by omega)]; omega
      have hs := reach_self (q := q) (n := n) (m := k) (by omega)
      have hon := come_on q n k
      have y0 := hC.hd.cell
      have y1 := hC.row.cell hlt
      have y2 := hC.bx.cell
      clear hC hJk
      cases hr : reachN q n k k with
      | false =>
        rw [hr] at y1 hs
        rw [hs, if_neg (by decide), List.append_nil] at hon
        have HN := Lib.hid (And.intro hr hon)
        clear hr hs hon
        gi_wp2
        exact ⟨⟨k + 1, Ds, _, _, _, _, _, _, _, _, _, _, _, _, _, _, _, _, rfl, by omega, HC.out.step HN.out.1, by rw [HN.out.2]; exact HJ.out⟩, by simp [intOf]; omega⟩
      | true =>
        rw [hr] at y1 hs
        rw [hs, if_pos rfl] at hon
        have HN := Lib.hid (And.intro hr hon)
        clear hr hs hon
        gi_wp2_with (refine ⟨trivial, ?_⟩; gi_at_call 26; refine (callsIn_wide.2 (p_ways A n cap (k : Int) _)).mono ?_; rintro e w1 ⟨rfl, rfl⟩)
        have HS := Lib.hid (fun m' hm' => ways_at (w := wr) cap HC.out.prog hok (by omega) (k : Int) (V := ((wr.alloc (.cells #[.slice A n cap] 22)).alloc (.cells #[.int .i64 (k : Int)] 3))) (D := wr.heap.size + 2) (fun j => j = R) (Below.refl _ _) (by simp) (Nat.le_refl _) ⟨by have := HC.out.big; omega, by have := HC.out.big; omega⟩ okN m' hm')
        have hsz : ((wr.alloc (.cells #[.slice A n cap] 22)).alloc (.cells #[.int .i64 (k : Int)] 3)).heap.size = wr.heap.size + 2 := by simp
        have hbw : Below wr.heap.size wr ((wr.alloc (.cells #[.slice A n cap] 22)).alloc (.cells #[.int .i64 (k : Int)] 3)) := (lbox10 wr _).trans ((lbox10 (wr.alloc _) _).mono (by simp))
        have HBW := Lib.hid hbw
        have HK : Hid (MkAt ((wr.alloc (.cells #[.slice A n cap] 22)).alloc (.cells #[.int .i64 (k : Int)] 3)) R n q k [] ((wr.alloc (.cells #[.slice A n cap] 22)).alloc (.cells #[.int .i64 (k : Int)] 3))) := Lib.hid ⟨(HC.out.row.below hbw).congr fun j _ => by simp, World.grownBy.refl _ _⟩
        clear y0 y1 y2 hbw
        generalize (wr.alloc (.cells #[.slice A n cap] 22)).alloc (.cells #[.int .i64 (k : Int)] 3) = V at HS hsz HBW HK ⊢
        have HE := Lib.hid (next_z q n k)
        rw [next_z] at HS
        refine rangeO10 okN okN_rest (K := waysK (wr.heap.size + 2) (fun j => j = R)) (a₁ := fun a x => var10 #[24] 5 (encP x) (.int .i64 (x : Int)) a) rfl (by omega) (gf := 39) (lb := #[.pointer (some ⟨wr.heap.size + 1, 0, none⟩), .pointer (some ⟨wr.heap.size, 0, none⟩)]) rfl trivial (enters_of Try.func39 (by kernel_rfl) rfl)
          (HS.out (m - 1) (by omega)) (fun j r hj h => by cases waysK_cells j _ h (by omega)) (fun _ => rfl) (MkAt V R n q k) (mk_own V R n q k) HK.out ?assign ?body ?don
        case assign =>
          intro l2 x W2 kk hkk
          have HKK := Lib.hid hkk
          clear hkk
          gi_wp2
          exact HKK.out _ (by simp [encP])
        case body =>
          rintro l2 r2 pre x a' W2 rfl hl2 hr2 hI hpre
          have hx : x < n := (next_in (hpre.subset (by simp : x ∈ pre ++ [x]))).2.1
          have hx' : (x : Int) < (n : Int) := by omega
          have hd1 : Boxed V (R + 1) 30 (.slice (some ⟨R, 0, none⟩) n n) := (HBW.out.block _ HC.out.hd.lt).trans HC.out.hd
          have hd2 := hd1.kept hI.gr (by simp)
          have c3 := hd2.cell
          have c4 := hI.row.cell hx
          have c5 := hI.row.free x
          have HI := Lib.hid hI
          clear hI hd1 hd2
          gi_wp2
          have hg := grown_set (World.grownBy.refl W2 (some R)) x (.bool true)
          exact ⟨KeepsFrom.of_grownBy hg fun j e => (by cases e; have := HC.out.big; omega), KeepO.of_grown hg fun r e o _ hk => (by cases e; rcases hk with hk | hk; exact hk.2.1 rfl; have := HC.out.big; omega), HI.out.on x⟩
        case don =>
          rintro W2 hI hd
          have HCN : Hid (CmAt A n cap q Bq R (k + 1) (V.heap.size :: Ds) W2 ∧ J (comeN q n k) W2) := Lib.hid (by
            have hg : wr.grownBy W2 (some R) := ⟨hI.gr.os.trans HBW.out.os, hI.gr.tape.trans HBW.out.tape, hI.gr.output.trans HBW.out.output, Nat.le_trans HBW.out.size hI.gr.size, fun j hj hne => (hI.gr.block j (Nat.lt_of_lt_of_le hj HBW.out.size) hne).trans (HBW.out.block j hj)⟩
            obtain ⟨bc, hbc, _⟩ := HC.out.row
            exact ⟨HC.out.grown hg (by have := hB.1; omega) (fun b o e => by have := (hA b o e).1; omega) hI.row (fun j _ => come_all HN.out.1 j) HBW.out.size hd, hJ _ _ _ _ HJ.out hg fun r e => by cases e; exact ⟨Nat.le_refl _, _, hbc, okB_bool _⟩⟩)
          obtain ⟨fn, tmps, assign, body, hy, hR⟩ := hY (comeN q n k) k W2 HCN.out.2 (by rw [← HN.out.2]; exact come_pre (by omega))
          dsimp only [encP] at hy
          clear hI hd HS HK HBW hsz HE hY
          gi_wp2
          refine hR.mono ?_
          rintro e W3 ⟨rfl, hJ3, hk3⟩
          have HC3 := Lib.hid (HCN.out.1.keep hk3 hB hA hD)
          have HJ3 : Hid (J (comeN q n (k + 1)) W3) := Lib.hid (by rw [HN.out.2]; exact hJ3)
          clear hJ3 hk3 hy hR
          gi_wp2
          exact ⟨⟨k + 1, V.heap.size :: Ds, _, _, _, _, _, _, _, _, _, _, _, _, _, _, _, _, rfl, by omega, HC3.out, HJ3.out⟩, by simp [intOf]; omega⟩
    · obtain rfl : n = k := by omega
      have HX : Hid (J (comeF q n) wr) := Lib.hid HJ.out
      clear hC hJk
      gi_wp2
      refine marks_leave (B := R + 2) (T := J (comeF q n)) (fun Z E hZ hE ho => hJ.put hZ (by omega) ho rfl _) (fun Z hZ => ?_) Ds wr HC.out.marks HX.out
      exact ⟨_, results_none rfl _ _ _, ⟨_, rfl⟩, hZ⟩
theorem come_stops (m : Nat) (hm : 4 ≤ m) (w : World) (hD : D ≤ w.heap.size) (hw : Boxed w Bq 22 (.slice A n cap)) (hq : ProgAt w A n q) :
    SeqL okB Fence.wide m Try.prog 42 #[.pointer (some ⟨Bq, 0, none⟩)] encP (KeepO (comeK D X)) (comeF q n) w := fun l J W hb hJ hY hj =>
  come1 A n cap q D X Bq h0 hn hok hB hA m hm l J W hJ hY (Nat.le_trans hD hb.size) ((hb.block _ hw.lt).trans hw) (hq.below hb) hj
end
end Go.Proofs.Ytaphbcjehcnggaa
namespace Go.Proofs.Ytaphbcjehcnggaa
open Go Go.RowKit Go.Shelf
attribute [local go_sem] Oper.semAt_some
set_option linter.unusedSimpArgs false
set_option linter.unusedVariables false
set_option linter.unusedSectionVars false

theorem mem_come {q : Nat → Ins} {n k j : Nat} : j ∈ comeN q n k ↔ j < k ∧ reachF q n j = true := by
  unfold comeN
  rw [List.mem_filter, List.mem_range]
theorem come_has {q : Nat → Ins} {n j : Nat} (h : j < n) : (comeF q n).contains j = reachF q n j := by
  rw [Bool.eq_iff_iff, List.contains_iff_mem]
  exact mem_come.trans ⟨fun g => g.2, fun g => ⟨h, g⟩⟩
theorem last_in {α : Type} {pre : List α} {x : α} {l : List α} (h : pre ++ [x] <+: l) : x ∈ l := h.subset (by simp)
theorem p_accepted10 {w : World} {A : Option Addr} {n : Nat} (cap : Nat) {q : Nat → Ins} (h : ProgAt w A n q) (hok : ∀ i, i < n → (q i).OK) :
    Calls Try.prog 29 #[.slice A n cap] w fun e w' => e = .returned (.bool (decide (checkE q n = 0))) ∧ Below w.heap.size w w' := by
  have HC := Lib.hid (check_Check w A n cap q h hok)
  have hb : ((checkE q n : Int) == 0) = decide (checkE q n = 0) := by
    by_cases g : checkE q n = 0
    · rw [g]; rfl
    · rw [decide_eq_false g]; exact beq_false_of_ne (by simpa using g)
  have HB := Lib.hid hb
  clear h hok hb
  go_enter Try.func29, Try.ntmps29
  go_wp2_with (go_at_call 41; (with_reducible refine HC.out.mono ?_); rintro e w1 ⟨rfl, hb⟩; have H1 := Lib.hid hb; clear hb)
  go_ret
  exact ⟨rfl, H1.out⟩
theorem come_at {w : World} {A : Option Addr} {n : Nat} (cap : Nat) {q : Nat → Ins} (h : ProgAt w A n q) (hok : ∀ i, i < n → (q i).OK) (h0 : 0 < n) (hn : n ≤ 4096) {V : World} {D : Nat} (X : Nat → Prop)
    (hb : Below (w.heap.size + 1) (w.alloc (.cells #[.slice A n cap] 22)) V) (hD : D ≤ V.heap.size) (hD2 : w.heap.size + 1 ≤ D) (hX : ¬ X w.heap.size) (hA : ∀ b o, A = some ⟨b, o, none⟩ → ¬ X b) (m : Nat) (hm : 4 ≤ m) :
    SeqL okB Fence.wide m Try.prog 42 #[.pointer (some ⟨w.heap.size, 0, none⟩)] encP (KeepO (comeK D X)) (comeF q n) V := by
  have b0 := Boxed.new w 22 (.slice A n cap)
  have hw : Below w.heap.size w V := (lbox10 w _).trans (hb.mono (by omega))
  have hlt : ∀ b o, A = some ⟨b, o, none⟩ → b < D := fun b o e => by
    obtain ⟨qb, qo, e2, hl, _⟩ := h h0
    rw [e2] at e; injection e with e; injection e with e _; omega
  exact come_stops A n cap q D X w.heap.size h0 hn hok ⟨by omega, hX⟩ (fun b o e => ⟨hlt b o e, hA b o e⟩) m hm V hD ((hb.block _ (by omega)).trans b0) (h.below hw)
/-- Some places have been marked in a row of bools. -/
structure RmAt (V : World) (R n : Nat) (pre : List Nat) (W : World) : Prop where
  row : BoolsAt W R n fun j => pre.contains j
  gr : V.grownBy W (some R)
theorem rm_own (V : World) (R n : Nat) (hR : R < V.heap.size) : Abide okB V.heap.size (RmAt V R n) := fun pre X Y row h hg hr =>
  ⟨row_other10 h.row hg fun e => by have := (hr R e.symm).1; omega, grown_on h.gr hg fun r e => .inl (hr r e).1⟩
theorem RmAt.on {V : World} {R n : Nat} {pre : List Nat} {W : World} (h : RmAt V R n pre W) (x : Nat) : RmAt V R n (pre ++ [x]) (W.setCell ⟨R, x, none⟩ (.bool true)) :=
  ⟨(h.row.on x).congr fun j _ => by
      rw [Bool.eq_iff_iff]
      simp only [List.contains_append, List.contains_cons, List.contains_nil, Bool.or_eq_true, decide_eq_true_eq, beq_iff_eq, Bool.or_false],
   grown_on h.gr (grown_set (World.grownBy.refl W (some R)) x _) fun r e => .inr (by cases e; rfl)⟩
section
variable {w : World} {A : Option Addr} {n : Nat} (cap : Nat) {q : Nat → Ins} (h : ProgAt w A n q) (hok : ∀ i, i < n → (q i).OK) (hn : n ≤ 17592186044416)
include h hok hn
set_option maxHeartbeats 4000000 in
set_option maxRecDepth 100000 in
theorem reach_yes (hE : checkE q n = 0) : Calls Try.prog 14 #[.slice A n cap] w fun e w' => ∃ A', e = .returned (.tuple #[.slice A' n n, .int .i64 0]) ∧ (Holds w' A' n fun i => .bool (reachF q n i)) ∧ Below w.heap.size w w' := by
  have hac := check_is.1 hE
  have hpos := hac.pos
  have hmax := hac.max
  have HA := Lib.hid (p_accepted10 cap h hok)
  rw [decide_eq_true hE] at HA
  have HP := Lib.hid (And.intro h hok)
  obtain ⟨O, hmk, hO⟩ := make_zero 30 4 (.bool false) 1 Try.underlying30 info_bool10 rfl n (by omega) (by omega)
  have HO := Lib.hid hO
  clear h hok hO hac hE
  refine (callsIn_wide (n := 12)).1 ?_
  refine callsIn_of_wp_marks Try.func14 rfl trivial ?_ rfl
  simp only [Try.ntmps14, List.size_toArray, List.length_cons, List.length_nil, Nat.reduceAdd, Nat.reduceSub, Array.replicate_succ, Array.replicate_zero, List.push_toArray, List.append_toArray, List.nil_append, List.cons_append]
  gi_wp2_with (first
    | (refine ⟨trivial, ?_⟩; gi_at_call 30; refine (callsIn_wide.2 (p_comeTo A n cap _)).mono ?_; rintro e wc ⟨rfl, rfl⟩)
    | (refine ⟨trivial, ?_⟩; gi_at_call 29; refine (callsIn_wide.2 HA.out).mono ?_; rintro e U ⟨rfl, hb⟩; have HU := Lib.hid hb; clear hb))
  have hV0 : Hid (Below U.heap.size U ((U.alloc O).alloc (.cells #[.slice (some ⟨U.heap.size, 0, none⟩) n n] 30)) ∧ Boxed ((U.alloc O).alloc (.cells #[.slice (some ⟨U.heap.size, 0, none⟩) n n] 30)) (U.heap.size + 1) 30 (.slice (some ⟨U.heap.size, 0, none⟩) n n) ∧ BoolsAt ((U.alloc O).alloc (.cells #[.slice (some ⟨U.heap.size, 0, none⟩) n n] 30)) U.heap.size n (fun _ => false) ∧ ((U.alloc O).alloc (.cells #[.slice (some ⟨U.heap.size, 0, none⟩) n n] 30)).heap.size = U.heap.size + 2) := Lib.hid (by
    have hd := Boxed.new (U.alloc O) 30 (.slice (some ⟨U.heap.size, 0, none⟩) n n)
    rw [World.size_alloc] at hd
    have hr : BoolsAt (U.alloc O) U.heap.size n (fun _ => false) := HO.out U
    exact ⟨(lbox10 U _).trans ((lbox10 (U.alloc O) _).mono (by simp)), hd, hr.below (lbox10 _ _), by simp⟩)
  generalize (U.alloc O).alloc (.cells #[.slice (some ⟨U.heap.size, 0, none⟩) n n] 30) = V0 at hV0 ⊢
  obtain ⟨R, hR⟩ : ∃ R, R = U.heap.size := ⟨_, rfl⟩
  rw [← hR] at hV0 ⊢
  have HV0 := Lib.hid hV0.out
  have HRR := Lib.hid hR
  clear hV0 hR HO hmk
  have HPV : Hid (ProgAt V0 A n q ∧ Below w.heap.size w V0 ∧ ∀ b o, A = some ⟨b, o, none⟩ → b < w.heap.size) := Lib.hid (by
    have hb : Below w.heap.size w V0 := HU.out.trans (HV0.out.1.mono (by rw [HRR.out]; exact HU.out.size))
    refine ⟨HP.out.1.below hb, hb, fun b o e => ?_⟩
    obtain ⟨qb, qo, e2, hl, _⟩ := HP.out.1 hpos
    rw [e2] at e; injection e with e; injection e with e _; omega)
  have hz : V0.heap.size = R + 2 := HV0.out.2.2.2
  have hwR : w.heap.size ≤ R := by rw [HRR.out]; exact HU.out.size
  have HS := Lib.hid (fun m hm => come_at cap HPV.out.1 HP.out.2 hpos hmax (V := V0.alloc (.cells #[.slice A n cap] 22)) (D := R + 3) (fun j => j = R) (Below.refl _ _) (by simp; omega) (by omega) (by omega) (fun b o e => by have := HPV.out.2.2 b o e; omega) m hm)
  have HI : Hid (RmAt (V0.alloc (.cells #[.slice A n cap] 22)) R n [] (V0.alloc (.cells #[.slice A n cap] 22)) ∧ Boxed (V0.alloc (.cells #[.slice A n cap] 22)) (R + 1) 30 (.slice (some ⟨R, 0, none⟩) n n) ∧ Below w.heap.size w (V0.alloc (.cells #[.slice A n cap] 22)) ∧ (V0.alloc (.cells #[.slice A n cap] 22)).heap.size = R + 3) := Lib.hid
    ⟨⟨(HV0.out.2.2.1.below (lbox10 _ _)).congr fun j _ => by simp, World.grownBy.refl _ _⟩, HV0.out.2.1.alloc _, HPV.out.2.1.trans ((lbox10 V0 _).mono HPV.out.2.1.size), by simp; omega⟩
  rw [hz] at HS
  generalize V0.alloc (.cells #[.slice A n cap] 22) = V at HS HI ⊢
  have hVz : V.heap.size = R + 3 := HI.out.2.2.2
  clear HPV HV0 HRR HU HA hz
  refine rangeO10 okB okB_rest (K := comeK (R + 3) (fun j => j = R)) (a₁ := fun a x => var10 #[14] 5 (encP x) (.int .i64 (x : Int)) a) rfl (by decide) (gf := 42) (lb := #[.pointer (some ⟨R + 2, 0, none⟩)]) rfl trivial (enters_of Try.func42 (by kernel_rfl) rfl)
    (HS.out (12 - 1) (by decide)) (fun j r hj h => comeK_loop j r h) (fun _ => rfl) (RmAt V R n) (rm_own V R n (by omega)) HI.out.1 ?assign ?body ?don
  case assign =>
    intro l2 x W2 kk hkk
    have HKK := Lib.hid hkk
    clear hkk
    gi_wp2
    exact HKK.out _ (by simp [encP])
  case body =>
    rintro l2 r2 pre x a' W2 rfl hl2 hr2 hI hpre
    have hx : x < n := (mem_come.1 (last_in hpre)).1
    have hx' : (x : Int) < (n : Int) := by omega
    have hd2 := HI.out.2.1.kept hI.gr (by simp)
    have c3 := hd2.cell
    have c4 := hI.row.cell hx
    have c5 := hI.row.free x
    have HI2 := Lib.hid hI
    clear hI hd2 hpre
    gi_wp2
    have hg := grown_set (World.grownBy.refl W2 (some R)) x (.bool true)
    exact ⟨KeepsFrom.of_grownBy hg fun j e => (by cases e; omega), KeepO.of_grown hg fun r e o _ hk => (by cases e; rcases hk with hk | hk; exact hk.2.1 rfl; have := hk.1; omega), HI2.out.on x⟩
  case don =>
    rintro W2 hI hd
    have hd2 := HI.out.2.1.kept hI.gr (by simp)
    have c3 := hd2.cell
    have HI2 := Lib.hid hI
    have HD := Lib.hid hd
    clear hI hd hd2
    gi_wp2
    refine ⟨by simp, .inl ⟨_, _, rfl, run_takeDeferred HD.out, ?_⟩⟩
    refine ⟨_, results_tmp2 rfl _ _ _, _, rfl, ?_, ?_⟩
    · have hr := row_grown10 HI2.out.row (grownBy_putObj' W2 V.heap.size (.deferred none)) fun r e => by cases e; exact ⟨_, HD.out, rfl⟩
      exact holds_of_row (World.rowIs.congr hr fun j hj => congrArg Value.bool (come_has hj)) (Nat.le_refl _)
    · exact (HI.out.2.2.1.grown HI2.out.gr HI.out.2.2.1.size (fun k e => by cases e; omega)).trans ((belowK_b (w := V) (n₀ := w.heap.size) (by omega) W2 _ _ _ (Nat.le_refl _) HD.out rfl rfl))
theorem p_Reach10 : Calls Try.prog 14 #[.slice A n cap] w fun e w' => ∃ A' m c E, e = .returned (.tuple #[.slice A' m c, .int .i64 E]) ∧ ((checkE q n = 0 ∧ E = 0 ∧ m = n ∧ Holds w' A' n fun i => .bool (reachF q n i)) ∨ (checkE q n ≠ 0 ∧ E = 1 ∧ m = 0)) ∧ Below w.heap.size w w' := by
  by_cases hE : checkE q n = 0
  · refine (reach_yes cap h hok hn hE).mono ?_
    rintro e w' ⟨A', rfl, h1, h2⟩
    exact ⟨_, _, _, _, rfl, .inl ⟨hE, rfl, rfl, h1⟩, h2⟩
  · have HA := Lib.hid (p_accepted10 cap h hok)
    rw [decide_eq_false hE] at HA
    have H0 := Lib.hid hE
    clear h hok hE
    go_enter Try.func14, Try.ntmps14
    go_wp2_with (go_at_call 29; (with_reducible refine HA.out.mono ?_); rintro e w1 ⟨rfl, hb⟩; have H1 := Lib.hid hb; clear hb)
    go_ret2
    exact ⟨_, _, _, _, rfl, .inr ⟨H0.out, rfl, rfl⟩, H1.out⟩
end
end Go.Proofs.Ytaphbcjehcnggaa
namespace Go.Proofs.Ytaphbcjehcnggaa
open Go Go.RowKit Go.Shelf
attribute [local go_sem] Oper.semAt_some
set_option linter.unusedSimpArgs false
set_option linter.unusedVariables false
set_option linter.unusedSectionVars false

/-- How many of some places lead to one. -/
def eL (q : Nat → Ins) (n : Nat) (pre : List Nat) (j : Nat) : Nat := (pre.filter fun i => decide (j ∈ nextF10 q n i)).length
theorem eL_snoc (q : Nat → Ins) (n : Nat) (pre : List Nat) (x j : Nat) : eL q n (pre ++ [x]) j = eL q n pre j + (if j ∈ nextF10 q n x then 1 else 0) := by
  unfold eL
  rw [List.filter_append, List.length_append]
  congr 1
  by_cases h : j ∈ nextF10 q n x
  · rw [if_pos h, List.filter_cons, if_pos (by simpa using h)]; rfl
  · rw [if_neg h, List.filter_cons, if_neg (by simpa using h)]; rfl
theorem eL_le (q : Nat → Ins) (n : Nat) (pre : List Nat) (j : Nat) : eL q n pre j ≤ pre.length := List.length_filter_le _ _
theorem eL_come (q : Nat → Ins) (n : Nat) (j : Nat) : ∀ k, eL q n (comeN q n k) j = intoN q n k j
  | 0 => rfl
  | k + 1 => by
    rw [come_on, intoN, ← eL_come q n j k]
    by_cases h : reachF q n k = true
    · rw [if_pos h, eL_snoc]
      by_cases g : j ∈ nextF10 q n k
      · rw [if_pos g, if_pos ⟨h, g⟩]
      · rw [if_neg g, if_neg fun e => g e.2]
    · rw [if_neg h, List.append_nil, if_neg fun e => h e.1]; rfl
/-- The counts, some of one place's ways having been counted. -/
def eM (q : Nat → Ins) (n : Nat) (pre pre2 : List Nat) (j : Nat) : Nat := eL q n pre j + (if j ∈ pre2 then 1 else 0)
theorem eM_on {q : Nat → Ins} {n : Nat} {pre pre2 : List Nat} {x : Nat} (h : x ∉ pre2) (j : Nat) : (if j = x then eM q n pre pre2 x + 1 else eM q n pre pre2 j) = eM q n pre (pre2 ++ [x]) j := by
  unfold eM
  by_cases e : j = x
  · subst e
    rw [if_pos rfl, if_neg h, if_pos (by simp)]
  · rw [if_neg e]
    congr 1
    by_cases g : j ∈ pre2
    · rw [if_pos g, if_pos (by simp [g])]
    · rw [if_neg g, if_neg (by simp [g, e])]
structure EnAt (V : World) (R n : Nat) (f : Nat → Nat) (W : World) : Prop where
  row : NumsAt W R n f
  gr : V.grownBy W (some R)
theorem en_own {β : Type} (V : World) (R n : Nat) (hR : R < V.heap.size) (ok : Obj → Bool) (f : β → Nat → Nat) : Abide ok V.heap.size (fun pre W => EnAt V R n (f pre) W) := fun pre X Y row h hg hr =>
  ⟨row_other10 h.row hg fun e => by have := (hr R e.symm).1; omega, grown_on h.gr hg fun r e => .inl (hr r e).1⟩
theorem EnAt.set {V : World} {R n : Nat} {f : Nat → Nat} {W : World} (h : EnAt V R n f W) (k x : Nat) : EnAt V R n (fun j => if j = k then x else f j) (W.setCell ⟨R, k, none⟩ (.int .i64 ((x : Nat) : Int))) :=
  ⟨h.row.set k x, grown_on h.gr (grown_set (World.grownBy.refl W (some R)) k _) fun r e => .inr (by cases e; rfl)⟩
section
variable {w : World} {A : Option Addr} {n : Nat} (cap : Nat) {q : Nat → Ins} (h : ProgAt w A n q) (hok : ∀ i, i < n → (q i).OK) (h0 : 0 < n) (hn : n ≤ 4096)
include h hok h0 hn
set_option maxHeartbeats 4000000 in
set_option maxRecDepth 100000 in
theorem p_entriesOf : Calls Try.prog 43 #[.slice A n cap] w fun e w' => ∃ R, e = .returned (.slice (some ⟨R, 0, none⟩) n n) ∧ NumsAt w' R n (fun j => intoN q n n j) ∧ w.heap.size ≤ R ∧ Below w.heap.size w w' := by
  have HP := Lib.hid (And.intro h hok)
  obtain ⟨O, hmk, hO⟩ := make_zero 23 3 (.int .i64 0) 8 Try.underlying23 info_int10 rfl n (by omega) (by omega)
  have hV0 : Hid (Below w.heap.size w (((w.alloc (.cells #[.slice A n cap] 22)).alloc O).alloc (.cells #[.slice (some ⟨w.heap.size + 1, 0, none⟩) n n] 23)) ∧ Boxed (((w.alloc (.cells #[.slice A n cap] 22)).alloc O).alloc (.cells #[.slice (some ⟨w.heap.size + 1, 0, none⟩) n n] 23)) (w.heap.size + 2) 23 (.slice (some ⟨w.heap.size + 1, 0, none⟩) n n)
      ∧ Boxed (((w.alloc (.cells #[.slice A n cap] 22)).alloc O).alloc (.cells #[.slice (some ⟨w.heap.size + 1, 0, none⟩) n n] 23)) w.heap.size 22 (.slice A n cap)
      ∧ NumsAt (((w.alloc (.cells #[.slice A n cap] 22)).alloc O).alloc (.cells #[.slice (some ⟨w.heap.size + 1, 0, none⟩) n n] 23)) (w.heap.size + 1) n (fun _ => 0) ∧ (((w.alloc (.cells #[.slice A n cap] 22)).alloc O).alloc (.cells #[.slice (some ⟨w.heap.size + 1, 0, none⟩) n n] 23)).heap.size = w.heap.size + 3) := Lib.hid (by
    have hd := Boxed.new ((w.alloc (.cells #[.slice A n cap] 22)).alloc O) 23 (.slice (some ⟨w.heap.size + 1, 0, none⟩) n n)
    simp only [World.size_alloc] at hd
    have hq := ((Boxed.new w 22 (.slice A n cap)).alloc O).alloc (.cells #[.slice (some ⟨w.heap.size + 1, 0, none⟩) n n] 23)
    have hr : NumsAt ((w.alloc (.cells #[.slice A n cap] 22)).alloc O) (w.heap.size + 1) n (fun _ => 0) := by have := hO (w.alloc (.cells #[.slice A n cap] 22)); rwa [World.size_alloc] at this
    exact ⟨(lbox10 w _).trans (((lbox10 (w.alloc _) O).trans ((lbox10 ((w.alloc _).alloc O) _).mono (by simp))).mono (by simp)), hd, hq, hr.below (lbox10 _ _), by simp⟩)
  have c1 := (Boxed.new w 22 (.slice A n cap)).cell
  have c2 := hV0.out.2.2.1.cell
  clear h hok hO
  refine (callsIn_wide (n := 16)).1 ?_
  refine callsIn_of_wp_marks Try.func43 rfl trivial ?_ rfl
  simp only [Try.ntmps43, List.size_toArray, List.length_cons, List.length_nil, Nat.reduceAdd, Nat.reduceSub, Array.replicate_succ, Array.replicate_zero, List.push_toArray, List.append_toArray, List.nil_append, List.cons_append]
  gi_wp2_with (first
    | (refine ⟨trivial, ?_⟩; gi_at_call 30; refine (callsIn_wide.2 (p_comeTo A n cap _)).mono ?_; rintro e wc ⟨rfl, rfl⟩))
  generalize ((w.alloc (.cells #[.slice A n cap] 22)).alloc O).alloc (.cells #[.slice (some ⟨w.heap.size + 1, 0, none⟩) n n] 23) = V0 at hV0 ⊢
  obtain ⟨B, hB⟩ : ∃ B, B = w.heap.size := ⟨_, rfl⟩
  have HV0 := Lib.hid hV0.out
  have HPV : Hid (ProgAt V0 A n q ∧ Below w.heap.size w V0 ∧ ∀ b o, A = some ⟨b, o, none⟩ → b < w.heap.size) := Lib.hid (by
    refine ⟨HP.out.1.below hV0.out.1, hV0.out.1, fun b o e => ?_⟩
    obtain ⟨qb, qo, e2, hl, _⟩ := HP.out.1 h0
    rw [e2] at e; injection e with e; injection e with e _; omega)
  clear hV0 hmk c1 c2
  have hz : V0.heap.size = w.heap.size + 3 := HV0.out.2.2.2.2
  have HS := Lib.hid (fun m hm => come_at cap HPV.out.1 HP.out.2 h0 hn (V := V0.alloc (.cells #[.slice A n cap] 22)) (D := w.heap.size + 4) (fun j => j = w.heap.size + 1) (Below.refl _ _) (by simp; omega) (by omega) (by omega) (fun b o e => by have := HPV.out.2.2 b o e; omega) m hm)
  rw [hz] at HS
  have HI : Hid (EnAt (V0.alloc (.cells #[.slice A n cap] 22)) (w.heap.size + 1) n (eL q n []) (V0.alloc (.cells #[.slice A n cap] 22)) ∧ Boxed (V0.alloc (.cells #[.slice A n cap] 22)) (w.heap.size + 2) 23 (.slice (some ⟨w.heap.size + 1, 0, none⟩) n n) ∧ Boxed (V0.alloc (.cells #[.slice A n cap] 22)) w.heap.size 22 (.slice A n cap) ∧ Below w.heap.size w (V0.alloc (.cells #[.slice A n cap] 22)) ∧ (V0.alloc (.cells #[.slice A n cap] 22)).heap.size = w.heap.size + 4) := Lib.hid
    ⟨⟨(HV0.out.2.2.2.1.below (lbox10 _ _)).congr fun j _ => by simp [eL], World.grownBy.refl _ _⟩, HV0.out.2.1.alloc _, HV0.out.2.2.1.alloc _, HPV.out.2.1.trans ((lbox10 V0 _).mono HPV.out.2.1.size), by simp; omega⟩
  generalize V0.alloc (.cells #[.slice A n cap] 22) = V at HS HI ⊢
  have hVz : V.heap.size = w.heap.size + 4 := HI.out.2.2.2.2
  have HL := Lib.hid HPV.out.2.2
  clear HPV HV0 hz
  refine rangeO10 okB okB_rest (K := comeK (w.heap.size + 4) (fun j => j = w.heap.size + 1)) (a₁ := fun a x => var10 #[11] 4 (encP x) (.int .i64 (x : Int)) a) rfl (by decide) (gf := 42) (lb := #[.pointer (some ⟨w.heap.size + 3, 0, none⟩)]) rfl trivial (enters_of Try.func42 (by kernel_rfl) rfl)
    (HS.out (16 - 1) (by decide)) (fun j r hj h => comeK_loop j r h) (fun _ => rfl) (fun pre W => EnAt V (w.heap.size + 1) n (eL q n pre) W) (en_own V (w.heap.size + 1) n (by omega) okB (fun pre => eL q n pre)) HI.out.1 ?assign ?body ?don
  case assign =>
    intro l2 x W2 kk hkk
    have HKK := Lib.hid hkk
    clear hkk
    gi_wp2
    exact HKK.out _ (by simp [encP])
  case body =>
    rintro l2 r2 pre x a' W2 rfl hl2 hr2 hI hpre
    have hx : x < n := (mem_come.1 (last_in hpre)).1
    have hple : pre.length ≤ n := by
      have h1 := hpre.length_le
      have h2 := come_len q n n
      rw [List.length_append] at h1
      unfold comeF at h1
      omega
    have hq2 := HI.out.2.2.1.kept hI.gr (by simp)
    have c1 := hq2.cell
    have HI2 := Lib.hid hI
    have hbz := hI.gr.size
    have HPW : Hid (ProgAt W2 A n q) := Lib.hid ((HP.out.1.below HI.out.2.2.2.1).grown hI.gr fun ad _ e => by
      obtain ⟨b, o, p⟩ := ad
      obtain ⟨qb, qo, e2, _⟩ := HP.out.1 h0
      have := HL.out qb qo e2
      rw [e2] at e; injection e with e; injection e with e1; show b ≠ _; omega)
    clear hI hq2 hpre
    gi_wp2_with (first
      | (refine ⟨trivial, ?_⟩; gi_at_call 26; refine (CallsIn.inRound l2 (callsIn_wide.2 (p_ways A n cap (x : Int) _))).mono ?_; rintro e w1 ⟨rfl, rfl⟩))
    have HS2 := Lib.hid (fun m' hm' => ways_at (w := W2) cap HPW.out HP.out.2 (by omega) (x : Int) (V := ((W2.alloc (.cells #[.slice A n cap] 22)).alloc (.cells #[.int .i64 (x : Int)] 3))) (D := W2.heap.size + 2) (fun j => j = w.heap.size + 1) (Below.refl _ _) (by simp) (Nat.le_refl _) ⟨by omega, by omega⟩ okN m' hm')
    have hsz : ((W2.alloc (.cells #[.slice A n cap] 22)).alloc (.cells #[.int .i64 (x : Int)] 3)).heap.size = W2.heap.size + 2 := by simp
    have hbw : Below W2.heap.size W2 ((W2.alloc (.cells #[.slice A n cap] 22)).alloc (.cells #[.int .i64 (x : Int)] 3)) := (lbox10 W2 _).trans ((lbox10 (W2.alloc _) _).mono (by simp))
    have HK : Hid (EnAt ((W2.alloc (.cells #[.slice A n cap] 22)).alloc (.cells #[.int .i64 (x : Int)] 3)) (w.heap.size + 1) n (eM q n pre []) ((W2.alloc (.cells #[.slice A n cap] 22)).alloc (.cells #[.int .i64 (x : Int)] 3))) := Lib.hid ⟨(HI2.out.row.below hbw).congr fun j _ => by simp [eM], World.grownBy.refl _ _⟩
    have hr3 := ((Below.refl W2.heap.size W2).trans hbw).block l2 (Array.getElem?_eq_some_iff.1 hr2).1
    have hr4 := hr3.trans hr2
    have HBW := Lib.hid hbw
    have hd2 := HI.out.2.1.kept HI2.out.gr (by simp)
    have HBX : Hid (Boxed ((W2.alloc (.cells #[.slice A n cap] 22)).alloc (.cells #[.int .i64 (x : Int)] 3)) (w.heap.size + 2) 23 (.slice (some ⟨w.heap.size + 1, 0, none⟩) n n)) := Lib.hid ((hd2.alloc _).alloc _)
    clear c1 hbw hr3 hd2
    rw [next_z] at HS2
    generalize (W2.alloc (.cells #[.slice A n cap] 22)).alloc (.cells #[.int .i64 (x : Int)] 3) = Z at HS2 hsz HBW HK HBX hr4 ⊢
    refine rangeI10 okN okN_rest (l₀ := l2) (r₀ := r2) (K := waysK (W2.heap.size + 2) (fun j => j = w.heap.size + 1)) (a₁ := fun a x => var10 #[15] 5 (encP x) (.int .i64 (x : Int)) a) rfl hr4 (by decide) (gf := 39) (lb := #[.pointer (some ⟨W2.heap.size + 1, 0, none⟩), .pointer (some ⟨W2.heap.size, 0, none⟩)]) rfl trivial (enters_of Try.func39 (by kernel_rfl) rfl)
      ((HS2.out (16 - 1 - 1 - 1) (by decide)).inRound l2) (fun j r hj h => by cases waysK_cells j _ h (by omega)) (fun _ => rfl) (fun pre2 W => EnAt Z (w.heap.size + 1) n (eM q n pre pre2) W) (en_own Z (w.heap.size + 1) n (by omega) okN (fun pre2 => eM q n pre pre2)) HK.out ?assign2 ?body2 ?don2
    case assign2 =>
      intro l3 y W3 kk hkk
      have HKK := Lib.hid hkk
      clear hkk
      gi_wp2
      exact HKK.out _ (by simp [encP])
    case body2 =>
      rintro l3 pre2 y a'' W3 rfl hI3 hpre2
      have hy : y < n := (next_in (last_in hpre2)).2.1
      have hy' : (y : Int) < (n : Int) := by omega
      have hno : y ∉ pre2 := fun hm => by
        have hnd := (next_nodup (q := q) (n := n) x).sublist hpre2.sublist
        rw [List.nodup_append] at hnd
        exact hnd.2.2 y hm y (by simp) rfl
      have hd3 := HBX.out.kept hI3.gr (by simp)
      have c3 := hd3.cell
      have c4 := hI3.row.cell hy
      have c5 := hI3.row.free y
      have hle : eM q n pre pre2 y ≤ n + 1 := by
        unfold eM
        have := eL_le q n pre y
        split <;> omega
      have HE := Lib.hid (fun j => eM_on (q := q) (n := n) (pre := pre) hno j)
      have HI3 := Lib.hid hI3
      clear hI3 hd3 hpre2 hno
      generalize heM : eM q n pre pre2 y = u at c4 HE hle
      have hwu : IntKind.i64.wrap ((u : Int) + 1) = ((u + 1 : Nat) : Int) := by rw [IntWalk.i64_in _ (by omega)]; omega
      have HU := Lib.hid heM
      clear heM
      gi_wp2
      have hg := grown_set (World.grownBy.refl W3 (some (w.heap.size + 1))) y (.int .i64 ((u + 1 : Nat) : Int))
      have hfin := HI3.out.set y (u + 1)
      exact ⟨KeepsFrom.of_grownBy hg fun j e => (by cases e; omega), KeepO.of_grown hg fun r e o _ hk => (by cases e; rcases hk with hk | hk; exact hk.2.1 rfl; have := hk.1; omega), ⟨hfin.row.congr fun j _ => HE.out j, hfin.gr⟩⟩
    case don2 =>
      rintro W3 hI3
      have hg : W2.grownBy W3 (some (w.heap.size + 1)) := ⟨hI3.gr.os.trans HBW.out.os, hI3.gr.tape.trans HBW.out.tape, hI3.gr.output.trans HBW.out.output, Nat.le_trans HBW.out.size hI3.gr.size, fun j hj hne => (hI3.gr.block j (Nat.lt_of_lt_of_le hj HBW.out.size) hne).trans (HBW.out.block j hj)⟩
      have HG := Lib.hid hg
      have HI3 := Lib.hid hI3
      clear hI3 hg
      gi_wp2
      exact ⟨KeepsFrom.of_grownBy HG.out fun j e => (by cases e; omega), KeepO.of_grown HG.out fun r e o _ hk => (by cases e; rcases hk with hk | hk; exact hk.2.1 rfl; have := hk.1; omega), ⟨HI3.out.row.congr fun j _ => by rw [eL_snoc]; rfl, grown_on HI2.out.gr HG.out fun r e => .inr (by cases e; rfl)⟩⟩
  case don =>
    rintro W2 hI hd
    have hd2 := HI.out.2.1.kept hI.gr (by simp)
    have c3 := hd2.cell
    have HI2 := Lib.hid hI
    have HD := Lib.hid hd
    clear hI hd hd2
    gi_wp2
    refine ⟨by simp, .inl ⟨_, _, rfl, run_takeDeferred HD.out, ?_⟩⟩
    refine ⟨_, results_tmp rfl _ _ _, _, rfl, ?_, Nat.le_succ _, ?_⟩
    · have hr := row_grown10 HI2.out.row (grownBy_putObj' W2 V.heap.size (.deferred none)) fun r e => by cases e; exact ⟨_, HD.out, rfl⟩
      exact World.rowIs.congr hr fun j hj => by rw [show eL q n (comeF q n) j = intoN q n n j from eL_come q n j n]
    · exact (HI.out.2.2.2.1.grown HI2.out.gr HI.out.2.2.2.1.size (fun k e => by cases e; omega)).trans ((belowK_b (w := V) (n₀ := w.heap.size) (by omega) W2 _ _ _ (Nat.le_refl _) HD.out rfl rfl))
end
end Go.Proofs.Ytaphbcjehcnggaa
namespace Go.Proofs.Ytaphbcjehcnggaa
open Go Go.RowKit
set_option linter.unusedSimpArgs false
set_option linter.unusedVariables false
set_option linter.unusedSectionVars false

/-- Does a block end ahead of a place? -/
def stopF (q : Nat → Ins) (f : Nat → Nat) (e : Nat) : Bool := ((q (e - 1)).code == 6 || (q (e - 1)).code == 22) || ((q (e - 1)).code == 5 || jumpC (q (e - 1)).code) || decide (1 < f e)
/-- The place behind the block that begins at one. -/
def EndAt (q : Nat → Ins) (n : Nat) (f : Nat → Nat) (b e : Nat) : Prop := b < e ∧ e ≤ n ∧ (∀ j, b < j → j < e → stopF q f j = false) ∧ (e = n ∨ stopF q f e = true)
section
variable {w : World} {A : Option Addr} {n : Nat} (cap : Nat) {q : Nat → Ins} (h : ProgAt w A n q) (hok : ∀ i, i < n → (q i).OK) (hn : n ≤ 4096) {R : Nat} {f : Nat → Nat} (hr : NumsAt w R n f) {b : Nat} (hb : b < n)
include h hok hn hr hb
set_option maxHeartbeats 4000000 in
set_option maxRecDepth 100000 in
theorem p_endOf : Calls Try.prog 44 #[.slice A n cap, .int .i64 (b : Int), .slice (some ⟨R, 0, none⟩) n n] w fun e w' => ∃ E : Nat, e = .returned (.int .i64 (E : Int)) ∧ EndAt q n f b E ∧ w' = w := by
  have HH := Lib.hid (And.intro h (And.intro hok hr))
  have hw0 : IntKind.i64.wrap ((b : Int) + 1) = ((b + 1 : Nat) : Int) := by rw [IntWalk.i64_in _ (by omega)]; omega
  clear h hok hr
  go_enter Try.func44, Try.ntmps44
  go_wp2
  refine wp_scope_straight ?_
  go_wp2
  refine wp_label ?_
  go_wp2
  go_loopw [7] (fun i wr => ∃ e : Nat, i = .int .i64 (e : Int) ∧ b < e ∧ e ≤ n ∧ wr = w ∧ ∀ j, b < j → j < e → stopF q f j = false) (fun i _ => n - (intOf i).toNat)
  case atStart => exact ⟨b + 1, rfl, by omega, by omega, rfl, fun j h1 h2 => by omega⟩
  case round =>
    obtain ⟨e, rfl, h1, h2, rfl, h3⟩ := hrel
    have H3 := Lib.hid h3
    clear h3
    by_cases hlt : e < n
    · have hlt' : (e : Int) < (n : Int) := by omega
      have hw1 : IntKind.i64.wrap ((e : Int) - 1) = ((e - 1 : Nat) : Int) := by rw [IntWalk.i64_in _ (by omega)]; omega
      have hw2 : IntKind.i64.wrap ((e : Int) + 1) = ((e + 1 : Nat) : Int) := by rw [IntWalk.i64_in _ (by omega)]; omega
      have he1 : ((e - 1 : Nat) : Int) < (n : Int) := by omega
      obtain ⟨qb, qo, rfl, hqb, hqc⟩ := HH.out.1 (by omega)
      obtain ⟨x0, _, _, _⟩ := hqc (e - 1) (by omega)
      have c0 := HH.out.2.2.cell hlt
      have hcd := HH.out.2.1 (e - 1) (by omega)
      have HR := Lib.hid (fun V => p_isReturn10 (q (e - 1)).code V)
      have HJ := Lib.hid (fun V => p_isJump10 (q (e - 1)).code ⟨hcd.1, hcd.2.1⟩ V)
      have HS := Lib.hid (show stopF q f e = (((q (e - 1)).code == 6 || (q (e - 1)).code == 22) || ((q (e - 1)).code == 5 || jumpC (q (e - 1)).code) || decide (1 < f e)) from rfl)
      clear hqc hcd
      generalize ((q (e - 1)).code == 6 || (q (e - 1)).code == 22) = r1 at HR HS
      generalize ((q (e - 1)).code == 5 || jumpC (q (e - 1)).code) = r2 at HJ HS
      generalize (q (e - 1)).code = code at x0 HR HJ
      generalize f e = fe at c0 HS
      cases r1 with
      | true =>
        go_wp2_with (go_at_call 55; (with_reducible refine (HR.out _).mono ?_); rintro e w' ⟨rfl, rfl⟩)
        simp only [Exit.noGoto]
        go_ret
        exact ⟨e, rfl, ⟨h1, h2, H3.out, .inr (by rw [HS.out]; rfl)⟩, rfl⟩
      | false =>
        cases r2 with
        | true =>
          go_wp2_with (first
            | (go_at_call 55; (with_reducible refine (HR.out _).mono ?_); rintro e w' ⟨rfl, rfl⟩)
            | (go_at_call 60; (with_reducible refine (HJ.out _).mono ?_); rintro e w' ⟨rfl, rfl⟩))
          simp only [Exit.noGoto]
          go_ret
          exact ⟨e, rfl, ⟨h1, h2, H3.out, .inr (by rw [HS.out]; rfl)⟩, rfl⟩
        | false =>
          by_cases hfe : 1 < fe
          · have hfe' : (1 : Int) < (fe : Int) := by omega
            go_wp2_with (first
              | (go_at_call 55; (with_reducible refine (HR.out _).mono ?_); rintro e w' ⟨rfl, rfl⟩)
              | (go_at_call 60; (with_reducible refine (HJ.out _).mono ?_); rintro e w' ⟨rfl, rfl⟩))
            simp only [Exit.noGoto]
            go_ret
            exact ⟨e, rfl, ⟨h1, h2, H3.out, .inr (by rw [HS.out, decide_eq_true hfe]; rfl)⟩, rfl⟩
          · have hfe' : ¬ (1 : Int) < (fe : Int) := by omega
            go_wp2_with (first
              | (go_at_call 55; (with_reducible refine (HR.out _).mono ?_); rintro e w' ⟨rfl, rfl⟩)
              | (go_at_call 60; (with_reducible refine (HJ.out _).mono ?_); rintro e w' ⟨rfl, rfl⟩))
            refine ⟨⟨e + 1, by go_num, by omega, by omega, by trivial, fun j g1 g2 => ?_⟩, by simp [intOf]; omega⟩
            by_cases g : j = e
            · rw [g, HS.out, decide_eq_false hfe]; rfl
            · exact H3.out j g1 (by omega)
    · have hlt' : ¬ (e : Int) < (n : Int) := by omega
      obtain rfl : n = e := by omega
      go_wp2
      go_ret
      exact ⟨n, rfl, ⟨h1, h2, H3.out, .inl rfl⟩, rfl⟩
end
end Go.Proofs.Ytaphbcjehcnggaa
