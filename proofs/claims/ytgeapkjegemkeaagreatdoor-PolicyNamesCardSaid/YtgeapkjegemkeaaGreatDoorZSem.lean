/-
  The document sem as plain functions, and policies in memory. No condition.
-/
import Derived.Test.YtgeapkjegemkeaaGreatDoorPolPure
import Derived.Test.YtgeapkjegemkeaaGreatDoorZRule
namespace Go.Proofs.YtgeapkjegemkeaaGreatDoor
set_option linter.unusedSimpArgs false
set_option linter.unusedVariables false

def zeroR7 : Ru := ⟨[], .zero, (0, 0)⟩
end Go.Proofs.YtgeapkjegemkeaaGreatDoor
namespace Go.Proofs.YtgeapkjegemkeaaGreatDoor
open Go Go.RowKit
set_option linter.unusedSimpArgs false
set_option linter.unusedVariables false

mutual
/-- An expression's arguments lie somewhere. -/
def ExL (w : World) : Ex → Option Addr → Nat → Prop
  | .mk _ l _ _ _ _, A, cap => l.length ≤ maxLen ∧ (l = [] ∨ ∃ tb o, A = some ⟨tb, o, none⟩ ∧ tb < w.heap.size ∧ RowL w l tb o)
def RowL (w : World) : List Ex → Nat → Nat → Prop
  | [], _, _ => True
  | e :: l, tb, o => (∃ A cap, ExL w e A cap ∧ ∀ j u, (exC e A cap)[j]? = some u → w.cell? ⟨tb, o + j, none⟩ = some u) ∧ RowL w l tb (o + 6)
end
mutual
theorem ExL.below {w w' : World} (hb : Below w.heap.size w w') : ∀ {e : Ex} {A : Option Addr} {cap : Nat}, ExL w e A cap → ExL w' e A cap
  | .mk _ l _ _ _ _, A, cap, h => by
    refine ⟨h.1, ?_⟩
    rcases h.2 with h | ⟨tb, o, hA, ht, hr⟩
    · exact .inl h
    · exact .inr ⟨tb, o, hA, Nat.lt_of_lt_of_le ht hb.size, RowL.below hb ht hr⟩
theorem RowL.below {w w' : World} (hb : Below w.heap.size w w') {tb : Nat} (ht : tb < w.heap.size) : ∀ {l : List Ex} {o : Nat}, RowL w l tb o → RowL w' l tb o
  | [], _, _ => trivial
  | e :: l, o, h => by
    obtain ⟨⟨A, cap, h1, h2⟩, h3⟩ := h
    exact ⟨⟨A, cap, ExL.below hb h1, fun j u hj => (World.cell?_of_block (a := ⟨tb, o + j, none⟩) (hb.block tb ht)).trans (h2 j u hj)⟩, RowL.below hb ht h3⟩
end
/-- Rules' calls. -/
def CallsL (w : World) (l : List (ByteArray × Nat)) (A : Option Addr) : Prop := l.length ≤ maxLen ∧ (l = [] ∨ ∃ tb o, A = some ⟨tb, o, none⟩ ∧ tb < w.heap.size ∧ ∀ j u, (callsC l)[j]? = some u → w.cell? ⟨tb, o + j, none⟩ = some u)
theorem CallsL.below {w w' : World} {l : List (ByteArray × Nat)} {A : Option Addr} (h : CallsL w l A) (hb : Below w.heap.size w w') : CallsL w' l A := by
  refine ⟨h.1, ?_⟩
  rcases h.2 with h | ⟨tb, o, hA, ht, hc⟩
  · exact .inl h
  · exact .inr ⟨tb, o, hA, Nat.lt_of_lt_of_le ht hb.size, fun j u hj => (World.cell?_of_block (a := ⟨tb, o + j, none⟩) (hb.block tb ht)).trans (hc j u hj)⟩
def RuL (w : World) (r : Ru) (Ac A : Option Addr) (cap : Nat) : Prop := CallsL w r.calls Ac ∧ ExL w r.when_ A cap
theorem RuL.below {w w' : World} {r : Ru} {Ac A : Option Addr} {cap : Nat} (h : RuL w r Ac A cap) (hb : Below w.heap.size w w') : RuL w' r Ac A cap := ⟨h.1.below hb, h.2.below hb⟩
def ruL (r : Ru) (Ac : Option Addr) (capc : Nat) (A : Option Addr) (cap : Nat) : List Value :=
  [.slice Ac r.calls.length capc, .int .i64 r.when_.op, .slice A r.when_.args.length cap, .int .i64 r.when_.field, .int .u64 (r.when_.mask : Int), .int .i64 r.when_.rel, .int .u64 (r.when_.value : Int), .int .i64 r.do_.1, .int .u64 (r.do_.2 : Int)]
abbrev ruLV (r : Ru) (Ac : Option Addr) (capc : Nat) (A : Option Addr) (cap : Nat) : Value :=
  .agg #[.slice Ac r.calls.length capc, .int .i64 r.when_.op, .slice A r.when_.args.length cap, .int .i64 r.when_.field, .int .u64 (r.when_.mask : Int), .int .i64 r.when_.rel, .int .u64 (r.when_.value : Int), .int .i64 r.do_.1, .int .u64 (r.do_.2 : Int)]
def RuRowL (w : World) : List Ru → Nat → Nat → Prop
  | [], _, _ => True
  | r :: l, tb, o => (∃ Ac capc A cap, RuL w r Ac A cap ∧ ∀ j u, (ruL r Ac capc A cap)[j]? = some u → w.cell? ⟨tb, o + j, none⟩ = some u) ∧ RuRowL w l tb (o + 9)
theorem RuRowL.below {w w' : World} (hb : Below w.heap.size w w') {tb : Nat} (ht : tb < w.heap.size) : ∀ {l : List Ru} {o : Nat}, RuRowL w l tb o → RuRowL w' l tb o
  | [], _, _ => trivial
  | r :: l, o, ⟨⟨Ac, capc, A, cap, h1, h2⟩, h3⟩ => ⟨⟨Ac, capc, A, cap, h1.below hb, fun j u hj => (World.cell?_of_block (a := ⟨tb, o + j, none⟩) (hb.block tb ht)).trans (h2 j u hj)⟩, RuRowL.below hb ht h3⟩
/-- A policy's rules. -/
def RulesL (w : World) (l : List Ru) (A : Option Addr) : Prop := l.length ≤ maxLen ∧ (l = [] ∨ ∃ tb o, A = some ⟨tb, o, none⟩ ∧ tb < w.heap.size ∧ RuRowL w l tb o)
theorem RulesL.below {w w' : World} {l : List Ru} {A : Option Addr} (h : RulesL w l A) (hb : Below w.heap.size w w') : RulesL w' l A := by
  refine ⟨h.1, ?_⟩
  rcases h.2 with h | ⟨tb, o, hA, ht, hc⟩
  · exact .inl h
  · exact .inr ⟨tb, o, hA, Nat.lt_of_lt_of_le ht hb.size, RuRowL.below hb ht hc⟩
/-- What stands at a place. -/
theorem rowL_at {w : World} {tb : Nat} : ∀ {l : List Ex} {o : Nat} (k : Nat), k < l.length → RowL w l tb o → ∃ A cap, ExL w (l.getD k .zero) A cap ∧ ∀ j u, (exC (l.getD k .zero) A cap)[j]? = some u → w.cell? ⟨tb, o + k * 6 + j, none⟩ = some u
  | [], o, k, hk, _ => absurd hk (by simp)
  | e :: l, o, 0, _, h => by
    obtain ⟨⟨A, cap, h1, h2⟩, _⟩ := h
    exact ⟨A, cap, h1, fun j u hj => by rw [Nat.zero_mul, Nat.add_zero]; exact h2 j u hj⟩
  | e :: l, o, k + 1, hk, h => by
    obtain ⟨A, cap, h1, h2⟩ := rowL_at k (by simpa using hk) h.2
    exact ⟨A, cap, h1, fun j u hj => by rw [show o + (k + 1) * 6 + j = o + 6 + k * 6 + j by omega]; exact h2 j u hj⟩
theorem ruRowL_at {w : World} {tb : Nat} : ∀ {l : List Ru} {o : Nat} (k : Nat), k < l.length → RuRowL w l tb o → ∃ Ac capc A cap, RuL w (l.getD k zeroR7) Ac A cap ∧ ∀ j u, (ruL (l.getD k zeroR7) Ac capc A cap)[j]? = some u → w.cell? ⟨tb, o + k * 9 + j, none⟩ = some u
  | [], o, k, hk, _ => absurd hk (by simp)
  | e :: l, o, 0, _, h => by
    obtain ⟨⟨Ac, capc, A, cap, h1, h2⟩, _⟩ := h
    exact ⟨Ac, capc, A, cap, h1, fun j u hj => by rw [Nat.zero_mul, Nat.add_zero]; exact h2 j u hj⟩
  | e :: l, o, k + 1, hk, h => by
    obtain ⟨Ac, capc, A, cap, h1, h2⟩ := ruRowL_at k (by simpa using hk) h.2
    exact ⟨Ac, capc, A, cap, h1, fun j u hj => by rw [show o + (k + 1) * 9 + j = o + 9 + k * 9 + j by omega]; exact h2 j u hj⟩
/-- An argument's cells. -/
theorem exL_arg {w : World} {x : Ex} {A : Option Addr} {cap : Nat} (h : ExL w x A cap) (k : Nat) (hk : k < x.args.length) : ∃ tb o, A = some ⟨tb, o, none⟩ ∧ tb < w.heap.size ∧ ∃ A' cap', ExL w (x.args.getD k .zero) A' cap' ∧ ∀ j u, (exC (x.args.getD k .zero) A' cap')[j]? = some u → w.cell? ⟨tb, o + k * 6 + j, none⟩ = some u := by
  cases x with
  | mk op l f m r v =>
    have hk' : k < l.length := hk
    rcases h.2 with h0 | ⟨tb, o, hA, ht, hr⟩
    · rw [h0] at hk'; exact absurd hk' (by simp)
    · exact ⟨tb, o, hA, ht, rowL_at k hk' hr⟩
mutual
/-- What was read lies so. -/
theorem exL_of {w : World} {F : Nat → Prop} : ∀ {e : Ex} {A : Option Addr} {cap : Nat}, SmEx e → ExIn w F e A cap → ExL w e A cap
  | .mk _ l _ _ _ _, A, cap, hs, h => by
    have hlen := hs.len
    refine ⟨Nat.le_trans hlen (by unfold maxLen; decide), ?_⟩
    rcases h with ⟨h, _⟩ | ⟨hl, tb, hA, hf, ht, hr⟩
    · exact .inl h
    · exact .inr ⟨tb, 0, hA, ht, rowL_of (by cases hs; assumption) hr⟩
theorem rowL_of {w : World} {F : Nat → Prop} {tb : Nat} : ∀ {l : List Ex} {o : Nat}, (∀ e ∈ l, SmEx e) → RowIn w F l tb o → RowL w l tb o
  | [], _, _, _ => trivial
  | e :: l, o, hs, h => by
    obtain ⟨⟨A, cap, h1, h2⟩, h3⟩ := h
    exact ⟨⟨A, cap, exL_of (hs e (by simp)) h1, h2⟩, rowL_of (fun x hx => hs x (by simp [hx])) h3⟩
end
theorem ruRowL_of {w : World} {F : Nat → Prop} {tb : Nat} : ∀ {l : List Ru} {o : Nat}, (∀ r ∈ l, SmRu r) → RuRow w F l tb o → RuRowL w l tb o
  | [], _, _, _ => trivial
  | r :: l, o, hs, ⟨⟨t, c, A, cap, h1, h2⟩, h3⟩ => by
    have hr := hs r (by simp)
    exact ⟨⟨some ⟨t, 0, none⟩, c, A, cap, ⟨⟨Nat.le_trans hr.2 (by unfold maxLen; decide), .inr ⟨t, 0, rfl, h1.1.2.1, fun j u hj => by rw [Nat.zero_add]; exact h1.1.2.2 j u hj⟩⟩, exL_of hr.1 h1.2⟩, h2⟩, ruRowL_of (fun x hx => hs x (by simp [hx])) h3⟩
theorem rulesL_of {w : World} {lo : Nat} {l : List Ru} {v : Value} (hs : l.length ≤ 70000 ∧ ∀ r ∈ l, SmRu r) (h : RulesP lo l v w) : ∃ A cap, v = .slice A l.length cap ∧ RulesL w l A := by
  have hm : l.length ≤ maxLen := Nat.le_trans hs.1 (by unfold maxLen; decide)
  rcases h with ⟨rfl, rfl⟩ | ⟨tb, cap, rfl, hlo, ht, hr⟩
  · exact ⟨none, 0, rfl, hm, .inl rfl⟩
  · exact ⟨_, cap, rfl, hm, .inr ⟨tb, 0, rfl, ht, ruRowL_of hs.2 hr⟩⟩
/-- A table of names and numbers. -/
def tabC (l : List (ByteArray × Nat)) : List Value := l.flatMap fun x => [.string x.1, .int .u32 (x.2 : Int)]
def TabL (w : World) (l : List (ByteArray × Nat)) (A : Option Addr) : Prop := l.length ≤ 100 ∧ (l = [] ∨ ∃ tb, A = some ⟨tb, 0, none⟩ ∧ tb < w.heap.size ∧ ∀ j u, (tabC l)[j]? = some u → w.cell? ⟨tb, j, none⟩ = some u)
theorem TabL.below {w w' : World} {l : List (ByteArray × Nat)} {A : Option Addr} (h : TabL w l A) (hb : Below w.heap.size w w') : TabL w' l A := by
  refine ⟨h.1, ?_⟩
  rcases h.2 with h | ⟨tb, hA, ht, hc⟩
  · exact .inl h
  · exact .inr ⟨tb, hA, Nat.lt_of_lt_of_le ht hb.size, fun j u hj => (World.cell?_of_block (a := ⟨tb, j, none⟩) (hb.block tb ht)).trans (hc j u hj)⟩
end Go.Proofs.YtgeapkjegemkeaaGreatDoor
