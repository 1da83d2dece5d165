/-
  The document's Parse tells what the grammar tells; Same over what is read; the statements' question whether the program is there. Conditions: the text's length.
-/
import Derived.Test.YtgeapkjegemkeaaDoorPDefs
import Derived.Laws.StructEq
import Derived.Test.YtgeapkjegemkeaaDoorPolPure
import Derived.Test.YtgeapkjegemkeaaDoorPolDPol
import Derived.Test.YtgeapkjegemkeaaDoorGPolDE
namespace Go.Proofs.YtgeapkjegemkeaaDoor
open Go Go.RowKit
set_option linter.unusedSimpArgs false
set_option linter.unusedVariables false

def zeroRu : Ru := ⟨[], .zero, (0, 0)⟩
theorem rurow_at {w : World} {F : Nat → Prop} {tb : Nat} : ∀ {l : List Ru} {o : Nat} (k : Nat), k < l.length → RuRow w F l tb o → ∃ t c A cap, RuIn w F (l.getD k zeroRu) t A cap ∧ ∀ j u, (ruC (l.getD k zeroRu) t c A cap)[j]? = some u → w.cell? ⟨tb, o + k * 9 + j, none⟩ = some u
  | [], _, k, hk, _ => by simp at hk
  | e :: l, o, 0, _, h => by
    obtain ⟨t, c, A, cap, h1, h2⟩ := h.1
    exact ⟨t, c, A, cap, h1, by simpa using h2⟩
  | e :: l, o, k + 1, hk, h => by
    obtain ⟨t, c, A, cap, h1, h2⟩ := rurow_at (o := o + 9) k (by simpa using hk) h.2
    exact ⟨t, c, A, cap, h1, fun j u hj => by have := h2 j u hj; rw [show o + 9 + k * 9 + j = o + (k + 1) * 9 + j by omega] at this; exact this⟩
/-- Rules as a slice: each of them. -/
theorem rules_each {lo : Nat} {l : List Ru} {v : Value} {W : World} (h : RulesP lo l v W) : ∃ A c, v = .slice A l.length c ∧ ∀ k, k < l.length → ∃ tb, A = some ⟨tb, 0, none⟩ ∧ tb < W.heap.size ∧ ∃ t c A cap, RuIn W (fun k => lo ≤ k) (l.getD k zeroRu) t A cap ∧ ∀ j u, (ruC (l.getD k zeroRu) t c A cap)[j]? = some u → W.cell? ⟨tb, k * 9 + j, none⟩ = some u := by
  rcases h with ⟨rfl, rfl⟩ | ⟨tb, cap, rfl, h2, h3, h4⟩
  · exact ⟨none, 0, rfl, fun k hk => by simp at hk⟩
  · refine ⟨_, cap, rfl, fun k hk => ⟨tb, rfl, h3, ?_⟩⟩
    obtain ⟨t, c, A, cap, g1, g2⟩ := rurow_at k hk h4
    exact ⟨t, c, A, cap, g1, fun j u hj => by have := g2 j u hj; rw [Nat.zero_add] at this; exact this⟩
theorem callsC_at : ∀ (l : List (ByteArray × Nat)) (k : Nat), k < l.length → (callsC l)[k * 2]? = some (.string (l.getD k (⟨#[]⟩, 0)).1) ∧ (callsC l)[k * 2 + 1]? = some (.int .u64 ((l.getD k (⟨#[]⟩, 0)).2 : Int))
  | [], k, hk => by simp at hk
  | x :: l, 0, _ => ⟨rfl, rfl⟩
  | x :: l, k + 1, hk => by
    have := callsC_at l k (by simpa using hk)
    rw [show (k + 1) * 2 = k * 2 + 1 + 1 by omega, show k * 2 + 1 + 1 + 1 = k * 2 + 1 + 1 + 1 from rfl]
    exact this
abbrev poCell (p : Po) (R : Value) : Obj := .cells #[.string p.arch, .int .i64 p.foreign_.1, .int .u64 (p.foreign_.2 : Int), .int .i64 p.default_.1, .int .u64 (p.default_.2 : Int), R] 28
theorem rules_below {lo : Nat} {l : List Ru} {v : Value} {W W' : World} (h : RulesP lo l v W) (hb : Below W.heap.size W W') : RulesP lo l v W' := rules_keep h hb.size (Nat.le_refl _) (fun k _ hk => hb.block k hk)
theorem ru_below {w w' : World} {F : Nat → Prop} {r : Ru} {t : Nat} {A : Option Addr} {cap : Nat} (h : RuIn w F r t A cap) (hb : Below w.heap.size w w') : RuIn w' F r t A cap := h.keep hb.size (fun _ hk => hk) (fun k _ hk => hb.block k hk)
theorem eq_verd (a : Int) (b : Int) (w : World) : (Op.equalIn 10000 25 (.agg #[.int .i64 a, .int .u64 b]) (.agg #[.int .i64 a, .int .u64 b])).run Tryd.prog w = .ok true w := by
  rw [show (10000 : Nat) = 9999 + 1 from rfl, run_equalIn_agg w 9999 25 _ _ (by kernel_rfl) (by kernel_rfl)]
  simp only [Program.fieldsOf, Tryd.underlying25]
  go_simp
theorem neq_verd (a : Int) (b : Int) (w : World) : (binOp BinOp.neq 25 (.agg #[.int .i64 a, .int .u64 b]) (.agg #[.int .i64 a, .int .u64 b])).run Tryd.prog w = .ok (.bool false) w := by
  rw [run_neq_struct, eq_verd]; rfl
theorem eq_call (a : ByteArray) (b : Int) (w : World) : (Op.equalIn 10000 100 (.agg #[.string a, .int .u64 b]) (.agg #[.string a, .int .u64 b])).run Tryd.prog w = .ok true w := by
  rw [show (10000 : Nat) = 9999 + 1 from rfl, run_equalIn_agg w 9999 100 _ _ (by kernel_rfl) (by kernel_rfl)]
  simp only [Program.fieldsOf, Tryd.underlying100]
  go_simp
theorem neq_call (a : ByteArray) (b : Int) (w : World) : (binOp BinOp.neq 100 (.agg #[.string a, .int .u64 b]) (.agg #[.string a, .int .u64 b])).run Tryd.prog w = .ok (.bool false) w := by
  rw [run_neq_struct, eq_call]; rfl
end Go.Proofs.YtgeapkjegemkeaaDoor
namespace Go.Proofs.YtgeapkjegemkeaaDoor
open Go Go.RowKit
set_option linter.unusedSimpArgs false
set_option linter.unusedVariables false

theorem lives_expr : exprF ⟨#[110, 111, 116, 32, 97, 114, 103, 49, 32, 38, 32, 55, 32, 62, 61, 32, 50]⟩ = .ok (.node 3 [.mk 6 [] 1 7 6 2]) 6 := by kernel_rfl
theorem ex_args6 {w : World} {F : Nat → Prop} {y : Ex} {o : Int} {A : Option Addr} {cap : Nat} (h : ExIn w F (.node o [y]) A cap) :
    ∃ tb, A = some ⟨tb, 0, none⟩ ∧ tb < w.heap.size ∧ F tb ∧ ∃ A' cap', ExIn w F y A' cap' ∧ ∀ j u, (exC y A' cap')[j]? = some u → w.cell? ⟨tb, j, none⟩ = some u := by
  rcases h with ⟨h1, _⟩ | ⟨h1, tb, h2, h3, h4, ⟨⟨A', cap', g1, g2⟩, _⟩⟩
  · cases h1
  · exact ⟨tb, h2, h4, h3, A', cap', g1, fun j u hj => by have := g2 j u hj; rw [Nat.zero_add] at this; exact this⟩
end Go.Proofs.YtgeapkjegemkeaaDoor
namespace Go.Proofs.YtgeapkjegemkeaaDoor
open Go Go.RowKit
set_option linter.unusedSimpArgs false
set_option linter.unusedVariables false

/-- A policy, as the document reads it, and as the grammar does. -/
theorem parse_all (s : ByteArray) : ∃ lr re, rulesS (srcF s) ((srcF s).toks.length + 1) ((srcF s).toks.length + 1) [] (q9 (srcF s) ⟨0, 0, 0, 0⟩) = some (lr, re) ∧ match policyF s with
    | .ok p _ => p = ⟨((q1 (srcF s) ⟨0, 0, 0, 0⟩).kindT (srcF s) 2).text, verdT (srcF s) (q4 (srcF s) ⟨0, 0, 0, 0⟩), verdT (srcF s) (q7 (srcF s) ⟨0, 0, 0, 0⟩), lr⟩ ∧ (re.kindR (srcF s) 1).err = 0
    | .bad e p => e ≠ 0 ∧ (re.kindR (srcF s) 1).err = e ∧ (re.kindR (srcF s) 1).bad = p
    | .out => False := by
  have hS := lexd s
  have key : Shut (srcF s) (parseS (srcF s) ((srcF s).toks.length + 1) ⟨0, 0, 0, 0⟩) (policyF s) := by
    unfold policyF readG
    by_cases h0 : 0 < (srcF s).toks.length
    · rw [if_pos h0]
      exact parse_sim hS (Nat.lt_succ_self _) ((start_sim hS).1 h0)
    · rw [if_neg h0]
      have hb := (start_sim hS).2 h0
      have h3 := ((hb.want 2 bArch).kind 2).1.want 4 bSemi
      have h6 := (verd_bad (h3.want 2 bForeign)).want 4 bSemi
      have h9 := (verd_bad (h6.want 2 bDefault)).want 4 bSemi
      exact (parse_bad (Nat.succ_pos _) h9).shut
  obtain ⟨⟨p, re⟩, hx, hm⟩ := key
  unfold parseS at hx
  cases hr : rulesS (srcF s) ((srcF s).toks.length + 1) ((srcF s).toks.length + 1) [] (q9 (srcF s) ⟨0, 0, 0, 0⟩) with
  | none => rw [hr] at hx; cases hx
  | some y =>
    rw [hr] at hx
    injection hx with hx
    injection hx with e1 e2
    refine ⟨y.1, y.2, rfl, ?_⟩
    subst e2
    generalize policyF s = g at hm ⊢
    rcases g with ⟨v, j⟩ | ⟨e, q⟩ | _
    · exact ⟨hm.1.symm.trans e1.symm, hm.2⟩
    · exact hm
    · exact hm
theorem rd6_Parse (s : ByteArray) (w : World) (hm : s.size ≤ maxLen) : Calls Tryd.prog 16 #[.string s] w (ParseP (PoP w.heap.size) (poV ⟨#[]⟩ 0 0 0 0 (.slice none 0 0)) w (policyF s)) := by
  obtain ⟨lr, re, hr, hp⟩ := parse_all s
  generalize policyF s = g at hp ⊢
  rcases g with ⟨v, j⟩ | ⟨e, q⟩ | _
  · obtain ⟨rfl, h0⟩ := hp
    exact rd6_Parse_ok s w hm _ lr re hr h0 j _ _ _ _ _ rfl rfl rfl
  · obtain ⟨h0, rfl, rfl⟩ := hp
    exact rd6_Parse_bad s w hm _ lr re hr h0 _ _ _ _ _ rfl rfl rfl
  · exact hp.elim
/-- What Parse answers: a policy, an error, a place. -/
def zeroPo : Po := ⟨⟨#[]⟩, (0, 0), (0, 0), []⟩
def resPo : Got Po → Po × Int × Nat
  | .ok p _ => (p, 0, 0)
  | .bad e q => (zeroPo, e, q)
  | .out => (zeroPo, 0, 0)
def resEx : Got Ex → Ex × Int × Nat
  | .ok p _ => (p, 0, 0)
  | .bad e q => (.zero, e, q)
  | .out => (.zero, 0, 0)
theorem u_po {f : Nat} {args : Array Value} {w : World} {g : Got Po} (h : Calls Tryd.prog f args w (ParseP (PoP w.heap.size) (poV ⟨#[]⟩ 0 0 0 0 (.slice none 0 0)) w g)) :
    Calls Tryd.prog f args w (fun e w' => ∃ R, e = .returned (.tuple #[poV (resPo g).1.arch (resPo g).1.foreign_.1 ((resPo g).1.foreign_.2 : Int) (resPo g).1.default_.1 ((resPo g).1.default_.2 : Int) R, .int .i64 (resPo g).2.1, .int .i64 ((resPo g).2.2 : Int)]) ∧ RulesP w.heap.size (resPo g).1.rules R w' ∧ Below w.heap.size w w') := by
  refine h.mono fun e w' hp => ?_
  rcases g with ⟨v, j⟩ | ⟨er, q⟩ | _
  · obtain ⟨v', rfl, ⟨R, rfl, hR⟩, hb⟩ := hp
    exact ⟨R, rfl, hR, hb⟩
  · obtain ⟨rfl, hb⟩ := hp
    exact ⟨.slice none 0 0, rfl, .inl ⟨rfl, rfl⟩, hb⟩
  · exact hp.elim
theorem u_ex {f : Nat} {args : Array Value} {w : World} {g : Got Ex} (h : Calls Tryd.prog f args w (ParseP (ExP w.heap.size) (leafVal 0 0 0 0 0) w g)) :
    Calls Tryd.prog f args w (fun e w' => ∃ A c, e = .returned (.tuple #[exV (resEx g).1 A c, .int .i64 (resEx g).2.1, .int .i64 ((resEx g).2.2 : Int)]) ∧ ExIn w' (fun k => w.heap.size ≤ k) (resEx g).1 A c ∧ Below w.heap.size w w') := by
  refine h.mono fun e w' hp => ?_
  rcases g with ⟨v, j⟩ | ⟨er, q⟩ | _
  · obtain ⟨v', rfl, ⟨A, c, rfl, hR⟩, hb⟩ := hp
    exact ⟨A, c, rfl, hR, hb⟩
  · obtain ⟨rfl, hb⟩ := hp
    exact ⟨none, 0, rfl, .inl ⟨rfl, rfl, rfl⟩, hb⟩
  · exact hp.elim
theorem sm_resPo (s : ByteArray) : SmPo (resPo (policyF s)).1 := by
  have h : All SmPo (policyF s) := by
    unfold policyF readG
    exact all_ite (sm_policy (src_small s) _ _) (all_bad _ _)
  generalize policyF s = g at h
  rcases g with ⟨v, j⟩ | ⟨er, q⟩ | _
  · exact h v j rfl
  · exact ⟨Nat.zero_le _, fun r hr => by cases hr⟩
  · exact ⟨Nat.zero_le _, fun r hr => by cases hr⟩
theorem sm_resEx (s : ByteArray) : SmEx (resEx (exprF s)).1 := by
  have h : All SmEx (exprF s) := by
    unfold exprF readG
    by_cases h0 : 0 < (srcF s).toks.length
    · rw [if_pos h0]; exact sm_whole (src_small s) _ _ h0
    · rw [if_neg h0]; exact all_bad _ _
  generalize exprF s = g at h
  rcases g with ⟨v, j⟩ | ⟨er, q⟩ | _
  · exact h v j rfl
  · exact sm_leaf _ _ _ _ _
  · exact sm_leaf _ _ _ _ _
end Go.Proofs.YtgeapkjegemkeaaDoor
