/-
  What is written of policies, which ones texts tell, how long it may be: plain facts. No condition.
-/
import Derived.Test.YtgeapkjegemkeaaGreatDoorPolPure
import Derived.Lib.ItoaNum
import Derived.Lib.ItoaLen
namespace Go.Proofs.YtgeapkjegemkeaaGreatDoor
set_option linter.unusedSimpArgs false
set_option linter.unusedVariables false

/-- A hexadecimal digit. -/
def hexC (x : Nat) : UInt8 := if x < 10 then UInt8.ofNat (48 + x) else UInt8.ofNat (87 + x)
/-- A number's hexadecimal digits. -/
def hexL (n : Nat) : List UInt8 := if n < 16 then [hexC n] else hexL (n / 16) ++ [hexC (n % 16)]
/-- A kind's word. -/
def kindL (k : Int) : List UInt8 :=
  if k = 1 then [107, 105, 108, 108, 95, 112, 114, 111, 99, 101, 115, 115] else if k = 2 then [107, 105, 108, 108, 95, 116, 104, 114, 101, 97, 100]
  else if k = 3 then [116, 114, 97, 112] else if k = 4 then [101, 114, 114, 110, 111] else if k = 5 then [110, 111, 116, 105, 102, 121]
  else if k = 6 then [116, 114, 97, 99, 101] else if k = 7 then [108, 111, 103] else [97, 108, 108, 111, 119]
def numK (k : Int) : Bool := decide (k = 3 ∨ k = 4 ∨ k = 6)
def verdL (v : Int × Nat) : List UInt8 := if numK v.1 = true then kindL v.1 ++ 32 :: Lib.decDigits v.2 else kindL v.1
def fldL (f : Int) : List UInt8 := if f = 6 then [105, 112] else [97, 114, 103, UInt8.ofNat (48 + f.toNat)]
def rlL (r : Int) : List UInt8 := if r = 1 then [61, 61] else if r = 2 then [33, 61] else if r = 3 then [60] else if r = 4 then [60, 61] else if r = 5 then [62] else [62, 61]
def maskL (m : Nat) : List UInt8 := if m = 18446744073709551615 then [] else [32, 38, 32, 48, 120] ++ hexL m
def testL (f : Int) (m : Nat) (r : Int) (v : Nat) : List UInt8 := fldL f ++ maskL m ++ 32 :: (rlL r ++ 32 :: Lib.decDigits v)
/-- Do parentheses stand around an argument? -/
def brkB (o i : Int) : Bool := if o = 3 ∨ o = 4 then decide (i = 4 ∨ i = 5) else if o = 5 then decide (i = 5) else false
def wrapL (b : Bool) (l : List UInt8) : List UInt8 := if b = true then 40 :: (l ++ [41]) else l
def sepL (o : Int) : List UInt8 := if o = 4 then [32, 97, 110, 100, 32] else [32, 111, 114, 32]
mutual
def exL : Ex → List UInt8
  | .mk o l f m r v => if o = 1 then [116, 114, 117, 101] else if o = 2 then [102, 97, 108, 115, 101] else if o = 3 then [110, 111, 116, 32] ++ headL l else if o = 4 ∨ o = 5 then argsL o l else testL f m r v
def headL : List Ex → List UInt8
  | [] => []
  | e :: _ => wrapL (brkB 3 e.op) (exL e)
def argsL (o : Int) : List Ex → List UInt8
  | [] => []
  | e :: l => wrapL (brkB o e.op) (exL e) ++ moreL o l
def moreL (o : Int) : List Ex → List UInt8
  | [] => []
  | e :: l => sepL o ++ wrapL (brkB o e.op) (exL e) ++ moreL o l
end
mutual
def deepN : Ex → Nat
  | .mk o l _ _ _ _ => deepsN o l
def deepsN (o : Int) : List Ex → Nat
  | [] => 0
  | e :: l => max ((if o = 3 then 1 else 0) + (if brkB o e.op = true then 1 else 0) + deepN e) (deepsN o l)
end
def callL (c : ByteArray × Nat) : List UInt8 := if c.1 = ⟨#[]⟩ then Lib.decDigits c.2 else c.1.data.toList
def callsL : List (ByteArray × Nat) → List UInt8
  | [] => []
  | c :: l => [44, 32] ++ callL c ++ callsL l
def firstL : List (ByteArray × Nat) → List UInt8
  | [] => []
  | c :: l => callL c ++ callsL l
def whenL (e : Ex) : List UInt8 := if e.op = 1 then [] else [32, 119, 104, 101, 110, 32] ++ exL e
def ruleL (r : Ru) : List UInt8 := [111, 110, 32] ++ firstL r.calls ++ whenL r.when_ ++ [32, 100, 111, 32] ++ verdL r.do_ ++ [59, 10]
def rulesL : List Ru → List UInt8
  | [] => []
  | r :: l => ruleL r ++ rulesL l
def headsL (p : Po) : List UInt8 := [97, 114, 99, 104, 32] ++ p.arch.data.toList ++ [59, 10, 102, 111, 114, 101, 105, 103, 110, 32] ++ verdL p.foreign_ ++ [59, 10, 100, 101, 102, 97, 117, 108, 116, 32] ++ verdL p.default_ ++ [59, 10]
def polL (p : Po) : List UInt8 := headsL p ++ rulesL p.rules
/-- What a text tells. -/
inductive GEx : Ex → Prop
  | yes : GEx (.plain 1)
  | no : GEx (.plain 2)
  | inv {e : Ex} (h : GEx e) : GEx (.node 3 [e])
  | all {l : List Ex} (h : 2 ≤ l.length) (ha : ∀ e ∈ l, GEx e) : GEx (.node 4 l)
  | any {l : List Ex} (h : 2 ≤ l.length) (ha : ∀ e ∈ l, GEx e) : GEx (.node 5 l)
  | test {f : Int} {m : Nat} {r : Int} {v : Nat} (hf : 0 ≤ f ∧ f ≤ 6) (hr : 1 ≤ r ∧ r ≤ 6) (hm : m < 18446744073709551616) (hv : v < 18446744073709551616) : GEx (.mk 6 [] f m r v)
/-- A name: a token's text that is a word. -/
def NameB (s : ByteArray) : Prop := worOK (byt s) s.size = true
def GVd (v : Int × Nat) : Prop := (1 ≤ v.1 ∧ v.1 ≤ 8) ∧ v.2 < 18446744073709551616 ∧ (numK v.1 = false → v.2 = 0)
def GCall (c : ByteArray × Nat) : Prop := (c.1 = ⟨#[]⟩ ∧ c.2 < 18446744073709551616) ∨ (NameB c.1 ∧ c.2 = 0)
structure GRu (r : Ru) : Prop where
  calls : 1 ≤ r.calls.length ∧ r.calls.length ≤ 70000 ∧ ∀ c ∈ r.calls, GCall c
  when_ : GEx r.when_
  do_ : GVd r.do_
structure GPo (p : Po) : Prop where
  arch : NameB p.arch
  foreign_ : GVd p.foreign_
  default_ : GVd p.default_
  rules : p.rules.length ≤ 512 ∧ ∀ r ∈ p.rules, GRu r
end Go.Proofs.YtgeapkjegemkeaaGreatDoor
namespace Go.Proofs.YtgeapkjegemkeaaGreatDoor
set_option linter.unusedSimpArgs false
set_option linter.unusedVariables false

theorem numF_lt {f : Nat → Nat} {n v : Nat} (h : numF f n = some v) : v < 18446744073709551616 := by
  unfold numF at h
  by_cases h1 : 2 ≤ n ∧ f 0 = 48 ∧ f 1 = 120
  · rw [if_pos h1] at h
    by_cases h2 : n < 3 ∨ 18 < n ∨ upTo hexB f n 2 ≠ n
    · rw [if_pos h2] at h; cases h
    · rw [if_neg h2] at h
      injection h with h
      have hu : upTo hexB f n 2 = n := Decidable.not_not.1 fun e => h2 (.inr (.inr e))
      have hv := val_lt 16 hexN f 2 (n - 2) (fun j hj => by
        have := upTo_all hexB f n 2 (2 + j) (by omega) (by rw [hu]; omega)
        have := of_decide_eq_true this
        unfold hexN
        split <;> omega)
      have := Nat.pow_le_pow_right (n := 16) (by decide) (show n - 2 ≤ 16 by omega)
      rw [show (16 : Nat) ^ 16 = 18446744073709551616 from rfl] at this
      omega
  · rw [if_neg h1] at h
    by_cases h2 : n < 1 ∨ 20 < n ∨ (f 0 = 48 ∧ 1 < n) ∨ upTo digB f n 0 ≠ n ∨ 18446744073709551616 ≤ valF 10 decN f 0 n
    · rw [if_pos h2] at h; cases h
    · rw [if_neg h2] at h
      injection h with h
      omega
/-- What tokens are. -/
structure TokOK (S : Src) : Prop where
  num : ∀ i, i < S.toks.length → (tk S i).num < 18446744073709551616
  name : ∀ i, i < S.toks.length → (tk S i).kind = 2 → NameB (tk S i).text
theorem tok_ok (s : ByteArray) : TokOK (srcF s) where
  num := fun i hi => by
    have g := good_at hi
    rcases g.kinds with h | h | h | h
    · rw [(g.one h).2]; decide
    · rw [(g.two h).2]; decide
    · obtain ⟨h1, h2, _⟩ := g.three h
      rw [h2]
      unfold numB at h1
      unfold numV
      cases hn : numF (byt (tk (srcF s) i).text) (tk (srcF s) i).text.size with
      | none => rw [hn] at h1; cases h1
      | some v => exact numF_lt hn
    · rw [(g.four h).2.1]; decide
  name := fun i hi hk => ((good_at hi).two hk).1
section
variable {S : Src}
theorem byTurns_ne {mark : ByteArray} {α : Type} {item : Nat → Got α} : ∀ n l i, l ≠ [] → All (fun l : List α => l ≠ []) (turnsG S mark item n l i)
  | 0, l, i, hl => all_out
  | n + 1, l, i, hl => by
    unfold turnsG
    exact all_ite (all_then fun _ j hj => all_then fun x k hk => byTurns_ne n _ k (by simp)) (all_ok (P := fun l : List α => l ≠ []) hl i)
theorem byTurns_some {mark : ByteArray} {α : Type} {item : Nat → Got α} (n i : Nat) : All (fun l : List α => l ≠ []) (byTurnsG S mark item n i) := all_then fun x j hj => byTurns_ne n [x] j (by simp)
theorem gd_join {o : Int} (ho : o = 4 ∨ o = 5) {l : List Ex} (hl : l ≠ []) (h : ∀ e ∈ l, GEx e) : GEx (joinE o l) := by
  match l, hl, h with
  | [e], _, h => exact h e (by simp)
  | a :: b :: t, _, h =>
    show GEx (.node o (a :: b :: t))
    rcases ho with rfl | rfl
    · exact .all (by simp) h
    · exact .any (by simp) h
theorem gd_num (hT : TokOK S) (i : Nat) (hi : i < S.toks.length) : All (fun n => n < 18446744073709551616) (numG S i) :=
  all_then fun x j hj => by
    unfold takeG at hj
    split at hj
    · unfold adv at hj
      split at hj
      · cases hj; exact all_ok (P := fun n : Nat => n < 18446744073709551616) (hT.num i hi) _
      · cases hj
    · cases hj
theorem gd_name (hT : TokOK S) (i : Nat) (hi : i < S.toks.length) : All NameB (nameG S i) :=
  all_then fun x j hj => by
    unfold takeG at hj
    split at hj
    · rename_i hk
      unfold adv at hj
      split at hj
      · cases hj; exact all_ok (hT.name i hi hk) _
      · cases hj
    · cases hj
theorem gd_mask (hT : TokOK S) (i : Nat) (hi : i < S.toks.length) : All (fun n => n < 18446744073709551616) (maskG S i) :=
  all_ite (all_then fun _ j hj => gd_num hT j (fwd_adv i () _ j hj).2) (all_ok (by decide) i)
theorem relF_in (s : ByteArray) : relF s = 0 ∨ (1 ≤ relF s ∧ relF s ≤ 6) := by
  unfold relF
  repeat' split
  all_goals decide
theorem gd_rel (i : Nat) : All (fun r => 1 ≤ r ∧ r ≤ 6) (relG S i) := by
  unfold relG
  split
  · exact all_bad _ _
  · rename_i h
    exact all_adv (P := fun r : Int => 1 ≤ r ∧ r ≤ 6) ((relF_in _).resolve_left h) i
theorem fieldF_le (s : ByteArray) : fieldF s ≤ 6 := by
  unfold fieldF
  split
  · decide
  · split
    · omega
    · decide
theorem gd_test (hT : TokOK S) (i : Nat) : All GEx (testG S i) := by
  unfold testG
  split
  · exact all_bad _ _
  · rename_i h
    exact all_then fun _ j hj => all_then fun m k hk => all_then fun r l hl => all_then fun v e he => all_ok (.test ⟨by omega, fieldF_le _⟩ (gd_rel k r l hl) (gd_mask hT j (fwd_adv i () _ j hj).2 m k hk)
      (gd_num hT l (fwd_rel k r l hl).2 v e he)) e
theorem gd_exprH {one : Nat → Got Ex} (hP : ∀ i, i < S.toks.length → All GEx (one i)) (hit : ∀ i, i < S.toks.length → Fwd S 1 i (one i)) (n i : Nat) (hi : i < S.toks.length) : All GEx (exprH S one n i) :=
  all_then fun l j hj => all_ok (gd_join (.inr rfl) (byTurns_some n i l j hj) (byTurns_len (P := GEx) (fun i hi => all_then fun l j hj => all_ok (gd_join (.inl rfl) (byTurns_some n i l j hj) (byTurns_len hP hit n i hi l j hj).2) j) (fun i hi => fwd_all hit n i hi) n i hi l j hj).2) j
theorem gd_one (hT : TokOK S) : ∀ n d i, i < S.toks.length → All GEx (oneG S n d i)
  | 0, d, i, hi => all_out
  | n + 1, d, i, hi => by
    show All GEx (oneH S (oneG S n) (fun d => exprH S (oneG S n d) n) d i)
    unfold oneH
    refine all_ite ?_ (all_ite ?_ (all_ite (all_adv .yes i) (all_ite (all_adv .no i) (gd_test hT i))))
    · exact all_then fun _ j hj => all_then fun e k hk => all_ok (.inv (gd_one hT n (d + 1) j (fwd_open d i _ j hj).2 _ k hk)) k
    · refine all_then fun _ j hj => all_then fun e k hk => all_then fun _ l _ => all_ok ?_ l
      exact gd_exprH (fun i hi => gd_one hT n (d + 1) i hi) (fun i hi => fwd_one n (d + 1) i hi) n j (fwd_open d i _ j hj).2 _ k hk
theorem gd_expr (hT : TokOK S) (n d i : Nat) (hi : i < S.toks.length) : All GEx (exprG S n d i) := gd_exprH (fun i hi => gd_one hT n d i hi) (fun i hi => fwd_one n d i hi) n i hi
theorem gd_whole (hT : TokOK S) (n i : Nat) (hi : i < S.toks.length) : All GEx (wholeG S n i) := all_then fun e j hj => all_ite (all_ok (gd_expr hT n 0 i hi _ j hj) j) (all_bad _ _)
theorem verdK_in (s : ByteArray) : (verdK s).1 = 0 ∨ ((1 ≤ (verdK s).1 ∧ (verdK s).1 ≤ 8) ∧ (verdK s).2 = numK (verdK s).1) := by
  unfold verdK
  repeat' split
  all_goals decide
theorem gd_verd (hT : TokOK S) (i : Nat) : All GVd (verdG S i) := by
  unfold verdG
  split
  · exact all_bad _ _
  · rename_i h
    obtain ⟨h1, h2⟩ := (verdK_in _).resolve_left h
    refine all_then fun _ j hj => ?_
    split
    · rename_i h3
      exact all_then fun n k hk => all_ok ⟨h1, gd_num hT j (fwd_adv i () _ j hj).2 n k hk, fun e => by rw [← h2, h3] at e; cases e⟩ k
    · exact all_ok ⟨h1, by show (0 : Nat) < _; decide, fun _ => rfl⟩ j
theorem gd_call (hT : TokOK S) (i : Nat) (hi : i < S.toks.length) : All GCall (callG S i) :=
  all_ite (all_then fun n j hj => all_ok (.inl ⟨rfl, gd_num hT i hi n j hj⟩) j) (all_then fun s j hj => all_ok (.inr ⟨gd_name hT i hi s j hj, rfl⟩) j)
theorem gd_rule (hs : S.toks.length ≤ 65537) (hT : TokOK S) (n i : Nat) : All GRu (ruleG S n i) :=
  all_then fun _ j hj => all_then fun cs k hk => all_then fun e l hl => all_then fun _ m _ => all_then fun v o hv => all_then fun _ p _ => all_ok (by
    have hj2 := (fwd_demand bOn i _ j hj).2
    have hk2 := (fwd_byTurns (S := S) bComma (item := callG S) (fun i _ => fwd_call i) n j hj2 cs k hk).2
    have hc := byTurns_len (S := S) (mark := bComma) (P := GCall) (item := callG S) (fun i hi => gd_call hT i hi) (fun i _ => fwd_call i) n j hj2 cs k hk
    have hn := byTurns_some n j cs k hk
    refine ⟨⟨?_, (by show cs.length ≤ 70000; omega), hc.2⟩, (show All GEx (whenG S n k) from all_ite (all_then fun _ j hj => gd_expr hT n 0 j (fwd_adv k () _ j hj).2) (all_ok .yes k)) e l hl, gd_verd hT m v o hv⟩
    cases cs with
    | nil => exact absurd rfl hn
    | cons a t => simp) p
theorem gd_rules (hs : S.toks.length ≤ 65537) (hT : TokOK S) (n : Nat) : ∀ m l i, (∀ r ∈ l, GRu r) → All (fun l => ∀ r ∈ l, GRu r) (rulesG S n m l i)
  | 0, l, i, _ => all_out
  | m + 1, l, i, hp => by
    unfold rulesG
    refine all_ite (all_ok hp i) (all_ite (all_bad _ _) (all_then fun x j hj => ?_))
    refine gd_rules hs hT n m _ j (fun r hr => ?_)
    rcases List.mem_append.1 hr with hr | hr
    · exact hp r hr
    · rw [List.mem_singleton] at hr; subst hr; exact gd_rule hs hT n i _ j hj
theorem gd_policy (hs : S.toks.length ≤ 65537) (hT : TokOK S) (n i : Nat) : All GPo (policyG S n i) :=
  all_then fun _ a ha => all_then fun s b hb => all_then fun _ _ _ => all_then fun _ d _ => all_then fun f e hf => all_then fun _ _ _ => all_then fun _ h _ => all_then fun v j hv => all_then fun _ k _ => all_then fun l m hm => all_ok (by
    have := sm_rules hs n n [] k (by simp) (fun r hr => by cases hr) l m hm
    exact ⟨gd_name hT a (fwd_demand bArch i _ a ha).2 s b hb, gd_verd hT d f e hf, gd_verd hT h v j hv, this.1, gd_rules hs hT n n [] k (fun r hr => by cases hr) l m hm⟩) m
end
end Go.Proofs.YtgeapkjegemkeaaGreatDoor
namespace Go.Proofs.YtgeapkjegemkeaaGreatDoor
set_option linter.unusedSimpArgs false
set_option linter.unusedVariables false

mutual
/-- How much an expression weighs. -/
def wtE : Ex → Nat
  | .mk _ l _ _ _ _ => 1 + wtL l
def wtL : List Ex → Nat
  | [] => 0
  | e :: l => wtE e + 1 + wtL l
end
theorem wtL_append : ∀ (a b : List Ex), wtL (a ++ b) = wtL a + wtL b
  | [], b => by rw [List.nil_append, wtL]; omega
  | e :: a, b => by rw [List.cons_append, wtL, wtL, wtL_append a b]; omega
theorem wt_mk (o : Int) (l : List Ex) (f : Int) (m : Nat) (r : Int) (v : Nat) : wtE (.mk o l f m r v) = 1 + wtL l := by rw [wtE]
theorem wt_node (o : Int) (l : List Ex) : wtE (.node o l) = 1 + wtL l := wt_mk _ _ _ _ _ _
theorem wt_one (e : Ex) : wtL [e] = wtE e + 1 := by rw [wtL, wtL]
section
variable {S : Src}
def Wt (i : Nat) (g : Got Ex) : Prop := ∀ x j, g = .ok x j → wtE x + 1 + 2 * i ≤ 2 * j
def WtL (i : Nat) (g : Got (List Ex)) : Prop := ∀ l j, g = .ok l j → 1 ≤ l.length ∧ wtL l + 2 * i + 2 * l.length ≤ 2 * j + 2
theorem adv_is9 {α : Type} {i : Nat} {x y : α} {j : Nat} (h : adv S i x = .ok y j) : y = x ∧ j = i + 1 := by
  unfold adv at h
  split at h
  · cases h; exact ⟨rfl, rfl⟩
  · cases h
theorem wt_turns {mark : ByteArray} {item : Nat → Got Ex} (hit : ∀ i, i < S.toks.length → Wt i (item i)) (i0 : Nat) : ∀ n l i, 1 ≤ l.length → wtL l + 2 * i0 + 2 * l.length ≤ 2 * i + 2 → WtL i0 (turnsG S mark item n l i)
  | 0, l, i, _, _ => fun _ _ h => by cases h
  | n + 1, l, i, h1, h2 => by
    intro y k e
    unfold turnsG at e
    split at e
    · cases ha : adv S i () with
      | ok u j =>
        rw [ha] at e
        obtain ⟨_, rfl⟩ := adv_is9 ha
        have hj : i + 1 < S.toks.length := (fwd_adv i () _ _ ha).2
        change (item (i + 1)).andThen _ = _ at e
        cases hx : item (i + 1) with
        | ok x j =>
          rw [hx] at e
          have hw := hit _ hj x j hx
          exact wt_turns hit i0 n _ j (by simp) (by rw [wtL_append, wt_one, List.length_append]; simp only [List.length_cons, List.length_nil]; omega) y k e
        | bad _ _ => rw [hx] at e; cases e
        | out => rw [hx] at e; cases e
      | bad _ _ => rw [ha] at e; cases e
      | out => rw [ha] at e; cases e
    · cases e; exact ⟨h1, h2⟩
theorem wt_byTurns {mark : ByteArray} {item : Nat → Got Ex} (hit : ∀ i, i < S.toks.length → Wt i (item i)) (n i : Nat) (hi : i < S.toks.length) : WtL i (byTurnsG S mark item n i) := by
  intro y k e
  unfold byTurnsG at e
  cases hx : item i with
  | ok x j =>
    rw [hx] at e
    have hw := hit _ hi x j hx
    exact wt_turns hit i n [x] j (by simp) (by rw [wt_one]; simp only [List.length_cons, List.length_nil]; omega) y k e
  | bad _ _ => rw [hx] at e; cases e
  | out => rw [hx] at e; cases e
theorem wt_join {o : Int} {l : List Ex} {i j : Nat} (h : 1 ≤ l.length ∧ wtL l + 2 * i + 2 * l.length ≤ 2 * j + 2) : wtE (joinE o l) + 1 + 2 * i ≤ 2 * j := by
  match l, h with
  | [e], h =>
    have := h.2
    rw [wt_one] at this
    simp only [List.length_cons, List.length_nil] at this
    show wtE e + 1 + 2 * i ≤ 2 * j
    omega
  | [], h => exact absurd h.1 (by simp)
  | a :: b :: t, h =>
    have := h.2
    simp only [List.length_cons] at this
    show wtE (.node o (a :: b :: t)) + 1 + 2 * i ≤ 2 * j
    rw [wt_node]
    omega
theorem wt_joined {o : Int} {i : Nat} {g : Got (List Ex)} (h : WtL i g) : Wt i (g.andThen fun l j => .ok (joinE o l) j) := fun x j e => by
  cases g with
  | ok l k => cases e; exact wt_join (h _ _ rfl)
  | bad _ _ => cases e
  | out => cases e
theorem wt_exprH {one : Nat → Got Ex} (hit : ∀ i, i < S.toks.length → Wt i (one i)) (n i : Nat) (hi : i < S.toks.length) : Wt i (exprH S one n i) :=
  wt_joined (wt_byTurns (fun i hi => wt_joined (wt_byTurns hit n i hi)) n i hi)
theorem wt_leaf {o f : Int} {m : Nat} {r : Int} {v : Nat} {i j : Nat} (h : i + 1 ≤ j) : wtE (.mk o [] f m r v) + 1 + 2 * i ≤ 2 * j := by rw [wt_mk, wtL]; omega
theorem wt_test (i : Nat) (hi : i < S.toks.length) : Wt i (testG S i) := by
  intro x j e
  have h1 := (fwd_test i x j e).1
  obtain ⟨f, m, r, v, rfl⟩ : ∃ f m r v, x = .mk 6 [] f m r v := by
    refine (show All (fun x => ∃ f m r v, x = Ex.mk 6 [] f m r v) (testG S i) from ?_) x j e
    exact all_ite (all_bad _ _) (all_then fun _ _ _ => all_then fun m _ _ => all_then fun r _ _ => all_then fun v e _ => all_ok ⟨_, _, _, _, rfl⟩ e)
  exact wt_leaf h1
theorem open_is9 {d i : Nat} {u : Unit} {j : Nat} (h : openG S d i = .ok u j) : j = i + 1 := by
  unfold openG at h
  split at h
  · cases h
  · exact (adv_is9 h).2
theorem wt_one' : ∀ n d i, i < S.toks.length → Wt i (oneG S n d i)
  | 0, d, i, hi => fun x j h => by cases h
  | n + 1, d, i, hi => by
    show Wt i (oneH S (oneG S n) (fun d => exprH S (oneG S n d) n) d i)
    intro x j e
    unfold oneH at e
    split at e
    · cases ho : openG S d i with
      | ok u k =>
        have hk := (fwd_open d i _ _ ho).2
        rw [ho] at e
        have hk1 := open_is9 ho
        change (oneG S n (d + 1) k).andThen _ = _ at e
        cases hx : oneG S n (d + 1) k with
        | ok y l =>
          rw [hx] at e
          cases e
          have := wt_one' n (d + 1) k hk y _ hx
          rw [wt_node, wt_one]; omega
        | bad _ _ => rw [hx] at e; cases e
        | out => rw [hx] at e; cases e
      | bad _ _ => rw [ho] at e; cases e
      | out => rw [ho] at e; cases e
    · split at e
      · cases ho : openG S d i with
        | ok u k =>
          have hk := (fwd_open d i _ _ ho).2
          rw [ho] at e
          have hk1 := open_is9 ho
          change (exprH S (oneG S n (d + 1)) n k).andThen _ = _ at e
          cases hx : exprH S (oneG S n (d + 1)) n k with
          | ok y l =>
            rw [hx] at e
            change (demandG S bShut l).andThen _ = _ at e
            have hw := wt_exprH (fun i hi => wt_one' n (d + 1) i hi) n k hk y l hx
            cases hd : demandG S bShut l with
            | ok z q =>
              rw [hd] at e
              cases e
              have := (fwd_demand bShut l _ _ hd).1
              omega
            | bad _ _ => rw [hd] at e; cases e
            | out => rw [hd] at e; cases e
          | bad _ _ => rw [hx] at e; cases e
          | out => rw [hx] at e; cases e
        | bad _ _ => rw [ho] at e; cases e
        | out => rw [ho] at e; cases e
      · split at e
        · obtain ⟨rfl, rfl⟩ := adv_is9 e; exact wt_leaf (Nat.le_refl _)
        · split at e
          · obtain ⟨rfl, rfl⟩ := adv_is9 e; exact wt_leaf (Nat.le_refl _)
          · exact wt_test i hi x j e
theorem wt_expr (hs : S.toks.length ≤ 65537) (n d i : Nat) (hi : i < S.toks.length) : All (fun e => wtE e ≤ 140000) (exprG S n d i) := fun x j h => by
  have := wt_exprH (fun i hi => wt_one' n d i hi) n i hi x j h
  have := (fwd_expr n d i hi x j h).2
  omega
theorem wt_whole (hs : S.toks.length ≤ 65537) (n i : Nat) (hi : i < S.toks.length) : All (fun e => wtE e ≤ 140000) (wholeG S n i) := all_then fun e j hj => all_ite (all_ok (P := fun e => wtE e ≤ 140000) (wt_expr hs n 0 i hi _ j hj) j) (all_bad _ _)
theorem wt_rule (hs : S.toks.length ≤ 65537) (n i : Nat) : All (fun r => wtE r.when_ ≤ 140000) (ruleG S n i) :=
  all_then fun _ j hj => all_then fun cs k hk => all_then fun e l hl => all_then fun _ m _ => all_then fun v o hv => all_then fun _ p _ => all_ok (P := fun r : Ru => wtE r.when_ ≤ 140000) (by
    exact (show All (fun e => wtE e ≤ 140000) (whenG S n k) from all_ite (all_then fun _ j hj => wt_expr hs n 0 j (fwd_adv k () _ j hj).2) (all_ok (P := fun e => wtE e ≤ 140000) (by show wtE (.mk 1 [] 0 0 0 0) ≤ 140000; rw [wt_mk, wtL]; omega) k)) e l hl) p
theorem wt_rules (hs : S.toks.length ≤ 65537) (n : Nat) : ∀ m l i, (∀ r ∈ l, wtE r.when_ ≤ 140000) → All (fun l => ∀ r ∈ l, wtE r.when_ ≤ 140000) (rulesG S n m l i)
  | 0, l, i, _ => all_out
  | m + 1, l, i, hp => by
    unfold rulesG
    refine all_ite (all_ok hp i) (all_ite (all_bad _ _) (all_then fun x j hj => ?_))
    refine wt_rules hs n m _ j (fun r hr => ?_)
    rcases List.mem_append.1 hr with hr | hr
    · exact hp r hr
    · rw [List.mem_singleton] at hr; subst hr; exact wt_rule hs n i _ j hj
theorem wt_policy (hs : S.toks.length ≤ 65537) (n i : Nat) : All (fun p : Po => ∀ r ∈ p.rules, wtE r.when_ ≤ 140000) (policyG S n i) :=
  all_then fun _ a ha => all_then fun s b hb => all_then fun _ _ _ => all_then fun _ d _ => all_then fun f e hf => all_then fun _ _ _ => all_then fun _ h _ => all_then fun v j hv => all_then fun _ k _ => all_then fun l m hm => all_ok (P := fun p : Po => ∀ r ∈ p.rules, wtE r.when_ ≤ 140000) (wt_rules hs n n [] k (fun r hr => by cases hr) l m hm) m
end
theorem hex_len : ∀ (k n : Nat), n < 16 ^ (k + 1) → (hexL n).length ≤ k + 1
  | 0, n, h => by unfold hexL; rw [if_pos (by simpa using h)]; simp
  | k + 1, n, h => by
    unfold hexL
    split
    · simp
    · have := hex_len k (n / 16) (by rw [Nat.pow_succ] at h; omega)
      rw [List.length_append]; simp only [List.length_cons, List.length_nil]; omega
theorem dec_len {v : Nat} (h : v < 18446744073709551616) : (Lib.decDigits v).length ≤ 20 := by rw [Lib.decDigits_length]; exact Lib.nDigits_le20 v h
theorem field_len (f : Int) : (fldL f).length ≤ 4 := by unfold fldL; split <;> simp
theorem rel_len (r : Int) : (rlL r).length ≤ 2 := by
  unfold rlL
  repeat' split
  all_goals simp
theorem mask_len {m : Nat} (h : m < 18446744073709551616) : (maskL m).length ≤ 21 := by
  unfold maskL
  split
  · simp
  · have := hex_len 15 m (by rw [show (16 : Nat) ^ (15 + 1) = 18446744073709551616 from rfl]; exact h)
    rw [List.length_append]; simp only [List.length_cons, List.length_nil]; omega
theorem test_len (f : Int) {m : Nat} (r : Int) {v : Nat} (hm : m < 18446744073709551616) (hv : v < 18446744073709551616) : (testL f m r v).length ≤ 49 := by
  have h1 := field_len f; have h2 := mask_len hm; have h3 := rel_len r; have h4 := dec_len hv
  unfold testL
  simp only [List.length_append, List.length_cons]
  omega
theorem wrap_len (b : Bool) (l : List UInt8) : (wrapL b l).length ≤ l.length + 2 := by
  unfold wrapL
  split
  · simp
  · omega
theorem sep_len (o : Int) : (sepL o).length ≤ 5 := by unfold sepL; split <;> simp
theorem args_len (o : Int) : ∀ l : List Ex, (∀ e ∈ l, (exL e).length ≤ 64 * wtE e) → (argsL o l).length ≤ 64 * wtL l ∧ (moreL o l).length ≤ 64 * wtL l
  | [], _ => by rw [argsL, moreL]; simp
  | e :: l, h => by
    have h1 := h e (by simp)
    have h2 := args_len o l (fun x hx => h x (by simp [hx]))
    have h3 := wrap_len (brkB o e.op) (exL e)
    have h4 := sep_len o
    rw [argsL, moreL, wtL]
    simp only [List.length_append]
    omega
theorem ex_len {e : Ex} (h : GEx e) : (exL e).length ≤ 64 * wtE e := by
  induction h with
  | yes => rw [show Ex.plain 1 = .mk 1 [] 0 0 0 0 from rfl, exL, if_pos rfl, wt_mk]; simp only [List.length_cons, List.length_nil]; omega
  | no => rw [show Ex.plain 2 = .mk 2 [] 0 0 0 0 from rfl, exL, if_neg (by decide), if_pos rfl, wt_mk]; simp only [List.length_cons, List.length_nil]; omega
  | @inv e h ih =>
    have := wrap_len (brkB 3 e.op) (exL e)
    rw [show Ex.node 3 [e] = .mk 3 [e] 0 0 0 0 from rfl, exL, if_neg (by decide), if_neg (by decide), if_pos rfl, wt_mk, wt_one, headL]
    simp only [List.length_append, List.length_cons, List.length_nil]; omega
  | @all l hl ha ih =>
    have := (args_len 4 l ih).1
    rw [show Ex.node 4 l = .mk 4 l 0 0 0 0 from rfl, exL, if_neg (by decide), if_neg (by decide), if_neg (by decide), if_pos (by decide), wt_mk]; omega
  | @any l hl ha ih =>
    have := (args_len 5 l ih).1
    rw [show Ex.node 5 l = .mk 5 l 0 0 0 0 from rfl, exL, if_neg (by decide), if_neg (by decide), if_neg (by decide), if_pos (by decide), wt_mk]; omega
  | @test f m r v hf hr hm hv =>
    have := test_len f r hm hv
    rw [exL, if_neg (by decide), if_neg (by decide), if_neg (by decide), if_neg (by decide), wt_mk]; omega
theorem kind_len (k : Int) : (kindL k).length ≤ 12 := by
  unfold kindL
  repeat' split
  all_goals simp
theorem verd_len {v : Int × Nat} (h : GVd v) : (verdL v).length ≤ 33 := by
  have h1 := kind_len v.1; have h2 := dec_len h.2.1
  unfold verdL
  split
  · simp only [List.length_append, List.length_cons]; omega
  · omega
theorem name_len {s : ByteArray} (h : NameB s) : s.size ≤ 32 := by
  have := of_decide_eq_true (p := 1 ≤ s.size ∧ s.size ≤ 32 ∧ _) h
  exact this.2.1
theorem call_len {c : ByteArray × Nat} (h : GCall c) : (callL c).length ≤ 32 := by
  unfold callL
  rcases h with h | h
  · rw [if_pos h.1]; have := dec_len h.2; omega
  · have := name_len h.1
    split
    · rw [h.2]; have := dec_len (v := 0) (by decide); omega
    · rw [Array.length_toList]; exact this
theorem calls_len9 : ∀ l : List (ByteArray × Nat), (∀ c ∈ l, GCall c) → (callsL l).length ≤ 34 * l.length
  | [], _ => by rw [callsL]; simp
  | c :: l, h => by
    have h1 := call_len (h c (by simp))
    have h2 := calls_len9 l (fun x hx => h x (by simp [hx]))
    rw [callsL]; simp only [List.length_append, List.length_cons, List.length_nil]; omega
theorem first_len {l : List (ByteArray × Nat)} (h : ∀ c ∈ l, GCall c) : (firstL l).length ≤ 34 * l.length := by
  cases l with
  | nil => rw [firstL]; simp
  | cons c l =>
    have h1 := call_len (h c (by simp))
    have h2 := calls_len9 l (fun x hx => h x (by simp [hx]))
    rw [firstL]; simp only [List.length_append, List.length_cons]; omega
theorem rule_len {r : Ru} (h : GRu r) (hw : wtE r.when_ ≤ 140000) : (ruleL r).length ≤ 16777216 := by
  have h1 := first_len h.calls.2.2
  have h2 := h.calls.2.1
  have h3 := ex_len h.when_
  have h4 := verd_len h.do_
  have h5 : (whenL r.when_).length ≤ 6 + (exL r.when_).length := by
    unfold whenL
    split
    · simp
    · simp only [List.length_append, List.length_cons, List.length_nil]; omega
  unfold ruleL
  simp only [List.length_append, List.length_cons, List.length_nil]
  omega
theorem rules_len : ∀ l : List Ru, (∀ r ∈ l, GRu r ∧ wtE r.when_ ≤ 140000) → (rulesL l).length ≤ 16777216 * l.length
  | [], _ => by rw [rulesL]; simp
  | r :: l, h => by
    have h1 := rule_len (h r (by simp)).1 (h r (by simp)).2
    have h2 := rules_len l (fun x hx => h x (by simp [hx]))
    rw [rulesL]; simp only [List.length_append, List.length_cons]; omega
theorem heads_len {p : Po} (h : GPo p) : (headsL p).length ≤ 200 := by
  have h1 := name_len h.arch; have h2 := verd_len h.foreign_; have h3 := verd_len h.default_
  have h4 : p.arch.data.toList.length = p.arch.size := by rw [Array.length_toList]; rfl
  unfold headsL
  simp only [List.length_append, List.length_cons, List.length_nil, h4]
  omega
end Go.Proofs.YtgeapkjegemkeaaGreatDoor
