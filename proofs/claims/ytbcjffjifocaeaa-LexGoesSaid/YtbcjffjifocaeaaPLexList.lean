/-
  The program's List of a text: a contract. Condition: the text's size.
-/
import Derived.Test.YtbcjffjifocaeaaLexAll
import Derived.Test.YtbcjffjifocaeaaLexSame
import Derived.Test.YtbcjffjifocaeaaAppendFew
import Derived.RangeFuncFrom
namespace Go.Proofs.Ytbcjffjifocaeaa
open Go Go.RowKit Go.Shelf
attribute [local go_sem] Oper.semAt_some
set_option linter.unusedSimpArgs false
set_option linter.unusedVariables false

/-- What List tells: the tokens, if there is no error. -/
def lstF (s : ByteArray) : List Nx := if (toksF s).2.1 = 0 then (toksF s).1 else []
def LstP (s : ByteArray) (w : World) (e : Ending) (w' : World) : Prop :=
  ∃ A cap, e = .returned (.tuple #[.slice A (lstF s).length cap, .int .i64 (toksF s).2.1, .int .i64 ((toksF s).2.2 : Int)]) ∧ TokAt w' A (lstF s).length (fun i => (lstF s).getD i noTok) ∧ Below w.heap.size w w'
theorem wrap64_id5 (x : Int) (h0 : 0 ≤ x) (h1 : x ≤ 1000000) : wrap64 x = x := by unfold wrap64; omega
theorem p_behind5 (kind : Int) (text : ByteArray) (num : Nat) (pos : Nat) (w : World) : Calls Try.prog 20 #[.agg #[.int .i64 kind, .string text, .int .u64 (num : Int), .int .i64 (pos : Int)]] w fun e w' => ∃ p : Int, e = .returned (.int .i64 p) ∧ (pos + text.size ≤ 65536 → p = ((pos + text.size : Nat) : Int)) ∧ Below w.heap.size w w' := by
  go_enter Try.func20, Try.ntmps20
  go_wp2
  go_ret
  refine ⟨_, rfl, fun h => ?_, lbox w _⟩
  rw [wrap64_id5 _ (by omega) (by omega)]; omega
/-- The place that a walk through the items has come to. -/
def AtP (s : ByteArray) (pre : List Nx) (p : Int) : Prop := pre <+: itemsF s → pre.length < (itemsF s).length → ∃ i : Nat, p = (i : Int) ∧ AtI s pre i
theorem pre_item {s : ByteArray} {pre : List Nx} {x : Nx} {i : Nat} (hA : AtI s pre i) (h : pre ++ [x] <+: itemsF s) : x = nextF s (i : Int) := by
  obtain ⟨r, hr⟩ := h
  obtain ⟨r', hr'⟩ := hA.prefix_
  have := hr.trans hr'.symm
  simp only [List.append_assoc, List.append_cancel_left_eq, List.cons_append, List.nil_append, List.cons.injEq] at this
  exact this.1
theorem pre_less {s : ByteArray} {pre : List Nx} {x : Nx} (h : pre ++ [x] <+: itemsF s) : pre <+: itemsF s ∧ pre.length < (itemsF s).length := by
  obtain ⟨r, hr⟩ := h
  exact ⟨⟨x :: r, by rw [← hr]; simp⟩, by rw [← hr]; simp⟩
/-- The items up to an error: the tokens, and the error behind them. -/
theorem toks_err (s : ByteArray) : ∀ k i, ∀ x ∈ (toksN s k i).1, x.err = 0
  | 0, _, x, h => by cases h
  | k + 1, i, x, h => by
    by_cases he : (nextF s (i : Int)).err ≠ 0
    · have hT : toksN s (k + 1) i = ([], (nextF s (i : Int)).err, (nextF s (i : Int)).next) := if_pos he
      rw [hT] at h; cases h
    · by_cases hk : (nextF s (i : Int)).kind = 1
      · have hT : toksN s (k + 1) i = ([nextF s (i : Int)], 0, 0) := (if_neg he).trans (if_pos hk)
        rw [hT] at h
        rw [List.mem_singleton.1 h]; exact Classical.byContradiction he
      · have hT : toksN s (k + 1) i = (nextF s (i : Int) :: (toksN s k (nextF s (i : Int)).next).1, (toksN s k (nextF s (i : Int)).next).2) := (if_neg he).trans (if_neg hk)
        rw [hT] at h
        rcases List.mem_cons.1 h with g | g
        · rw [g]; exact Classical.byContradiction he
        · exact toks_err s k _ x g
theorem toks_errs (s : ByteArray) : ∀ x ∈ (toksF s).1, x.err = 0 := toks_err s (s.size + 1) 0
theorem items_bad {s : ByteArray} {pre : List Nx} {i : Nat} (hA : AtI s pre i) (hok : ∀ x ∈ pre, x.err = 0) (he : (nextF s (i : Int)).err ≠ 0) : (toksF s).2.1 = (nextF s (i : Int)).err ∧ (toksF s).2.2 = (nextF s (i : Int)).next := by
  have h := hA.last (.inl he)
  have h2 : (toksF s).1 ++ (if (toksF s).2.1 ≠ 0 then [Nx.fail (toksF s).2.2 (toksF s).2.1] else []) = pre ++ [nextF s (i : Int)] := h
  by_cases hz : (toksF s).2.1 ≠ 0
  · rw [if_pos hz] at h2
    have := (List.append_inj' h2 rfl).2
    injection this with h3 _
    rw [← h3]; exact ⟨rfl, rfl⟩
  · rw [if_neg hz, List.append_nil] at h2
    have := toks_errs s (nextF s (i : Int)) (by rw [h2]; simp)
    exact absurd this he
theorem items_good {s : ByteArray} (h : ∀ x ∈ itemsF s, x.err = 0) : (toksF s).2.1 = 0 ∧ (toksF s).2.2 = 0 ∧ itemsF s = (toksF s).1 := by
  have hz : (toksF s).2.1 = 0 := Classical.byContradiction fun hz => by
    have h2 : itemsF s = (toksF s).1 ++ (if (toksF s).2.1 ≠ 0 then [Nx.fail (toksF s).2.2 (toksF s).2.1] else []) := rfl
    rw [if_pos hz] at h2
    exact hz (h (Nx.fail (toksF s).2.2 (toksF s).2.1) (by rw [h2]; simp))
  refine ⟨hz, toks_ok (s.size + 1) 0 hz, ?_⟩
  show (toksF s).1 ++ (if (toksF s).2.1 ≠ 0 then _ else _) = _
  rw [if_neg (fun g => g hz), List.append_nil]
/-- Behind a token that is no error the place is its end. -/
theorem atp_on {s : ByteArray} {pre : List Nx} {p : Int} {x : Nx} (h : AtP s pre p) (he : x.err = 0) {p' : Int} (hp : x.pos + x.text.size ≤ 65536 → p' = ((x.pos + x.text.size : Nat) : Int)) : AtP s (pre ++ [x]) p' := fun h1 h2 => by
  have hl := pre_less h1
  obtain ⟨i, _, hA⟩ := h hl.1 hl.2
  have hx := pre_item hA h1
  have he' : (nextF s (i : Int)).err = 0 := by rw [← hx]; exact he
  have hk : (nextF s (i : Int)).kind ≠ 1 := fun g => by
    have := hA.last (.inr g)
    rw [← hx] at this
    rw [this] at h2; exact absurd h2 (Nat.lt_irrefl _)
  have hs := err_small he'
  have hon := hA.on he' hk
  have hin := next_in hs hA.le
  have hb := tok_behind (skip_le (byt s) s.size i hA.le) (by rw [← hin]; exact he')
  rw [← hin, ← hx] at hb
  rw [← hx] at hon
  exact ⟨x.next, by rw [hp (by omega), hb.1], hon.1⟩
structure LI (s : ByteArray) (w : World) (pre : List Nx) (W : World) : Prop where
  text : Boxed W w.heap.size 9 (.string s)
  r1 : Boxed W (w.heap.size + 1) 23 (.slice none 0 0)
  r2 : Boxed W (w.heap.size + 1 + 1) 24 (.int .i64 0)
  r3 : Boxed W (w.heap.size + 1 + 1 + 1) 3 (.int .i64 0)
  row : ∃ v, Boxed W (w.heap.size + 1 + 1 + 1 + 1) 23 v ∧ W.ownsRow w.heap.size 30 4 v pre.length (tksC pre) ∧ (pre.length = 0 → v = .slice none 0 0)
  at_ : ∃ p : Int, Boxed W (w.heap.size + 1 + 1 + 1 + 1 + 1) 3 (.int .i64 p) ∧ AtP s pre p
  ok : ∀ x ∈ pre, x.err = 0
  big : w.heap.size + 7 ≤ W.heap.size
  below : Below w.heap.size w W
/-- Behind a return out of a round. -/
structure LX (s : ByteArray) (w : World) (pre : List Nx) (W : World) : Prop where
  r1 : Boxed W (w.heap.size + 1) 23 (.slice none 0 0)
  r23 : ∃ E P : Int, Boxed W (w.heap.size + 1 + 1) 24 (.int .i64 E) ∧ Boxed W (w.heap.size + 1 + 1 + 1) 3 (.int .i64 P) ∧ (pre <+: itemsF s → E = (toksF s).2.1 ∧ P = ((toksF s).2.2 : Int) ∧ E ≠ 0)
  below : Below w.heap.size w W
theorem box_row {X : World} {B : Nat} {t : TypeId} {v : Value} {row : Option Nat} {B0 : Nat} (h : Boxed X B t v) (hr : ∀ r, row = some r → B0 ≤ r ∧ ∃ o : Obj, X.heap[r]? = some o ∧ o.isCells = false) : some B ≠ row := fun e => by
  obtain ⟨_, o, ho, hc⟩ := hr B e.symm
  rw [show X.heap[B]? = _ from h] at ho; cases ho; cases hc
theorem own_row {X Y : World} {row : Option Nat} {B0 base : Nat} {e : TypeId} {sz : Nat} {v : Value} {n : Nat} {xs : List Value} (h : X.ownsRow base e sz v n xs) (hg : X.grownBy Y row) (hr : ∀ r, row = some r → B0 ≤ r ∧ ∃ o : Obj, X.heap[r]? = some o ∧ o.isCells = false) : Y.ownsRow base e sz v n xs := by
  refine h.kept hg ?_
  rcases h.2 with ⟨rfl, _⟩ | ⟨g, cap, cur, rfl, _, hgb, _⟩
  · exact .inl rfl
  · refine .inr fun e' => ?_
    obtain ⟨_, o, ho, hc⟩ := hr g (by simpa [Value.ownBlock] using e'.symm)
    rw [hgb] at ho; cases ho; cases hc
theorem li_own (s : ByteArray) (w : World) {B : Nat} (hB : w.heap.size ≤ B) : OwnFrom B (LI s w) := fun pre X Y row h hg hr =>
  ⟨h.text.kept hg (box_row h.text hr), h.r1.kept hg (box_row h.r1 hr), h.r2.kept hg (box_row h.r2 hr), h.r3.kept hg (box_row h.r3 hr),
   let ⟨v, h1, h2, h3⟩ := h.row; ⟨v, h1.kept hg (box_row h1 hr), own_row h2 hg hr, h3⟩,
   let ⟨p, h1, h2⟩ := h.at_; ⟨p, h1.kept hg (box_row h1 hr), h2⟩, h.ok, Nat.le_trans h.big hg.size,
   h.below.grown hg h.below.size (fun k e => Nat.le_trans hB (hr k e).1)⟩
theorem lx_own (s : ByteArray) (w : World) {B : Nat} (hB : w.heap.size ≤ B) : OwnFrom B (LX s w) := fun pre X Y row h hg hr =>
  ⟨h.r1.kept hg (box_row h.r1 hr), let ⟨E, P, h1, h2, h3⟩ := h.r23; ⟨E, P, h1.kept hg (box_row h1 hr), h2.kept hg (box_row h2 hr), h3⟩,
   h.below.grown hg h.below.size (fun k e => Nat.le_trans hB (hr k e).1)⟩
/-- The blocks that List's rounds write. -/
def XL (N : Nat) (k : Nat) : Prop := N + 1 ≤ k ∧ k ≤ N + 5
theorem info_tok5 : (Try.prog.info? 30).map (fun i => (i.zero, i.size, i.bytes)) = some (some (.agg #[.int .i64 0, .string ⟨#[]⟩, .int .u64 0, .int .i64 0]), 4, 40) := by kernel_rfl
theorem toks_len (s : ByteArray) : ∀ k i, (toksN s k i).1.length ≤ k
  | 0, _ => Nat.le_refl _
  | k + 1, i => by
    by_cases he : (nextF s (i : Int)).err ≠ 0
    · have hT : toksN s (k + 1) i = ([], (nextF s (i : Int)).err, (nextF s (i : Int)).next) := if_pos he
      rw [hT]; exact Nat.zero_le _
    · by_cases hk : (nextF s (i : Int)).kind = 1
      · have hT : toksN s (k + 1) i = ([nextF s (i : Int)], 0, 0) := (if_neg he).trans (if_pos hk)
        rw [hT]; exact Nat.succ_le_succ (Nat.zero_le _)
      · have hT : toksN s (k + 1) i = (nextF s (i : Int) :: (toksN s k (nextF s (i : Int)).next).1, (toksN s k (nextF s (i : Int)).next).2) := (if_neg he).trans (if_neg hk)
        rw [hT]; exact Nat.succ_le_succ (toks_len s k _)
theorem toks_long {s : ByteArray} (h : 65536 < s.size) : toksF s = ([], 54, 0) := by
  have he : (nextF s ((0 : Nat) : Int)).err ≠ 0 := by unfold nextF; rw [if_pos h]; decide
  have hT : toksN s (s.size + 1) 0 = ([], (nextF s ((0 : Nat) : Int)).err, (nextF s ((0 : Nat) : Int)).next) := if_pos he
  show toksN s (s.size + 1) 0 = _
  rw [hT]; unfold nextF; rw [if_pos h]; rfl
theorem toks_small (s : ByteArray) : (toksF s).1.length ≤ 65537 := by
  rcases Nat.lt_or_ge 65536 s.size with h | h
  · rw [toks_long h]; exact Nat.zero_le _
  · have := toks_len s (s.size + 1) 0
    show (toksN s (s.size + 1) 0).1.length ≤ _
    omega
theorem lst_small (s : ByteArray) : (lstF s).length ≤ 65537 := by
  unfold lstF; split
  · exact toks_small s
  · exact Nat.zero_le _
theorem items_len (s : ByteArray) : (itemsF s).length ≤ 65538 := by
  have := toks_small s
  show ((toksF s).1 ++ (if (toksF s).2.1 ≠ 0 then _ else _)).length ≤ _
  rw [List.length_append]
  split <;> simp <;> omega
theorem tok_path {W w1 : World} {O : Obj} {Bx N4 : Nat} {kind : Int} {text : ByteArray} {num pos : Nat} (h : W.heap[Bx]? = some (.cells #[.int .i64 kind, .string text, .int .u64 (num : Int), .int .i64 (pos : Int)] 30 (0, 0))) (hk : KeepC (fun _ => False) (W.alloc O) w1) (h4 : Bx ≠ N4) (u : Value) :
    Tk (w1.setCell ⟨N4, 0, none⟩ u) Bx kind text num pos := by
  have h1 : w1.heap[Bx]? = some (.cells #[.int .i64 kind, .string text, .int .u64 (num : Int), .int .i64 (pos : Int)] 30 (0, 0)) := hk.same Bx _ id ((Below.heap_alloc W O Bx (Array.getElem?_eq_some_iff.1 h).1).trans h) rfl
  have h2 : Tk w1 Bx kind text num pos := by
    refine ⟨?_, ?_, ?_, ?_⟩ <;> (unfold World.cell?; rw [h1]; rfl)
  exact h2.set (fun e => h4 e.symm) 0 u
theorem box_def {W : World} {B D : Nat} {t : TypeId} {v : Value} {o : Obj} (h : Boxed W B t v) (hD : W.heap[D]? = some o) (hc : o.isCells = false) : some B ≠ some D := fun e => by
  cases e; rw [show W.heap[B]? = _ from h] at hD; cases hD; cases hc
theorem kf_below {B : Nat} {W W' : World} (hb : Below W.heap.size W W') : KeepsFrom B W W' := KeepsFrom.of_grownBy (grown_of_below hb none) (fun j e => by cases e)
/-- A box that a round does not write, along the round. -/
theorem box_path {W w1 w3 : World} {O : Obj} {B N4 N5 : Nat} {t : TypeId} {v v' p' : Value} (h : Boxed W B t v) (hk : KeepC (fun _ => False) (W.alloc O) w1) (h4 : B ≠ N4) (hb : Below (w1.setCell ⟨N4, 0, none⟩ v').heap.size (w1.setCell ⟨N4, 0, none⟩ v') w3) (h5 : B ≠ N5) :
    Boxed (w3.setCell ⟨N5, 0, none⟩ p') B t v := by
  have h1 : Boxed w1 B t v := hk.box id (h.alloc O)
  have h2 := h1.other h4 v'
  exact (box_below h2 hb h2.lt).other h5 p'
set_option maxRecDepth 100000 in
set_option maxHeartbeats 2000000 in
theorem lex_List (s : ByteArray) (hm : s.size ≤ maxLen) (w : World) : Calls Try.prog 9 #[.string s] w (LstP s w) := by
  have HA := Lib.hid (fun w => all_is s w)
  refine (callsIn_wide (n := 8)).1 ?_
  refine callsIn_of_wp_marks Try.func9 rfl trivial ?_ rfl
  simp only [Try.ntmps9, List.size_toArray, List.length_cons, List.length_nil, Nat.reduceAdd, Nat.reduceSub, Array.replicate_succ, Array.replicate_zero, List.push_toArray, List.append_toArray, List.nil_append, List.cons_append]
  gi_wp2_with (first
    | (refine ⟨trivial, ?_⟩; gi_at_call 19; refine (callsIn_wide.2 (HA.out _)).mono ?_; rintro e wc ⟨rfl, rfl⟩))
  have n0 := Boxed.new w 9 (.string s)
  have m0 : Boxed ((((((((w.alloc (.cells #[.string s] 9)).alloc (.cells #[.slice none 0 0] 23)).alloc (.cells #[.int .i64 0] 24)).alloc (.cells #[.int .i64 0] 3)).alloc (.cells #[.slice none 0 0] 23)).alloc (.cells #[.int .i64 0] 3)).alloc (.cells #[.string s] 9))) (w.heap.size) 9 (.string s) := ((((((n0.alloc _).alloc _).alloc _).alloc _).alloc _).alloc _)
  have n1 := Boxed.new (w.alloc (.cells #[.string s] 9)) 23 (.slice none 0 0)
  simp only [World.size_alloc] at n1
  have m1 : Boxed ((((((((w.alloc (.cells #[.string s] 9)).alloc (.cells #[.slice none 0 0] 23)).alloc (.cells #[.int .i64 0] 24)).alloc (.cells #[.int .i64 0] 3)).alloc (.cells #[.slice none 0 0] 23)).alloc (.cells #[.int .i64 0] 3)).alloc (.cells #[.string s] 9))) (w.heap.size + 1) 23 (.slice none 0 0) := (((((n1.alloc _).alloc _).alloc _).alloc _).alloc _)
  have n2 := Boxed.new ((w.alloc (.cells #[.string s] 9)).alloc (.cells #[.slice none 0 0] 23)) 24 (.int .i64 0)
  simp only [World.size_alloc] at n2
  have m2 : Boxed ((((((((w.alloc (.cells #[.string s] 9)).alloc (.cells #[.slice none 0 0] 23)).alloc (.cells #[.int .i64 0] 24)).alloc (.cells #[.int .i64 0] 3)).alloc (.cells #[.slice none 0 0] 23)).alloc (.cells #[.int .i64 0] 3)).alloc (.cells #[.string s] 9))) (w.heap.size + 1 + 1) 24 (.int .i64 0) := ((((n2.alloc _).alloc _).alloc _).alloc _)
  have n3 := Boxed.new (((w.alloc (.cells #[.string s] 9)).alloc (.cells #[.slice none 0 0] 23)).alloc (.cells #[.int .i64 0] 24)) 3 (.int .i64 0)
  simp only [World.size_alloc] at n3
  have m3 : Boxed ((((((((w.alloc (.cells #[.string s] 9)).alloc (.cells #[.slice none 0 0] 23)).alloc (.cells #[.int .i64 0] 24)).alloc (.cells #[.int .i64 0] 3)).alloc (.cells #[.slice none 0 0] 23)).alloc (.cells #[.int .i64 0] 3)).alloc (.cells #[.string s] 9))) (w.heap.size + 1 + 1 + 1) 3 (.int .i64 0) := (((n3.alloc _).alloc _).alloc _)
  have n4 := Boxed.new ((((w.alloc (.cells #[.string s] 9)).alloc (.cells #[.slice none 0 0] 23)).alloc (.cells #[.int .i64 0] 24)).alloc (.cells #[.int .i64 0] 3)) 23 (.slice none 0 0)
  simp only [World.size_alloc] at n4
  have m4 : Boxed ((((((((w.alloc (.cells #[.string s] 9)).alloc (.cells #[.slice none 0 0] 23)).alloc (.cells #[.int .i64 0] 24)).alloc (.cells #[.int .i64 0] 3)).alloc (.cells #[.slice none 0 0] 23)).alloc (.cells #[.int .i64 0] 3)).alloc (.cells #[.string s] 9))) (w.heap.size + 1 + 1 + 1 + 1) 23 (.slice none 0 0) := ((n4.alloc _).alloc _)
  have n5 := Boxed.new (((((w.alloc (.cells #[.string s] 9)).alloc (.cells #[.slice none 0 0] 23)).alloc (.cells #[.int .i64 0] 24)).alloc (.cells #[.int .i64 0] 3)).alloc (.cells #[.slice none 0 0] 23)) 3 (.int .i64 0)
  simp only [World.size_alloc] at n5
  have m5 : Boxed ((((((((w.alloc (.cells #[.string s] 9)).alloc (.cells #[.slice none 0 0] 23)).alloc (.cells #[.int .i64 0] 24)).alloc (.cells #[.int .i64 0] 3)).alloc (.cells #[.slice none 0 0] 23)).alloc (.cells #[.int .i64 0] 3)).alloc (.cells #[.string s] 9))) (w.heap.size + 1 + 1 + 1 + 1 + 1) 3 (.int .i64 0) := (n5.alloc _)
  have n6 := Boxed.new ((((((w.alloc (.cells #[.string s] 9)).alloc (.cells #[.slice none 0 0] 23)).alloc (.cells #[.int .i64 0] 24)).alloc (.cells #[.int .i64 0] 3)).alloc (.cells #[.slice none 0 0] 23)).alloc (.cells #[.int .i64 0] 3)) 9 (.string s)
  simp only [World.size_alloc] at n6
  have m6 : Boxed ((((((((w.alloc (.cells #[.string s] 9)).alloc (.cells #[.slice none 0 0] 23)).alloc (.cells #[.int .i64 0] 24)).alloc (.cells #[.int .i64 0] 3)).alloc (.cells #[.slice none 0 0] 23)).alloc (.cells #[.int .i64 0] 3)).alloc (.cells #[.string s] 9))) (w.heap.size + 1 + 1 + 1 + 1 + 1 + 1) 9 (.string s) := n6
  have hBw : Below w.heap.size w ((((((((w.alloc (.cells #[.string s] 9)).alloc (.cells #[.slice none 0 0] 23)).alloc (.cells #[.int .i64 0] 24)).alloc (.cells #[.int .i64 0] 3)).alloc (.cells #[.slice none 0 0] 23)).alloc (.cells #[.int .i64 0] 3)).alloc (.cells #[.string s] 9))) := ((((((((Below.refl _ w).alloc (Nat.le_refl _) _).alloc (by simp) _).alloc (by simp; omega) _).alloc (by simp; omega) _).alloc (by simp; omega) _).alloc (by simp; omega) _).alloc (by simp; omega) _)
  have h0 : LI s w [] ((((((((w.alloc (.cells #[.string s] 9)).alloc (.cells #[.slice none 0 0] 23)).alloc (.cells #[.int .i64 0] 24)).alloc (.cells #[.int .i64 0] 3)).alloc (.cells #[.slice none 0 0] 23)).alloc (.cells #[.int .i64 0] 3)).alloc (.cells #[.string s] 9))) := { text := m0, r1 := m1, r2 := m2, r3 := m3, row := ⟨_, m4, World.ownsRow_nil _ _ _ _, fun _ => rfl⟩, at_ := ⟨0, m5, fun _ _ => ⟨0, rfl, at_start s⟩⟩, ok := fun x hx => absurd hx (by simp), big := (by simp), below := hBw }
  have hbs := m6
  clear n0 n1 n2 n3 n4 n5 n6 m0 m1 m2 m3 m4 m5 m6 hBw
  have hsz : (((((((w.alloc (.cells #[.string s] 9)).alloc (.cells #[.slice none 0 0] 23)).alloc (.cells #[.int .i64 0] 24)).alloc (.cells #[.int .i64 0] 3)).alloc (.cells #[.slice none 0 0] 23)).alloc (.cells #[.int .i64 0] 3)).alloc (.cells #[.string s] 9)).heap.size = w.heap.size + 7 := by simp
  generalize hW0 : (((((((w.alloc (.cells #[.string s] 9)).alloc (.cells #[.slice none 0 0] 23)).alloc (.cells #[.int .i64 0] 24)).alloc (.cells #[.int .i64 0] 3)).alloc (.cells #[.slice none 0 0] 23)).alloc (.cells #[.int .i64 0] 3)).alloc (.cells #[.string s] 9)) = W0 at h0 hbs hsz ⊢
  clear hW0
  have hXW : ∀ k, XL w.heap.size k → k < W0.heap.size := fun k h => by have := h.2; omega
  have hXB : ¬ XL w.heap.size (w.heap.size + 1 + 1 + 1 + 1 + 1 + 1) := fun h => by have := h.2; omega
  refine wpIn_rangeFunc_ownH rfl (by decide) (gf := 33) (lb := #[.pointer (some ⟨w.heap.size + 1 + 1 + 1 + 1 + 1 + 1, 0, none⟩)]) rfl trivial (enters_of Try.func33 (by kernel_rfl) rfl)
    (all_stops5 s hm (8 - 1) (by decide) (w.heap.size + 1 + 1 + 1 + 1 + 1 + 1) (XL w.heap.size) W0 hXW hbs hXB) keepC_t keepC_b (Below.refl _ _) (fun _ => rfl)
    (LI s w) (fun c pre W => c = .ret ∧ LX s w pre W) (li_own s w (by omega)) (fun c => fun pre X Y row h hg hr => ⟨h.1, lx_own s w (by omega) pre X Y row h.2 hg hr⟩) h0
    (fun x a' W => ∃ Bx, w.heap.size + 6 < Bx ∧ W.heap[Bx]? = some (.cells #[.int .i64 x.kind, .string x.text, .int .u64 (x.num : Int), .int .i64 (x.pos : Int)] 30 (0, 0)) ∧ a' = { tmps := #[.string s, .pointer (some ⟨w.heap.size, 0, none⟩), .pointer (some ⟨w.heap.size + 1, 0, none⟩), .pointer (some ⟨w.heap.size + 1 + 1, 0, none⟩), .pointer (some ⟨w.heap.size + 1 + 1 + 1, 0, none⟩), .pointer (some ⟨w.heap.size + 1 + 1 + 1 + 1, 0, none⟩), .pointer (some ⟨w.heap.size + 1 + 1 + 1 + 1 + 1, 0, none⟩), .pointer (some ⟨Bx, 0, none⟩), .int .i64 x.err, undef, undef, undef, .string s, .func (.func 33) #[] #[.pointer (some ⟨w.heap.size + 1 + 1 + 1 + 1 + 1 + 1, 0, none⟩)], .agg #[.int .i64 x.kind, .string x.text, .int .u64 (x.num : Int), .int .i64 (x.pos : Int)], .int .i64 x.err, undef, undef, undef, undef, undef, undef, undef, undef, undef, undef, undef, undef, undef, undef, undef, undef, undef, undef], defers := [] })
    (fun x a' _ X Y row hs hg hr => by
      obtain ⟨Bx, h1, h2, h3⟩ := hs
      refine ⟨Bx, h1, (hg.block Bx (Array.getElem?_eq_some_iff.1 h2).1 (fun e => ?_)).trans h2, h3⟩
      obtain ⟨_, o, ho, hc⟩ := hr Bx e.symm
      rw [h2] at ho; cases ho; cases hc)
    ?assign ?body ?done ?stop
  case assign =>
    rintro l pre x W K hI hK
    have HI := Lib.hid hI
    clear hI
    gi_wp2
    exact hK _ _ ((KeepsOthers.alloc _ _).from _) (KeepC.alloc _) ((li_own s w (Nat.le_refl _)).alloc _ HI.out) ⟨W.heap.size, by have := HI.out.big; omega, World.alloc_heap_new W _, rfl⟩
  case body =>
    rintro l pre x a' W hl ⟨r, hr⟩ hI ⟨Bx, hBx, hTx, rfl⟩ hlt
    have b0 := hI.text.cell
    obtain ⟨p, hbp, hatp⟩ := hI.at_
    have b5 := hbp.cell
    have t0 : W.cell? ⟨Bx, 0, none⟩ = some (.int .i64 x.kind) := World.cell?_of_heap5 hTx
    have t1 : W.cell? ⟨Bx, 1, none⟩ = some (.string x.text) := by unfold World.cell?; rw [hTx]; rfl
    have t2 : W.cell? ⟨Bx, 2, none⟩ = some (.int .u64 (x.num : Int)) := by unfold World.cell?; rw [hTx]; rfl
    have t3 : W.cell? ⟨Bx, 3, none⟩ = some (.int .i64 (x.pos : Int)) := by unfold World.cell?; rw [hTx]; rfl
    have h18 : 1 ≤ 8 - 1 - 1 := by decide
    have HP := Lib.hid hatp
    have HI := Lib.hid hI
    by_cases he : x.err = 0
    · have he2 : (x.err != 0) = false := by rw [he]; rfl
      have HE := Lib.hid he
      obtain ⟨v, hbv, hrow, hnil⟩ := hI.row
      have b4 := hbv.cell
      have hsz8 := hI.big
      have hitems := items_len s
      have HTx := Lib.hid hTx
      have HBV := Lib.hid hbv
      have HROW := Lib.hid hrow
      have HBP := Lib.hid hbp
      have hBh := fun w => p_behind5 x.kind x.text x.num x.pos w
      have HBh := Lib.hid hBh
      clear hatp hTx hI hBh hbv hrow hbp he
      gi_wp2_with (first
        | (gi_at_builtin; refine wpListIn_append_few _ rfl _ _ 23 rfl w.heap.size 30 (.agg #[.int .i64 0, .string ⟨#[]⟩, .int .u64 0, .int .i64 0]) 4 40 Try.underlying23 info_tok5 rfl (by decide) v pre.length (tksC pre) rfl (HROW.out.alloc _) hnil ⟨W.heap.size, 0, none⟩ 1 1 (by decide) (tkC x) rfl rfl (tk_cells _ _ rfl x.kind x.text x.num x.pos x.next x.err) (tk_one _) (by unfold maxLen; omega) (by omega) (by simp; omega) ?_; intro v' w1 hown' hgrow hkc; obtain ⟨g', cap', rfl⟩ := ownsRow_succ hown'; have hap := HBV.out.appended (by decide) HROW.out HI.out.below.size (by omega) hown' hgrow; have HAP := Lib.hid hap; have HKC := Lib.hid hkc; have c4 := hap.1.cell; have f4 := hap.1.frozen; have HT2 := Lib.hid (fun u => tok_path HTx.out hkc (show Bx ≠ w.heap.size + 1 + 1 + 1 + 1 by omega) u); have u0 := fun u => (HT2.out u).1; have u1 := fun u => (HT2.out u).2.1; have u2 := fun u => (HT2.out u).2.2.1; have u3 := fun u => (HT2.out u).2.2.2; clear hap hkc hown' hgrow)
        | (refine ⟨trivial, ?_⟩; gi_at_call 20; refine (CallsIn.inRound l (callsIn_wide.2 (HBh.out _))).mono ?_; rintro e w3 ⟨p', rfl, hp', hb⟩; have HB := Lib.hid hb; have HPP := Lib.hid hp'; have q5 := box_below ((HKC.out.box id (HBP.out.alloc _)).other (by omega) _) hb (by simp; exact (HKC.out.box id (HBP.out.alloc _)).lt); have c5 := q5.cell; have f5 := q5.frozen; have HQ5 := Lib.hid q5; clear hb hp' q5))
      obtain ⟨a1, a2, a3, a4, a5⟩ := HAP.out
      have row3 := own_below a3 HB.out
      have row4 := row3.kept (grownBy_setCell' w3 (w.heap.size + 1 + 1 + 1 + 1 + 1) (.int .i64 p')) (.inr (HQ5.out.not_row (by decide) row3).symm)
      exact ⟨((a4.from _).trans (kf_below HB.out)).trans ((KeepsOthers.setCell _ _ _).from _),
        ((((KeepC.alloc _).trans (HKC.out.mono (fun _ h => h.elim))).trans (KeepC.setCell (show XL w.heap.size (w.heap.size + 1 + 1 + 1 + 1) from ⟨by omega, by omega⟩) _)).trans (KeepC.of_below HB.out)).trans (KeepC.setCell (show XL w.heap.size (w.heap.size + 1 + 1 + 1 + 1 + 1) from ⟨by omega, by omega⟩) _),
        { text := box_path HI.out.text HKC.out (by omega) HB.out (by omega)
          r1 := box_path HI.out.r1 HKC.out (by omega) HB.out (by omega)
          r2 := box_path HI.out.r2 HKC.out (by omega) HB.out (by omega)
          r3 := box_path HI.out.r3 HKC.out (by omega) HB.out (by omega)
          row := ⟨_, (box_below a2 HB.out a2.lt).other (by omega) _, by rw [List.length_append, tksC_snoc]; exact row4, fun h => absurd h (by simp)⟩
          at_ := ⟨p', HQ5.out.set _, atp_on HP.out HE.out HPP.out⟩
          ok := fun y hy => by
            rcases List.mem_append.1 hy with h | h
            · exact HI.out.ok y h
            · rw [List.mem_singleton.1 h]; exact HE.out
          big := by have h1 := a4.size; have h2 := HB.out.size; have h3 := (KeepsOthers.setCell w3 ⟨w.heap.size + 1 + 1 + 1 + 1 + 1, 0, none⟩ (.int .i64 p')).size; omega
          below := ((HI.out.below.trans a5).trans (HB.out.mono (HI.out.below.trans a5).size)).setCell (p := ⟨w.heap.size + 1 + 1 + 1 + 1 + 1, 0, none⟩) (by show w.heap.size ≤ w.heap.size + 1 + 1 + 1 + 1 + 1; omega) _ }⟩
    · have he2 : (x.err != 0) = true := bne_iff_ne.2 he
      obtain ⟨kind, text, num, pos, next, err, hx⟩ : ∃ kind text num pos next err, nextF s p = ⟨kind, text, num, pos, next, err⟩ := ⟨_, _, _, _, _, _, rfl⟩
      have HN := Lib.hid (fun w => p_NextAt s p hx w)
      have HX := Lib.hid hx
      have HTx := Lib.hid hTx
      clear hx hatp hTx hI
      gi_wp2_with (first
        | (refine ⟨trivial, ?_⟩; gi_at_call 10; refine (CallsIn.inRound l (callsIn_wide.2 (HN.out _))).mono ?_; rintro e w1 ⟨rfl, hb⟩; have HB := Lib.hid hb; have q1 := box_below HI.out.r1 hb HI.out.r1.lt; have q2 := box_below HI.out.r2 hb HI.out.r2.lt; have q3 := box_below HI.out.r3 hb HI.out.r3.lt; have Q1 := Lib.hid q1; have Q2 := Lib.hid q2; have Q3 := Lib.hid q3; have c1 := fun o => (q1.alloc o).cell; have c2 := fun o => (q2.alloc o).cell; have c3 := fun o => (q3.alloc o).cell; have f1 := fun o => (q1.alloc o).frozen; have f2 := fun o => (q2.alloc o).frozen; have f3 := fun o => (q3.alloc o).frozen; clear hb q1 q2 q3))
      exact ⟨(((((kf_below HB.out).trans ((KeepsOthers.alloc _ _).from _)).trans ((KeepsOthers.setCell _ _ _).from _)).trans ((KeepsOthers.setCell _ _ _).from _)).trans ((KeepsOthers.setCell _ _ _).from _)), rfl,
        ⟨(((Q1.out.alloc _).set _).other (by omega) _).other (by omega) _,
         ⟨x.err, (next : Int), (((Q2.out.alloc _).other (by omega) _).set _).other (by omega) _, (((Q3.out.alloc _).other (by omega) _).other (by omega) _).set _, fun hpre => by
           have hl2 := pre_less hpre
           obtain ⟨i, rfl, hA⟩ := HP.out hl2.1 hl2.2
           have hxi := pre_item hA hpre
           have hX := HX.out
           have hb := items_bad hA HI.out.ok (by rw [← hxi]; exact he)
           exact ⟨by rw [hb.1, ← hxi], by rw [hb.2, hX], he⟩⟩,
         by
           have h1 := HI.out.below.trans (HB.out.mono HI.out.below.size)
           exact (((h1.alloc h1.size _).setCell (p := ⟨w.heap.size + 1, 0, none⟩) (by show w.heap.size ≤ w.heap.size + 1; omega) _).setCell (p := ⟨w.heap.size + 1 + 1, 0, none⟩) (by show w.heap.size ≤ w.heap.size + 1 + 1; omega) _).setCell (p := ⟨w.heap.size + 1 + 1 + 1, 0, none⟩) (by show w.heap.size ≤ w.heap.size + 1 + 1 + 1; omega) _⟩⟩
  case done =>
    rintro D ys W hD rfl hI hK
    obtain ⟨v, hbv, hrow, hnil⟩ := hI.row
    have b4 := hbv.cell
    have c1 := hI.r1.cell
    have c2 := hI.r2.cell
    have c3 := hI.r3.cell
    have f1 := hI.r1.frozen
    have f2 := hI.r2.frozen
    have f3 := hI.r3.frozen
    have HK := Lib.hid hK
    have HI := Lib.hid hI
    have HROW := Lib.hid hrow
    obtain ⟨A, cap, rfl, hta⟩ := own_tok hrow
    have HTA := Lib.hid hta
    clear hK hI hrow hta hbv
    gi_wp2
    have q1 := ((HI.out.r1.set (.slice A (itemsF s).length cap)).other (show w.heap.size + 1 ≠ w.heap.size + 1 + 1 by omega) (.int .i64 0)).other (show w.heap.size + 1 ≠ w.heap.size + 1 + 1 + 1 by omega) (.int .i64 0)
    have q2 := ((HI.out.r2.other (show w.heap.size + 1 + 1 ≠ w.heap.size + 1 by omega) (.slice A (itemsF s).length cap)).set (.int .i64 0)).other (show w.heap.size + 1 + 1 ≠ w.heap.size + 1 + 1 + 1 by omega) (.int .i64 0)
    have q3 := ((HI.out.r3.other (show w.heap.size + 1 + 1 + 1 ≠ w.heap.size + 1 by omega) (.slice A (itemsF s).length cap)).other (show w.heap.size + 1 + 1 + 1 ≠ w.heap.size + 1 + 1 by omega) (.int .i64 0)).set (.int .i64 0)
    have hKZ := ((((KeepsOthers.setCell W ⟨w.heap.size + 1, 0, none⟩ (.slice A (itemsF s).length cap)).trans (KeepsOthers.setCell _ ⟨w.heap.size + 1 + 1, 0, none⟩ (.int .i64 0))).trans (KeepsOthers.setCell _ ⟨w.heap.size + 1 + 1 + 1, 0, none⟩ (.int .i64 0))).same D _ HK.out rfl)
    have hbZ := ((HI.out.below.setCell (p := ⟨w.heap.size + 1, 0, none⟩) (by show w.heap.size ≤ w.heap.size + 1; omega) (.slice A (itemsF s).length cap)).setCell (p := ⟨w.heap.size + 1 + 1, 0, none⟩) (by show w.heap.size ≤ w.heap.size + 1 + 1; omega) (.int .i64 0)).setCell (p := ⟨w.heap.size + 1 + 1 + 1, 0, none⟩) (by show w.heap.size ≤ w.heap.size + 1 + 1 + 1; omega) (.int .i64 0)
    have hrZ := ((HROW.out.kept (grownBy_setCell' W (w.heap.size + 1) (.slice A (itemsF s).length cap)) (.inr (HI.out.r1.not_row (by decide) HROW.out).symm)))
    have hrZ2 := hrZ.kept (grownBy_setCell' _ (w.heap.size + 1 + 1) (.int .i64 0)) (.inr ((HI.out.r2.other (show w.heap.size + 1 + 1 ≠ w.heap.size + 1 by omega) (.slice A (itemsF s).length cap)).not_row (by decide) hrZ).symm)
    have hrZ3 := hrZ2.kept (grownBy_setCell' _ (w.heap.size + 1 + 1 + 1) (.int .i64 0)) (.inr (((HI.out.r3.other (show w.heap.size + 1 + 1 + 1 ≠ w.heap.size + 1 by omega) (.slice A (itemsF s).length cap)).other (show w.heap.size + 1 + 1 + 1 ≠ w.heap.size + 1 + 1 by omega) (.int .i64 0)).not_row (by decide) hrZ2).symm)
    generalize (((W.setCell ⟨w.heap.size + 1, 0, none⟩ (.slice A (itemsF s).length cap)).setCell ⟨w.heap.size + 1 + 1, 0, none⟩ (.int .i64 0)).setCell ⟨w.heap.size + 1 + 1 + 1, 0, none⟩ (.int .i64 0)) = Z at q1 q2 q3 hKZ hbZ hrZ3 ⊢
    refine ⟨by simp, .inl ⟨_, _, rfl, run_takeDeferred hKZ, ?_⟩⟩
    have hr4 := ownsRow_putObj hrZ3 (.deferred none) hKZ rfl
    have p1 := (q1.kept (grownBy_putObj' Z D (.deferred none)) (box_def q1 hKZ rfl)).cell
    have p2 := (q2.kept (grownBy_putObj' Z D (.deferred none)) (box_def q2 hKZ rfl)).cell
    have p3 := (q3.kept (grownBy_putObj' Z D (.deferred none)) (box_def q3 hKZ rfl)).cell
    obtain ⟨A', cap', hAA, hta⟩ := own_tok hr4
    injection hAA with e1 e2 e3
    subst e1; subst e3
    have hg := items_good HI.out.ok
    have hbe := hbZ.trans (belowK_b (w := w) (Nat.le_refl _) Z D (.deferred (some [])) (.deferred none) (by omega) hKZ rfl rfl)
    refine ⟨.tuple #[.slice A (itemsF s).length cap, .int .i64 0, .int .i64 0], by simp [results, Try.results9, go_sem, p1, p2, p3], ?_⟩
    refine ⟨A, cap, ?_, ?_, hbe⟩
    · rw [hg.1, hg.2.1, show lstF s = itemsF s from (if_pos hg.1).trans hg.2.2.symm]; rfl
    · rw [show lstF s = itemsF s from (if_pos hg.1).trans hg.2.2.symm]; exact hta
  case stop =>
    rintro D c pre W hD hpre ⟨rfl, hX⟩ hK
    have HX := Lib.hid hX
    obtain ⟨E, P, h2, h3, h4⟩ := hX.r23
    have H1 := Lib.hid hX.r1
    have H2 := Lib.hid h2
    have H3 := Lib.hid h3
    have H4 := Lib.hid (h4 hpre)
    have HK := Lib.hid hK
    clear hK hX h2 h3 h4
    gi_wp2
    refine ⟨by simp, .inl ⟨_, _, rfl, run_takeDeferred HK.out, ?_⟩⟩
    have p1 := (H1.out.kept (grownBy_putObj' W D (.deferred none)) (box_def H1.out HK.out rfl)).cell
    have p2 := (H2.out.kept (grownBy_putObj' W D (.deferred none)) (box_def H2.out HK.out rfl)).cell
    have p3 := (H3.out.kept (grownBy_putObj' W D (.deferred none)) (box_def H3.out HK.out rfl)).cell
    have hl : lstF s = [] := if_neg (by rw [← H4.out.1]; exact H4.out.2.2)
    refine ⟨.tuple #[.slice none 0 0, .int .i64 E, .int .i64 P], by simp [results, Try.results9, go_sem, p1, p2, p3], ?_⟩
    refine ⟨none, 0, ?_, fun h => by rw [hl] at h; exact absurd h (by decide), HX.out.below.trans (belowK_b (w := w) (Nat.le_refl _) W D (.deferred (some [])) (.deferred none) (by omega) HK.out rfl rfl)⟩
    rw [hl, ← H4.out.1, ← H4.out.2.1]; rfl
end Go.Proofs.Ytbcjffjifocaeaa
