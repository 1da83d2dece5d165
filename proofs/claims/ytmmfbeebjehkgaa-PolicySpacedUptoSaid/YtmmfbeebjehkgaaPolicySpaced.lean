/-
  'PolicySpaced': for every text and all texts between its tokens whose bulk is at most 1048576, the law of layer 6 that blanks and remarks between tokens change nothing of what is read returns true, and leaves memory as it was.
-/
import Derived.Test.YtmmfbeebjehkgaaPolDPolF
import Derived.Test.YtmmfbeebjehkgaaPolStand
import Derived.Test.YtmmfbeebjehkgaaStrRows
namespace Go.Proofs.Ytmmfbeebjehkgaa.policySpaced
open Go Go.ChangeShapes Go.WideShapes Go.ChangeAt Go.RowKit
set_option linter.unusedSimpArgs false
set_option linter.unusedVariables false

/-- So many bytes have the first n texts. -/
def sumS (f : Nat → ByteArray) : Nat → Nat
  | 0 => 0
  | n + 1 => sumS f n + (f n).size
theorem sum_le (f : Nat → ByteArray) {i n : Nat} (h : i ≤ n) : sumS f i ≤ sumS f n := by
  induction h with
  | refl => exact Nat.le_refl _
  | step _ ih => exact Nat.le_trans ih (Nat.le_add_right _ _)
theorem sum_at (f : Nat → ByteArray) {i n : Nat} (h : i < n) : sumS f i + (f i).size ≤ sumS f n := sum_le f (show i + 1 ≤ n from h)
theorem bulk_append {H : Type} (l r : List (DataW H)) : Rows.uptoBulkAll (l ++ r) = Rows.uptoBulkAll l + Rows.uptoBulkAll r := by
  induction l with
  | nil => simp [Rows.uptoBulkAll]
  | cons x l ih => simp only [List.cons_append, Rows.uptoBulkAll, ih]; omega
theorem bulk_part {H : Type} {d : DataW H} {l : List (DataW H)} (h : d ∈ l) : Rows.uptoBulk d ≤ Rows.uptoBulkAll l := by
  induction l with
  | nil => cases h
  | cons x r ih =>
    simp only [Rows.uptoBulkAll]
    rcases List.mem_cons.1 h with e | e
    · subst e; omega
    · have := ih e; omega
theorem bulk_strs {H : Type} (ss : List ByteArray) : ∀ n, sumS (fun i => ss.getD i ByteArray.empty) n ≤ Rows.uptoBulkAll (strs (ss.take n) : List (DataW H))
  | 0 => Nat.zero_le _
  | n + 1 => by
    have ih := bulk_strs (H := H) ss n
    show sumS _ n + (ss.getD n ByteArray.empty).size ≤ _
    by_cases hn : n < ss.length
    · have e : (strs (ss.take (n + 1)) : List (DataW H)) = strs (ss.take n) ++ strs [ss[n]] := by
        unfold strs
        rw [← List.map_append, List.take_add_one, List.getElem?_eq_getElem hn]; rfl
      have g : ss.getD n ByteArray.empty = ss[n] := by rw [List.getD_eq_getElem?_getD, List.getElem?_eq_getElem hn]; rfl
      rw [e, bulk_append, g]
      have : (ss[n]).size ≤ Rows.uptoBulkAll (strs [ss[n]] : List (DataW H)) := by
        simp [strs, Rows.uptoBulkAll, Rows.uptoBulk]
      omega
    · have g : ss.getD n ByteArray.empty = ByteArray.empty := by rw [List.getD_eq_getElem?_getD, List.getElem?_eq_none (by omega)]; rfl
      have e : ss.take (n + 1) = ss.take n := by rw [List.take_of_length_le (by omega), List.take_of_length_le (by omega)]
      rw [g, e]
      exact ih
theorem sum_small {H : Type} {ds : List (DataW H)} {d : DataW H} {ss : List ByteArray} {n : Nat} {rest : List (DataW H)} (hk : Rows.uptoSmall H ds = true) (hm : d ∈ ds) (hd : d = .slice (strs (ss.take n)) rest) : sumS (fun i => ss.getD i ByteArray.empty) n ≤ 1048576 := by
  have h1 : Rows.uptoBulkAll ds ≤ 1048576 := of_decide_eq_true hk
  have h2 := bulk_part hm
  subst hd
  have h3 := bulk_strs (H := H) ss n
  simp only [Rows.uptoBulk] at h2
  omega
theorem gapB_size (c : Nat) : (gapB c).size ≤ 12 := by
  unfold gapB
  split
  · decide
  · split
    · decide
    · split
      · decide
      · decide
theorem gapF_size (t : ByteArray) : ∀ k, (gapF t k).size ≤ 12 * k
  | 0 => Nat.le_refl _
  | k + 1 => by
    show (gapF t k ++ gapB _).size ≤ _
    rw [size_append5]
    have := gapF_size t k
    have := gapB_size (byt t k)
    omega
/-- What stands behind token i. -/
def gapsF (f : Nat → ByteArray) (len : Nat) (i : Nat) : ByteArray := if i < len then gapF (f i) (f i).size else ⟨#[]⟩
theorem skip_gaps (f : Nat → ByteArray) (len i : Nat) : SkipOK (gapsF f len i) := by
  unfold gapsF
  split
  · exact skip_gapF _ _
  · exact skip_ok_nil
theorem catG_le (l : List Nx) (f : Nat → ByteArray) (len : Nat) : ∀ i, (catG l (gapsF f len) i).size ≤ (catP l i).size + 12 * sumS f (min i len)
  | 0 => Nat.zero_le _
  | i + 1 => by
    have ih := catG_le l f len i
    rw [catG_size, catP_size]
    have hg : (gapsF f len i).size + 12 * sumS f (min i len) ≤ 12 * sumS f (min (i + 1) len) := by
      unfold gapsF
      by_cases h : i < len
      · rw [if_pos h, Nat.min_eq_left (Nat.le_of_lt h), Nat.min_eq_left h]
        have := gapF_size (f i) (f i).size
        show _ ≤ 12 * (sumS f i + (f i).size)
        omega
      · rw [if_neg h, Nat.min_eq_right (by omega), Nat.min_eq_right (by omega)]
        show 0 + _ ≤ _
        omega
    show _ + (l.getD i noTok).text.size + 1 + _ ≤ _
    omega
theorem catP_small {s : ByteArray} (h : (toksF s).2.1 = 0) (i : Nat) (hi : i ≤ (lstF s).length) : (catP (lstF s) i).size ≤ s.size + i := by
  rcases Nat.lt_or_ge i (lstF s).length with hlt | hge
  · have h1 := stands h i hlt
    have h2 := h1.small; have h3 := h1.behind; have h4 := h1.within
    omega
  · obtain rfl : i = (lstF s).length := by omega
    have hp := (stands_end h).1
    have h1 := stands h ((lstF s).length - 1) (by omega)
    have h2 := h1.small; have h3 := h1.behind; have h4 := h1.within
    have h5 := catP_size (lstF s) ((lstF s).length - 1)
    rw [show (lstF s).length - 1 + 1 = (lstF s).length by omega] at h5
    omega
theorem catG_small {s : ByteArray} (h : (toksF s).2.1 = 0) (f : Nat → ByteArray) (len : Nat) (hs : sumS f len ≤ 1048576) (i : Nat) (hi : i ≤ (lstF s).length) : (catG (lstF s) (gapsF f len) i).size ≤ 13000000 := by
  have h1 := catG_le (lstF s) f len i
  have h2 := catP_small h i hi
  have h3 := (toks_facts h).1
  have h4 := lst_small s
  have h5 : sumS f (min i len) ≤ 1048576 := Nat.le_trans (sum_le f (Nat.min_le_right _ _)) hs
  omega
/-- Both texts are read alike. -/
theorem alike_res {s t : ByteArray} (h : Alike (srcF s) (srcF t)) : ((resPo (policyF t)).1 = (resPo (policyF s)).1 ∧ (resPo (policyF t)).2.1 = (resPo (policyF s)).2.1) ∧ (resEx (exprF t)).1 = (resEx (exprF s)).1 ∧ (resEx (exprF t)).2.1 = (resEx (exprF s)).2.1 := by
  have h1 : GotEq (policyF s) (policyF t) := by
    unfold policyF
    rw [h.len]
    exact ge_read h (fun i => ge_policy h _ i)
  have h2 : GotEq (exprF s) (exprF t) := by
    unfold exprF
    rw [h.len]
    exact ge_read h (fun i => ge_whole h _ i)
  constructor
  · generalize policyF s = g at h1
    generalize policyF t = k at h1
    rcases g with ⟨x, i⟩ | ⟨e, p⟩ | _ <;> rcases k with ⟨y, j⟩ | ⟨e', p'⟩ | _
    · obtain ⟨rfl, rfl⟩ := h1; exact ⟨rfl, rfl⟩
    · exact h1.elim
    · exact h1.elim
    · exact h1.elim
    · exact ⟨rfl, (show e = e' from h1).symm⟩
    · exact h1.elim
    · exact h1.elim
    · exact h1.elim
    · exact ⟨rfl, rfl⟩
  · generalize exprF s = g at h2
    generalize exprF t = k at h2
    rcases g with ⟨x, i⟩ | ⟨e, p⟩ | _ <;> rcases k with ⟨y, j⟩ | ⟨e', p'⟩ | _
    · obtain ⟨rfl, rfl⟩ := h2; exact ⟨rfl, rfl⟩
    · exact h2.elim
    · exact h2.elim
    · exact h2.elim
    · exact ⟨rfl, (show e = e' from h2).symm⟩
    · exact h2.elim
    · exact h2.elim
    · exact h2.elim
    · exact ⟨rfl, rfl⟩
abbrev poB (p : Po) (A : Option Addr) (n c : Nat) : Obj := .cells #[.string p.arch, .int .i64 p.foreign_.1, .int .u64 (p.foreign_.2 : Int), .int .i64 p.default_.1, .int .u64 (p.default_.2 : Int), .slice A n c] 29
theorem kept_below {W W' : World} {i : Nat} {o : Obj} (h : W.heap[i]? = some o) (hb : Below W.heap.size W W') : W'.heap[i]? = some o :=
  (hb.block i (Array.getElem?_eq_some_iff.1 h).1).trans h
theorem up {w W W' : World} (h : Below w.heap.size w W) (hb : Below W.heap.size W W') : Below w.heap.size w W' := h.trans (hb.mono h.size)
set_option maxRecDepth 100000 in
set_option maxHeartbeats 4000000 in
/-- A text with an error. -/
theorem walk_err (s0 : ByteArray) (a1 : Option Addr) (len1 cap1 : Nat) (w : World) (w0 : s0.size ≤ maxLen) (hE : (toksF s0).2.1 ≠ 0) :
    Calls Try.prog 4 #[.string s0, .slice a1 len1 cap1] w fun e w' => e = .returned (.bool true) ∧ Below w.heap.size w w' := by
  have hl : lstF s0 = [] := if_neg hE
  have HLv := Lib.hid (fun W => lives_is6 W)
  have HL := Lib.hid (fun w => ref_Lst s0 w0 w)
  unfold LstP at HL
  rw [hl] at HL
  have hE2 : ((toksF s0).2.1 != 0) = true := bne_iff_ne.2 hE
  generalize (toksF s0).2.1 = E at HL hE2 hE
  generalize (toksF s0).2.2 = P at HL
  go_enter Try.func4, Try.ntmps4
  go_wp2_with (first
    | (go_at_call 5; (with_reducible refine (HLv.out _).mono ?_); rintro e wa ⟨rfl, hb⟩; have HS1 := Lib.hid hb; clear hb)
    | (go_at_call 12; (with_reducible refine (HL.out _).mono ?_); rintro e wb ⟨A, cap, rfl, ht, hb⟩; have HS2 := Lib.hid (HS1.out.trans (hb.mono HS1.out.size)); clear ht hb))
  go_ret
  exact ⟨rfl, HS2.out⟩
/-- What stands while the law goes on. -/
abbrev St (w W : World) (b o n : Nat) (l : List Nx) (a1 : Option Addr) (len1 : Nat) (f1 : Nat → ByteArray) : Prop := (∀ i, i < n → TokCells W b (o + i * 4) (l.getD i noTok)) ∧ b < W.heap.size ∧ StrRow W a1 len1 f1 ∧ Below w.heap.size w W
theorem str_below {W W' : World} {a1 : Option Addr} {len1 : Nat} {f1 : Nat → ByteArray} (h : StrRow W a1 len1 f1) (hb : Below W.heap.size W W') : StrRow W' a1 len1 f1 := by
  rcases h with h | ⟨b, o, rfl, hl, hm, hc⟩
  · exact .inl h
  · exact .inr ⟨b, o, rfl, Nat.lt_of_lt_of_le hl hb.size, hm, fun i hi => ⟨(World.cell?_of_block (a := ⟨b, o + i, none⟩) (hb.block b hl)).trans (hc i hi).1, (hc i hi).2⟩⟩
theorem st_below {w W W' : World} {b o n : Nat} {l : List Nx} {a1 : Option Addr} {len1 : Nat} {f1 : Nat → ByteArray} (h : St w W b o n l a1 len1 f1) (hb : Below W.heap.size W W') : St w W' b o n l a1 len1 f1 :=
  ⟨fun i hi => (h.1 i hi).below hb h.2.1, Nat.lt_of_lt_of_le h.2.1 hb.size, str_below h.2.2.1 hb, h.2.2.2.trans (hb.mono h.2.2.2.size)⟩
set_option maxRecDepth 100000 in
set_option maxHeartbeats 16000000 in
/-- A text without one. -/
theorem walk_ok (s0 : ByteArray) (a1 : Option Addr) (len1 cap1 : Nat) (f1 : Nat → ByteArray) (w : World) (w0 : s0.size ≤ maxLen) (w1 : StrRow w a1 len1 f1) (hsum : sumS f1 len1 ≤ 1048576) (hE : (toksF s0).2.1 = 0) :
    Calls Try.prog 4 #[.string s0, .slice a1 len1 cap1] w fun e w' => e = .returned (.bool true) ∧ Below w.heap.size w w' := by
  have HLv := Lib.hid (fun W => lives_is6 W)
  have hP : (toksF s0).2.2 = 0 := toks_ok (s0.size + 1) 0 hE
  have hs := (toks_facts hE).1
  have hl0 : lstF s0 = (toksF s0).1 := if_pos hE
  have HA : Hid ((catG (lstF s0) (gapsF f1 len1) (lstF s0).length).size ≤ 65536 → Alike (srcF s0) (srcF (catG (lstF s0) (gapsF f1 len1) (lstF s0).length))) := Lib.hid (fun h => by
    rw [hl0] at h ⊢
    exact spaced_alike hs hE _ (skip_gaps f1 len1) h)
  have HSm := Lib.hid (catG_small hE f1 len1 hsum)
  have HTx : Hid (∀ i, i < (lstF s0).length → ((lstF s0).getD i noTok).text.size ≤ 65536) := Lib.hid (fun i hi => by have := (stands hE i hi).within; omega)
  have hend := (stands_end hE).1
  have HL := Lib.hid (fun w => ref_Lst s0 w0 w)
  unfold LstP at HL
  rw [hE, hP] at HL
  clear hE hP hl0
  have hsm := lst_small s0
  have hlen1 : len1 ≤ maxLen := by
    rcases w1 with h | ⟨b, o, rfl, hl, hm, hc⟩
    · rw [h]; exact Nat.zero_le _
    · exact hm
  unfold maxLen at hlen1
  generalize lstF s0 = l at HA HSm HTx hend HL hsm
  obtain ⟨n, hnn⟩ : ∃ n, n = l.length := ⟨_, rfl⟩
  rw [← hnn] at HA HSm HTx HL hsm hend
  have h1 := fun W => u_po (p_Parse s0 W)
  have h3 := fun W => u_ex (p_ParseExpr s0 W)
  have hp := sm_resPo s0
  have hx := sm_resEx s0
  have h2 := fun t W => u_po (p_Parse t W)
  have h4 := fun t W => u_ex (p_ParseExpr t W)
  have hal : (catG l (gapsF f1 len1) n).size ≤ 65536 → ((resPo (policyF (catG l (gapsF f1 len1) n))).1 = (resPo (policyF s0)).1 ∧ (resPo (policyF (catG l (gapsF f1 len1) n))).2.1 = (resPo (policyF s0)).2.1) ∧ (resEx (exprF (catG l (gapsF f1 len1) n))).1 = (resEx (exprF s0)).1 ∧ (resEx (exprF (catG l (gapsF f1 len1) n))).2.1 = (resEx (exprF s0)).2.1 := fun h => alike_res (HA.out h)
  generalize resPo (policyF s0) = g at h1 hp hal
  generalize resEx (exprF s0) = k at h3 hx hal
  obtain ⟨p, er, pl⟩ := g
  obtain ⟨x, ex, px⟩ := k
  simp only at h1 h3 hp hx hal
  have H2 : Hid ((catG l (gapsF f1 len1) n).size ≤ 65536 → ∃ q : Nat, ∀ W, Calls Try.prog 6 #[.string (catG l (gapsF f1 len1) n)] W (fun e w' => ∃ R, e = .returned (.tuple #[poV p.arch p.foreign_.1 (p.foreign_.2 : Int) p.default_.1 (p.default_.2 : Int) R, .int .i64 er, .int .i64 (q : Int)]) ∧ RulesP W.heap.size p.rules R w' ∧ Below W.heap.size W w')) := Lib.hid (fun h => ⟨(resPo (policyF (catG l (gapsF f1 len1) n))).2.2, fun W => by
    have h5 := h2 (catG l (gapsF f1 len1) n) W
    rw [(hal h).1.1, (hal h).1.2] at h5
    exact h5⟩)
  have H4 : Hid ((catG l (gapsF f1 len1) n).size ≤ 65536 → ∃ q : Nat, ∀ W, Calls Try.prog 8 #[.string (catG l (gapsF f1 len1) n)] W (fun e w' => ∃ A c, e = .returned (.tuple #[exV x A c, .int .i64 ex, .int .i64 (q : Int)]) ∧ ExIn w' (fun k => W.heap.size ≤ k) x A c ∧ Below W.heap.size W w')) := Lib.hid (fun h => ⟨(resEx (exprF (catG l (gapsF f1 len1) n))).2.2, fun W => by
    have h5 := h4 (catG l (gapsF f1 len1) n) W
    rw [(hal h).2.1, (hal h).2.2] at h5
    exact h5⟩)
  have HS := Lib.hid (fun (W : World) (lo lo' : Nat) (R R' : Value) h h' => ref_Same p hp lo lo' R R' W h h')
  have HX := Lib.hid (fun (W : World) (A : Option Addr) (c : Nat) (A' : Option Addr) (c' : Nat) (F F' : Nat → Prop) h h' => ref_SameExpr (A := A) (cap := c) (A' := A') (cap' := c') (F := F) (F' := F') (W := W) hx h h')
  have H1 := Lib.hid h1
  have H3 := Lib.hid h3
  have HW1 := Lib.hid w1
  have HSum : Hid (∀ i, i < len1 → (f1 i).size ≤ 1048576) := Lib.hid (fun i hi => Nat.le_trans (Nat.le_trans (Nat.le_add_left _ _) (sum_at f1 hi)) hsum)
  clear h1 h2 h3 h4 hp hx hal w1 HA hnn hsum hs
  go_enter Try.func4, Try.ntmps4
  go_wp2_with (first
    | (go_at_call 5; (with_reducible refine (HLv.out _).mono ?_); rintro e wa ⟨rfl, hb⟩; have HS1 := Lib.hid hb; clear hb)
    | (go_at_call 12; (with_reducible refine (HL.out _).mono ?_); rintro e wb ⟨A, cap, rfl, ht, hb⟩; obtain ⟨bA, oA, rfl, hlA, hcA⟩ := ht hend; have HS2 : Hid (St w wb bA oA n l a1 len1 f1) := Lib.hid ⟨hcA, hlA, str_below HW1.out (HS1.out.trans (hb.mono HS1.out.size)), HS1.out.trans (hb.mono HS1.out.size)⟩; clear ht hb hcA hlA HS1 HL HW1))
  go_loopw [9, 10] (fun a v wr => ∃ k : Nat, k ≤ n ∧ v = .int .i64 (k : Int) ∧ a = .string (catG l (gapsF f1 len1) k) ∧ St w wr bA oA n l a1 len1 f1) (fun _ v _ => n - (intOf v).toNat)
  case atStart => exact ⟨0, by omega, rfl, rfl, HS2.out⟩
  case round =>
    obtain ⟨k, hk, rfl, rfl, hF⟩ := hrel
    clear HS2
    have HR := Lib.hid hF
    clear hF
    have hw : IntKind.i64.wrap ((k : Int) + 1) = ((k + 1 : Nat) : Int) := by rw [IntWalk.i64_in _ (by omega)]; omega
    by_cases hlt : k < n
    · have hlt' : (k : Int) < (n : Int) := by omega
      obtain ⟨c0, c1, c2, c3⟩ := HR.out.1 k hlt
      have hC1 : catG l (gapsF f1 len1) (k + 1) = catG l (gapsF f1 len1) k ++ (l.getD k noTok).text ++ ⟨#[32]⟩ ++ gapsF f1 len1 k := rfl
      have s1 := HSm.out k (by omega)
      have s2 := HTx.out k hlt
      have hC1 := Lib.hid hC1
      generalize hCC : catG l (gapsF f1 len1) k = C at hC1 s1
      generalize l.getD k noTok = x at c0 c1 c2 c3 hC1 s2
      obtain ⟨kind, text, num, pos, nx, er9⟩ := x
      simp only at c0 c1 c2 c3 s2
      have hC1 : Hid (catG l (gapsF f1 len1) (k + 1) = C ++ text ++ ⟨#[32]⟩ ++ gapsF f1 len1 k) := Lib.hid hC1.out
      clear hCC
      have s3 : C.size + text.size ≤ 20000000 := by omega
      have s4 : (C ++ text).size ≤ 20000000 := by rw [size_append5]; exact s3
      have s5 : (C ++ text ++ ⟨#[32]⟩).size ≤ 20000001 := by rw [size_append5]; show _ + 1 ≤ _; omega
      by_cases hb : k < len1
      · have hb' : (k : Int) < (len1 : Int) := by omega
        have hg : gapsF f1 len1 k = gapF (f1 k) (f1 k).size := if_pos hb
        rw [hg] at hC1
        clear hg
        have hz := HSum.out k hb
        go_wp2
        obtain ⟨wo, rfl⟩ : ∃ wo : World, wo = wr := ⟨_, rfl⟩
        obtain ⟨D, hD⟩ : ∃ D, D = C ++ text ++ ⟨#[32]⟩ := ⟨_, rfl⟩
        rw [← hD] at hC1 s5 ⊢
        clear hD
        go_loopw [9, 11] (fun a v wr => ∃ j : Nat, j ≤ (f1 k).size ∧ v = .int .i64 (j : Int) ∧ a = .string (D ++ gapF (f1 k) j) ∧ St w wr bA oA n l a1 len1 f1) (fun _ v _ => (f1 k).size - (intOf v).toNat)
        case atStart => exact ⟨0, by omega, rfl, by rw [show gapF (f1 k) 0 = ByteArray.empty from rfl, ByteArray.append_empty], HR.out⟩
        case round =>
          obtain ⟨j, hj, rfl, rfl, hF⟩ := hrel
          have HR2 := Lib.hid hF
          clear hF
          rcases HR2.out.2.2.1 with h0 | ⟨sb, so, rfl, hsl, hsm2, hsc⟩
          · omega
          obtain ⟨d0, d1⟩ := hsc k hb
          have hG1 : gapF (f1 k) (j + 1) = gapF (f1 k) j ++ gapB (byt (f1 k) j) := rfl
          have hG1 := Lib.hid hG1
          have s6 := gapF_size (f1 k) j
          have hw2 : IntKind.i64.wrap ((j : Int) + 1) = ((j + 1 : Nat) : Int) := by rw [IntWalk.i64_in _ (by omega)]; omega
          generalize hGGG : gapF (f1 k) j = G at hG1 s6
          have hGG := Lib.hid hGGG
          clear hGGG
          have s7 : D.size + G.size ≤ 60000000 := by omega
          have s8 : (D ++ G).size ≤ 60000000 := by rw [size_append5]; exact s7
          clear hsc
          by_cases hjl : j < (f1 k).size
          · have hjl' : (j : Int) < ((f1 k).size : Int) := by omega
            have e := byt_is hjl
            generalize hB : byt (f1 k) j = B at e hG1
            have hB2 : B < 256 := by rw [← hB]; exact byt_lt _ _
            clear hB
            by_cases b0 : B % 4 = 0
            · have q0 : (((B : Int) % 4) == 0) = true := beq_iff_eq.2 (by omega)
              have hGB := Lib.hid (show gapB B = gapN from if_pos b0)
              clear b0
              go_wp2
              exact ⟨⟨j + 1, by omega, by go_num, by rw [hG1.out, hGB.out, ByteArray.append_assoc]; rfl, HR2.out⟩, by simp [intOf]; omega⟩
            have q0 : (((B : Int) % 4) == 0) = false := beq_false_of_ne (by omega)
            by_cases b1 : B % 4 = 1
            · have q1 : (((B : Int) % 4) == 1) = true := beq_iff_eq.2 (by omega)
              have hGB := Lib.hid (show gapB B = gapT from (if_neg b0).trans (if_pos b1))
              clear b1
              go_wp2
              exact ⟨⟨j + 1, by omega, by go_num, by rw [hG1.out, hGB.out, ByteArray.append_assoc]; rfl, HR2.out⟩, by simp [intOf]; omega⟩
            have q1 : (((B : Int) % 4) == 1) = false := beq_false_of_ne (by omega)
            by_cases b2 : B % 4 = 2
            · have q2 : (((B : Int) % 4) == 2) = true := beq_iff_eq.2 (by omega)
              have hGB := Lib.hid (show gapB B = gapR from (if_neg b0).trans ((if_neg b1).trans (if_pos b2)))
              clear b2
              go_wp2
              exact ⟨⟨j + 1, by omega, by go_num, by rw [hG1.out, hGB.out, ByteArray.append_assoc]; rfl, HR2.out⟩, by simp [intOf]; omega⟩
            have q2 : (((B : Int) % 4) == 2) = false := beq_false_of_ne (by omega)
            have hGB := Lib.hid (show gapB B = ⟨#[]⟩ from (if_neg b0).trans ((if_neg b1).trans (if_neg b2)))
            clear b0 b1 b2
            go_wp2
            exact ⟨⟨j + 1, by omega, by go_num, by rw [hG1.out, hGB.out, show (⟨#[]⟩ : ByteArray) = ByteArray.empty from rfl, ByteArray.append_empty], HR2.out⟩, by simp [intOf]; omega⟩
          · have hjj : j = (f1 k).size := by omega
            have hC2 : Hid (catG l (gapsF f1 len1) (k + 1) = D ++ gapF (f1 k) j) := Lib.hid (by rw [hjj]; exact hC1.out)
            have hGD : Hid (gapF (f1 k) j = G) := hGG
            clear hjj
            go_wp2
            exact ⟨⟨k + 1, by omega, by go_num, by rw [hC2.out, hGD.out], HR2.out⟩, by simp [intOf]; omega⟩
      · have hb' : ¬ (k : Int) < (len1 : Int) := by omega
        have hg : gapsF f1 len1 k = ByteArray.empty := if_neg hb
        rw [hg, ByteArray.append_empty] at hC1
        clear hg
        go_wp2
        exact ⟨⟨k + 1, by omega, by go_num, by rw [hC1.out], HR.out⟩, by simp [intOf]; omega⟩
    · have hlt' : ¬ (k : Int) < (n : Int) := by omega
      obtain rfl : k = n := by omega
      have s1 := HSm.out k (Nat.le_refl _)
      by_cases h6 : (catG l (gapsF f1 len1) k).size ≤ 65536
      · obtain ⟨q2, h2⟩ := H2.out h6
        obtain ⟨q4, h4⟩ := H4.out h6
        have K2 := Lib.hid h2
        have K4' := Lib.hid h4
        have h65 : ¬ (65536 : Int) < ((catG l (gapsF f1 len1) k).size : Int) := by omega
        clear h2 h4 H2 H4
        generalize catG l (gapsF f1 len1) k = T at K2 K4' h65 h6 s1 ⊢
        have K0 : Hid (Below w.heap.size w wr) := Lib.hid HR.out.2.2.2
        go_wp2_with (first
          | (go_at_call 6; (with_reducible refine (H1.out _).mono ?_); rintro e w1 ⟨R1, rfl, hr, hb⟩; obtain ⟨A1, n1, c1, rfl⟩ := rules_form hr; have K1 := Lib.hid (show RulesP wr.heap.size p.rules (.slice A1 n1 c1) (w1.alloc (poB p A1 n1 c1)) ∧ (w1.alloc (poB p A1 n1 c1)).heap[w1.heap.size]? = some (poB p A1 n1 c1) ∧ Below w.heap.size w (w1.alloc (poB p A1 n1 c1)) from ⟨rules_below hr (lbox _ _), World.alloc_heap_new _ _, up (up K0.out hb) (lbox _ _)⟩); clear hr hb K0)
          | (go_at_call 6; (with_reducible refine (K2.out _).mono ?_); rintro e w2 ⟨R2, rfl, hr, hb⟩; obtain ⟨A2, n2, c2, rfl⟩ := rules_form hr; have K2 := Lib.hid (show (RulesP wr.heap.size p.rules (.slice A1 n1 c1) (w2.alloc (poB p A2 n2 c2)) ∧ (w2.alloc (poB p A2 n2 c2)).heap[w1.heap.size]? = some (poB p A1 n1 c1)) ∧ (RulesP (w1.alloc (poB p A1 n1 c1)).heap.size p.rules (.slice A2 n2 c2) (w2.alloc (poB p A2 n2 c2)) ∧ (w2.alloc (poB p A2 n2 c2)).heap[w2.heap.size]? = some (poB p A2 n2 c2)) ∧ Below w.heap.size w (w2.alloc (poB p A2 n2 c2)) from ⟨⟨rules_below (rules_below K1.out.1 hb) (lbox _ _), kept_alloc (kept_below K1.out.2.1 hb) _⟩, ⟨rules_below hr (lbox _ _), World.alloc_heap_new _ _⟩, up (up K1.out.2.2 hb) (lbox _ _)⟩); clear hr hb K1)
          | (go_at_call 8; (with_reducible refine (H3.out _).mono ?_); rintro e w3 ⟨A3, c3, rfl, hr, hb⟩; have K3 := Lib.hid (show (RulesP wr.heap.size p.rules (.slice A1 n1 c1) (w3.alloc (exCell x A3 c3)) ∧ (w3.alloc (exCell x A3 c3)).heap[w1.heap.size]? = some (poB p A1 n1 c1)) ∧ (RulesP (w1.alloc (poB p A1 n1 c1)).heap.size p.rules (.slice A2 n2 c2) (w3.alloc (exCell x A3 c3)) ∧ (w3.alloc (exCell x A3 c3)).heap[w2.heap.size]? = some (poB p A2 n2 c2)) ∧ (ExIn (w3.alloc (exCell x A3 c3)) (fun k => (w2.alloc (poB p A2 n2 c2)).heap.size ≤ k) x A3 c3 ∧ (w3.alloc (exCell x A3 c3)).heap[w3.heap.size]? = some (exCell x A3 c3)) ∧ Below w.heap.size w (w3.alloc (exCell x A3 c3)) from ⟨⟨rules_below (rules_below K2.out.1.1 hb) (lbox _ _), kept_alloc (kept_below K2.out.1.2 hb) _⟩, ⟨rules_below (rules_below K2.out.2.1.1 hb) (lbox _ _), kept_alloc (kept_below K2.out.2.1.2 hb) _⟩, ⟨ex_below hr (lbox _ _), World.alloc_heap_new _ _⟩, up (up K2.out.2.2 hb) (lbox _ _)⟩); clear hr hb K2)
          | (go_at_call 8; (with_reducible refine (K4'.out _).mono ?_); rintro e w4 ⟨A4, c4, rfl, hr, hb⟩; have K4 := Lib.hid (show (RulesP wr.heap.size p.rules (.slice A1 n1 c1) (w4.alloc (exCell x A4 c4)) ∧ (w4.alloc (exCell x A4 c4)).heap[w1.heap.size]? = some (poB p A1 n1 c1)) ∧ (RulesP (w1.alloc (poB p A1 n1 c1)).heap.size p.rules (.slice A2 n2 c2) (w4.alloc (exCell x A4 c4)) ∧ (w4.alloc (exCell x A4 c4)).heap[w2.heap.size]? = some (poB p A2 n2 c2)) ∧ (ExIn (w4.alloc (exCell x A4 c4)) (fun k => (w2.alloc (poB p A2 n2 c2)).heap.size ≤ k) x A3 c3 ∧ (w4.alloc (exCell x A4 c4)).heap[w3.heap.size]? = some (exCell x A3 c3)) ∧ (ExIn (w4.alloc (exCell x A4 c4)) (fun k => (w3.alloc (exCell x A3 c3)).heap.size ≤ k) x A4 c4 ∧ (w4.alloc (exCell x A4 c4)).heap[w4.heap.size]? = some (exCell x A4 c4)) ∧ Below w.heap.size w (w4.alloc (exCell x A4 c4)) from ⟨⟨rules_below (rules_below K3.out.1.1 hb) (lbox _ _), kept_alloc (kept_below K3.out.1.2 hb) _⟩, ⟨rules_below (rules_below K3.out.2.1.1 hb) (lbox _ _), kept_alloc (kept_below K3.out.2.1.2 hb) _⟩, ⟨ex_below (ex_below K3.out.2.2.1.1 hb) (lbox _ _), kept_alloc (kept_below K3.out.2.2.1.2 hb) _⟩, ⟨ex_below hr (lbox _ _), World.alloc_heap_new _ _⟩, up (up K3.out.2.2.2 hb) (lbox _ _)⟩); have b1 := K4.out.1.2; have b2 := K4.out.2.1.2; have p0 := cell6 b1 0 rfl; have p1 := cell6 b1 1 rfl; have p2 := cell6 b1 2 rfl; have p3 := cell6 b1 3 rfl; have p4 := cell6 b1 4 rfl; have p5 := cell6 b1 5 rfl; have r0 := cell6 b2 0 rfl; have r1 := cell6 b2 1 rfl; have r2 := cell6 b2 2 rfl; have r3 := cell6 b2 3 rfl; have r4 := cell6 b2 4 rfl; have r5 := cell6 b2 5 rfl; clear hr hb K3 b1 b2)
          | (go_at_call 10; (with_reducible refine (HS.out _ _ _ _ _ K4.out.1.1 K4.out.2.1.1).mono ?_); rintro e w5 ⟨rfl, hb⟩; have K5 := Lib.hid (show ExIn w5 (fun k => (w2.alloc (poB p A2 n2 c2)).heap.size ≤ k) x A3 c3 ∧ ExIn w5 (fun k => (w3.alloc (exCell x A3 c3)).heap.size ≤ k) x A4 c4 ∧ Below w.heap.size w w5 from ⟨ex_below K4.out.2.2.1.1 hb, ex_below K4.out.2.2.2.1.1 hb, up K4.out.2.2.2.2 hb⟩); have b3 := kept_below K4.out.2.2.1.2 hb; have b4 := kept_below K4.out.2.2.2.1.2 hb; have p0 := cell6 b3 0 rfl; have p1 := cell6 b3 1 rfl; have p2 := cell6 b3 2 rfl; have p3 := cell6 b3 3 rfl; have p4 := cell6 b3 4 rfl; have p5 := cell6 b3 5 rfl; have r0 := cell6 b4 0 rfl; have r1 := cell6 b4 1 rfl; have r2 := cell6 b4 2 rfl; have r3 := cell6 b4 3 rfl; have r4 := cell6 b4 4 rfl; have r5 := cell6 b4 5 rfl; clear hb b3 b4 K4)
          | (go_at_call 11; (with_reducible refine (HX.out _ _ _ _ _ _ _ K5.out.1 K5.out.2.1).mono ?_); rintro e w6 ⟨rfl, hb⟩; have K6 := Lib.hid (up K5.out.2.2 hb); clear hb K5))
        go_ret
        exact ⟨rfl, K6.out⟩
      · have h65 : (65536 : Int) < ((catG l (gapsF f1 len1) k).size : Int) := by omega
        clear H2 H4
        generalize catG l (gapsF f1 len1) k = T at h65 h6 s1 ⊢
        go_wp2
        go_ret
        exact ⟨rfl, HR.out.2.2.2⟩
theorem walk (s0 : ByteArray) (a1 : Option Addr) (len1 cap1 : Nat) (f1 : Nat → ByteArray) (w : World) (w0 : s0.size ≤ maxLen) (w1 : StrRow w a1 len1 f1 ∧ sumS f1 len1 ≤ 1048576) :
    Calls Try.prog 4 #[.string s0, .slice a1 len1 cap1] w fun e w' => e = .returned (.bool true) ∧ Below w.heap.size w w' := by
  by_cases hE : (toksF s0).2.1 = 0
  · exact walk_ok s0 a1 len1 cap1 f1 w w0 w1.1 w1.2 hE
  · exact walk_err s0 a1 len1 cap1 w w0 hE

/-! ### The row's step and the statement -/
set_option maxRecDepth 100000 in
theorem lifted (os : Os) (started : os.Started) (H : Type) (enc : TypeId × Value → H) (F : Stop.Interp) :
    ReturnsInHanded {} Try.checked os 4 .any ((Rows.OpenSpec.upto Rows.policySpacedSpec).pre6 enc Try.prog Try.f4 Rows.policySpacedUptoRow.domain false) (((Rows.OpenSpec.upto Rows.policySpacedSpec).at F).post enc Try.prog Try.f4 false true false false) := by
  refine returnsInHanded_of_cond (C := Try.checked) (s := Rows.OpenSpec.upto Rows.policySpacedSpec) (k := Rows.uptoSmall) rfl own started (by kernel_rfl) Try.func4
    (OpenSpec.witness (enc := enc) (C := Try.checked) (s := Rows.OpenSpec.upto Rows.policySpacedSpec) (k := Rows.uptoSmall) rfl false ⟨#[], #[.string ⟨#[]⟩, .slice none 0 0], []⟩ 8 (by kernel_rfl) (by kernel_rfl) (by kernel_rfl)
      (x := ([.lit (.string []), .nil], [], [])) (by kernel_rfl) rfl (by kernel_rfl)) ?_
  intro W base args ds gs before hval0 hW _ hk _
  show Calls _ _ args W fun e W' => ∃ v, e = .returned v ∧ Rows.policySpacedSpec.post enc Try.prog _ false true false false W args v W'
  have hval : ∀ (j : Nat) t v, Try.f4.params[j]? = some t → args[j]? = some v → Value.okWide Try.prog W .any base t v := hval0
  have hW' := hW
  obtain ⟨p, q, hA0, hV, rfl, hfz, hnd⟩ := hW
  have hA : DataW.TrodAll enc Try.prog W 0 (fun _ => true) true Try.f4.params.toList args.toList ds p := hA0
  rw [Try.params4] at hA hval
  obtain ⟨v0, vs0, d0, ds0, p0, q0, hargs, rfl, rfl, h0, r0⟩ := trodAll_cons hA
  obtain ⟨v1, vs1, d1, ds1, p1, q1, rfl, rfl, rfl, h1, r1⟩ := trodAll_cons r0
  obtain ⟨rfl, rfl, rfl⟩ := trodAll_nil r1
  obtain rfl : args = #[v0, v1] := by cases args; simp_all
  obtain ⟨rfl, rfl⟩ := trodVars_none hV
  obtain ⟨s0, rfl, rfl, rfl, w0⟩ := Go.ChangeMaps.open_string Try.underlying9 (hval 0 9 v0 rfl rfl) h0
  obtain ⟨a1, len1, cap1, rfl⟩ := okWide_slice Try.underlying43 (hval 1 43 v1 rfl rfl)
  have k1 := h1
  have lt1 : ∀ x ∈ p1, x.block < W.heap.size := by obtain ⟨m, hm⟩ := k1; exact DataW.trod_lt m _ _ _ hm
  obtain ⟨f1, w1⟩ : ∃ f, StrRow W a1 len1 f ∧ sumS f len1 ≤ 1048576 := by
    obtain ⟨fuel, hf⟩ := h1
    rcases open_strings Try.underlying43 Try.underlying9 (by kernel_rfl) hf with ⟨hcs, _⟩ | ⟨x, l, c, ss, hcs, _, hl, hm, hlen, hx, hcell, hw⟩
    · simp [Value.cells] at hcs
      obtain ⟨rfl, rfl, rfl⟩ := hcs
      exact ⟨fun _ => ⟨#[]⟩, .inl rfl, Nat.zero_le _⟩
    · simp [Value.cells] at hcs
      obtain ⟨rfl, rfl, rfl⟩ := hcs
      exact ⟨_, str_row hl hm (by rw [hlen]; split <;> omega) hcell hw, sum_small hk (d := d1) (by simp) (congrArg Prod.fst hx)⟩
  clear hA0 hval0
  refine (walk s0 a1 len1 cap1 f1 W w0 w1).mono fun e W' ⟨he, bel⟩ => ?_
  subst he
  exact ⟨_, rfl, _, _, _, [], _, [], hW', trodAll_mk1 (shut_bool Try.underlying4 _), (trodAll_cons_mk (Go.ChangeMaps.shut_string Try.underlying9 w0) (trodAll_cons_mk (Below.trod laidOut (by kernel_rfl) (of_decide_eq_true (by kernel_rfl)) k1 bel lt1) trodAll_mk0)), rfl, bel.frame _, fun h => by cases h⟩

theorem over : Rows.policySpacedUptoRow.holds Try.pinned (Rows.OpenSpec.upto Rows.policySpacedSpec) :=
  OpenClaim.holds_of_cond 4 Try.f4 rfl rfl rfl rfl rfl rfl rfl ⟨rfl, rfl, rfl, rfl, rfl⟩ rfl rfl rfl rfl rfl (by kernel_rfl) Try.func4 (by kernel_rfl)
    (of_decide_eq_true (by kernel_rfl)) (by unfold Func.isWrapper; first | (rw [if_pos (by decide +kernel)]; kernel_rfl) | (rw [if_neg (by decide +kernel)]; exact ⟨rfl, rfl⟩))
    (fun os started H enc _ F => lifted os started H enc F)

/-- The statement. -/
theorem proved : Rows.PolicySpacedUptoSaid := over
end Go.Proofs.Ytmmfbeebjehkgaa.policySpaced
