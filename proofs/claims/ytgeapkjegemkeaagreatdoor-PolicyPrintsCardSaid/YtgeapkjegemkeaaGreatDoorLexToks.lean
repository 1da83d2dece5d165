/-
  What the document's Tokens and List of a text answer: contracts. Conditions: those that each names.
-/
import Derived.Test.YtgeapkjegemkeaaGreatDoorLexNext
import Derived.Test.YtgeapkjegemkeaaGreatDoorRowsOwn
import Derived.OwnWalk
namespace Go.Proofs.YtgeapkjegemkeaaGreatDoor
open Go Go.RowKit
set_option linter.unusedSimpArgs false
set_option linter.unusedVariables false

/-- A token's cells. -/
def tkC (x : Nx) : List Value := [.int .i64 x.kind, .string x.text, .int .u64 (x.num : Int), .int .i64 (x.pos : Int)]
def tksC (l : List Nx) : List Value := l.flatMap tkC
theorem tksC_snoc (l : List Nx) (x : Nx) : tksC (l ++ [x]) = tksC l ++ tkC x := by simp [tksC]
theorem info_tok : (Tryz.prog.info? 77).map (fun i => (i.zero, i.size, i.bytes)) = some (some (.agg #[.int .i64 0, .string ⟨#[]⟩, .int .u64 0, .int .i64 0]), 4, 40) := by kernel_rfl
/-- What stands while tokens are gathered. -/
def GathL (s : ByteArray) (w W : World) (v : Value) (i : Nat) (l : List Nx) (k : Nat) : Prop :=
  W.ownsRow w.heap.size 77 4 v l.length (tksC l) ∧ Below w.heap.size w W ∧ l.length ≤ 65536 ∧ l.length ≤ i ∧ i ≤ s.size ∧ s.size - i < k ∧ toksF s = (l ++ (toksN s k i).1, (toksN s k i).2)
def Gath (s : ByteArray) (w W : World) (v : Value) (i : Nat) : Prop := ∃ l k, GathL s w W v i l k
theorem gath_start (s : ByteArray) (w : World) : Gath s w w (.slice none 0 0) 0 :=
  ⟨[], s.size + 1, World.ownsRow_nil _ _ _ _, Below.refl _ _, by simp, by simp, Nat.zero_le _, by omega, rfl⟩
/-- What Tokens leaves. -/
def ToksP (s : ByteArray) (w : World) (e : Ending) (w' : World) : Prop :=
  ∃ v, e = .returned (.tuple #[v, .int .i64 (toksF s).2.1, .int .i64 ((toksF s).2.2 : Int)]) ∧ w'.ownsRow w.heap.size 77 4 v (toksF s).1.length (tksC (toksF s).1) ∧ Below w.heap.size w w'
theorem gath_err {s : ByteArray} {w W : World} {v : Value} {i : Nat} (h : Gath s w W v i) (he : (nextF s (i : Int)).err ≠ 0) :
    W.ownsRow w.heap.size 77 4 v (toksF s).1.length (tksC (toksF s).1) ∧ (toksF s).2.1 = (nextF s (i : Int)).err ∧ (toksF s).2.2 = (nextF s (i : Int)).next ∧ Below w.heap.size w W := by
  obtain ⟨l, k, ho, hb, _, _, _, hk, hF⟩ := h
  obtain ⟨k, rfl⟩ : ∃ k', k = k' + 1 := ⟨k - 1, by omega⟩
  have hT : toksN s (k + 1) i = ([], (nextF s (i : Int)).err, (nextF s (i : Int)).next) := by
    show (if (nextF s (i : Int)).err ≠ 0 then _ else _) = _
    rw [if_pos he]
  rw [hT, List.append_nil] at hF
  rw [hF]
  exact ⟨ho, rfl, rfl, hb⟩
theorem err_small {s : ByteArray} {i : Nat} (he : (nextF s (i : Int)).err = 0) : s.size ≤ 65536 := by
  rcases Nat.lt_or_ge 65536 s.size with h | h
  · unfold nextF at he; rw [if_pos h] at he; cases he
  · exact h
theorem gath_end {s : ByteArray} {w W W' : World} {v v' : Value} {i : Nat} {l : List Nx} {k : Nat} (h : GathL s w W v i l k) (he : (nextF s (i : Int)).err = 0) (hk1 : (nextF s (i : Int)).kind = 1)
    (h1 : W'.ownsRow w.heap.size 77 4 v' (l.length + 1) (tksC l ++ tkC (nextF s (i : Int)))) (h2 : Below w.heap.size w W') :
    W'.ownsRow w.heap.size 77 4 v' (toksF s).1.length (tksC (toksF s).1) ∧ (toksF s).2.1 = 0 ∧ (toksF s).2.2 = 0 ∧ Below w.heap.size w W' := by
  obtain ⟨ho, hb, hl, _, _, hk, hF⟩ := h
  obtain ⟨k, rfl⟩ : ∃ k', k = k' + 1 := ⟨k - 1, by omega⟩
  have hT : toksN s (k + 1) i = ([nextF s (i : Int)], 0, 0) := by
    show (if (nextF s (i : Int)).err ≠ 0 then _ else if (nextF s (i : Int)).kind = 1 then _ else _) = _
    rw [if_neg (fun g => g he), if_pos hk1]
  rw [hT] at hF
  rw [hF]
  exact ⟨by rw [tksC_snoc, List.length_append]; exact h1, rfl, rfl, h2⟩
theorem gath_on {s : ByteArray} {w W W' : World} {v v' : Value} {i : Nat} {l : List Nx} {k : Nat} (h : GathL s w W v i l k) (he : (nextF s (i : Int)).err = 0) (hk1 : (nextF s (i : Int)).kind ≠ 1)
    (h1 : W'.ownsRow w.heap.size 77 4 v' (l.length + 1) (tksC l ++ tkC (nextF s (i : Int)))) (h2 : Below w.heap.size w W') :
    Gath s w W' v' (nextF s (i : Int)).next := by
  obtain ⟨ho, hb, hl, hli, hi, hk, hF⟩ := h
  have hg := next_goes (err_small he) hi he hk1
  have hs := err_small he
  obtain ⟨k, rfl⟩ : ∃ k', k = k' + 1 := ⟨k - 1, by omega⟩
  have hT : toksN s (k + 1) i = (nextF s (i : Int) :: (toksN s k (nextF s (i : Int)).next).1, (toksN s k (nextF s (i : Int)).next).2) := by
    show (if (nextF s (i : Int)).err ≠ 0 then _ else if (nextF s (i : Int)).kind = 1 then _ else _) = _
    rw [if_neg (fun g => g he), if_neg hk1]
  rw [hT] at hF
  refine ⟨l ++ [nextF s (i : Int)], k, by rw [tksC_snoc, List.length_append]; exact h1, h2, by rw [List.length_append]; simp; omega, by rw [List.length_append]; simp; omega, hg.2, by omega, by rw [hF]; simp⟩
theorem gath_two {s : ByteArray} {w W w1 : World} {v : Value} {i : Nat} {l : List Nx} {k : Nat} (h : GathL s w W v i l k) (hb : Below W.heap.size W w1) (o o' : Obj) :
    ((w1.alloc o).alloc o').ownsRow w.heap.size 77 4 v l.length (tksC l) ∧ Below w.heap.size w ((w1.alloc o).alloc o') ∧ w.heap.size ≤ ((w1.alloc o).alloc o').heap.size := by
  have h1 := own_below h.1 hb
  have h2 := h.2.1.trans (hb.mono h.2.1.size)
  have h3 : Below w.heap.size w ((w1.alloc o).alloc o') := (h2.alloc h2.size o).alloc (h2.alloc h2.size o).size o'
  exact ⟨(h1.alloc o).alloc o', h3, h3.size⟩
theorem own_ne {s : ByteArray} {w W w1 : World} {v : Value} {i : Nat} {l : List Nx} {k : Nat} (h : GathL s w W v i l k) (hb : Below W.heap.size W w1) : some w1.heap.size ≠ v.ownBlock := fun e => by
  have := ((own_below h.1 hb).lt _ e.symm).2; omega
theorem tk_cells (w : World) (B : Nat) (hB : B = w.heap.size) (kind : Int) (text : ByteArray) (num pos next : Nat) (err : Int) (j : Nat) (u : Value) (h : (tkC ⟨kind, text, num, pos, next, err⟩)[j]? = some u) :
    (w.alloc (.cells #[.int .i64 kind, .string text, .int .u64 (num : Int), .int .i64 (pos : Int)] 77)).cell? ((⟨B, 0, none⟩ : Addr).add j) = some u := by
  subst hB
  have hj : j = 0 ∨ j = 1 ∨ j = 2 ∨ j = 3 := by
    rcases Nat.lt_or_ge j 4 with g | g
    · omega
    · rw [tkC, List.getElem?_eq_none (by simpa using g)] at h; cases h
  rw [addr_add]
  rcases hj with rfl | rfl | rfl | rfl <;> (simp [tkC] at h; subst h; simp)
theorem tk_one (x : Nx) : ∀ u ∈ tkC x, u.oneCell' = true := by
  intro u hu
  simp [tkC] at hu
  rcases hu with rfl | rfl | rfl | rfl <;> rfl
section
variable (s : ByteArray) (w : World)
theorem ref_Next_is (hm : s.size ≤ maxLen) (p : Int) {kind : Int} {text : ByteArray} {num pos next : Nat} {err : Int} (hx : nextF s p = ⟨kind, text, num, pos, next, err⟩) :
    Calls Tryz.prog 97 #[.string s, .int .i64 p] w fun e w' => e = .returned (.tuple #[.agg #[.int .i64 kind, .string text, .int .u64 (num : Int), .int .i64 (pos : Int)], .int .i64 (next : Int), .int .i64 err]) ∧ Below w.heap.size w w' := by
  have := ref_Next5 s w hm p
  rw [hx] at this
  exact this
set_option maxHeartbeats 1000000 in
theorem ref_Tokens (hm : s.size ≤ maxLen) : Calls Tryz.prog 70 #[.string s] w (ToksP s w) := by
  have HG0 := Lib.hid (gath_start s w)
  go_enter Tryz.func70, Tryz.ntmps70
  go_wp2
  go_loopw [5, 6] (fun u v wr => ∃ i : Nat, v = .int .i64 (i : Int) ∧ i ≤ s.size ∧ Gath s w wr u i) (fun _ v _ => s.size - (intOf v).toNat)
  case atStart => exact ⟨0, rfl, Nat.zero_le _, HG0.out⟩
  case round =>
    obtain ⟨i, rfl, hi, hG⟩ := hrel
    clear HG0
    have HG := Lib.hid hG
    clear hG
    obtain ⟨kind, text, num, pos, next, err, hx⟩ : ∃ kind text num pos next err, nextF s (i : Int) = ⟨kind, text, num, pos, next, err⟩ := ⟨_, _, _, _, _, _, rfl⟩
    have HN := Lib.hid (fun w => ref_Next_is s w hm (i : Int) hx)
    obtain ⟨l, kk, hL⟩ := HG.out
    have hlen := hL.2.2.1
    have HL := Lib.hid hL
    clear hL HG
    by_cases he : err = 0
    · subst he
      by_cases hk : kind = 1
      · subst hk
        have HE := Lib.hid (fun (W' : World) (v' : Value) => gath_end (W' := W') (v' := v') HL.out (by rw [hx]) (by rw [hx]))
        rw [hx] at HE
        clear hx
        go_wp2_with (first
          | (go_at_call 97; (with_reducible refine (HN.out _).mono ?_); rintro e w1 ⟨rfl, hb⟩; have HB := Lib.hid hb; clear hb HN)
          | (at_builtin; refine wpList_append_own _ rfl (.tmp 22) (.tmp 24) 80 rfl 77 (.agg #[.int .i64 0, .string ⟨#[]⟩, .int .u64 0, .int .i64 0]) 4 40 Tryz.underlying80 info_tok rfl (by decide) w.heap.size u5 l.length (tksC l) rfl (gath_two HL.out HB.out _ _).1 ⟨w1.heap.size + 1, 0, none⟩ 1 1 (tkC ⟨1, text, num, pos, next, 0⟩) rfl rfl (tk_cells _ _ (by simp) _ _ _ _ _ _) (tk_one _) (by unfold maxLen; omega) (by omega) (gath_two HL.out HB.out _ _).2.2 ?_; intro v' w2 ho2 hg2 _; have HO2 := Lib.hid ho2; have HB2 := Lib.hid (below_own (gath_two HL.out HB.out _ _).2.1 (gath_two HL.out HB.out _ _).1 hg2 (Nat.le_refl _)); have d0 : w2.cell? ⟨w1.heap.size, 0, none⟩ = some (.int .i64 1) := hg2.cell (by simp) (own_ne HL.out HB.out); clear ho2 hg2))
        go_ret3
        have h := HE.out w2 v' HO2.out HB2.out
        exact ⟨v', by rw [h.2.1, h.2.2.1]; rfl, h.1, h.2.2.2⟩
      · have hk2 : (kind == 1) = false := beq_false_of_ne hk
        have HE := Lib.hid (fun (W' : World) (v' : Value) => gath_on (W' := W') (v' := v') HL.out (by rw [hx]) (by rw [hx]; exact hk))
        have HG := Lib.hid (next_goes (err_small (by rw [hx])) hi (by rw [hx]) (by rw [hx]; exact hk))
        rw [hx] at HE HG
        clear hx
        go_wp2_with (first
          | (go_at_call 97; (with_reducible refine (HN.out _).mono ?_); rintro e w1 ⟨rfl, hb⟩; have HB := Lib.hid hb; clear hb HN)
          | (at_builtin; refine wpList_append_own _ rfl (.tmp 22) (.tmp 24) 80 rfl 77 (.agg #[.int .i64 0, .string ⟨#[]⟩, .int .u64 0, .int .i64 0]) 4 40 Tryz.underlying80 info_tok rfl (by decide) w.heap.size u5 l.length (tksC l) rfl (gath_two HL.out HB.out _ _).1 ⟨w1.heap.size + 1, 0, none⟩ 1 1 (tkC ⟨kind, text, num, pos, next, 0⟩) rfl rfl (tk_cells _ _ (by simp) _ _ _ _ _ _) (tk_one _) (by unfold maxLen; omega) (by omega) (gath_two HL.out HB.out _ _).2.2 ?_; intro v' w2 ho2 hg2 _; have HO2 := Lib.hid ho2; have HB2 := Lib.hid (below_own (gath_two HL.out HB.out _ _).2.1 (gath_two HL.out HB.out _ _).1 hg2 (Nat.le_refl _)); have d0 : w2.cell? ⟨w1.heap.size, 0, none⟩ = some (.int .i64 kind) := hg2.cell (by simp) (own_ne HL.out HB.out); clear ho2 hg2))
        exact ⟨⟨next, rfl, HG.out.2, HE.out w2 v' HO2.out HB2.out⟩, by have := HG.out.1; have := HG.out.2; simp [intOf] at *; omega⟩
    · have HE := Lib.hid (gath_err ⟨l, kk, HL.out⟩ (by rw [hx]; exact he))
      rw [hx] at HE
      have he2 : (err != 0) = true := bne_iff_ne.2 he
      clear hx
      go_wp2_with (first
          | (go_at_call 97; (with_reducible refine (HN.out _).mono ?_); rintro e w1 ⟨rfl, hb⟩; have HB := Lib.hid hb; clear hb HN))
      go_ret3
      have h2 := HE.out.2.2.2.trans (HB.out.mono HE.out.2.2.2.size)
      exact ⟨u5, by rw [HE.out.2.1, HE.out.2.2.1]; rfl, (own_below HE.out.1 HB.out).alloc _, h2.alloc h2.size _⟩
end
end Go.Proofs.YtgeapkjegemkeaaGreatDoor
