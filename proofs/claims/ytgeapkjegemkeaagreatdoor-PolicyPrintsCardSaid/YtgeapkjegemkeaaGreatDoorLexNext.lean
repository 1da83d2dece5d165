/-
  What the document's Word and Next of a text answer: contracts. Conditions: those that each names.
-/
import Derived.Test.YtgeapkjegemkeaaGreatDoorLexNum
import Derived.Test.YtgeapkjegemkeaaGreatDoorLexSign
namespace Go.Proofs.YtgeapkjegemkeaaGreatDoor
open Go Go.RowKit
set_option linter.unusedSimpArgs false
set_option linter.unusedVariables false

section
variable (s : ByteArray) (hs : s.size ≤ maxLen) (w : World)
include hs
end
/-- What Next answers. -/
def nxV (x : Nx) : Value := .tuple #[.agg #[.int .i64 x.kind, .string x.text, .int .u64 (x.num : Int), .int .i64 (x.pos : Int)], .int .i64 (x.next : Int), .int .i64 x.err]
def NextP (w : World) (x : Nx) (e : Ending) (w' : World) : Prop := e = .returned (nxV x) ∧ Below w.heap.size w w'
section
variable (s : ByteArray) (w : World)
theorem ref_Next_long (p : Int) (h : 65536 < s.size) : Calls Tryz.prog 97 #[.string s, .int .i64 p] w (NextP w (nextF s p)) := by
  have HX := Lib.hid (show nextF s p = Nx.fail 0 54 by unfold nextF; rw [if_pos h])
  have h' : (65536 : Int) < (s.size : Int) := by omega
  go_enter Tryz.func97, Tryz.ntmps97
  go_wp2
  exact bodyPost_ret (v := .tuple #[.agg #[.int .i64 0, .string ⟨#[]⟩, .int .u64 0, .int .i64 0], .int .i64 0, .int .i64 54]) (by simp [results, Tryz.results97, go_sem]) rfl ⟨by rw [HX.out]; rfl, lbox w _⟩
theorem ref_Next_out (p : Int) (hs : s.size ≤ 65536) (h : p < 0 ∨ (s.size : Int) < p) : Calls Tryz.prog 97 #[.string s, .int .i64 p] w (NextP w (nextF s p)) := by
  have HX := Lib.hid (show nextF s p = Nx.fail 0 1 by unfold nextF; rw [if_neg (by omega), if_pos h])
  have h' : ¬ (65536 : Int) < (s.size : Int) := by omega
  rcases h with h | h
  · go_enter Tryz.func97, Tryz.ntmps97
    go_wp2
    exact bodyPost_ret (v := .tuple #[.agg #[.int .i64 0, .string ⟨#[]⟩, .int .u64 0, .int .i64 0], .int .i64 0, .int .i64 1]) (by simp [results, Tryz.results97, go_sem]) rfl ⟨by rw [HX.out]; rfl, lbox w _⟩
  · have h0 : ¬ p < 0 := by omega
    go_enter Tryz.func97, Tryz.ntmps97
    go_wp2
    exact bodyPost_ret (v := .tuple #[.agg #[.int .i64 0, .string ⟨#[]⟩, .int .u64 0, .int .i64 0], .int .i64 0, .int .i64 1]) (by simp [results, Tryz.results97, go_sem]) rfl ⟨by rw [HX.out]; rfl, lbox w _⟩
theorem extract_size {s : ByteArray} {a b : Nat} (h : b ≤ s.size) : (s.extract a b).size = b - a := by
  rw [ByteArray.size_extract, Nat.min_eq_left h]
set_option maxHeartbeats 1000000 in
theorem ref_Next_in (i : Nat) (hs : s.size ≤ 65536) (hi : i ≤ s.size) : Calls Tryz.prog 97 #[.string s, .int .i64 (i : Int)] w (NextP w (nextF s (i : Int))) := by
  have hm : s.size ≤ maxLen := by unfold maxLen; omega
  have hX := next_in hs hi
  have hk := skip_le (byt s) s.size i hi
  have HK := Lib.hid (ref_skip s hm i hi)
  have h' : ¬ (65536 : Int) < (s.size : Int) := by omega
  have hn1 : ¬ (i : Int) < 0 := by omega
  have hn2 : ¬ (s.size : Int) < (i : Int) := by omega
  generalize skipF (byt s) s.size i = k at hX hk HK
  by_cases hend : k = s.size
  · subst hend
    have HX := Lib.hid (hX.trans (show tokF s s.size = ⟨1, ⟨#[]⟩, 0, s.size, s.size, 0⟩ by unfold tokF; rw [if_pos rfl]))
    clear hX
    go_enter Tryz.func97, Tryz.ntmps97
    go_wp2_with (first
      | (go_at_call 114; (with_reducible refine (HK.out _).mono ?_); rintro e w' ⟨rfl, rfl⟩))
    exact bodyPost_ret (v := .tuple #[.agg #[.int .i64 1, .string ⟨#[]⟩, .int .u64 0, .int .i64 (s.size : Int)], .int .i64 (s.size : Int), .int .i64 0]) (by simp [results, Tryz.results97, go_sem]) rfl ⟨by rw [HX.out]; rfl, lbox w _⟩
  have hlt : k < s.size := by omega
  have hlt' : (k : Int) < (s.size : Int) := by omega
  have hne : ¬ (k : Int) = (s.size : Int) := by omega
  have hne2 : ((k : Int) == (s.size : Int)) = false := beq_false_of_ne hne
  have hge : k ≤ upTo worB (byt s) s.size k := upTo_ge _ _ _ _
  have hle : upTo worB (byt s) s.size k ≤ s.size := upTo_le _ _ _ _ (by omega)
  have HR := Lib.hid (ref_run s hm k (by omega))
  have HG := Lib.hid (ref_sign s hm k hlt)
  have hN := fun w => ref_Number (s.extract k (upTo worB (byt s) s.size k)) (by rw [extract_size hle]; unfold maxLen; omega) w
  rw [extract_size hle] at hN
  have HN := Lib.hid hN
  have e := byt_is hlt
  have hT : tokF s k = if letB (byt s k) = true then if 32 < upTo worB (byt s) s.size k - k then Nx.fail k 52 else ⟨2, s.extract k (upTo worB (byt s) s.size k), 0, k, upTo worB (byt s) s.size k, 0⟩
    else if digB (byt s k) = true then if numB (byt (s.extract k (upTo worB (byt s) s.size k))) (upTo worB (byt s) s.size k - k) = false then Nx.fail k 53 else ⟨3, s.extract k (upTo worB (byt s) s.size k), numV (byt (s.extract k (upTo worB (byt s) s.size k))) (upTo worB (byt s) s.size k - k), k, upTo worB (byt s) s.size k, 0⟩
    else if sigF (byt s) s.size k = 0 then Nx.fail k 51 else ⟨4, s.extract k (k + sigF (byt s) s.size k), 0, k, k + sigF (byt s) s.size k, 0⟩ := by
    unfold tokF; rw [if_neg hend]
  rw [hT] at hX
  have hsg := sig_le (f := byt s) hlt
  clear hT hm hN hend
  generalize upTo worB (byt s) s.size k = U at hX hge hle HR HN
  generalize numV (byt (s.extract k U)) (U - k) = V at hX HN
  generalize numB (byt (s.extract k U)) (U - k) = B at hX HN
  generalize sigF (byt s) s.size k = G at hX HG hsg
  generalize byt s k = c at hX e
  have hw : IntKind.i64.wrap ((U : Int) - (k : Int)) = ((U - k : Nat) : Int) := by rw [IntWalk.i64_in _ (by omega)]; omega
  have hw2 : IntKind.i64.wrap ((k : Int) + (G : Int)) = ((k + G : Nat) : Int) := by rw [IntWalk.i64_in _ (by omega)]; omega
  have HDg := Lib.hid (ref_digit c)
  cases hl : letB c with
  | true =>
    rw [if_pos hl] at hX
    have HL := Lib.hid (ref_letter_is hl)
    have HD := Lib.hid (ref_digit c)
    clear hl
    by_cases h32 : 32 < U - k
    · rw [if_pos h32] at hX
      have HX := Lib.hid hX
      have h32' : (32 : Int) < ((U - k : Nat) : Int) := by omega
      clear hX h32
      go_enter Tryz.func97, Tryz.ntmps97
      go_wp2_with (first
        | (go_at_call 114; (with_reducible refine (HK.out _).mono ?_); rintro e w' ⟨rfl, rfl⟩)
        | (go_at_call 115; (with_reducible refine (HL.out _).mono ?_); rintro e w' ⟨rfl, rfl⟩)
        | (go_at_call 116; (with_reducible refine (HD.out _).mono ?_); rintro e w' ⟨rfl, rfl⟩)
        | (go_at_call 117; (with_reducible refine (HR.out _).mono ?_); rintro e w' ⟨rfl, rfl⟩)
        | (go_at_call 119; (with_reducible refine (HG.out _).mono ?_); rintro e w' ⟨rfl, rfl⟩))
      exact bodyPost_ret (v := .tuple #[.agg #[.int .i64 0, .string ⟨#[]⟩, .int .u64 0, .int .i64 0], .int .i64 (k : Int), .int .i64 52]) (by simp [results, Tryz.results97, go_sem]) rfl ⟨by rw [HX.out]; rfl, (lbox w _).trans ((lbox _ _).mono (by simp))⟩
    · rw [if_neg h32] at hX
      have HX := Lib.hid hX
      have h32' : ¬ (32 : Int) < ((U - k : Nat) : Int) := by omega
      clear hX h32
      go_enter Tryz.func97, Tryz.ntmps97
      go_wp2_with (first
        | (go_at_call 114; (with_reducible refine (HK.out _).mono ?_); rintro e w' ⟨rfl, rfl⟩)
        | (go_at_call 115; (with_reducible refine (HL.out _).mono ?_); rintro e w' ⟨rfl, rfl⟩)
        | (go_at_call 116; (with_reducible refine (HD.out _).mono ?_); rintro e w' ⟨rfl, rfl⟩)
        | (go_at_call 117; (with_reducible refine (HR.out _).mono ?_); rintro e w' ⟨rfl, rfl⟩)
        | (go_at_call 118; (with_reducible refine (HN.out _).mono ?_); rintro e w' ⟨rfl, rfl⟩)
        | (go_at_call 119; (with_reducible refine (HG.out _).mono ?_); rintro e w' ⟨rfl, rfl⟩))
      exact bodyPost_ret (v := .tuple #[.agg #[.int .i64 2, .string (s.extract k U), .int .u64 0, .int .i64 (k : Int)], .int .i64 (U : Int), .int .i64 0]) (by simp [results, Tryz.results97, go_sem]) rfl ⟨by rw [HX.out]; rfl, (lbox w _).trans ((lbox _ _).mono (by simp))⟩
  | false =>
    rw [if_neg (by rw [hl]; decide)] at hX
    have HL := Lib.hid (ref_letter_is hl)
    clear hl
    cases hd : digB c with
    | true =>
      rw [if_pos hd] at hX
      have HD := Lib.hid (ref_digit_is hd)
      clear hd
      cases B with
      | false =>
        rw [if_pos rfl] at hX
        have HX := Lib.hid hX
        clear hX
        go_enter Tryz.func97, Tryz.ntmps97
        go_wp2_with (first
          | (go_at_call 114; (with_reducible refine (HK.out _).mono ?_); rintro e w' ⟨rfl, rfl⟩)
          | (go_at_call 115; (with_reducible refine (HL.out _).mono ?_); rintro e w' ⟨rfl, rfl⟩)
          | (go_at_call 116; (with_reducible refine (HD.out _).mono ?_); rintro e w' ⟨rfl, rfl⟩)
          | (go_at_call 117; (with_reducible refine (HR.out _).mono ?_); rintro e w' ⟨rfl, rfl⟩)
          | (go_at_call 118; (with_reducible refine (HN.out _).mono ?_); rintro e w' ⟨rfl, rfl⟩)
          | (go_at_call 119; (with_reducible refine (HG.out _).mono ?_); rintro e w' ⟨rfl, rfl⟩))
        exact bodyPost_ret (v := .tuple #[.agg #[.int .i64 0, .string ⟨#[]⟩, .int .u64 0, .int .i64 0], .int .i64 (k : Int), .int .i64 53]) (by simp [results, Tryz.results97, go_sem]) rfl ⟨by rw [HX.out]; rfl, (lbox w _).trans ((lbox _ _).mono (by simp))⟩
      | true =>
        rw [if_neg (by decide)] at hX
        have HX := Lib.hid hX
        clear hX
        go_enter Tryz.func97, Tryz.ntmps97
        go_wp2_with (first
          | (go_at_call 114; (with_reducible refine (HK.out _).mono ?_); rintro e w' ⟨rfl, rfl⟩)
          | (go_at_call 115; (with_reducible refine (HL.out _).mono ?_); rintro e w' ⟨rfl, rfl⟩)
          | (go_at_call 116; (with_reducible refine (HD.out _).mono ?_); rintro e w' ⟨rfl, rfl⟩)
          | (go_at_call 117; (with_reducible refine (HR.out _).mono ?_); rintro e w' ⟨rfl, rfl⟩)
          | (go_at_call 118; (with_reducible refine (HN.out _).mono ?_); rintro e w' ⟨rfl, rfl⟩)
          | (go_at_call 119; (with_reducible refine (HG.out _).mono ?_); rintro e w' ⟨rfl, rfl⟩))
        exact bodyPost_ret (v := .tuple #[.agg #[.int .i64 3, .string (s.extract k U), .int .u64 (V : Int), .int .i64 (k : Int)], .int .i64 (U : Int), .int .i64 0]) (by simp [results, Tryz.results97, go_sem]) rfl ⟨by rw [HX.out]; rfl, (lbox w _).trans ((lbox _ _).mono (by simp))⟩
    | false =>
      rw [if_neg (by rw [hd]; decide)] at hX
      have HD := Lib.hid (ref_digit_is hd)
      clear hd
      by_cases hg : G = 0
      · subst hg
        rw [if_pos rfl] at hX
        have HX := Lib.hid hX
        clear hX
        go_enter Tryz.func97, Tryz.ntmps97
        go_wp2_with (first
          | (go_at_call 114; (with_reducible refine (HK.out _).mono ?_); rintro e w' ⟨rfl, rfl⟩)
          | (go_at_call 115; (with_reducible refine (HL.out _).mono ?_); rintro e w' ⟨rfl, rfl⟩)
          | (go_at_call 116; (with_reducible refine (HD.out _).mono ?_); rintro e w' ⟨rfl, rfl⟩)
          | (go_at_call 117; (with_reducible refine (HR.out _).mono ?_); rintro e w' ⟨rfl, rfl⟩)
          | (go_at_call 118; (with_reducible refine (HN.out _).mono ?_); rintro e w' ⟨rfl, rfl⟩)
          | (go_at_call 119; (with_reducible refine (HG.out _).mono ?_); rintro e w' ⟨rfl, rfl⟩))
        exact bodyPost_ret (v := .tuple #[.agg #[.int .i64 0, .string ⟨#[]⟩, .int .u64 0, .int .i64 0], .int .i64 (k : Int), .int .i64 51]) (by simp [results, Tryz.results97, go_sem]) rfl ⟨by rw [HX.out]; rfl, lbox w _⟩
      · rw [if_neg hg] at hX
        have HX := Lib.hid hX
        have hg1 : ¬ (G : Int) = 0 := by omega
        have hg2 : ((G : Int) == 0) = false := beq_false_of_ne hg1
        clear hX hg
        go_enter Tryz.func97, Tryz.ntmps97
        go_wp2_with (first
          | (go_at_call 114; (with_reducible refine (HK.out _).mono ?_); rintro e w' ⟨rfl, rfl⟩)
          | (go_at_call 115; (with_reducible refine (HL.out _).mono ?_); rintro e w' ⟨rfl, rfl⟩)
          | (go_at_call 116; (with_reducible refine (HD.out _).mono ?_); rintro e w' ⟨rfl, rfl⟩)
          | (go_at_call 117; (with_reducible refine (HR.out _).mono ?_); rintro e w' ⟨rfl, rfl⟩)
          | (go_at_call 118; (with_reducible refine (HN.out _).mono ?_); rintro e w' ⟨rfl, rfl⟩)
          | (go_at_call 119; (with_reducible refine (HG.out _).mono ?_); rintro e w' ⟨rfl, rfl⟩))
        exact bodyPost_ret (v := .tuple #[.agg #[.int .i64 4, .string (s.extract k (k + G)), .int .u64 0, .int .i64 (k : Int)], .int .i64 ((k + G : Nat) : Int), .int .i64 0]) (by simp [results, Tryz.results97, go_sem]) rfl ⟨by rw [HX.out]; rfl, lbox w _⟩
/-- .. all in one. -/
theorem ref_Next5 (hm : s.size ≤ maxLen) (p : Int) : Calls Tryz.prog 97 #[.string s, .int .i64 p] w (NextP w (nextF s p)) := by
  by_cases h : 65536 < s.size
  · exact ref_Next_long s w p h
  · by_cases h2 : p < 0 ∨ (s.size : Int) < p
    · exact ref_Next_out s w p (by omega) h2
    · have := ref_Next_in s w p.toNat (by omega) (by omega)
      rwa [show ((p.toNat : Nat) : Int) = p by omega] at this
end
end Go.Proofs.YtgeapkjegemkeaaGreatDoor
