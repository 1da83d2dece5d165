/-
  The program's token at a place of a text, and Next: contracts. Conditions: those that each names.
-/
import Derived.Test.YtgeapkjegemkeaaGreatDoorPLexTok
namespace Go.Proofs.YtgeapkjegemkeaaGreatDoor
open Go Go.RowKit
set_option linter.unusedSimpArgs false
set_option linter.unusedVariables false

/-- A token and an error, as values. -/
abbrev tokV (kind : Int) (text : ByteArray) (num : Nat) (pos : Nat) (err : Int) : Value := .tuple #[.agg #[.int .i64 kind, .string text, .int .u64 (num : Int), .int .i64 (pos : Int)], .int .i64 err]
abbrev tokO : Obj := .cells #[.int .i64 0, .string ⟨#[]⟩, .int .u64 0, .int .i64 0] 77
set_option maxRecDepth 100000 in
/-- A result's box, behind a call that writes nothing that was there. -/
theorem tbox {W W' : World} (hb : Below (W.alloc tokO).heap.size (W.alloc tokO) W') :
    W'.cell? ⟨W.heap.size, 0, none⟩ = some (.int .i64 0) ∧ W'.cell? ⟨W.heap.size, 1, none⟩ = some (.string ⟨#[]⟩) ∧ W'.cell? ⟨W.heap.size, 2, none⟩ = some (.int .u64 0) ∧ W'.cell? ⟨W.heap.size, 3, none⟩ = some (.int .i64 0) ∧
    W'.frozen? ⟨W.heap.size, 0, none⟩ = false ∧ W'.frozen? ⟨W.heap.size, 1, none⟩ = false ∧ W'.frozen? ⟨W.heap.size, 2, none⟩ = false ∧ W'.frozen? ⟨W.heap.size, 3, none⟩ = false :=
  ⟨(hb.cell (p := ⟨W.heap.size, 0, none⟩) (by simp)).trans (by simp), (hb.cell (p := ⟨W.heap.size, 1, none⟩) (by simp)).trans (by simp), (hb.cell (p := ⟨W.heap.size, 2, none⟩) (by simp)).trans (by simp), (hb.cell (p := ⟨W.heap.size, 3, none⟩) (by simp)).trans (by simp),
   (hb.frozen (p := ⟨W.heap.size, 0, none⟩) (by simp)).trans (by simp), (hb.frozen (p := ⟨W.heap.size, 1, none⟩) (by simp)).trans (by simp), (hb.frozen (p := ⟨W.heap.size, 2, none⟩) (by simp)).trans (by simp), (hb.frozen (p := ⟨W.heap.size, 3, none⟩) (by simp)).trans (by simp)⟩
set_option maxRecDepth 100000 in
theorem tset {w W : World} (h : Below w.heap.size w W) (a b c d : Value) : Below w.heap.size w ((((W.setCell ⟨w.heap.size, 0, none⟩ a).setCell ⟨w.heap.size, 1, none⟩ b).setCell ⟨w.heap.size, 2, none⟩ c).setCell ⟨w.heap.size, 3, none⟩ d) :=
  (((h.setCell (p := ⟨w.heap.size, 0, none⟩) (Nat.le_refl _) _).setCell (p := ⟨w.heap.size, 1, none⟩) (Nat.le_refl _) _).setCell (p := ⟨w.heap.size, 2, none⟩) (Nat.le_refl _) _).setCell (p := ⟨w.heap.size, 3, none⟩) (Nat.le_refl _) _
set_option maxRecDepth 100000 in
theorem tup {w W' : World} (hb : Below (w.alloc tokO).heap.size (w.alloc tokO) W') : Below w.heap.size w W' := (lbox w _).trans (hb.mono (by simp))
section
variable (s : ByteArray) (hs : s.size ≤ 65536) (w : World)
include hs
set_option maxRecDepth 100000 in
theorem p_token (kind : Int) (num pos : Int) : Calls Tryz.prog 144 #[.int .i64 kind, .string s, .int .u64 num, .int .i64 pos] w fun e w' => e = .returned (.agg #[.int .i64 kind, .string s, .int .u64 num, .int .i64 pos]) ∧ Below w.heap.size w w' := by
  have HC := Lib.hid (fun w => p_Clone s hs w)
  go_enter Tryz.func144, Tryz.ntmps144
  go_wp2_with (go_at_call 149; (with_reducible refine (HC.out _).mono ?_); rintro e w' ⟨rfl, hb⟩; have HB := Lib.hid (tup hb); obtain ⟨d0, d1, d2, d3, z0, z1, z2, z3⟩ := tbox hb; clear hb)
  exact bodyPost_ret (v := .agg #[.int .i64 kind, .string s, .int .u64 num, .int .i64 pos]) (by simp [results, Tryz.results144, go_sem, d0, d1, d2, d3, World.cell?_setCell_same']) rfl ⟨rfl, tset HB.out _ _ _ _⟩
set_option maxRecDepth 100000 in
theorem p_wordToken_ok (h : worOK (byt s) s.size = true) (pos : Int) : Calls Tryz.prog 130 #[.string s, .int .i64 pos] w fun e w' => e = .returned (.tuple #[.agg #[.int .i64 2, .string s, .int .u64 0, .int .i64 pos], .int .i64 0]) ∧ Below w.heap.size w w' := by
  have HW := Lib.hid (fun w => lex_Word s (by unfold maxLen; omega) w)
  rw [h] at HW
  have HT := Lib.hid (fun w => p_token s hs w 2 0 pos)
  clear h
  go_enter Tryz.func130, Tryz.ntmps130
  go_wp2_with (first
    | (go_at_call 86; (with_reducible refine (HW.out _).mono ?_); rintro e w1 ⟨rfl, rfl⟩)
    | (go_at_call 144; (with_reducible refine (HT.out _).mono ?_); rintro e w' ⟨rfl, hb⟩; have HB := Lib.hid (tup hb); obtain ⟨d0, d1, d2, d3, z0, z1, z2, z3⟩ := tbox hb; clear hb))
  exact bodyPost_ret (v := .tuple #[.agg #[.int .i64 2, .string s, .int .u64 0, .int .i64 pos], .int .i64 0]) (by simp [results, Tryz.results130, go_sem, d0, d1, d2, d3, World.cell?_setCell_same']) rfl ⟨rfl, tset HB.out _ _ _ _⟩
set_option maxRecDepth 100000 in
theorem p_wordToken_no (h : worOK (byt s) s.size = false) (pos : Int) : Calls Tryz.prog 130 #[.string s, .int .i64 pos] w fun e w' => e = .returned (.tuple #[.agg #[.int .i64 0, .string ⟨#[]⟩, .int .u64 0, .int .i64 0], .int .i64 52]) ∧ Below w.heap.size w w' := by
  have HW := Lib.hid (fun w => lex_Word s (by unfold maxLen; omega) w)
  rw [h] at HW
  clear h
  go_enter Tryz.func130, Tryz.ntmps130
  go_wp2_with (go_at_call 86; (with_reducible refine (HW.out _).mono ?_); rintro e w1 ⟨rfl, rfl⟩)
  exact bodyPost_ret (v := .tuple #[.agg #[.int .i64 0, .string ⟨#[]⟩, .int .u64 0, .int .i64 0], .int .i64 52]) (by simp [results, Tryz.results130, go_sem, World.cell?_setCell_same']) rfl ⟨rfl, lbox w _⟩
set_option maxRecDepth 100000 in
theorem p_numberToken_ok (h : numB (byt s) s.size = true) (pos : Int) : Calls Tryz.prog 132 #[.string s, .int .i64 pos] w fun e w' => e = .returned (.tuple #[.agg #[.int .i64 3, .string s, .int .u64 (numV (byt s) s.size : Int), .int .i64 pos], .int .i64 0]) ∧ Below w.heap.size w w' := by
  have HW := Lib.hid (fun w => lex_Number s (by unfold maxLen; omega) w)
  rw [h] at HW
  generalize numV (byt s) s.size = V at HW ⊢
  have HT := Lib.hid (fun w => p_token s hs w 3 (V : Int) pos)
  clear h
  go_enter Tryz.func132, Tryz.ntmps132
  go_wp2_with (first
    | (go_at_call 145; (with_reducible refine (HW.out _).mono ?_); rintro e w1 ⟨rfl, rfl⟩)
    | (go_at_call 144; (with_reducible refine (HT.out _).mono ?_); rintro e w' ⟨rfl, hb⟩; have HB := Lib.hid (tup hb); obtain ⟨d0, d1, d2, d3, z0, z1, z2, z3⟩ := tbox hb; clear hb))
  exact bodyPost_ret (v := .tuple #[.agg #[.int .i64 3, .string s, .int .u64 (V : Int), .int .i64 pos], .int .i64 0]) (by simp [results, Tryz.results132, go_sem, d0, d1, d2, d3, World.cell?_setCell_same']) rfl ⟨rfl, tset HB.out _ _ _ _⟩
set_option maxRecDepth 100000 in
theorem p_numberToken_no (h : numB (byt s) s.size = false) (pos : Int) : Calls Tryz.prog 132 #[.string s, .int .i64 pos] w fun e w' => e = .returned (.tuple #[.agg #[.int .i64 0, .string ⟨#[]⟩, .int .u64 0, .int .i64 0], .int .i64 53]) ∧ Below w.heap.size w w' := by
  have HW := Lib.hid (fun w => lex_Number s (by unfold maxLen; omega) w)
  rw [h] at HW
  generalize numV (byt s) s.size = V at HW ⊢
  clear h
  go_enter Tryz.func132, Tryz.ntmps132
  go_wp2_with (go_at_call 145; (with_reducible refine (HW.out _).mono ?_); rintro e w1 ⟨rfl, rfl⟩)
  exact bodyPost_ret (v := .tuple #[.agg #[.int .i64 0, .string ⟨#[]⟩, .int .u64 0, .int .i64 0], .int .i64 53]) (by simp [results, Tryz.results132, go_sem, World.cell?_setCell_same']) rfl ⟨rfl, lbox w _⟩
set_option maxRecDepth 100000 in
theorem p_signToken_ok (h : 0 < s.size) (pos : Int) : Calls Tryz.prog 133 #[.string s, .int .i64 pos] w fun e w' => e = .returned (.tuple #[.agg #[.int .i64 4, .string s, .int .u64 0, .int .i64 pos], .int .i64 0]) ∧ Below w.heap.size w w' := by
  have he : s.toList.isEmpty = false := by rw [text_empty]; exact decide_eq_false (by omega)
  have HT := Lib.hid (fun w => p_token s hs w 4 0 pos)
  go_enter Tryz.func133, Tryz.ntmps133
  go_wp2_with (go_at_call 144; (with_reducible refine (HT.out _).mono ?_); rintro e w' ⟨rfl, hb⟩; have HB := Lib.hid (tup hb); obtain ⟨d0, d1, d2, d3, z0, z1, z2, z3⟩ := tbox hb; clear hb)
  exact bodyPost_ret (v := .tuple #[.agg #[.int .i64 4, .string s, .int .u64 0, .int .i64 pos], .int .i64 0]) (by simp [results, Tryz.results133, go_sem, d0, d1, d2, d3, World.cell?_setCell_same']) rfl ⟨rfl, tset HB.out _ _ _ _⟩
omit hs in
set_option maxRecDepth 100000 in
theorem p_signToken_no (h : s.size = 0) (pos : Int) : Calls Tryz.prog 133 #[.string s, .int .i64 pos] w fun e w' => e = .returned (.tuple #[.agg #[.int .i64 0, .string ⟨#[]⟩, .int .u64 0, .int .i64 0], .int .i64 51]) ∧ Below w.heap.size w w' := by
  have he : s.toList.isEmpty = true := by rw [text_empty]; exact decide_eq_true h
  go_enter Tryz.func133, Tryz.ntmps133
  go_wp2
  exact bodyPost_ret (v := .tuple #[.agg #[.int .i64 0, .string ⟨#[]⟩, .int .u64 0, .int .i64 0], .int .i64 51]) (by simp [results, Tryz.results133, go_sem, World.cell?_setCell_same']) rfl ⟨rfl, lbox w _⟩
end
set_option maxRecDepth 100000 in
theorem piece_word {s : ByteArray} {i : Nat} (hi : i < s.size) (hl : letB (byt s i) = true) : worOK (byt (s.extract i (upTo worB (byt s) s.size i))) (upTo worB (byt s) s.size i - i) = decide (upTo worB (byt s) s.size i - i ≤ 32) := by
  have hle := upTo_le worB (byt s) s.size i (by omega)
  have hgt : i < upTo worB (byt s) s.size i := by
    rw [upTo_on hi (by unfold worB; rw [hl]; rfl)]; exact upTo_ge worB (byt s) s.size (i + 1)
  have hall := fun j => upTo_all worB (byt s) s.size i j
  generalize upTo worB (byt s) s.size i = U at hle hgt hall ⊢
  have hb := fun j hj => byt_extract s i U j hle hj
  have hu : upTo worB (byt (s.extract i U)) (U - i) 0 = U - i := (upTo_all_iff (Nat.zero_le _)).2 fun j _ hj => by rw [hb j hj]; exact hall (i + j) (by omega) (by omega)
  unfold worOK
  refine decide_eq_decide.2 ⟨fun g => g.2.1, fun g => ⟨by omega, g, ?_, hu⟩⟩
  rw [hb 0 (by omega)]; exact hl
set_option maxRecDepth 100000 in
theorem sig_shift {s : ByteArray} {i : Nat} (hi : i < s.size) : sigF (byt (s.extract i s.size)) (s.size - i) 0 = sigF (byt s) s.size i := by
  have h0 : byt (s.extract i s.size) 0 = byt s i := byt_extract s i s.size 0 (Nat.le_refl _) (by omega)
  have h1 : (0 + 1 < s.size - i ∧ byt (s.extract i s.size) (0 + 1) = 61) ↔ (i + 1 < s.size ∧ byt s (i + 1) = 61) :=
    ⟨fun g => ⟨by omega, by rw [← byt_extract s i s.size 1 (Nat.le_refl _) g.1]; exact g.2⟩, fun g => ⟨by omega, by rw [show 0 + 1 = 1 from rfl, byt_extract s i s.size 1 (Nat.le_refl _) (by omega)]; exact g.2⟩⟩
  unfold sigF
  rw [h0]
  simp only [h1]
set_option maxHeartbeats 1000000 in
set_option maxRecDepth 100000 in
theorem p_tokenAt_end (s : ByteArray) (hs : s.size ≤ 65536) (i : Nat) (hi : i = s.size) (w : World) :
    Calls Tryz.prog 105 #[.string s, .int .i64 (i : Int)] w fun e w' => e = .returned (tokV (tokF s i).kind (tokF s i).text (tokF s i).num (tokF s i).pos (tokF s i).err) ∧ Below w.heap.size w w' := by
  subst hi
  have HX := Lib.hid (show tokF s s.size = ⟨1, ⟨#[]⟩, 0, s.size, s.size, 0⟩ by unfold tokF; rw [if_pos rfl])
  go_enter Tryz.func105, Tryz.ntmps105
  go_wp2
  exact bodyPost_ret (v := .tuple #[.agg #[.int .i64 1, .string ⟨#[]⟩, .int .u64 0, .int .i64 (s.size : Int)], .int .i64 0]) (by simp [results, Tryz.results105, go_sem, World.cell?_setCell_same']) rfl ⟨by rw [HX.out]; rfl, by first | exact lbox w _ | exact tset (lbox w _) _ _ _ _⟩
set_option maxHeartbeats 1000000 in
set_option maxRecDepth 100000 in
theorem p_tokenAt_word (s : ByteArray) (hs : s.size ≤ 65536) (i : Nat) (hi : i < s.size) (hl : letB (byt s i) = true) (w : World) :
    Calls Tryz.prog 105 #[.string s, .int .i64 (i : Int)] w fun e w' => e = .returned (tokV (tokF s i).kind (tokF s i).text (tokF s i).num (tokF s i).pos (tokF s i).err) ∧ Below w.heap.size w w' := by
  have hpw := piece_word hi hl
  have HT : Hid (tokF s i = if 32 < upTo worB (byt s) s.size i - i then Nx.fail i 52 else ⟨2, s.extract i (upTo worB (byt s) s.size i), 0, i, upTo worB (byt s) s.size i, 0⟩) := Lib.hid (by unfold tokF; rw [if_neg (by omega), if_pos hl])
  have hle := upTo_le worB (byt s) s.size i (by omega)
  have hge := upTo_ge worB (byt s) s.size i
  have HR := Lib.hid (fun w => p_runPart s (by unfold maxLen; omega) i (by omega) w)
  have HL := Lib.hid (fun w => p_begins_is hl w)
  have e0 := byt_is hi
  generalize upTo worB (byt s) s.size i = U at hpw HT hle hge HR
  have hsz : (s.extract i U).size = U - i := size_extract5 s i U hle
  rw [← hsz] at hpw
  have hi' : (i : Int) < (s.size : Int) := by omega
  have hne : ¬ (i : Int) = (s.size : Int) := by omega
  have hne2 : ((i : Int) == (s.size : Int)) = false := beq_false_of_ne hne
  generalize byt s i = c at e0 HL
  by_cases h32 : 32 < U - i
  · have HX := Lib.hid (HT.out.trans (if_pos h32))
    have HW := Lib.hid (fun w => p_wordToken_no (s.extract i U) (by omega) w (hpw.trans (decide_eq_false (by omega))) (i : Int))
    clear HT hpw hl
    go_enter Tryz.func105, Tryz.ntmps105
    go_wp2_with (first
      | (go_at_call 110; (with_reducible refine (HL.out _).mono ?_); rintro e w1 ⟨rfl, rfl⟩)
      | (go_at_call 111; (with_reducible refine (HR.out _).mono ?_); rintro e w1 ⟨rfl, rfl⟩)
      | (go_at_call 130; (with_reducible refine (HW.out _).mono ?_); rintro e w' ⟨rfl, hb⟩; have HB := Lib.hid (tup hb); obtain ⟨d0, d1, d2, d3, z0, z1, z2, z3⟩ := tbox hb; clear hb))
    exact bodyPost_ret (v := .tuple #[.agg #[.int .i64 0, .string ⟨#[]⟩, .int .u64 0, .int .i64 0], .int .i64 52]) (by simp [results, Tryz.results105, go_sem, d0, d1, d2, d3, World.cell?_setCell_same']) rfl ⟨by rw [HX.out] <;> rfl, tset HB.out _ _ _ _⟩
  · have HX := Lib.hid (HT.out.trans (if_neg h32))
    have HW := Lib.hid (fun w => p_wordToken_ok (s.extract i U) (by omega) w (hpw.trans (decide_eq_true (by omega))) (i : Int))
    clear HT hpw hl
    go_enter Tryz.func105, Tryz.ntmps105
    go_wp2_with (first
      | (go_at_call 110; (with_reducible refine (HL.out _).mono ?_); rintro e w1 ⟨rfl, rfl⟩)
      | (go_at_call 111; (with_reducible refine (HR.out _).mono ?_); rintro e w1 ⟨rfl, rfl⟩)
      | (go_at_call 130; (with_reducible refine (HW.out _).mono ?_); rintro e w' ⟨rfl, hb⟩; have HB := Lib.hid (tup hb); obtain ⟨d0, d1, d2, d3, z0, z1, z2, z3⟩ := tbox hb; clear hb))
    exact bodyPost_ret (v := .tuple #[.agg #[.int .i64 2, .string (s.extract i U), .int .u64 0, .int .i64 (i : Int)], .int .i64 0]) (by simp [results, Tryz.results105, go_sem, d0, d1, d2, d3, World.cell?_setCell_same']) rfl ⟨by rw [HX.out] <;> rfl, tset HB.out _ _ _ _⟩
set_option maxHeartbeats 1000000 in
set_option maxRecDepth 100000 in
theorem p_tokenAt_number (s : ByteArray) (hs : s.size ≤ 65536) (i : Nat) (hi : i < s.size) (hl : letB (byt s i) = false) (hd : digB (byt s i) = true) (w : World) :
    Calls Tryz.prog 105 #[.string s, .int .i64 (i : Int)] w fun e w' => e = .returned (tokV (tokF s i).kind (tokF s i).text (tokF s i).num (tokF s i).pos (tokF s i).err) ∧ Below w.heap.size w w' := by
  have HT : Hid (tokF s i = if numB (byt (s.extract i (upTo worB (byt s) s.size i))) (upTo worB (byt s) s.size i - i) = false then Nx.fail i 53 else ⟨3, s.extract i (upTo worB (byt s) s.size i), numV (byt (s.extract i (upTo worB (byt s) s.size i))) (upTo worB (byt s) s.size i - i), i, upTo worB (byt s) s.size i, 0⟩) := Lib.hid (by unfold tokF; rw [if_neg (by omega), if_neg (by rw [hl]; decide), if_pos hd])
  have hle := upTo_le worB (byt s) s.size i (by omega)
  have hge := upTo_ge worB (byt s) s.size i
  have HR := Lib.hid (fun w => p_runPart s (by unfold maxLen; omega) i (by omega) w)
  have HL := Lib.hid (fun w => p_begins_is hl w)
  have HD := Lib.hid (fun w => p_isDigit_is hd w)
  have e0 := byt_is hi
  generalize upTo worB (byt s) s.size i = U at HT hle hge HR
  have hsz : (s.extract i U).size = U - i := size_extract5 s i U hle
  rw [← hsz] at HT
  have hi' : (i : Int) < (s.size : Int) := by omega
  have hne : ¬ (i : Int) = (s.size : Int) := by omega
  have hne2 : ((i : Int) == (s.size : Int)) = false := beq_false_of_ne hne
  generalize byt s i = c at e0 HL HD
  cases hb : numB (byt (s.extract i U)) (s.extract i U).size with
  | false =>
    have HX := Lib.hid (HT.out.trans (if_pos hb))
    have HW := Lib.hid (fun w => p_numberToken_no (s.extract i U) (by omega) w hb (i : Int))
    clear HT hb hl hd
    go_enter Tryz.func105, Tryz.ntmps105
    go_wp2_with (first
      | (go_at_call 110; (with_reducible refine (HL.out _).mono ?_); rintro e w1 ⟨rfl, rfl⟩)
      | (go_at_call 131; (with_reducible refine (HD.out _).mono ?_); rintro e w1 ⟨rfl, rfl⟩)
      | (go_at_call 111; (with_reducible refine (HR.out _).mono ?_); rintro e w1 ⟨rfl, rfl⟩)
      | (go_at_call 132; (with_reducible refine (HW.out _).mono ?_); rintro e w' ⟨rfl, hb⟩; have HB := Lib.hid (tup hb); obtain ⟨d0, d1, d2, d3, z0, z1, z2, z3⟩ := tbox hb; clear hb))
    exact bodyPost_ret (v := .tuple #[.agg #[.int .i64 0, .string ⟨#[]⟩, .int .u64 0, .int .i64 0], .int .i64 53]) (by simp [results, Tryz.results105, go_sem, d0, d1, d2, d3, World.cell?_setCell_same']) rfl ⟨by rw [HX.out] <;> rfl, tset HB.out _ _ _ _⟩
  | true =>
    have HX := Lib.hid (HT.out.trans (if_neg (by rw [hb]; decide)))
    have HW := Lib.hid (fun w => p_numberToken_ok (s.extract i U) (by omega) w hb (i : Int))
    clear HT hb hl hd
    generalize numV (byt (s.extract i U)) (s.extract i U).size = V at HX HW
    go_enter Tryz.func105, Tryz.ntmps105
    go_wp2_with (first
      | (go_at_call 110; (with_reducible refine (HL.out _).mono ?_); rintro e w1 ⟨rfl, rfl⟩)
      | (go_at_call 131; (with_reducible refine (HD.out _).mono ?_); rintro e w1 ⟨rfl, rfl⟩)
      | (go_at_call 111; (with_reducible refine (HR.out _).mono ?_); rintro e w1 ⟨rfl, rfl⟩)
      | (go_at_call 132; (with_reducible refine (HW.out _).mono ?_); rintro e w' ⟨rfl, hb⟩; have HB := Lib.hid (tup hb); obtain ⟨d0, d1, d2, d3, z0, z1, z2, z3⟩ := tbox hb; clear hb))
    exact bodyPost_ret (v := .tuple #[.agg #[.int .i64 3, .string (s.extract i U), .int .u64 (V : Int), .int .i64 (i : Int)], .int .i64 0]) (by simp [results, Tryz.results105, go_sem, d0, d1, d2, d3, World.cell?_setCell_same']) rfl ⟨by rw [HX.out] <;> rfl, tset HB.out _ _ _ _⟩
set_option maxHeartbeats 1000000 in
set_option maxRecDepth 100000 in
theorem p_tokenAt_sign (s : ByteArray) (hs : s.size ≤ 65536) (i : Nat) (hi : i < s.size) (hl : letB (byt s i) = false) (hd : digB (byt s i) = false) (w : World) :
    Calls Tryz.prog 105 #[.string s, .int .i64 (i : Int)] w fun e w' => e = .returned (tokV (tokF s i).kind (tokF s i).text (tokF s i).num (tokF s i).pos (tokF s i).err) ∧ Below w.heap.size w w' := by
  have HT : Hid (tokF s i = if sigF (byt s) s.size i = 0 then Nx.fail i 51 else ⟨4, s.extract i (i + sigF (byt s) s.size i), 0, i, i + sigF (byt s) s.size i, 0⟩) := Lib.hid (by unfold tokF; rw [if_neg (by omega), if_neg (by rw [hl]; decide), if_neg (by rw [hd]; decide)])
  have hsg := sig_le (f := byt s) hi
  have hsz := size_extract5 s i s.size (Nat.le_refl _)
  have hsl := fun w => p_signLen (s.extract i s.size) (by omega) (by omega) w
  rw [hsz, sig_shift hi] at hsl
  have HG := Lib.hid hsl
  have HL := Lib.hid (fun w => p_begins_is hl w)
  have HD := Lib.hid (fun w => p_isDigit_is hd w)
  have e0 := byt_is hi
  generalize sigF (byt s) s.size i = G at HT hsg HG
  have hi' : (i : Int) < (s.size : Int) := by omega
  have hne : ¬ (i : Int) = (s.size : Int) := by omega
  have hne2 : ((i : Int) == (s.size : Int)) = false := beq_false_of_ne hne
  have hw : IntKind.i64.wrap ((i : Int) + (G : Int)) = ((i + G : Nat) : Int) := by rw [IntWalk.i64_in _ (by omega)]; omega
  generalize byt s i = c at e0 HL HD
  clear hsl hl hd
  have hsz2 : (s.extract i (i + G)).size = G := by rw [size_extract5 s i (i + G) hsg]; omega
  by_cases hG : G = 0
  · have HX := Lib.hid (HT.out.trans (if_pos hG))
    have HS := Lib.hid (fun w => p_signToken_no (s.extract i (i + G)) w (hsz2.trans hG) (i : Int))
    clear HT hG hsz2
    go_enter Tryz.func105, Tryz.ntmps105
    go_wp2_with (first
      | (go_at_call 110; (with_reducible refine (HL.out _).mono ?_); rintro e w1 ⟨rfl, rfl⟩)
      | (go_at_call 131; (with_reducible refine (HD.out _).mono ?_); rintro e w1 ⟨rfl, rfl⟩)
      | (go_at_call 134; (with_reducible refine (HG.out _).mono ?_); rintro e w1 ⟨rfl, hb1⟩; have HB1 := Lib.hid hb1; clear hb1)
      | (go_at_call 133; (with_reducible refine (HS.out _).mono ?_); rintro e w' ⟨rfl, hb2⟩; have hb := HB1.out.trans (hb2.mono HB1.out.size); have HB := Lib.hid (tup hb); obtain ⟨d0, d1, d2, d3, z0, z1, z2, z3⟩ := tbox hb; clear hb hb2))
    exact bodyPost_ret (v := .tuple #[.agg #[.int .i64 0, .string ⟨#[]⟩, .int .u64 0, .int .i64 0], .int .i64 51]) (by simp [results, Tryz.results105, go_sem, d0, d1, d2, d3, World.cell?_setCell_same']) rfl ⟨by rw [HX.out] <;> rfl, tset HB.out _ _ _ _⟩
  · have HX := Lib.hid (HT.out.trans (if_neg hG))
    have HS := Lib.hid (fun w => p_signToken_ok (s.extract i (i + G)) (by omega) w (by omega) (i : Int))
    clear HT
    go_enter Tryz.func105, Tryz.ntmps105
    go_wp2_with (first
      | (go_at_call 110; (with_reducible refine (HL.out _).mono ?_); rintro e w1 ⟨rfl, rfl⟩)
      | (go_at_call 131; (with_reducible refine (HD.out _).mono ?_); rintro e w1 ⟨rfl, rfl⟩)
      | (go_at_call 134; (with_reducible refine (HG.out _).mono ?_); rintro e w1 ⟨rfl, hb1⟩; have HB1 := Lib.hid hb1; clear hb1)
      | (go_at_call 133; (with_reducible refine (HS.out _).mono ?_); rintro e w' ⟨rfl, hb2⟩; have hb := HB1.out.trans (hb2.mono HB1.out.size); have HB := Lib.hid (tup hb); obtain ⟨d0, d1, d2, d3, z0, z1, z2, z3⟩ := tbox hb; clear hb hb2))
    exact bodyPost_ret (v := .tuple #[.agg #[.int .i64 4, .string (s.extract i (i + G)), .int .u64 0, .int .i64 (i : Int)], .int .i64 0]) (by simp [results, Tryz.results105, go_sem, d0, d1, d2, d3, World.cell?_setCell_same']) rfl ⟨by rw [HX.out] <;> rfl, tset HB.out _ _ _ _⟩
set_option maxRecDepth 100000 in
theorem p_tokenAt (s : ByteArray) (hs : s.size ≤ 65536) (i : Nat) (hi : i ≤ s.size) (w : World) :
    Calls Tryz.prog 105 #[.string s, .int .i64 (i : Int)] w fun e w' => e = .returned (tokV (tokF s i).kind (tokF s i).text (tokF s i).num (tokF s i).pos (tokF s i).err) ∧ Below w.heap.size w w' := by
  by_cases he : i = s.size
  · exact p_tokenAt_end s hs i he w
  cases hl : letB (byt s i) with
  | true => exact p_tokenAt_word s hs i (by omega) hl w
  | false =>
    cases hd : digB (byt s i) with
    | true => exact p_tokenAt_number s hs i (by omega) hl hd w
    | false => exact p_tokenAt_sign s hs i (by omega) hl hd w
end Go.Proofs.YtgeapkjegemkeaaGreatDoor
