/-
  'LexStands': for every text, the law of layer 5 on where tokens stand and that, written again, they are cut into the same returns true, and leaves memory as it was. No condition.
-/
import Derived.Test.YtbcjffjifocaeaaLexCat
namespace Go.Proofs.Ytbcjffjifocaeaa.lexStands
open Go Go.ChangeShapes Go.WideShapes Go.ChangeAt Go.RowKit
set_option linter.unusedSimpArgs false
set_option linter.unusedVariables false

theorem text_eq {s t : ByteArray} (h : s = t) : (s.toList == t.toList) = true := by rw [h]; exact beq_self_eq_true _
set_option maxRecDepth 100000 in
set_option maxHeartbeats 4000000 in
/-- A text with an error. -/
theorem walk_err (s0 : ByteArray) (w : World) (w0 : s0.size ≤ maxLen) (hE : (toksF s0).2.1 ≠ 0) :
    Calls Try.prog 7 #[.string s0] w fun e w' => e = .returned (.bool true) ∧ Below w.heap.size w w' := by
  have hp := stands_err s0 hE
  have hl : lstF s0 = [] := if_neg hE
  have HL := Lib.hid (fun w => lex_List s0 w0 w)
  unfold LstP at HL
  rw [hl] at HL
  have hE2 : ((toksF s0).2.1 != 0) = true := bne_iff_ne.2 hE
  generalize (toksF s0).2.1 = E at HL hE2 hE
  generalize (toksF s0).2.2 = P at HL hp
  have hP1 : (0 : Int) ≤ (P : Int) := by omega
  have hP2 : (P : Int) ≤ (s0.size : Int) := by omega
  unfold maxLen at w0
  go_enter Try.func7, Try.ntmps7
  go_wp2_with (first
    | (go_at_call 8; (with_reducible refine (lives_is _).mono ?_); rintro e wa ⟨rfl, hb⟩; have HS1 := Lib.hid hb; clear hb)
    | (go_at_call 9; (with_reducible refine (HL.out _).mono ?_); rintro e wb ⟨A, cap, rfl, ht, hb⟩; have HS2 := Lib.hid (HS1.out.trans (hb.mono HS1.out.size)); clear ht hb))
  go_ret
  exact ⟨rfl, HS2.out⟩
abbrev tokO (x : Nx) : Obj := .cells #[.int .i64 x.kind, .string x.text, .int .u64 (x.num : Int), .int .i64 (x.pos : Int)] 30
/-- What stands while the law goes on. -/
abbrev St (w W : World) (b o n : Nat) (l : List Nx) : Prop := (∀ i, i < n → TokCells W b (o + i * 4) (l.getD i noTok)) ∧ b < W.heap.size ∧ Below w.heap.size w W
theorem st_below {w W W' : World} {b o n : Nat} {l : List Nx} (h : St w W b o n l) (hb : Below W.heap.size W W') : St w W' b o n l :=
  ⟨fun i hi => (h.1 i hi).below hb h.2.1, Nat.lt_of_lt_of_le h.2.1 hb.size, h.2.2.trans (hb.mono h.2.2.size)⟩
abbrev St2 (w W : World) (b o b' o' n : Nat) (l m : List Nx) : Prop := (∀ i, i < n → TokCells W b' (o' + i * 4) (m.getD i noTok)) ∧ b' < W.heap.size ∧ St w W b o n l
theorem st2_drawn {w W : World} {b o b' o' n : Nat} {l m : List Nx} (h : St2 w W b o b' o' n l m) (q : Nat) : St2 w (W.drewN q) b o b' o' n l m :=
  ⟨h.1, h.2.1, h.2.2.1, h.2.2.2.1, below_drawn h.2.2.2.2 q⟩
set_option maxRecDepth 100000 in
set_option maxHeartbeats 4000000 in
/-- A text without one. -/
theorem walk_ok (s0 : ByteArray) (w : World) (w0 : s0.size ≤ maxLen) (hE : (toksF s0).2.1 = 0) :
    Calls Try.prog 7 #[.string s0] w fun e w' => e = .returned (.bool true) ∧ Below w.heap.size w w' := by
  have hP : (toksF s0).2.2 = 0 := toks_ok (s0.size + 1) 0 hE
  have hs := (toks_facts hE).1
  have HF := Lib.hid (stands hE)
  have HA := Lib.hid (stands_again hE)
  have hend := stands_end hE
  have HL := Lib.hid (fun w => lex_List s0 w0 w)
  unfold LstP at HL
  rw [hE, hP] at HL
  clear hE hP
  have hsm := lst_small s0
  generalize lstF s0 = l at HF HA hend HL hsm
  obtain ⟨hn, hk1, hp1⟩ := hend
  obtain ⟨n, hnn⟩ : ∃ n, n = l.length := ⟨_, rfl⟩
  rw [← hnn] at HF HA HL hsm hn hk1 hp1
  have HN := Lib.hid hnn
  clear hnn
  have hn2 : ¬ (n : Int) = 0 := by omega
  have hn4 : ((n : Int) == 0) = false := beq_false_of_ne hn2
  have hidx : IntKind.i64.wrap ((n : Int) - 1) = ((n - 1 : Nat) : Int) := by rw [IntWalk.i64_in _ (by omega)]; omega
  have hn3 : n - 1 < n := by omega
  go_enter Try.func7, Try.ntmps7
  go_wp2_with (first
    | (go_at_call 8; (with_reducible refine (lives_is _).mono ?_); rintro e wa ⟨rfl, hb⟩; have HS1 := Lib.hid hb; clear hb)
    | (go_at_call 9; (with_reducible refine (HL.out _).mono ?_); rintro e wb ⟨A, cap, rfl, ht, hb⟩; obtain ⟨bA, oA, rfl, hlA, hcA⟩ := ht hn; obtain ⟨e0, e1, e2, e3⟩ := hcA (n - 1) hn3; rw [hk1] at e0; rw [hp1] at e3; have HS2 := Lib.hid (And.intro hcA (HS1.out.trans (hb.mono HS1.out.size))); clear ht hb hcA HS1 HL))
  go_loopw [7, 8, 9] (fun e a v wr => ∃ k : Nat, k ≤ n ∧ v = .int .i64 (k : Int) ∧ e = .int .i64 (endF l k : Int) ∧ a = .string (catP l k) ∧ St w wr bA oA n l) (fun _ _ v _ => n - (intOf v).toNat)
  case atStart => exact ⟨0, by omega, rfl, rfl, rfl, HS2.out.1, hlA, HS2.out.2⟩
  case round =>
    obtain ⟨k, hk, rfl, rfl, rfl, hF⟩ := hrel
    clear e0 e1 e2 e3 HS2 hlA
    have HR := Lib.hid hF
    clear hF
    by_cases hlt : k < n
    · have hlt' : (k : Int) < (n : Int) := by omega
      obtain ⟨c0, c1, c2, c3⟩ := HR.out.1 k hlt
      have hx := HF.out k hlt
      have hE1 : endF l (k + 1) = (l.getD k noTok).pos + (l.getD k noTok).text.size := rfl
      have hC1 : catP l (k + 1) = catP l k ++ (l.getD k noTok).text ++ ⟨#[32]⟩ := rfl
      generalize catP l k = C at hC1 hx
      generalize endF l k = E at hx
      generalize l.getD k noTok = x at c0 c1 c2 c3 hx hE1 hC1
      obtain ⟨kind, text, num, pos, nx, er⟩ := x
      simp only at c0 c1 c2 c3 hx hE1 hC1
      obtain ⟨x1, x2, x3, x4, x5, x6, x7, x8, x9⟩ := hx
      simp only at x1 x2 x3 x4 x5 x6 x7 x8 x9
      have X3 := Lib.hid x3
      have X4 := Lib.hid (And.intro x4 (And.intro x8 x9))
      have HN2 := Lib.hid (fun w => (lex_Number text (Nat.le_trans (Nat.le_trans (Nat.le_add_left _ _) x2) w0) w : Calls Try.prog 14 #[.string text] w fun e w' => e = .returned (.tuple #[.int .u64 (numV (byt text) text.size : Int), .bool (numB (byt text) text.size)]) ∧ w = w'))
      have HW := Lib.hid (fun w => lex_Word text (Nat.le_trans (Nat.le_trans (Nat.le_add_left _ _) x2) w0) w)
      rw [x5] at HN2
      rw [x7] at HW
      have X6 := Lib.hid x6
      have hE := Lib.hid hE1
      have hC := Lib.hid hC1
      have q1 : ¬ pos < E := by omega
      have q2 : ¬ (s0.size : Int) < (pos : Int) + (text.size : Int) := by omega
      have q4 : (pos : Int) ≤ (pos : Int) + (text.size : Int) := by omega
      have q5 : (pos : Int) + (text.size : Int) ≤ (s0.size : Int) := by omega
      have q6 : ((pos : Int) + (text.size : Int)).toNat = pos + text.size := by omega
      have q3 : IntKind.i64.wrap ((pos : Int) + (text.size : Int)) = (pos : Int) + (text.size : Int) := IntWalk.i64_in _ (by omega)
      have s1 : C.size + text.size ≤ 400000 := by omega
      have s2 : (C ++ text).size ≤ 400000 := by rw [size_append5]; exact s1
      clear x3 x4 x5 x6 x7 x8 x9 hE1 hC1
      go_wp2
      clear q2
      have q2 : ¬ (s0.size : Int) < (pos : Int) + (text.size : Int) := Int.not_lt.2 q5
      have q7 : ((s0.extract pos (pos + text.size)).toList == text.toList) = true := text_eq X3.out.symm
      obtain ⟨bl, g1, g2⟩ : ∃ bl, text.toList.isEmpty = bl ∧ ((k : Int) == ((n - 1 : Nat) : Int)) = bl := by
        refine ⟨_, rfl, ?_⟩
        have hx := X4.out.1
        rw [ByteArray.toList_eq]
        by_cases h0 : text.size = 0
        · have h1 := hx.1 h0
          have : text.data.toList = [] := List.length_eq_zero_iff.1 (by rw [← size_list]; exact h0)
          rw [this]
          exact beq_iff_eq.2 (by omega)
        · have h1 : ¬ k + 1 = n := fun h => h0 (hx.2 h)
          have h2 : text.data.toList.isEmpty = false := by
            cases hh : text.data.toList with
            | nil => exact absurd (by rw [size_list, hh]; rfl) h0
            | cons a b => rfl
          rw [h2]
          exact beq_false_of_ne (by omega)
      go_quiet (fail)
      unfold NumP at HN2
      by_cases h3 : kind = 3
      · subst h3
        rw [decide_eq_true rfl, X6.out rfl] at HN2
        rw [decide_eq_false (by decide)] at HW
        go_wp2_with (first
          | (go_at_call 14; (with_reducible refine (HN2.out _).mono ?_); rintro e we ⟨rfl, rfl⟩)
          | (go_at_call 16; (with_reducible refine (HW.out _).mono ?_); rintro e we ⟨rfl, rfl⟩))
        exact ⟨⟨k + 1, by omega, by go_num, by rw [hE.out]; simp, by rw [hC.out], st_below HR.out (below_drawn (lbox wr (tokO ⟨_, text, num, pos, 0, 0⟩)) _)⟩, by simp [intOf]; omega⟩
      have g3 : (kind == 3) = false := beq_false_of_ne h3
      rw [decide_eq_false h3] at HN2
      by_cases h2 : kind = 2
      · subst h2
        rw [decide_eq_true rfl] at HW
        clear h3
        go_wp2_with (first
          | (go_at_call 14; (with_reducible refine (HN2.out _).mono ?_); rintro e we ⟨rfl, rfl⟩)
          | (go_at_call 16; (with_reducible refine (HW.out _).mono ?_); rintro e we ⟨rfl, rfl⟩))
        exact ⟨⟨k + 1, by omega, by go_num, by rw [hE.out]; simp, by rw [hC.out], st_below HR.out (below_drawn (lbox wr (tokO ⟨_, text, num, pos, 0, 0⟩)) _)⟩, by simp [intOf]; omega⟩
      · rw [decide_eq_false h2] at HW
        have g2 : (kind == 2) = false := beq_false_of_ne h2
        go_wp2_with (first
          | (go_at_call 14; (with_reducible refine (HN2.out _).mono ?_); rintro e we ⟨rfl, rfl⟩)
          | (go_at_call 16; (with_reducible refine (HW.out _).mono ?_); rintro e we ⟨rfl, rfl⟩))
        exact ⟨⟨k + 1, by omega, by go_num, by rw [hE.out]; simp, by rw [hC.out], st_below HR.out (below_drawn (lbox wr (tokO ⟨_, text, num, pos, 0, 0⟩)) _)⟩, by simp [intOf]; omega⟩
    · obtain rfl : k = n := by omega
      have hsz : (catP l k).size ≤ 400000 := by
        obtain ⟨m, hm⟩ : ∃ m, k = m + 1 := ⟨k - 1, by omega⟩
        have h1 := HF.out m (by omega)
        have h2 := h1.within
        have h3 := h1.behind
        have h4 := h1.small
        have h5 := h1.low
        rw [hm, catP_size]; omega
      by_cases hA : (catP l k).size ≤ 65536
      · obtain ⟨ha1, ha2, ha3⟩ := HA.out hA
        have hP2 := toks_ok ((catP l k).size + 1) 0 ha1
        have HL2 := Lib.hid (fun w => lex_List (catP l k) (by unfold maxLen; omega) w)
        unfold LstP at HL2
        rw [ha1, show (toksF (catP l k)).2.2 = 0 from hP2, ha2] at HL2
        clear HA HF ha1 ha2 hP2
        have HA3 := Lib.hid ha3
        clear ha3
        have hg : ¬ (65536 : Int) < ((catP l k).size : Int) := by omega
        generalize lstF (catP l k) = m at HL2 HA3
        generalize catP l k = C at HL2 hg hsz hA
        go_wp2_with (first
          | (go_at_call 9; (with_reducible refine (HL2.out _).mono ?_); rintro e wb ⟨A, cap2, rfl, ht, hb⟩; obtain ⟨bB, oB, rfl, hlB, hcB⟩ := ht hn; have HS3 := Lib.hid (And.intro hcB (st_below HR.out hb)); clear ht hb hcB HR HL2))
        go_loopw [17] (fun v wr => ∃ j : Nat, j ≤ k ∧ v = .int .i64 (j : Int) ∧ St2 w wr bA oA bB oB k l m) (fun v _ => k - (intOf v).toNat)
        case atStart => exact ⟨0, by omega, rfl, HS3.out.1, hlB, HS3.out.2⟩
        case round =>
          obtain ⟨j, hj, rfl, hF⟩ := hrel
          clear HS3 hlB
          have HR := Lib.hid hF
          clear hF
          by_cases hlt : j < k
          · have hlt' : (j : Int) < (k : Int) := by omega
            obtain ⟨c0, c1, c2, c3⟩ := HR.out.2.2.1 j hlt
            obtain ⟨d0, d1, d2, d3⟩ := HR.out.1 j hlt
            obtain ⟨f1, f2, f3⟩ := HA3.out j hlt
            rw [f1] at d0
            rw [f2] at d1
            rw [f3] at d2
            clear f1 f2 f3 c3 d3
            generalize (l.getD j noTok).kind = kind at c0 d0
            generalize (l.getD j noTok).text = text at c1 d1
            generalize (l.getD j noTok).num = num at c2 d2
            go_wp2
            go_quiet (fail)
            go_wp2
            exact ⟨⟨j + 1, by omega, by go_num, st2_drawn HR.out _⟩, by simp [intOf]; omega⟩
          · go_wp2
            go_ret
            exact ⟨rfl, HR.out.2.2.2.2⟩
      · have hg : (65536 : Int) < ((catP l k).size : Int) := by omega
        clear HA HF
        generalize catP l k = C at hg hA hsz
        go_wp2
        go_ret
        exact ⟨rfl, HR.out.2.2⟩
theorem walk (s0 : ByteArray) (w : World) (w0 : s0.size ≤ maxLen) :
    Calls Try.prog 7 #[.string s0] w fun e w' => e = .returned (.bool true) ∧ Below w.heap.size w w' := by
  by_cases hE : (toksF s0).2.1 = 0
  · exact walk_ok s0 w w0 hE
  · exact walk_err s0 w w0 hE

/-! ### The row's step and the statement -/
set_option maxRecDepth 100000 in
theorem lifted (os : Os) (started : os.Started) (H : Type) (enc : TypeId × Value → H) :
    ReturnsInHanded {} Try.checked os 7 .any (Rows.lexStandsSpec.pre6 enc Try.prog Try.f7 Rows.lexStandsRow.domain false) (Rows.lexStandsSpec.post enc Try.prog Try.f7 false true false false) := by
  refine returnsInHanded_of_change (C := Try.checked) own started (by kernel_rfl) Try.func7
    (ChangeSpec.witness6 (enc := enc) (C := Try.checked) false ⟨#[], #[.string ⟨#[]⟩], []⟩ 8 (by kernel_rfl) (by kernel_rfl) (by kernel_rfl) (by kernel_rfl)) ?_
  intro W base args ds gs before hval0 hW hcnd _
  have hval : ∀ (j : Nat) t v, Try.f7.params[j]? = some t → args[j]? = some v → Value.okWide Try.prog W .any base t v := hval0
  have hW' := hW
  obtain ⟨p, q, hA0, hV, rfl, hfz, hnd⟩ := hW
  have hA : DataW.TrodAll enc Try.prog W 0 (fun _ => true) true Try.f7.params.toList args.toList ds p := hA0
  rw [Try.params7] at hA hval
  obtain ⟨v0, vs0, d0, ds0, p0, q0, hargs, rfl, rfl, h0, r0⟩ := trodAll_cons hA
  obtain ⟨rfl, rfl, rfl⟩ := trodAll_nil r0
  obtain rfl : args = #[v0] := by cases args; simp_all
  obtain ⟨rfl, rfl⟩ := trodVars_none hV
  obtain ⟨s0, rfl, rfl, rfl, w0⟩ := Go.ChangeMaps.open_string Try.underlying9 (hval 0 9 v0 rfl rfl) h0
  clear hA0 hval0
  refine (walk s0 W w0).mono fun e W' ⟨he, bel⟩ => ?_
  subst he
  exact ⟨_, rfl, _, _, _, [], _, [], hW', trodAll_mk1 (shut_bool Try.underlying4 _), (trodAll_cons_mk (Go.ChangeMaps.shut_string Try.underlying9 w0) trodAll_mk0), rfl, bel.frame _, fun h => by cases h⟩

theorem over : Rows.lexStandsRow.holds Try.pinned (OpenSpec.ofChange Rows.lexStandsSpec) :=
  OpenClaim.holds_of_wide 7 Try.f7 rfl rfl rfl rfl rfl rfl rfl ⟨rfl, rfl, rfl, rfl, rfl⟩ rfl rfl rfl rfl rfl (by kernel_rfl) Try.func7 (by kernel_rfl)
    (of_decide_eq_true (by kernel_rfl)) (by unfold Func.isWrapper; first | (rw [if_pos (by decide +kernel)]; kernel_rfl) | (rw [if_neg (by decide +kernel)]; exact ⟨rfl, rfl⟩))
    (fun os started H enc _ => lifted os started H enc)

/-- The statement. -/
theorem proved : Rows.LexStandsSaid := over
end Go.Proofs.Ytbcjffjifocaeaa.lexStands
