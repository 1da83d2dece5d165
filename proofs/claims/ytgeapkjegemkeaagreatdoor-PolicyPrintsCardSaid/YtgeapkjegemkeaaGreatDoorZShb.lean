/-
  What the document writes of expressions and policies; what the laws read: contracts. Conditions: those that each names.
-/
import Derived.Test.YtgeapkjegemkeaaGreatDoorZSha
import Derived.Test.YtgeapkjegemkeaaGreatDoorZWrb
import Derived.OwnWalk
import Derived.Test.YtgeapkjegemkeaaGreatDoorZDPol
import Derived.Lib.LaidTab
import Derived.LaidMore
import Derived.OpenShut
import Derived.Stop.Joined
import Derived.MakeChecks
import Derived.Stop.LaidErr
namespace Go.Proofs.YtgeapkjegemkeaaGreatDoor
open Go Go.RowKit
set_option linter.unusedSimpArgs false
set_option linter.unusedVariables false

theorem sx_word (o : Int) (ho : o = 1 ∨ o = 2) : SX (.plain o) := by
  intro w A cap hx hT
  have HB := Lib.hid (lbox w (ndO9 o (.slice A 0 cap)))
  clear hx hT
  rcases ho with rfl | rfl
  · rw [show exL (.plain 1) = [116, 114, 117, 101] by rw [show Ex.plain 1 = .mk 1 [] 0 0 0 0 from rfl, exL, if_pos rfl]]
    show Calls Tryz.prog 17 #[.agg #[.int .i64 1, .slice A 0 cap, .int .i64 0, .int .u64 0, .int .i64 0, .int .u64 0]] w _
    go_enter Tryz.func17, Tryz.ntmps17
    go_wp2
    go_ret
    exact ⟨rfl, HB.out⟩
  · rw [show exL (.plain 2) = [102, 97, 108, 115, 101] by rw [show Ex.plain 2 = .mk 2 [] 0 0 0 0 from rfl, exL, if_neg (by decide), if_pos rfl]]
    show Calls Tryz.prog 17 #[.agg #[.int .i64 2, .slice A 0 cap, .int .i64 0, .int .u64 0, .int .i64 0, .int .u64 0]] w _
    go_enter Tryz.func17, Tryz.ntmps17
    go_wp2
    go_ret
    exact ⟨rfl, HB.out⟩
set_option maxHeartbeats 16000000 in
set_option maxRecDepth 100000 in
theorem sx_args4 {l : List Ex} (hg : ∀ e ∈ l, GEx e) (hn : (argsL 4 l).length ≤ 10000000) (ih : ∀ k, k < l.length → SX (l.getD k .zero) ∧ (exL (l.getD k .zero)).length ≤ 10000000) : SX (.node 4 l) := by
  intro w A cap hx hT
  have hlen : l.length ≤ maxLen := hx.1
  unfold maxLen at hlen
  rw [exL_args 4 (by decide)]
  have HX := Lib.hid hx
  have HG := Lib.hid hg
  have HI := Lib.hid ih
  have HS0 := Lib.hid (BoxS.new (ndO9 4 (.slice A l.length cap)) hT)
  have HT := Lib.hid hT
  clear hx hg ih hT
  show Calls Tryz.prog 17 #[.agg #[.int .i64 4, .slice A l.length cap, .int .i64 0, .int .u64 0, .int .i64 0, .int .u64 0]] w _
  go_enter Tryz.func17, Tryz.ntmps17
  go_wp2
  go_loopw [3, 4] (fun a v wr => ∃ k : Nat, k ≤ l.length ∧ a = .string (strL (argsP 4 l k)) ∧ v = .int .i64 (k : Int) ∧ BoxS w wr (ndO9 4 (.slice A l.length cap))) (fun _ v _ => l.length - (intOf v).toNat)
  case atStart => exact ⟨0, Nat.zero_le _, rfl, rfl, HS0.out⟩
  case round =>
    obtain ⟨k, hk, rfl, rfl, hB⟩ := hrel
    obtain ⟨p0, p1, p2, p3, p4, p5⟩ := nd9_cells hB.box
    by_cases hlt : k < l.length
    · have hlt' : (k : Int) < (l.length : Int) := by omega
      have hw : IntKind.i64.wrap ((k : Int) + 1) = ((k + 1 : Nat) : Int) := by rw [IntWalk.i64_in _ (by omega)]; omega
      obtain ⟨tb, ob, hA, htl, A1, cap1, hx1, hc1⟩ := exL_arg (x := .node 4 l) HX.out k hlt
      change ExL w (l.getD k .zero) A1 cap1 at hx1
      change ∀ j u, (exC (l.getD k .zero) A1 cap1)[j]? = some u → w.cell? ⟨tb, ob + k * 6 + j, none⟩ = some u at hc1
      have hgy : GEx (l.getD k .zero) := by
        rw [List.getD_eq_getElem?_getD, List.getElem?_eq_getElem hlt]; exact HG.out _ (List.getElem_mem hlt)
      have hP : argsP 4 l (k + 1) = argsP 4 l k ++ ((if 0 < k then sepL 4 else []) ++ wrapL (brkB 4 (l.getD k .zero).op) (exL (l.getD k .zero))) := rfl
      have hPl := argsP_lt 4 l k hk
      obtain ⟨ih1, hyl⟩ := HI.out k hlt
      have hop := gex_op hgy
      generalize l.getD k .zero = y at hx1 hc1 hgy hP ih1 hyl hop
      have e0 := (hB.below.cell (p := ⟨tb, ob + k * 6, none⟩) htl).trans (hc1 0 _ rfl)
      have e1 := (hB.below.cell (p := ⟨tb, ob + k * 6 + 1, none⟩) htl).trans (hc1 1 _ rfl)
      have e2 := (hB.below.cell (p := ⟨tb, ob + k * 6 + 2, none⟩) htl).trans (hc1 2 _ rfl)
      have e3 := (hB.below.cell (p := ⟨tb, ob + k * 6 + 3, none⟩) htl).trans (hc1 3 _ rfl)
      have e4 := (hB.below.cell (p := ⟨tb, ob + k * 6 + 4, none⟩) htl).trans (hc1 4 _ rfl)
      have e5 := (hB.below.cell (p := ⟨tb, ob + k * 6 + 5, none⟩) htl).trans (hc1 5 _ rfl)
      have HB1 := Lib.hid (hB.up (lbox wr (exCells y A1 cap1)))
      obtain ⟨r0, -, -, -, -, -⟩ := nd9_cells HB1.out.box
      have HQ := Lib.hid (fun q => ref6_inner ih1 hyl q (wr.alloc (exCells y A1 cap1)) A1 cap1 (hx1.below HB1.out.below) HB1.out.tbl)
      obtain ⟨t, ht⟩ : ∃ t, strL (argsP 4 l k) = t := ⟨_, rfl⟩
      have hts : t.size ≤ 10000000 := by rw [← ht, strL_size]; omega
      obtain ⟨u, hu⟩ : ∃ u, strL (wrapL (brkB 4 y.op) (exL y)) = u := ⟨_, rfl⟩
      have hus : u.size ≤ 10000002 := by rw [← hu, strL_size]; have := wrap_len (brkB 4 y.op) (exL y); omega
      rw [ht]
      have HE := Lib.hid (And.intro hP (And.intro ht hu))
      have z0 : t.size + u.size ≤ 20000002 := by omega
      have z1 : t.size + 5 ≤ 10000005 := by omega
      have z2 : (t ++ (⟨#[32, 97, 110, 100, 32]⟩ : ByteArray)).size + u.size ≤ 20000010 := by rw [size_app]; show t.size + 5 + _ ≤ _; omega
      have z3 : t.size + 5 + u.size ≤ 20000010 := by omega
      have hcase : y.op = 5 ∨ y.op = 4 ∨ (y.op ≠ 5 ∧ y.op ≠ 4) := by omega
      clear hx1 hc1 hgy hP hPl ih1 hyl hop ht hu hB
      subst hA
      rcases hcase with h5 | h4 | ⟨h5, h4⟩
      · have hq : brkB 4 y.op = true := by rw [h5]; decide
        have H2 := Lib.hid (HQ.out true)
        have H3 : Hid (Calls Tryz.prog 45 #[exV y A1 cap1, .bool true] (wr.alloc (exCells y A1 cap1)) fun e w' => e = .returned (.string u) ∧ Below (wr.alloc (exCells y A1 cap1)).heap.size (wr.alloc (exCells y A1 cap1)) w') := Lib.hid (by rw [← HE.out.2.2, hq]; exact H2.out)
        have q5 : (y.op == 5) = true := beq_iff_eq.2 h5
        clear hq H2 HQ h5
        by_cases hk0 : 0 < k
        · have hk0' : (0 : Int) < (k : Int) := by omega
          have HF := Lib.hid (show strL (argsP 4 l (k + 1)) = t ++ (⟨#[32, 97, 110, 100, 32]⟩ : ByteArray) ++ u by rw [HE.out.1, if_pos hk0, ← HE.out.2.1, ← HE.out.2.2, show (⟨#[32, 97, 110, 100, 32]⟩ : ByteArray) = strL (sepL 4) from rfl, strL_append, strL_append, List.append_assoc])
          clear hk0
          go_wp2_with (go_at_call 45; (with_reducible refine H3.out.mono ?_); rintro e w2 ⟨rfl, hb⟩; have HB2 := Lib.hid (HB1.out.up hb); clear hb)
          exact ⟨⟨k + 1, by omega, by rw [HF.out], by go_num, HB2.out⟩, by simp [intOf]; omega⟩
        · have hk0' : ¬ (0 : Int) < (k : Int) := by omega
          have HF := Lib.hid (show strL (argsP 4 l (k + 1)) = t ++ u by rw [HE.out.1, if_neg hk0, ← HE.out.2.1, ← HE.out.2.2, strL_append, List.nil_append])
          clear hk0
          go_wp2_with (go_at_call 45; (with_reducible refine H3.out.mono ?_); rintro e w2 ⟨rfl, hb⟩; have HB2 := Lib.hid (HB1.out.up hb); clear hb)
          exact ⟨⟨k + 1, by omega, by rw [HF.out], by go_num, HB2.out⟩, by simp [intOf]; omega⟩
      · have hq : brkB 4 y.op = true := by rw [h4]; decide
        have H2 := Lib.hid (HQ.out true)
        have H3 : Hid (Calls Tryz.prog 45 #[exV y A1 cap1, .bool true] (wr.alloc (exCells y A1 cap1)) fun e w' => e = .returned (.string u) ∧ Below (wr.alloc (exCells y A1 cap1)).heap.size (wr.alloc (exCells y A1 cap1)) w') := Lib.hid (by rw [← HE.out.2.2, hq]; exact H2.out)
        have q5 : (y.op == 5) = false := beq_false_of_ne (by omega)
        have q4 : (y.op == 4) = true := beq_iff_eq.2 h4
        clear hq H2 HQ h4
        by_cases hk0 : 0 < k
        · have hk0' : (0 : Int) < (k : Int) := by omega
          have HF := Lib.hid (show strL (argsP 4 l (k + 1)) = t ++ (⟨#[32, 97, 110, 100, 32]⟩ : ByteArray) ++ u by rw [HE.out.1, if_pos hk0, ← HE.out.2.1, ← HE.out.2.2, show (⟨#[32, 97, 110, 100, 32]⟩ : ByteArray) = strL (sepL 4) from rfl, strL_append, strL_append, List.append_assoc])
          clear hk0
          go_wp2_with (go_at_call 45; (with_reducible refine H3.out.mono ?_); rintro e w2 ⟨rfl, hb⟩; have HB2 := Lib.hid (HB1.out.up hb); clear hb)
          exact ⟨⟨k + 1, by omega, by rw [HF.out], by go_num, HB2.out⟩, by simp [intOf]; omega⟩
        · have hk0' : ¬ (0 : Int) < (k : Int) := by omega
          have HF := Lib.hid (show strL (argsP 4 l (k + 1)) = t ++ u by rw [HE.out.1, if_neg hk0, ← HE.out.2.1, ← HE.out.2.2, strL_append, List.nil_append])
          clear hk0
          go_wp2_with (go_at_call 45; (with_reducible refine H3.out.mono ?_); rintro e w2 ⟨rfl, hb⟩; have HB2 := Lib.hid (HB1.out.up hb); clear hb)
          exact ⟨⟨k + 1, by omega, by rw [HF.out], by go_num, HB2.out⟩, by simp [intOf]; omega⟩
      · have hq : brkB 4 y.op = false := (if_pos (by decide)).trans (decide_eq_false (fun g => g.elim h4 h5))
        have H2 := Lib.hid (HQ.out false)
        have H3 : Hid (Calls Tryz.prog 45 #[exV y A1 cap1, .bool false] (wr.alloc (exCells y A1 cap1)) fun e w' => e = .returned (.string u) ∧ Below (wr.alloc (exCells y A1 cap1)).heap.size (wr.alloc (exCells y A1 cap1)) w') := Lib.hid (by rw [← HE.out.2.2, hq]; exact H2.out)
        have q5 : (y.op == 5) = false := beq_false_of_ne h5
        have q4 : (y.op == 4) = false := beq_false_of_ne h4
        clear hq H2 HQ h4 h5
        by_cases hk0 : 0 < k
        · have hk0' : (0 : Int) < (k : Int) := by omega
          have HF := Lib.hid (show strL (argsP 4 l (k + 1)) = t ++ (⟨#[32, 97, 110, 100, 32]⟩ : ByteArray) ++ u by rw [HE.out.1, if_pos hk0, ← HE.out.2.1, ← HE.out.2.2, show (⟨#[32, 97, 110, 100, 32]⟩ : ByteArray) = strL (sepL 4) from rfl, strL_append, strL_append, List.append_assoc])
          clear hk0
          go_wp2_with (go_at_call 45; (with_reducible refine H3.out.mono ?_); rintro e w2 ⟨rfl, hb⟩; have HB2 := Lib.hid (HB1.out.up hb); clear hb)
          exact ⟨⟨k + 1, by omega, by rw [HF.out], by go_num, HB2.out⟩, by simp [intOf]; omega⟩
        · have hk0' : ¬ (0 : Int) < (k : Int) := by omega
          have HF := Lib.hid (show strL (argsP 4 l (k + 1)) = t ++ u by rw [HE.out.1, if_neg hk0, ← HE.out.2.1, ← HE.out.2.2, strL_append, List.nil_append])
          clear hk0
          go_wp2_with (go_at_call 45; (with_reducible refine H3.out.mono ?_); rintro e w2 ⟨rfl, hb⟩; have HB2 := Lib.hid (HB1.out.up hb); clear hb)
          exact ⟨⟨k + 1, by omega, by rw [HF.out], by go_num, HB2.out⟩, by simp [intOf]; omega⟩
    · have hlt' : ¬ (k : Int) < (l.length : Int) := by omega
      have hkn : k = l.length := by omega
      have HE := Lib.hid (show strL (argsP 4 l k) = strL (argsL 4 l) by rw [hkn, argsP_all])
      rw [HE.out]
      have HBB := Lib.hid hB.below
      clear hB hkn
      go_wp2
      go_ret
      exact ⟨rfl, HBB.out⟩
set_option maxHeartbeats 16000000 in
set_option maxRecDepth 100000 in
theorem sx_args5 {l : List Ex} (hg : ∀ e ∈ l, GEx e) (hn : (argsL 5 l).length ≤ 10000000) (ih : ∀ k, k < l.length → SX (l.getD k .zero) ∧ (exL (l.getD k .zero)).length ≤ 10000000) : SX (.node 5 l) := by
  intro w A cap hx hT
  have hlen : l.length ≤ maxLen := hx.1
  unfold maxLen at hlen
  rw [exL_args 5 (by decide)]
  have HX := Lib.hid hx
  have HG := Lib.hid hg
  have HI := Lib.hid ih
  have HS0 := Lib.hid (BoxS.new (ndO9 5 (.slice A l.length cap)) hT)
  have HT := Lib.hid hT
  clear hx hg ih hT
  show Calls Tryz.prog 17 #[.agg #[.int .i64 5, .slice A l.length cap, .int .i64 0, .int .u64 0, .int .i64 0, .int .u64 0]] w _
  go_enter Tryz.func17, Tryz.ntmps17
  go_wp2
  go_loopw [3, 4] (fun a v wr => ∃ k : Nat, k ≤ l.length ∧ a = .string (strL (argsP 5 l k)) ∧ v = .int .i64 (k : Int) ∧ BoxS w wr (ndO9 5 (.slice A l.length cap))) (fun _ v _ => l.length - (intOf v).toNat)
  case atStart => exact ⟨0, Nat.zero_le _, rfl, rfl, HS0.out⟩
  case round =>
    obtain ⟨k, hk, rfl, rfl, hB⟩ := hrel
    obtain ⟨p0, p1, p2, p3, p4, p5⟩ := nd9_cells hB.box
    by_cases hlt : k < l.length
    · have hlt' : (k : Int) < (l.length : Int) := by omega
      have hw : IntKind.i64.wrap ((k : Int) + 1) = ((k + 1 : Nat) : Int) := by rw [IntWalk.i64_in _ (by omega)]; omega
      obtain ⟨tb, ob, hA, htl, A1, cap1, hx1, hc1⟩ := exL_arg (x := .node 5 l) HX.out k hlt
      change ExL w (l.getD k .zero) A1 cap1 at hx1
      change ∀ j u, (exC (l.getD k .zero) A1 cap1)[j]? = some u → w.cell? ⟨tb, ob + k * 6 + j, none⟩ = some u at hc1
      have hgy : GEx (l.getD k .zero) := by
        rw [List.getD_eq_getElem?_getD, List.getElem?_eq_getElem hlt]; exact HG.out _ (List.getElem_mem hlt)
      have hP : argsP 5 l (k + 1) = argsP 5 l k ++ ((if 0 < k then sepL 5 else []) ++ wrapL (brkB 5 (l.getD k .zero).op) (exL (l.getD k .zero))) := rfl
      have hPl := argsP_lt 5 l k hk
      obtain ⟨ih1, hyl⟩ := HI.out k hlt
      have hop := gex_op hgy
      generalize l.getD k .zero = y at hx1 hc1 hgy hP ih1 hyl hop
      have e0 := (hB.below.cell (p := ⟨tb, ob + k * 6, none⟩) htl).trans (hc1 0 _ rfl)
      have e1 := (hB.below.cell (p := ⟨tb, ob + k * 6 + 1, none⟩) htl).trans (hc1 1 _ rfl)
      have e2 := (hB.below.cell (p := ⟨tb, ob + k * 6 + 2, none⟩) htl).trans (hc1 2 _ rfl)
      have e3 := (hB.below.cell (p := ⟨tb, ob + k * 6 + 3, none⟩) htl).trans (hc1 3 _ rfl)
      have e4 := (hB.below.cell (p := ⟨tb, ob + k * 6 + 4, none⟩) htl).trans (hc1 4 _ rfl)
      have e5 := (hB.below.cell (p := ⟨tb, ob + k * 6 + 5, none⟩) htl).trans (hc1 5 _ rfl)
      have HB1 := Lib.hid (hB.up (lbox wr (exCells y A1 cap1)))
      obtain ⟨r0, -, -, -, -, -⟩ := nd9_cells HB1.out.box
      have HQ := Lib.hid (fun q => ref6_inner ih1 hyl q (wr.alloc (exCells y A1 cap1)) A1 cap1 (hx1.below HB1.out.below) HB1.out.tbl)
      obtain ⟨t, ht⟩ : ∃ t, strL (argsP 5 l k) = t := ⟨_, rfl⟩
      have hts : t.size ≤ 10000000 := by rw [← ht, strL_size]; omega
      obtain ⟨u, hu⟩ : ∃ u, strL (wrapL (brkB 5 y.op) (exL y)) = u := ⟨_, rfl⟩
      have hus : u.size ≤ 10000002 := by rw [← hu, strL_size]; have := wrap_len (brkB 5 y.op) (exL y); omega
      rw [ht]
      have HE := Lib.hid (And.intro hP (And.intro ht hu))
      have z0 : t.size + u.size ≤ 20000002 := by omega
      have z1 : t.size + 4 ≤ 10000005 := by omega
      have z2 : (t ++ (⟨#[32, 111, 114, 32]⟩ : ByteArray)).size + u.size ≤ 20000010 := by rw [size_app]; show t.size + 4 + _ ≤ _; omega
      have z3 : t.size + 4 + u.size ≤ 20000010 := by omega
      have hcase : y.op = 5 ∨ y.op = 4 ∨ (y.op ≠ 5 ∧ y.op ≠ 4) := by omega
      clear hx1 hc1 hgy hP hPl ih1 hyl hop ht hu hB
      subst hA
      rcases hcase with h5 | h4 | ⟨h5, h4⟩
      · have hq : brkB 5 y.op = true := by rw [h5]; decide
        have H2 := Lib.hid (HQ.out true)
        have H3 : Hid (Calls Tryz.prog 45 #[exV y A1 cap1, .bool true] (wr.alloc (exCells y A1 cap1)) fun e w' => e = .returned (.string u) ∧ Below (wr.alloc (exCells y A1 cap1)).heap.size (wr.alloc (exCells y A1 cap1)) w') := Lib.hid (by rw [← HE.out.2.2, hq]; exact H2.out)
        have q5 : (y.op == 5) = true := beq_iff_eq.2 h5
        clear hq H2 HQ h5
        by_cases hk0 : 0 < k
        · have hk0' : (0 : Int) < (k : Int) := by omega
          have HF := Lib.hid (show strL (argsP 5 l (k + 1)) = t ++ (⟨#[32, 111, 114, 32]⟩ : ByteArray) ++ u by rw [HE.out.1, if_pos hk0, ← HE.out.2.1, ← HE.out.2.2, show (⟨#[32, 111, 114, 32]⟩ : ByteArray) = strL (sepL 5) from rfl, strL_append, strL_append, List.append_assoc])
          clear hk0
          go_wp2_with (go_at_call 45; (with_reducible refine H3.out.mono ?_); rintro e w2 ⟨rfl, hb⟩; have HB2 := Lib.hid (HB1.out.up hb); clear hb)
          exact ⟨⟨k + 1, by omega, by rw [HF.out], by go_num, HB2.out⟩, by simp [intOf]; omega⟩
        · have hk0' : ¬ (0 : Int) < (k : Int) := by omega
          have HF := Lib.hid (show strL (argsP 5 l (k + 1)) = t ++ u by rw [HE.out.1, if_neg hk0, ← HE.out.2.1, ← HE.out.2.2, strL_append, List.nil_append])
          clear hk0
          go_wp2_with (go_at_call 45; (with_reducible refine H3.out.mono ?_); rintro e w2 ⟨rfl, hb⟩; have HB2 := Lib.hid (HB1.out.up hb); clear hb)
          exact ⟨⟨k + 1, by omega, by rw [HF.out], by go_num, HB2.out⟩, by simp [intOf]; omega⟩
      · have hq : brkB 5 y.op = false := by rw [h4]; decide
        have H2 := Lib.hid (HQ.out false)
        have H3 : Hid (Calls Tryz.prog 45 #[exV y A1 cap1, .bool false] (wr.alloc (exCells y A1 cap1)) fun e w' => e = .returned (.string u) ∧ Below (wr.alloc (exCells y A1 cap1)).heap.size (wr.alloc (exCells y A1 cap1)) w') := Lib.hid (by rw [← HE.out.2.2, hq]; exact H2.out)
        have q5 : (y.op == 5) = false := beq_false_of_ne (by omega)
        have q4 : (y.op == 4) = true := beq_iff_eq.2 h4
        clear hq H2 HQ h4
        by_cases hk0 : 0 < k
        · have hk0' : (0 : Int) < (k : Int) := by omega
          have HF := Lib.hid (show strL (argsP 5 l (k + 1)) = t ++ (⟨#[32, 111, 114, 32]⟩ : ByteArray) ++ u by rw [HE.out.1, if_pos hk0, ← HE.out.2.1, ← HE.out.2.2, show (⟨#[32, 111, 114, 32]⟩ : ByteArray) = strL (sepL 5) from rfl, strL_append, strL_append, List.append_assoc])
          clear hk0
          go_wp2_with (go_at_call 45; (with_reducible refine H3.out.mono ?_); rintro e w2 ⟨rfl, hb⟩; have HB2 := Lib.hid (HB1.out.up hb); clear hb)
          exact ⟨⟨k + 1, by omega, by rw [HF.out], by go_num, HB2.out⟩, by simp [intOf]; omega⟩
        · have hk0' : ¬ (0 : Int) < (k : Int) := by omega
          have HF := Lib.hid (show strL (argsP 5 l (k + 1)) = t ++ u by rw [HE.out.1, if_neg hk0, ← HE.out.2.1, ← HE.out.2.2, strL_append, List.nil_append])
          clear hk0
          go_wp2_with (go_at_call 45; (with_reducible refine H3.out.mono ?_); rintro e w2 ⟨rfl, hb⟩; have HB2 := Lib.hid (HB1.out.up hb); clear hb)
          exact ⟨⟨k + 1, by omega, by rw [HF.out], by go_num, HB2.out⟩, by simp [intOf]; omega⟩
      · have hq : brkB 5 y.op = false := (if_neg (by decide)).trans ((if_pos rfl).trans (decide_eq_false h5))
        have H2 := Lib.hid (HQ.out false)
        have H3 : Hid (Calls Tryz.prog 45 #[exV y A1 cap1, .bool false] (wr.alloc (exCells y A1 cap1)) fun e w' => e = .returned (.string u) ∧ Below (wr.alloc (exCells y A1 cap1)).heap.size (wr.alloc (exCells y A1 cap1)) w') := Lib.hid (by rw [← HE.out.2.2, hq]; exact H2.out)
        have q5 : (y.op == 5) = false := beq_false_of_ne h5
        have q4 : (y.op == 4) = false := beq_false_of_ne h4
        clear hq H2 HQ h4 h5
        by_cases hk0 : 0 < k
        · have hk0' : (0 : Int) < (k : Int) := by omega
          have HF := Lib.hid (show strL (argsP 5 l (k + 1)) = t ++ (⟨#[32, 111, 114, 32]⟩ : ByteArray) ++ u by rw [HE.out.1, if_pos hk0, ← HE.out.2.1, ← HE.out.2.2, show (⟨#[32, 111, 114, 32]⟩ : ByteArray) = strL (sepL 5) from rfl, strL_append, strL_append, List.append_assoc])
          clear hk0
          go_wp2_with (go_at_call 45; (with_reducible refine H3.out.mono ?_); rintro e w2 ⟨rfl, hb⟩; have HB2 := Lib.hid (HB1.out.up hb); clear hb)
          exact ⟨⟨k + 1, by omega, by rw [HF.out], by go_num, HB2.out⟩, by simp [intOf]; omega⟩
        · have hk0' : ¬ (0 : Int) < (k : Int) := by omega
          have HF := Lib.hid (show strL (argsP 5 l (k + 1)) = t ++ u by rw [HE.out.1, if_neg hk0, ← HE.out.2.1, ← HE.out.2.2, strL_append, List.nil_append])
          clear hk0
          go_wp2_with (go_at_call 45; (with_reducible refine H3.out.mono ?_); rintro e w2 ⟨rfl, hb⟩; have HB2 := Lib.hid (HB1.out.up hb); clear hb)
          exact ⟨⟨k + 1, by omega, by rw [HF.out], by go_num, HB2.out⟩, by simp [intOf]; omega⟩
    · have hlt' : ¬ (k : Int) < (l.length : Int) := by omega
      have hkn : k = l.length := by omega
      have HE := Lib.hid (show strL (argsP 5 l k) = strL (argsL 5 l) by rw [hkn, argsP_all])
      rw [HE.out]
      have HBB := Lib.hid hB.below
      clear hB hkn
      go_wp2
      go_ret
      exact ⟨rfl, HBB.out⟩
theorem wt_ex {x : Ex} (h : GEx x) (hw : wtE x ≤ 140000) : (exL x).length ≤ 10000000 := by have := ex_len h; omega
theorem sx_all {x : Ex} (h : GEx x) : wtE x ≤ 140000 → SX x := by
  induction h with
  | yes => exact fun _ => sx_word 1 (.inl rfl)
  | no => exact fun _ => sx_word 2 (.inr rfl)
  | inv h ih =>
    intro hw
    rw [wt_node, wt_one] at hw
    exact sx_not h (ih (by omega)) (wt_ex h (by omega))
  | @all l h2 ha ih =>
    intro hw
    have hl := wt_ex (.all h2 ha) hw
    rw [exL_args 4 (by decide)] at hl
    rw [wt_node] at hw
    refine sx_args4 ha hl (fun k hk => ?_)
    have e : l.getD k .zero = l[k] := by rw [List.getD_eq_getElem?_getD, List.getElem?_eq_getElem hk]; rfl
    have hm := List.getElem_mem hk
    have := wt_in hm
    rw [e]
    exact ⟨ih _ hm (by omega), wt_ex (ha _ hm) (by omega)⟩
  | @any l h2 ha ih =>
    intro hw
    have hl := wt_ex (.any h2 ha) hw
    rw [exL_args 5 (by decide)] at hl
    rw [wt_node] at hw
    refine sx_args5 ha hl (fun k hk => ?_)
    have e : l.getD k .zero = l[k] := by rw [List.getD_eq_getElem?_getD, List.getElem?_eq_getElem hk]; rfl
    have hm := List.getElem_mem hk
    have := wt_in hm
    rw [e]
    exact ⟨ih _ hm (by omega), wt_ex (ha _ hm) (by omega)⟩
  | test hf hr hm hv => exact fun _ => sx_test _ _ _ _ hf hr hm hv
/-- The document's depth, a loop's part. -/
def deepsB (o : Int) : List Ex → Nat
  | [] => 0
  | e :: l => max ((if brkB o e.op = true then 1 else 0) + deepN e) (deepsB o l)
theorem deepsB_snoc (o : Int) : ∀ (l : List Ex) (e : Ex), deepsB o (l ++ [e]) = max (deepsB o l) ((if brkB o e.op = true then 1 else 0) + deepN e)
  | [], e => by simp only [List.nil_append, deepsB]; omega
  | a :: l, e => by rw [List.cons_append, deepsB, deepsB, deepsB_snoc o l e]; omega
theorem deepsB_is {o : Int} (ho : o ≠ 3) : ∀ l : List Ex, deepsN o l = deepsB o l
  | [] => by rw [deepsN, deepsB]
  | a :: l => by rw [deepsN, deepsB, deepsB_is ho l, if_neg ho]; omega
theorem deepsB_le (o : Int) : ∀ l : List Ex, deepsB o l ≤ deepsN o l
  | [] => by rw [deepsN, deepsB]; omega
  | a :: l => by have := deepsB_le o l; rw [deepsN, deepsB]; omega
def RX (x : Ex) : Prop := ∀ (V : World) (A : Option Addr) (cap : Nat), ExL V x A cap → Calls Tryz.prog 18 #[exV x A cap] V fun e w' => e = .returned (.int .i64 (deepN x : Int)) ∧ Below V.heap.size V w'
theorem rx_leaf (o : Int) (ho : o ≠ 3) (f : Int) (m : Nat) (r : Int) (v : Nat) : RX (.mk o [] f m r v) := by
  intro w A cap hx
  have HB := Lib.hid (lbox w (exO9 o (.slice A 0 cap) f m r v))
  have q3 : (o == 3) = false := beq_false_of_ne ho
  clear hx ho
  rw [show deepN (.mk o [] f m r v) = 0 by rw [deepN, deepsN]]
  show Calls Tryz.prog 18 #[.agg #[.int .i64 o, .slice A 0 cap, .int .i64 f, .int .u64 (m : Int), .int .i64 r, .int .u64 (v : Int)]] w _
  go_enter Tryz.func18, Tryz.ntmps18
  go_wp2
  go_loopw [3, 4] (fun a v' wr => a = .int .i64 0 ∧ v' = .int .i64 0 ∧ wr = w.alloc (exO9 o (.slice A 0 cap) f m r v)) (fun _ _ _ => 0)
  case atStart => exact ⟨rfl, rfl, rfl⟩
  case round =>
    obtain ⟨rfl, rfl, rfl⟩ := hrel
    go_wp2
    go_ret
    exact ⟨rfl, HB.out⟩
set_option maxHeartbeats 16000000 in
set_option maxRecDepth 100000 in
theorem rx_on3 {l : List Ex} (hg : ∀ e ∈ l, GEx e) (hw : wtL l ≤ 140000) (ih : ∀ k, k < l.length → RX (l.getD k .zero)) (w : World) (A : Option Addr) (cap : Nat) (hx : ExL w (.node 3 l) A cap) :
    Calls Tryz.prog 18 #[exV (.node 3 l) A cap] w fun e w' => e = .returned (.int .i64 ((deepsB 3 l + 1 : Nat) : Int)) ∧ Below w.heap.size w w' := by
  have hlen : l.length ≤ maxLen := hx.1
  unfold maxLen at hlen
  have HX := Lib.hid hx
  have HG := Lib.hid hg
  have HI := Lib.hid ih
  have HWt := Lib.hid hw
  have HD := Lib.hid (fun (e : Ex) => deep_le _ e (Nat.lt_succ_self _))
  have hall : deepsB 3 l ≤ 280000 := by have h1 := deepsB_le 3 l; have h2 := deeps_le 3 l (fun e _ => HD.out e); omega
  have HS0 : Hid (Below w.heap.size w (w.alloc (ndO9 3 (.slice A l.length cap))) ∧ (w.alloc (ndO9 3 (.slice A l.length cap))).heap[w.heap.size]? = some (ndO9 3 (.slice A l.length cap))) := Lib.hid ⟨lbox w _, World.alloc_heap_new w _⟩
  clear hx hg ih hw
  show Calls Tryz.prog 18 #[.agg #[.int .i64 3, .slice A l.length cap, .int .i64 0, .int .u64 0, .int .i64 0, .int .u64 0]] w _
  go_enter Tryz.func18, Tryz.ntmps18
  go_wp2
  go_loopw [3, 4] (fun a v' wr => ∃ (k n : Nat), k ≤ l.length ∧ a = .int .i64 (n : Int) ∧ v' = .int .i64 (k : Int) ∧ n = deepsB 3 (l.take k) ∧ Below w.heap.size w wr ∧ wr.heap[w.heap.size]? = some (ndO9 3 (.slice A l.length cap))) (fun _ v' _ => l.length - (intOf v').toNat)
  case atStart => exact ⟨0, 0, Nat.zero_le _, rfl, rfl, by rw [List.take_zero, deepsB], HS0.out.1, HS0.out.2⟩
  case round =>
    obtain ⟨k, n, hk, rfl, rfl, hn, hb, hbx⟩ := hrel
    obtain ⟨p0, p1, p2, p3, p4, p5⟩ := nd9_cells hbx
    by_cases hlt : k < l.length
    · have hlt' : (k : Int) < (l.length : Int) := by omega
      have hw1 : IntKind.i64.wrap ((k : Int) + 1) = ((k + 1 : Nat) : Int) := by rw [IntWalk.i64_in _ (by omega)]; omega
      obtain ⟨tb, ob, hA, htl, A1, cap1, hx1, hc1⟩ := exL_arg (x := .node 3 l) HX.out k hlt
      change ExL w (l.getD k .zero) A1 cap1 at hx1
      change ∀ j u, (exC (l.getD k .zero) A1 cap1)[j]? = some u → w.cell? ⟨tb, ob + k * 6 + j, none⟩ = some u at hc1
      have hmem : l.getD k .zero ∈ l := by
        rw [List.getD_eq_getElem?_getD, List.getElem?_eq_getElem hlt]; exact List.getElem_mem hlt
      have hwy := wt_in hmem
      have hdy := HD.out (l.getD k .zero)
      have hT := deepsB_snoc 3 (l.take k) (l.getD k .zero)
      rw [← take_snoc l k hlt, ← hn] at hT
      have ih1 := HI.out k hlt
      have hop := gex_op (HG.out _ hmem)
      generalize l.getD k .zero = y at hx1 hc1 hwy hdy hT ih1 hmem hop
      have hwl := HWt.out
      have e0 := (hb.cell (p := ⟨tb, ob + k * 6, none⟩) htl).trans (hc1 0 _ rfl)
      have e1 := (hb.cell (p := ⟨tb, ob + k * 6 + 1, none⟩) htl).trans (hc1 1 _ rfl)
      have e2 := (hb.cell (p := ⟨tb, ob + k * 6 + 2, none⟩) htl).trans (hc1 2 _ rfl)
      have e3 := (hb.cell (p := ⟨tb, ob + k * 6 + 3, none⟩) htl).trans (hc1 3 _ rfl)
      have e4 := (hb.cell (p := ⟨tb, ob + k * 6 + 4, none⟩) htl).trans (hc1 4 _ rfl)
      have e5 := (hb.cell (p := ⟨tb, ob + k * 6 + 5, none⟩) htl).trans (hc1 5 _ rfl)
      have hB1 : Below w.heap.size w (wr.alloc (exCells y A1 cap1)) := hb.trans ((lbox wr _).mono hb.size)
      have HIY := Lib.hid (ih1 (wr.alloc (exCells y A1 cap1)) A1 cap1 (hx1.below hB1))
      have HB1 := Lib.hid (And.intro hB1 (And.intro (kept_alloc hbx (exCells y A1 cap1)) (World.alloc_heap_new wr (exCells y A1 cap1))))
      obtain ⟨dn, hdn⟩ : ∃ dn, deepN y = dn := ⟨_, rfl⟩
      change Hid (Calls Tryz.prog 18 #[exV y A1 cap1] (wr.alloc (exCells y A1 cap1)) fun e w' => e = .returned (.int .i64 (deepN y : Int)) ∧ Below (wr.alloc (exCells y A1 cap1)).heap.size (wr.alloc (exCells y A1 cap1)) w') at HIY
      rw [hdn] at HIY hT hdy
      have hs1 : IntKind.i64.wrap ((dn : Int) + 1) = ((dn + 1 : Nat) : Int) := by rw [IntWalk.i64_in _ (by omega)]; omega
      have HT := Lib.hid hT
      have hcase : y.op = 5 ∨ y.op = 4 ∨ (y.op ≠ 5 ∧ y.op ≠ 4) := by omega
      clear hx1 hc1 ih1 hwy hdy hT hn hdn hmem hop hB1 hb hbx
      subst hA
      rcases hcase with h5 | h4 | ⟨h5, h4⟩
      · have hq : brkB 3 y.op = true := by rw [h5]; decide
        have HT2 := Lib.hid (HT.out)
        have q5 : (y.op == 5) = true := beq_iff_eq.2 h5
        have HQ := Lib.hid hq
        clear hq h5
        go_wp2_with (go_at_call 18; (with_reducible refine HIY.out.mono ?_); rintro e w2 ⟨rfl, hb⟩; have HB2 := Lib.hid (And.intro (HB1.out.1.trans (hb.mono HB1.out.1.size)) (And.intro ((hb.block _ (Array.getElem?_eq_some_iff.1 HB1.out.2.1).1).trans HB1.out.2.1) ((hb.block _ (Array.getElem?_eq_some_iff.1 HB1.out.2.2).1).trans HB1.out.2.2))); obtain ⟨d0, -, -, -, -, -⟩ := nd9_cells HB2.out.2.1; obtain ⟨g0, -, -, -, -, -⟩ := exW_cells HB2.out.2.2; clear hb)
        exact ⟨⟨k + 1, max n (dn + 1), by omega, by congr 1; omega, by go_num, by rw [HT.out, HQ.out]; simp <;> omega, HB2.out.1, HB2.out.2.1⟩, by simp [intOf]; omega⟩
      · have hq : brkB 3 y.op = true := by rw [h4]; decide
        have HT2 := Lib.hid (HT.out)
        have q5 : (y.op == 5) = false := beq_false_of_ne (by omega)
        have q4 : (y.op == 4) = true := beq_iff_eq.2 h4
        have HQ := Lib.hid hq
        clear hq h4
        go_wp2_with (go_at_call 18; (with_reducible refine HIY.out.mono ?_); rintro e w2 ⟨rfl, hb⟩; have HB2 := Lib.hid (And.intro (HB1.out.1.trans (hb.mono HB1.out.1.size)) (And.intro ((hb.block _ (Array.getElem?_eq_some_iff.1 HB1.out.2.1).1).trans HB1.out.2.1) ((hb.block _ (Array.getElem?_eq_some_iff.1 HB1.out.2.2).1).trans HB1.out.2.2))); obtain ⟨d0, -, -, -, -, -⟩ := nd9_cells HB2.out.2.1; obtain ⟨g0, -, -, -, -, -⟩ := exW_cells HB2.out.2.2; clear hb)
        exact ⟨⟨k + 1, max n (dn + 1), by omega, by congr 1; omega, by go_num, by rw [HT.out, HQ.out]; simp <;> omega, HB2.out.1, HB2.out.2.1⟩, by simp [intOf]; omega⟩
      · have hq : brkB 3 y.op = false := (if_pos (by decide)).trans (decide_eq_false (fun g => g.elim h4 h5))
        have HT2 := Lib.hid (HT.out)
        have q5 : (y.op == 5) = false := beq_false_of_ne h5
        have q4 : (y.op == 4) = false := beq_false_of_ne h4
        have HQ := Lib.hid hq
        clear hq h4 h5
        go_wp2_with (go_at_call 18; (with_reducible refine HIY.out.mono ?_); rintro e w2 ⟨rfl, hb⟩; have HB2 := Lib.hid (And.intro (HB1.out.1.trans (hb.mono HB1.out.1.size)) (And.intro ((hb.block _ (Array.getElem?_eq_some_iff.1 HB1.out.2.1).1).trans HB1.out.2.1) ((hb.block _ (Array.getElem?_eq_some_iff.1 HB1.out.2.2).1).trans HB1.out.2.2))); obtain ⟨d0, -, -, -, -, -⟩ := nd9_cells HB2.out.2.1; obtain ⟨g0, -, -, -, -, -⟩ := exW_cells HB2.out.2.2; clear hb)
        exact ⟨⟨k + 1, max n dn, by omega, by congr 1; omega, by go_num, by rw [HT.out, HQ.out]; simp <;> omega, HB2.out.1, HB2.out.2.1⟩, by simp [intOf]; omega⟩
    · have hlt' : ¬ (k : Int) < (l.length : Int) := by omega
      rw [List.take_of_length_le (by omega)] at hn
      have hs2 : IntKind.i64.wrap ((n : Int) + 1) = ((n + 1 : Nat) : Int) := by rw [IntWalk.i64_in _ (by omega)]; omega
      have HB := Lib.hid (And.intro hb hn)
      clear hb hbx hn
      go_wp2
      go_ret
      exact ⟨by rw [← HB.out.2]; rfl, HB.out.1⟩
set_option maxHeartbeats 16000000 in
set_option maxRecDepth 100000 in
theorem rx_on4 {l : List Ex} (hg : ∀ e ∈ l, GEx e) (hw : wtL l ≤ 140000) (ih : ∀ k, k < l.length → RX (l.getD k .zero)) (w : World) (A : Option Addr) (cap : Nat) (hx : ExL w (.node 4 l) A cap) :
    Calls Tryz.prog 18 #[exV (.node 4 l) A cap] w fun e w' => e = .returned (.int .i64 ((deepsB 4 l + 0 : Nat) : Int)) ∧ Below w.heap.size w w' := by
  have hlen : l.length ≤ maxLen := hx.1
  unfold maxLen at hlen
  have HX := Lib.hid hx
  have HG := Lib.hid hg
  have HI := Lib.hid ih
  have HWt := Lib.hid hw
  have HD := Lib.hid (fun (e : Ex) => deep_le _ e (Nat.lt_succ_self _))
  have hall : deepsB 4 l ≤ 280000 := by have h1 := deepsB_le 4 l; have h2 := deeps_le 4 l (fun e _ => HD.out e); omega
  have HS0 : Hid (Below w.heap.size w (w.alloc (ndO9 4 (.slice A l.length cap))) ∧ (w.alloc (ndO9 4 (.slice A l.length cap))).heap[w.heap.size]? = some (ndO9 4 (.slice A l.length cap))) := Lib.hid ⟨lbox w _, World.alloc_heap_new w _⟩
  clear hx hg ih hw
  show Calls Tryz.prog 18 #[.agg #[.int .i64 4, .slice A l.length cap, .int .i64 0, .int .u64 0, .int .i64 0, .int .u64 0]] w _
  go_enter Tryz.func18, Tryz.ntmps18
  go_wp2
  go_loopw [3, 4] (fun a v' wr => ∃ (k n : Nat), k ≤ l.length ∧ a = .int .i64 (n : Int) ∧ v' = .int .i64 (k : Int) ∧ n = deepsB 4 (l.take k) ∧ Below w.heap.size w wr ∧ wr.heap[w.heap.size]? = some (ndO9 4 (.slice A l.length cap))) (fun _ v' _ => l.length - (intOf v').toNat)
  case atStart => exact ⟨0, 0, Nat.zero_le _, rfl, rfl, by rw [List.take_zero, deepsB], HS0.out.1, HS0.out.2⟩
  case round =>
    obtain ⟨k, n, hk, rfl, rfl, hn, hb, hbx⟩ := hrel
    obtain ⟨p0, p1, p2, p3, p4, p5⟩ := nd9_cells hbx
    by_cases hlt : k < l.length
    · have hlt' : (k : Int) < (l.length : Int) := by omega
      have hw1 : IntKind.i64.wrap ((k : Int) + 1) = ((k + 1 : Nat) : Int) := by rw [IntWalk.i64_in _ (by omega)]; omega
      obtain ⟨tb, ob, hA, htl, A1, cap1, hx1, hc1⟩ := exL_arg (x := .node 4 l) HX.out k hlt
      change ExL w (l.getD k .zero) A1 cap1 at hx1
      change ∀ j u, (exC (l.getD k .zero) A1 cap1)[j]? = some u → w.cell? ⟨tb, ob + k * 6 + j, none⟩ = some u at hc1
      have hmem : l.getD k .zero ∈ l := by
        rw [List.getD_eq_getElem?_getD, List.getElem?_eq_getElem hlt]; exact List.getElem_mem hlt
      have hwy := wt_in hmem
      have hdy := HD.out (l.getD k .zero)
      have hT := deepsB_snoc 4 (l.take k) (l.getD k .zero)
      rw [← take_snoc l k hlt, ← hn] at hT
      have ih1 := HI.out k hlt
      have hop := gex_op (HG.out _ hmem)
      generalize l.getD k .zero = y at hx1 hc1 hwy hdy hT ih1 hmem hop
      have hwl := HWt.out
      have e0 := (hb.cell (p := ⟨tb, ob + k * 6, none⟩) htl).trans (hc1 0 _ rfl)
      have e1 := (hb.cell (p := ⟨tb, ob + k * 6 + 1, none⟩) htl).trans (hc1 1 _ rfl)
      have e2 := (hb.cell (p := ⟨tb, ob + k * 6 + 2, none⟩) htl).trans (hc1 2 _ rfl)
      have e3 := (hb.cell (p := ⟨tb, ob + k * 6 + 3, none⟩) htl).trans (hc1 3 _ rfl)
      have e4 := (hb.cell (p := ⟨tb, ob + k * 6 + 4, none⟩) htl).trans (hc1 4 _ rfl)
      have e5 := (hb.cell (p := ⟨tb, ob + k * 6 + 5, none⟩) htl).trans (hc1 5 _ rfl)
      have hB1 : Below w.heap.size w (wr.alloc (exCells y A1 cap1)) := hb.trans ((lbox wr _).mono hb.size)
      have HIY := Lib.hid (ih1 (wr.alloc (exCells y A1 cap1)) A1 cap1 (hx1.below hB1))
      have HB1 := Lib.hid (And.intro hB1 (And.intro (kept_alloc hbx (exCells y A1 cap1)) (World.alloc_heap_new wr (exCells y A1 cap1))))
      obtain ⟨dn, hdn⟩ : ∃ dn, deepN y = dn := ⟨_, rfl⟩
      change Hid (Calls Tryz.prog 18 #[exV y A1 cap1] (wr.alloc (exCells y A1 cap1)) fun e w' => e = .returned (.int .i64 (deepN y : Int)) ∧ Below (wr.alloc (exCells y A1 cap1)).heap.size (wr.alloc (exCells y A1 cap1)) w') at HIY
      rw [hdn] at HIY hT hdy
      have hs1 : IntKind.i64.wrap ((dn : Int) + 1) = ((dn + 1 : Nat) : Int) := by rw [IntWalk.i64_in _ (by omega)]; omega
      have HT := Lib.hid hT
      have hcase : y.op = 5 ∨ y.op = 4 ∨ (y.op ≠ 5 ∧ y.op ≠ 4) := by omega
      clear hx1 hc1 ih1 hwy hdy hT hn hdn hmem hop hB1 hb hbx
      subst hA
      rcases hcase with h5 | h4 | ⟨h5, h4⟩
      · have hq : brkB 4 y.op = true := by rw [h5]; decide
        have HT2 := Lib.hid (HT.out)
        have q5 : (y.op == 5) = true := beq_iff_eq.2 h5
        have HQ := Lib.hid hq
        clear hq h5
        go_wp2_with (go_at_call 18; (with_reducible refine HIY.out.mono ?_); rintro e w2 ⟨rfl, hb⟩; have HB2 := Lib.hid (And.intro (HB1.out.1.trans (hb.mono HB1.out.1.size)) (And.intro ((hb.block _ (Array.getElem?_eq_some_iff.1 HB1.out.2.1).1).trans HB1.out.2.1) ((hb.block _ (Array.getElem?_eq_some_iff.1 HB1.out.2.2).1).trans HB1.out.2.2))); obtain ⟨d0, -, -, -, -, -⟩ := nd9_cells HB2.out.2.1; obtain ⟨g0, -, -, -, -, -⟩ := exW_cells HB2.out.2.2; clear hb)
        exact ⟨⟨k + 1, max n (dn + 1), by omega, by congr 1; omega, by go_num, by rw [HT.out, HQ.out]; simp <;> omega, HB2.out.1, HB2.out.2.1⟩, by simp [intOf]; omega⟩
      · have hq : brkB 4 y.op = true := by rw [h4]; decide
        have HT2 := Lib.hid (HT.out)
        have q5 : (y.op == 5) = false := beq_false_of_ne (by omega)
        have q4 : (y.op == 4) = true := beq_iff_eq.2 h4
        have HQ := Lib.hid hq
        clear hq h4
        go_wp2_with (go_at_call 18; (with_reducible refine HIY.out.mono ?_); rintro e w2 ⟨rfl, hb⟩; have HB2 := Lib.hid (And.intro (HB1.out.1.trans (hb.mono HB1.out.1.size)) (And.intro ((hb.block _ (Array.getElem?_eq_some_iff.1 HB1.out.2.1).1).trans HB1.out.2.1) ((hb.block _ (Array.getElem?_eq_some_iff.1 HB1.out.2.2).1).trans HB1.out.2.2))); obtain ⟨d0, -, -, -, -, -⟩ := nd9_cells HB2.out.2.1; obtain ⟨g0, -, -, -, -, -⟩ := exW_cells HB2.out.2.2; clear hb)
        exact ⟨⟨k + 1, max n (dn + 1), by omega, by congr 1; omega, by go_num, by rw [HT.out, HQ.out]; simp <;> omega, HB2.out.1, HB2.out.2.1⟩, by simp [intOf]; omega⟩
      · have hq : brkB 4 y.op = false := (if_pos (by decide)).trans (decide_eq_false (fun g => g.elim h4 h5))
        have HT2 := Lib.hid (HT.out)
        have q5 : (y.op == 5) = false := beq_false_of_ne h5
        have q4 : (y.op == 4) = false := beq_false_of_ne h4
        have HQ := Lib.hid hq
        clear hq h4 h5
        go_wp2_with (go_at_call 18; (with_reducible refine HIY.out.mono ?_); rintro e w2 ⟨rfl, hb⟩; have HB2 := Lib.hid (And.intro (HB1.out.1.trans (hb.mono HB1.out.1.size)) (And.intro ((hb.block _ (Array.getElem?_eq_some_iff.1 HB1.out.2.1).1).trans HB1.out.2.1) ((hb.block _ (Array.getElem?_eq_some_iff.1 HB1.out.2.2).1).trans HB1.out.2.2))); obtain ⟨d0, -, -, -, -, -⟩ := nd9_cells HB2.out.2.1; obtain ⟨g0, -, -, -, -, -⟩ := exW_cells HB2.out.2.2; clear hb)
        exact ⟨⟨k + 1, max n dn, by omega, by congr 1; omega, by go_num, by rw [HT.out, HQ.out]; simp <;> omega, HB2.out.1, HB2.out.2.1⟩, by simp [intOf]; omega⟩
    · have hlt' : ¬ (k : Int) < (l.length : Int) := by omega
      rw [List.take_of_length_le (by omega)] at hn
      have hs2 : IntKind.i64.wrap ((n : Int) + 1) = ((n + 1 : Nat) : Int) := by rw [IntWalk.i64_in _ (by omega)]; omega
      have HB := Lib.hid (And.intro hb hn)
      clear hb hbx hn
      go_wp2
      go_ret
      exact ⟨by rw [← HB.out.2]; rfl, HB.out.1⟩
set_option maxHeartbeats 16000000 in
set_option maxRecDepth 100000 in
theorem rx_on5 {l : List Ex} (hg : ∀ e ∈ l, GEx e) (hw : wtL l ≤ 140000) (ih : ∀ k, k < l.length → RX (l.getD k .zero)) (w : World) (A : Option Addr) (cap : Nat) (hx : ExL w (.node 5 l) A cap) :
    Calls Tryz.prog 18 #[exV (.node 5 l) A cap] w fun e w' => e = .returned (.int .i64 ((deepsB 5 l + 0 : Nat) : Int)) ∧ Below w.heap.size w w' := by
  have hlen : l.length ≤ maxLen := hx.1
  unfold maxLen at hlen
  have HX := Lib.hid hx
  have HG := Lib.hid hg
  have HI := Lib.hid ih
  have HWt := Lib.hid hw
  have HD := Lib.hid (fun (e : Ex) => deep_le _ e (Nat.lt_succ_self _))
  have hall : deepsB 5 l ≤ 280000 := by have h1 := deepsB_le 5 l; have h2 := deeps_le 5 l (fun e _ => HD.out e); omega
  have HS0 : Hid (Below w.heap.size w (w.alloc (ndO9 5 (.slice A l.length cap))) ∧ (w.alloc (ndO9 5 (.slice A l.length cap))).heap[w.heap.size]? = some (ndO9 5 (.slice A l.length cap))) := Lib.hid ⟨lbox w _, World.alloc_heap_new w _⟩
  clear hx hg ih hw
  show Calls Tryz.prog 18 #[.agg #[.int .i64 5, .slice A l.length cap, .int .i64 0, .int .u64 0, .int .i64 0, .int .u64 0]] w _
  go_enter Tryz.func18, Tryz.ntmps18
  go_wp2
  go_loopw [3, 4] (fun a v' wr => ∃ (k n : Nat), k ≤ l.length ∧ a = .int .i64 (n : Int) ∧ v' = .int .i64 (k : Int) ∧ n = deepsB 5 (l.take k) ∧ Below w.heap.size w wr ∧ wr.heap[w.heap.size]? = some (ndO9 5 (.slice A l.length cap))) (fun _ v' _ => l.length - (intOf v').toNat)
  case atStart => exact ⟨0, 0, Nat.zero_le _, rfl, rfl, by rw [List.take_zero, deepsB], HS0.out.1, HS0.out.2⟩
  case round =>
    obtain ⟨k, n, hk, rfl, rfl, hn, hb, hbx⟩ := hrel
    obtain ⟨p0, p1, p2, p3, p4, p5⟩ := nd9_cells hbx
    by_cases hlt : k < l.length
    · have hlt' : (k : Int) < (l.length : Int) := by omega
      have hw1 : IntKind.i64.wrap ((k : Int) + 1) = ((k + 1 : Nat) : Int) := by rw [IntWalk.i64_in _ (by omega)]; omega
      obtain ⟨tb, ob, hA, htl, A1, cap1, hx1, hc1⟩ := exL_arg (x := .node 5 l) HX.out k hlt
      change ExL w (l.getD k .zero) A1 cap1 at hx1
      change ∀ j u, (exC (l.getD k .zero) A1 cap1)[j]? = some u → w.cell? ⟨tb, ob + k * 6 + j, none⟩ = some u at hc1
      have hmem : l.getD k .zero ∈ l := by
        rw [List.getD_eq_getElem?_getD, List.getElem?_eq_getElem hlt]; exact List.getElem_mem hlt
      have hwy := wt_in hmem
      have hdy := HD.out (l.getD k .zero)
      have hT := deepsB_snoc 5 (l.take k) (l.getD k .zero)
      rw [← take_snoc l k hlt, ← hn] at hT
      have ih1 := HI.out k hlt
      have hop := gex_op (HG.out _ hmem)
      generalize l.getD k .zero = y at hx1 hc1 hwy hdy hT ih1 hmem hop
      have hwl := HWt.out
      have e0 := (hb.cell (p := ⟨tb, ob + k * 6, none⟩) htl).trans (hc1 0 _ rfl)
      have e1 := (hb.cell (p := ⟨tb, ob + k * 6 + 1, none⟩) htl).trans (hc1 1 _ rfl)
      have e2 := (hb.cell (p := ⟨tb, ob + k * 6 + 2, none⟩) htl).trans (hc1 2 _ rfl)
      have e3 := (hb.cell (p := ⟨tb, ob + k * 6 + 3, none⟩) htl).trans (hc1 3 _ rfl)
      have e4 := (hb.cell (p := ⟨tb, ob + k * 6 + 4, none⟩) htl).trans (hc1 4 _ rfl)
      have e5 := (hb.cell (p := ⟨tb, ob + k * 6 + 5, none⟩) htl).trans (hc1 5 _ rfl)
      have hB1 : Below w.heap.size w (wr.alloc (exCells y A1 cap1)) := hb.trans ((lbox wr _).mono hb.size)
      have HIY := Lib.hid (ih1 (wr.alloc (exCells y A1 cap1)) A1 cap1 (hx1.below hB1))
      have HB1 := Lib.hid (And.intro hB1 (And.intro (kept_alloc hbx (exCells y A1 cap1)) (World.alloc_heap_new wr (exCells y A1 cap1))))
      obtain ⟨dn, hdn⟩ : ∃ dn, deepN y = dn := ⟨_, rfl⟩
      change Hid (Calls Tryz.prog 18 #[exV y A1 cap1] (wr.alloc (exCells y A1 cap1)) fun e w' => e = .returned (.int .i64 (deepN y : Int)) ∧ Below (wr.alloc (exCells y A1 cap1)).heap.size (wr.alloc (exCells y A1 cap1)) w') at HIY
      rw [hdn] at HIY hT hdy
      have hs1 : IntKind.i64.wrap ((dn : Int) + 1) = ((dn + 1 : Nat) : Int) := by rw [IntWalk.i64_in _ (by omega)]; omega
      have HT := Lib.hid hT
      have hcase : y.op = 5 ∨ y.op = 4 ∨ (y.op ≠ 5 ∧ y.op ≠ 4) := by omega
      clear hx1 hc1 ih1 hwy hdy hT hn hdn hmem hop hB1 hb hbx
      subst hA
      rcases hcase with h5 | h4 | ⟨h5, h4⟩
      · have hq : brkB 5 y.op = true := by rw [h5]; decide
        have HT2 := Lib.hid (HT.out)
        have q5 : (y.op == 5) = true := beq_iff_eq.2 h5
        have HQ := Lib.hid hq
        clear hq h5
        go_wp2_with (go_at_call 18; (with_reducible refine HIY.out.mono ?_); rintro e w2 ⟨rfl, hb⟩; have HB2 := Lib.hid (And.intro (HB1.out.1.trans (hb.mono HB1.out.1.size)) (And.intro ((hb.block _ (Array.getElem?_eq_some_iff.1 HB1.out.2.1).1).trans HB1.out.2.1) ((hb.block _ (Array.getElem?_eq_some_iff.1 HB1.out.2.2).1).trans HB1.out.2.2))); obtain ⟨d0, -, -, -, -, -⟩ := nd9_cells HB2.out.2.1; obtain ⟨g0, -, -, -, -, -⟩ := exW_cells HB2.out.2.2; clear hb)
        exact ⟨⟨k + 1, max n (dn + 1), by omega, by congr 1; omega, by go_num, by rw [HT.out, HQ.out]; simp <;> omega, HB2.out.1, HB2.out.2.1⟩, by simp [intOf]; omega⟩
      · have hq : brkB 5 y.op = false := by rw [h4]; decide
        have HT2 := Lib.hid (HT.out)
        have q5 : (y.op == 5) = false := beq_false_of_ne (by omega)
        have q4 : (y.op == 4) = true := beq_iff_eq.2 h4
        have HQ := Lib.hid hq
        clear hq h4
        go_wp2_with (go_at_call 18; (with_reducible refine HIY.out.mono ?_); rintro e w2 ⟨rfl, hb⟩; have HB2 := Lib.hid (And.intro (HB1.out.1.trans (hb.mono HB1.out.1.size)) (And.intro ((hb.block _ (Array.getElem?_eq_some_iff.1 HB1.out.2.1).1).trans HB1.out.2.1) ((hb.block _ (Array.getElem?_eq_some_iff.1 HB1.out.2.2).1).trans HB1.out.2.2))); obtain ⟨d0, -, -, -, -, -⟩ := nd9_cells HB2.out.2.1; obtain ⟨g0, -, -, -, -, -⟩ := exW_cells HB2.out.2.2; clear hb)
        exact ⟨⟨k + 1, max n dn, by omega, by congr 1; omega, by go_num, by rw [HT.out, HQ.out]; simp <;> omega, HB2.out.1, HB2.out.2.1⟩, by simp [intOf]; omega⟩
      · have hq : brkB 5 y.op = false := (if_neg (by decide)).trans ((if_pos rfl).trans (decide_eq_false h5))
        have HT2 := Lib.hid (HT.out)
        have q5 : (y.op == 5) = false := beq_false_of_ne h5
        have q4 : (y.op == 4) = false := beq_false_of_ne h4
        have HQ := Lib.hid hq
        clear hq h4 h5
        go_wp2_with (go_at_call 18; (with_reducible refine HIY.out.mono ?_); rintro e w2 ⟨rfl, hb⟩; have HB2 := Lib.hid (And.intro (HB1.out.1.trans (hb.mono HB1.out.1.size)) (And.intro ((hb.block _ (Array.getElem?_eq_some_iff.1 HB1.out.2.1).1).trans HB1.out.2.1) ((hb.block _ (Array.getElem?_eq_some_iff.1 HB1.out.2.2).1).trans HB1.out.2.2))); obtain ⟨d0, -, -, -, -, -⟩ := nd9_cells HB2.out.2.1; obtain ⟨g0, -, -, -, -, -⟩ := exW_cells HB2.out.2.2; clear hb)
        exact ⟨⟨k + 1, max n dn, by omega, by congr 1; omega, by go_num, by rw [HT.out, HQ.out]; simp <;> omega, HB2.out.1, HB2.out.2.1⟩, by simp [intOf]; omega⟩
    · have hlt' : ¬ (k : Int) < (l.length : Int) := by omega
      rw [List.take_of_length_le (by omega)] at hn
      have hs2 : IntKind.i64.wrap ((n : Int) + 1) = ((n + 1 : Nat) : Int) := by rw [IntWalk.i64_in _ (by omega)]; omega
      have HB := Lib.hid (And.intro hb hn)
      clear hb hbx hn
      go_wp2
      go_ret
      exact ⟨by rw [← HB.out.2]; rfl, HB.out.1⟩
theorem rx_all {x : Ex} (h : GEx x) : wtE x ≤ 140000 → RX x := by
  induction h with
  | yes => exact fun _ => rx_leaf 1 (by decide) 0 0 0 0
  | no => exact fun _ => rx_leaf 2 (by decide) 0 0 0 0
  | @inv y h ih =>
    intro hw w A cap hx
    rw [wt_node, wt_one] at hw
    have := rx_on3 (l := [y]) (fun e he => by rw [List.mem_singleton] at he; subst he; exact h) (by rw [wt_one]; omega) (fun k hk => by
      have hk0 : k = 0 := by simp at hk; exact hk
      subst hk0; exact ih (by omega)) w A cap hx
    rw [show deepN (.node 3 [y]) = deepsB 3 [y] + 1 by rw [Ex.node, deepN, deepsN, deepsN, deepsB, deepsB, if_pos rfl]; omega]
    exact this
  | @all l h2 ha ih =>
    intro hw w A cap hx
    rw [wt_node] at hw
    rw [show deepN (.node 4 l) = deepsB 4 l + 0 by rw [Ex.node, deepN, deepsB_is (by decide)]; omega]
    refine rx_on4 ha (by omega) (fun k hk => ?_) w A cap hx
    have e : l.getD k .zero = l[k] := by rw [List.getD_eq_getElem?_getD, List.getElem?_eq_getElem hk]; rfl
    have hm := List.getElem_mem hk
    have := wt_in hm
    rw [e]
    exact ih _ hm (by omega)
  | @any l h2 ha ih =>
    intro hw w A cap hx
    rw [wt_node] at hw
    rw [show deepN (.node 5 l) = deepsB 5 l + 0 by rw [Ex.node, deepN, deepsB_is (by decide)]; omega]
    refine rx_on5 ha (by omega) (fun k hk => ?_) w A cap hx
    have e : l.getD k .zero = l[k] := by rw [List.getD_eq_getElem?_getD, List.getElem?_eq_getElem hk]; rfl
    have hm := List.getElem_mem hk
    have := wt_in hm
    rw [e]
    exact ih _ hm (by omega)
  | @test f m r v hf hr hm hv => exact fun _ => rx_leaf 6 (by decide) f m r v
end Go.Proofs.YtgeapkjegemkeaaGreatDoor
namespace Go.Proofs.YtgeapkjegemkeaaGreatDoor
open Go Go.RowKit
set_option linter.unusedSimpArgs false
set_option linter.unusedVariables false

/-- What stands at hand inside a rule. -/
structure RuS (w W : World) (p : Po) (A : Option Addr) (cap : Nat) (B : Nat) (r : Ru) (Ac : Option Addr) (capc : Nat) (Ar : Option Addr) (capr : Nat) : Prop where
  all : BoxS w W (poO9 p A cap)
  box : W.heap[B]? = some (ruO9 r Ac capc Ar capr)
theorem RuS.up {w W W' : World} {p : Po} {A : Option Addr} {cap : Nat} {B : Nat} {r : Ru} {Ac : Option Addr} {capc : Nat} {Ar : Option Addr} {capr : Nat} (h : RuS w W p A cap B r Ac capc Ar capr) (hb : Below W.heap.size W W') : RuS w W' p A cap B r Ac capc Ar capr :=
  ⟨h.all.up hb, (hb.block _ (Array.getElem?_eq_some_iff.1 h.box).1).trans h.box⟩
theorem callL_no (n : Nat) : callL (⟨#[]⟩, n) = Lib.decDigits n := if_pos rfl
theorem callL_yes {s : ByteArray} (h : ¬ s = ⟨#[]⟩) (n : Nat) : strL (callL (s, n)) = s := by
  unfold callL; rw [if_neg h]
set_option maxHeartbeats 16000000 in
set_option maxRecDepth 100000 in
theorem ref6_Print {p : Po} (hg : GPo p) (hwt : ∀ r ∈ p.rules, wtE r.when_ ≤ 140000) (w : World) (A : Option Addr) (cap : Nat) (hT : Tbl w) (hr : RulesL w p.rules A) :
    Calls Tryz.prog 16 #[poV9 p A cap] w fun e w' => e = .returned (.string (strL (polL p))) ∧ Below w.heap.size w w' := by
  have hlen : p.rules.length ≤ 512 := hg.rules.1
  have hhl := heads_len hg
  have hrl := rules_len p.rules (fun r hr => ⟨hg.rules.2 r hr, hwt r hr⟩)
  have hn1 := name_len hg.arch
  have hv1 := verd_len hg.foreign_
  have hv2 := verd_len hg.default_
  have HR := Lib.hid hr
  have HG := Lib.hid (And.intro hg.rules.2 hwt)
  have HV := Lib.hid (BoxS.new (poO9 p A cap) hT)
  obtain ⟨c0, c1, c2, c3, c4, c5⟩ := po9_cells HV.out.box
  have HV1 := Lib.hid (fun V hV => ref6_Verdict p.foreign_ hg.foreign_ V hV)
  have HV2 := Lib.hid (fun V hV => ref6_Verdict p.default_ hg.default_ V hV)
  obtain ⟨t1, ht1⟩ : ∃ t, strL (verdL p.foreign_) = t := ⟨_, rfl⟩
  obtain ⟨t2, ht2⟩ : ∃ t, strL (verdL p.default_) = t := ⟨_, rfl⟩
  rw [ht1] at HV1
  rw [ht2] at HV2
  have s1 : t1.size ≤ 33 := by rw [← ht1, strL_size]; exact hv1
  have s2 : t2.size ≤ 33 := by rw [← ht2, strL_size]; exact hv2
  have z1 : ¬ 9223372036854775807 < 5 + p.arch.size := by omega
  have z2 : ¬ 9223372036854775807 < ((⟨#[97, 114, 99, 104, 32]⟩ : ByteArray) ++ p.arch).size + 10 := by rw [size_app]; show ¬ 9223372036854775807 < 5 + _ + 10; omega
  have z3 : ¬ 9223372036854775807 < ((⟨#[97, 114, 99, 104, 32]⟩ : ByteArray) ++ p.arch ++ (⟨#[59, 10, 102, 111, 114, 101, 105, 103, 110, 32]⟩ : ByteArray)).size + t1.size := by rw [size_app, size_app]; show ¬ 9223372036854775807 < 5 + _ + 10 + _; omega
  have z4 : ¬ 9223372036854775807 < ((⟨#[97, 114, 99, 104, 32]⟩ : ByteArray) ++ p.arch ++ (⟨#[59, 10, 102, 111, 114, 101, 105, 103, 110, 32]⟩ : ByteArray) ++ t1).size + 10 := by rw [size_app, size_app, size_app]; show ¬ 9223372036854775807 < 5 + _ + 10 + _ + 10; omega
  have z5 : ¬ 9223372036854775807 < ((⟨#[97, 114, 99, 104, 32]⟩ : ByteArray) ++ p.arch ++ (⟨#[59, 10, 102, 111, 114, 101, 105, 103, 110, 32]⟩ : ByteArray) ++ t1 ++ (⟨#[59, 10, 100, 101, 102, 97, 117, 108, 116, 32]⟩ : ByteArray)).size + t2.size := by rw [size_app, size_app, size_app, size_app]; show ¬ 9223372036854775807 < 5 + _ + 10 + _ + 10 + _; omega
  have z6 : ¬ 9223372036854775807 < ((⟨#[97, 114, 99, 104, 32]⟩ : ByteArray) ++ p.arch ++ (⟨#[59, 10, 102, 111, 114, 101, 105, 103, 110, 32]⟩ : ByteArray) ++ t1 ++ (⟨#[59, 10, 100, 101, 102, 97, 117, 108, 116, 32]⟩ : ByteArray) ++ t2).size + 2 := by rw [size_app, size_app, size_app, size_app, size_app]; show ¬ 9223372036854775807 < 5 + _ + 10 + _ + 10 + _ + 2; omega
  have y2 : ¬ 9223372036854775807 < 5 + p.arch.size + 10 := by omega
  have y3 : ¬ 9223372036854775807 < 5 + p.arch.size + 10 + t1.size := by omega
  have y4 : ¬ 9223372036854775807 < 5 + p.arch.size + 10 + t1.size + 10 := by omega
  have y5 : ¬ 9223372036854775807 < 5 + p.arch.size + 10 + t1.size + 10 + t2.size := by omega
  have y6 : ¬ 9223372036854775807 < 5 + p.arch.size + 10 + t1.size + 10 + t2.size + 2 := by omega
  have HE := Lib.hid (show (⟨#[97, 114, 99, 104, 32]⟩ : ByteArray) ++ p.arch ++ (⟨#[59, 10, 102, 111, 114, 101, 105, 103, 110, 32]⟩ : ByteArray) ++ t1 ++ (⟨#[59, 10, 100, 101, 102, 97, 117, 108, 116, 32]⟩ : ByteArray) ++ t2 ++ (⟨#[59, 10]⟩ : ByteArray) = strL (headsL p) by
    conv => lhs; rw [str_self p.arch]
    rw [← ht1, ← ht2, show (⟨#[97, 114, 99, 104, 32]⟩ : ByteArray) = strL [97, 114, 99, 104, 32] from rfl, show (⟨#[59, 10, 102, 111, 114, 101, 105, 103, 110, 32]⟩ : ByteArray) = strL [59, 10, 102, 111, 114, 101, 105, 103, 110, 32] from rfl, show (⟨#[59, 10, 100, 101, 102, 97, 117, 108, 116, 32]⟩ : ByteArray) = strL [59, 10, 100, 101, 102, 97, 117, 108, 116, 32] from rfl, show (⟨#[59, 10]⟩ : ByteArray) = strL [59, 10] from rfl, strL_append, strL_append, strL_append, strL_append, strL_append, strL_append]
    unfold headsL
    simp)
  clear hT hr hg hwt ht1 ht2 hn1 hv1 hv2
  go_enter Tryz.func16, Tryz.ntmps16
  go_upto_region 1 with fail
  have HD0 := Lib.hid (BoxS.drew HV.out)
  refine wp_region_held_drew (S := fun W' => BoxS w W' (poO9 p A cap)) (by kernel_rfl) HD0.out (fun hHeld => ?_)
  clear c0 c1 c2 c3 c4 c5 HV
  generalize (w.alloc (poO9 p A cap)).drew = Y at HD0 hHeld ⊢
  clear hHeld
  have hHeld := HD0.out
  refine wpAnyH_take (i := 0) (v := ?_) rfl (by kernel_rfl) (by kernel_rfl) (by kernel_rfl) (fun _ _ _ h => h) (Or.inl ⟨by rfl, ?_⟩) (by assumption) ?_
  rotate_left
  · intro wS hSw
    (obtain ⟨c0, c1, c2, c3, c4, c5⟩ := po9_cells hSw.box)
    go_simp
    all_goals with_reducible rfl
  (try simp only [List.getElem_toArray, List.getElem_cons_zero, List.getElem_cons_succ, Act.put, List.setIfInBounds_toArray, List.set_cons_zero, List.set_cons_succ])
  refine wpAnyH_take (i := 1) (v := ?_) rfl (by kernel_rfl) (by kernel_rfl) (by kernel_rfl) (fun _ _ _ h => h) (Or.inl ⟨by rfl, ?_⟩) (by assumption) ?_
  rotate_left
  · intro wS hSw
    (obtain ⟨c0, c1, c2, c3, c4, c5⟩ := po9_cells hSw.box)
    go_simp
    all_goals with_reducible rfl
  (try simp only [List.getElem_toArray, List.getElem_cons_zero, List.getElem_cons_succ, Act.put, List.setIfInBounds_toArray, List.set_cons_zero, List.set_cons_succ])
  refine wpAnyH_take (i := 2) (v := ?_) rfl (by kernel_rfl) (by kernel_rfl) (by kernel_rfl) (fun _ _ _ h => h) (Or.inl ⟨by rfl, ?_⟩) (by assumption) ?_
  rotate_left
  · intro wS hSw
    (obtain ⟨c0, c1, c2, c3, c4, c5⟩ := po9_cells hSw.box)
    go_simp
    all_goals with_reducible rfl
  (try simp only [List.getElem_toArray, List.getElem_cons_zero, List.getElem_cons_succ, Act.put, List.setIfInBounds_toArray, List.set_cons_zero, List.set_cons_succ])
  refine wpAnyH_take (i := 3) (v := ?_) rfl (by kernel_rfl) (by kernel_rfl) (by kernel_rfl) (fun _ _ _ h => h) (Or.inl ⟨by rfl, ?_⟩) (by assumption) ?_
  rotate_left
  · intro wS hSw
    (obtain ⟨c0, c1, c2, c3, c4, c5⟩ := po9_cells hSw.box)
    go_simp
    all_goals with_reducible rfl
  (try simp only [List.getElem_toArray, List.getElem_cons_zero, List.getElem_cons_succ, Act.put, List.setIfInBounds_toArray, List.set_cons_zero, List.set_cons_succ])
  refine wpAnyH_take (i := 4) (v := ?_) rfl (by kernel_rfl) (by kernel_rfl) (by kernel_rfl) (fun _ _ _ h => h) (Or.inl ⟨by rfl, ?_⟩) (by assumption) ?_
  rotate_left
  · intro wS hSw
    (obtain ⟨c0, c1, c2, c3, c4, c5⟩ := po9_cells hSw.box)
    go_simp
    all_goals with_reducible rfl
  (try simp only [List.getElem_toArray, List.getElem_cons_zero, List.getElem_cons_succ, Act.put, List.setIfInBounds_toArray, List.set_cons_zero, List.set_cons_succ])
  refine wpAnyH_take (i := 5) (v := ?_) rfl (by kernel_rfl) (by kernel_rfl) (by kernel_rfl) (fun _ _ _ h => h) (Or.inl ⟨by rfl, ?_⟩) (by assumption) ?_
  rotate_left
  · intro wS hSw
    (obtain ⟨c0, c1, c2, c3, c4, c5⟩ := po9_cells hSw.box)
    go_simp
    all_goals with_reducible rfl
  (try simp only [List.getElem_toArray, List.getElem_cons_zero, List.getElem_cons_succ, Act.put, List.setIfInBounds_toArray, List.set_cons_zero, List.set_cons_succ])
  refine wpAnyH_take (i := 9) (v := ?_) rfl (by kernel_rfl) (by kernel_rfl) (by kernel_rfl) (fun _ _ _ h => h) (Or.inl ⟨by rfl, ?_⟩) (by assumption) ?_
  rotate_left
  · intro wS hSw
    (obtain ⟨c0, c1, c2, c3, c4, c5⟩ := po9_cells hSw.box)
    go_simp
    all_goals with_reducible rfl
  (try simp only [List.getElem_toArray, List.getElem_cons_zero, List.getElem_cons_succ, Act.put, List.setIfInBounds_toArray, List.set_cons_zero, List.set_cons_succ])
  refine wpAnyH_take (i := 10) (v := ?_) rfl (by kernel_rfl) (by kernel_rfl) (by kernel_rfl) (fun _ _ _ h => h) (Or.inl ⟨by rfl, ?_⟩) (by assumption) ?_
  rotate_left
  · intro wS hSw
    (obtain ⟨c0, c1, c2, c3, c4, c5⟩ := po9_cells hSw.box)
    go_simp
    all_goals with_reducible rfl
  (try simp only [List.getElem_toArray, List.getElem_cons_zero, List.getElem_cons_succ, Act.put, List.setIfInBounds_toArray, List.set_cons_zero, List.set_cons_succ])
  refine held_one (i := 6) (by kernel_rfl) rfl (fun K hK => ?_)
  go_simp
  go_at_call 43
  refine (HV1.out _ HD0.out.tbl).mono ?_
  rintro e w1 ⟨rfl, hb⟩
  have HD1 := Lib.hid (HD0.out.up hb)
  clear hHeld
  have hHeld := HD1.out
  refine hK.out _ _ HD1.out (fun hH2 => ?_)
  clear hK K hH2 hb HD0
  (try simp only [Act.put, List.setIfInBounds_toArray, List.set_cons_zero, List.set_cons_succ, List.getElem_toArray, List.getElem_cons_zero, List.getElem_cons_succ])
  refine wpAnyH_take (i := 7) (v := ?_) rfl (by kernel_rfl) (by kernel_rfl) (by kernel_rfl) (fun _ _ _ h => h) (Or.inl ⟨by rfl, ?_⟩) (by assumption) ?_
  rotate_left
  · intro wS hSw
    (skip)
    go_simp
    all_goals with_reducible rfl
  (try simp only [List.getElem_toArray, List.getElem_cons_zero, List.getElem_cons_succ, Act.put, List.setIfInBounds_toArray, List.set_cons_zero, List.set_cons_succ])
  refine wpAnyH_take (i := 8) (v := ?_) rfl (by kernel_rfl) (by kernel_rfl) (by kernel_rfl) (fun _ _ _ h => h) (Or.inl ⟨by rfl, ?_⟩) (by assumption) ?_
  rotate_left
  · intro wS hSw
    (skip)
    go_simp
    all_goals with_reducible rfl
  (try simp only [List.getElem_toArray, List.getElem_cons_zero, List.getElem_cons_succ, Act.put, List.setIfInBounds_toArray, List.set_cons_zero, List.set_cons_succ])
  refine held_one (i := 11) (by kernel_rfl) rfl (fun K hK => ?_)
  go_simp
  go_at_call 43
  refine (HV2.out _ HD1.out.tbl).mono ?_
  rintro e w2 ⟨rfl, hb⟩
  have HD2 := Lib.hid (HD1.out.up hb)
  clear hHeld
  have hHeld := HD2.out
  refine hK.out _ _ HD2.out (fun hH2 => ?_)
  clear hK K hH2 hb HD1
  (try simp only [Act.put, List.setIfInBounds_toArray, List.set_cons_zero, List.set_cons_succ, List.getElem_toArray, List.getElem_cons_zero, List.getElem_cons_succ])
  refine wpAnyH_take (i := 12) (v := ?_) rfl (by kernel_rfl) (by kernel_rfl) (by kernel_rfl) (fun _ _ _ h => h) (Or.inl ⟨by rfl, ?_⟩) (by assumption) ?_
  rotate_left
  · intro wS hSw
    (skip)
    go_simp
    all_goals with_reducible rfl
  (try simp only [List.getElem_toArray, List.getElem_cons_zero, List.getElem_cons_succ, Act.put, List.setIfInBounds_toArray, List.set_cons_zero, List.set_cons_succ])
  refine wpAnyH_take (i := 13) (v := ?_) rfl (by kernel_rfl) (by kernel_rfl) (by kernel_rfl) (fun _ _ _ h => h) (Or.inl ⟨by rfl, ?_⟩) (by assumption) ?_
  rotate_left
  · intro wS hSw
    (skip)
    go_simp
    all_goals with_reducible rfl
  (try simp only [List.getElem_toArray, List.getElem_cons_zero, List.getElem_cons_succ, Act.put, List.setIfInBounds_toArray, List.set_cons_zero, List.set_cons_succ])
  refine wpAnyH_take (i := 14) (v := ?_) rfl (by kernel_rfl) (by kernel_rfl) (by kernel_rfl) (fun _ _ _ h => h) (Or.inl ⟨by rfl, ?_⟩) (by assumption) ?_
  rotate_left
  · intro wS hSw
    (skip)
    go_simp
    all_goals with_reducible rfl
  (try simp only [List.getElem_toArray, List.getElem_cons_zero, List.getElem_cons_succ, Act.put, List.setIfInBounds_toArray, List.set_cons_zero, List.set_cons_succ])
  refine wpAnyH_done (by kernel_rfl) ?_ _
  rw [HE.out]
  clear hHeld z1 z2 z3 z4 z5 z6 y2 y3 y4 y5 y6 s1 s2 HV1 HV2 HE
  go_wp2
  go_loopw [3, 4] (fun a v wr => ∃ k : Nat, k ≤ p.rules.length ∧ a = .string (strL (headsL p ++ rulesL (p.rules.take k))) ∧ v = .int .i64 (k : Int) ∧ BoxS w wr (poO9 p A cap)) (fun _ v _ => p.rules.length - (intOf v).toNat)
  case atStart => exact ⟨0, Nat.zero_le _, by rw [List.take_zero, rulesL, List.append_nil], rfl, HD2.out⟩
  case round =>
    obtain ⟨k, hk, rfl, rfl, hB⟩ := hrel
    obtain ⟨c0, c1, c2, c3, c4, c5⟩ := po9_cells hB.box
    by_cases hlt : k < p.rules.length
    · have hlt' : (k : Int) < (p.rules.length : Int) := by omega
      have hw : IntKind.i64.wrap ((k : Int) + 1) = ((k + 1 : Nat) : Int) := by rw [IntWalk.i64_in _ (by omega)]; omega
      obtain ⟨tb, ob, Ac, capc, Ar, capr, hA, htl, hru, hc⟩ := rulesL_at9 HR.out k hlt
      have hmem : p.rules.getD k zeroR7 ∈ p.rules := by
        rw [List.getD_eq_getElem?_getD, List.getElem?_eq_getElem hlt]; exact List.getElem_mem hlt
      have hgr := HG.out.1 _ hmem
      have hwr := HG.out.2 _ hmem
      have hP : rulesL (p.rules.take (k + 1)) = rulesL (p.rules.take k) ++ ruleL (p.rules.getD k zeroR7) := by rw [take_snocR _ k hlt, rulesL_append, rulesL_one]
      have hPl := rulesL_lt p.rules (k + 1) hlt
      generalize p.rules.getD k zeroR7 = r at hru hc hgr hP hmem hwr
      have e0 := (hB.below.cell (p := ⟨tb, ob + k * 9, none⟩) htl).trans (hc 0 _ rfl)
      have e1 := (hB.below.cell (p := ⟨tb, ob + k * 9 + 1, none⟩) htl).trans (hc 1 _ rfl)
      have e2 := (hB.below.cell (p := ⟨tb, ob + k * 9 + 2, none⟩) htl).trans (hc 2 _ rfl)
      have e3 := (hB.below.cell (p := ⟨tb, ob + k * 9 + 3, none⟩) htl).trans (hc 3 _ rfl)
      have e4 := (hB.below.cell (p := ⟨tb, ob + k * 9 + 4, none⟩) htl).trans (hc 4 _ rfl)
      have e5 := (hB.below.cell (p := ⟨tb, ob + k * 9 + 5, none⟩) htl).trans (hc 5 _ rfl)
      have e6 := (hB.below.cell (p := ⟨tb, ob + k * 9 + 6, none⟩) htl).trans (hc 6 _ rfl)
      have e7 := (hB.below.cell (p := ⟨tb, ob + k * 9 + 7, none⟩) htl).trans (hc 7 _ rfl)
      have e8 := (hB.below.cell (p := ⟨tb, ob + k * 9 + 8, none⟩) htl).trans (hc 8 _ rfl)
      have hcl : r.calls.length ≤ 70000 := hgr.calls.2.1
      have HS : Hid (RuS w (wr.alloc (ruO9 r Ac capc Ar capr)) p A cap wr.heap.size r Ac capc Ar capr) := Lib.hid ⟨hB.up (lbox wr _), World.alloc_heap_new wr _⟩
      obtain ⟨hd, hhd⟩ : ∃ hd, headsL p ++ rulesL (p.rules.take k) = hd := ⟨_, rfl⟩
      have hPE : headsL p ++ rulesL (p.rules.take (k + 1)) = hd ++ ruleL r := by rw [hP, ← hhd, List.append_assoc]
      have hlim : hd.length + (ruleL r).length ≤ 10000000000 := by
        rw [hP, List.length_append] at hPl
        rw [← hhd, List.length_append]; omega
      have hrn : (ruleL r).length = 3 + (firstL r.calls).length + (whenL r.when_).length + 4 + (verdL r.do_).length + 2 := by
        unfold ruleL; simp only [List.length_append, List.length_cons, List.length_nil]
      rw [hhd]
      obtain ⟨s0, hs0⟩ : ∃ s0, strL hd = s0 := ⟨_, rfl⟩
      have hs0s : s0.size = hd.length := by rw [← hs0, strL_size]
      rw [hs0]
      have z0 : s0.size + 3 ≤ 10000000000 := by omega
      have HP := Lib.hid (And.intro hPE hs0)
      have HRU := Lib.hid (And.intro hru (And.intro hgr hwr))
      have hls : hd.length + 3 + (firstL r.calls).length + (whenL r.when_).length + 4 + (verdL r.do_).length + 2 ≤ 10000000000 := by omega
      have HLS := Lib.hid hls
      have HS0S := Lib.hid hs0s
      clear hB hru hc hgr hwr hP hPl hmem hhd hPE hs0 hlim hrn hls hs0s
      subst hA
      have HW0 : Hid (s0 ++ (⟨#[111, 110, 32]⟩ : ByteArray) = strL (hd ++ [111, 110, 32] ++ firstL (r.calls.take 0))) := Lib.hid (by rw [← HP.out.2, List.take_zero, firstL, List.append_nil, show (⟨#[111, 110, 32]⟩ : ByteArray) = strL [111, 110, 32] from rfl, strL_append])
      obtain ⟨B, hBq⟩ : ∃ B, wr.heap.size = B := ⟨_, rfl⟩
      go_upto_region 7 with fail
      obtain ⟨s1, hs1⟩ : ∃ s1, s0 ++ (⟨#[111, 110, 32]⟩ : ByteArray) = s1 := ⟨_, rfl⟩
      rw [hs1] at HW0 ⊢
      rw [hBq] at HS
      clear hs1 e0 e1 e2 e3 e4 e5 e6 e7 e8 z0 c0 c1 c2 c3 c4 c5 hBq
      go_wp2
      go_loopw [3, 6] (fun a v ws => ∃ j : Nat, j ≤ r.calls.length ∧ a = .string (strL (hd ++ [111, 110, 32] ++ firstL (r.calls.take j))) ∧ v = .int .i64 (j : Int) ∧ RuS w ws p (some ⟨tb, ob, none⟩) cap B r Ac capc Ar capr) (fun _ v _ => r.calls.length - (intOf v).toNat)
      case atStart => exact ⟨0, Nat.zero_le _, by rw [HW0.out], rfl, HS.out⟩
      case round =>
        obtain ⟨j, hj, rfl, rfl, hS⟩ := hrel
        obtain ⟨r0, r1, r2, r3, r4, r5, r6, r7, r8⟩ := ru9_cells hS.box
        have hls := HLS.out
        by_cases hjl : j < r.calls.length
        · have hjl' : (j : Int) < (r.calls.length : Int) := by omega
          have hwj : IntKind.i64.wrap ((j : Int) + 1) = ((j + 1 : Nat) : Int) := by rw [IntWalk.i64_in _ (by omega)]; omega
          obtain ⟨tc, oc, hAc, htc, g0, g1⟩ := callsL_at9 HRU.out.1.1 j hjl
          have hgc : GCall (r.calls.getD j (⟨#[]⟩, 0)) := by
            rw [List.getD_eq_getElem?_getD, List.getElem?_eq_getElem hjl]; exact HRU.out.2.1.calls.2.2 _ (List.getElem_mem hjl)
          have hQ := firstL_snoc (r.calls.take j) (r.calls.getD j (⟨#[]⟩, 0))
          rw [← take_snocC _ j hjl, List.length_take, Nat.min_eq_left hj] at hQ
          have hQl := firstL_lt r.calls j hj
          generalize r.calls.getD j (⟨#[]⟩, 0) = c at g0 g1 hgc hQ
          obtain ⟨s, n⟩ := c
          simp only at g0 g1
          replace g0 := (hS.all.below.cell (p := ⟨tc, oc + j * 2, none⟩) htc).trans g0
          replace g1 := (hS.all.below.cell (p := ⟨tc, oc + j * 2 + 1, none⟩) htc).trans g1
          obtain ⟨t, ht⟩ : ∃ t, strL (hd ++ [111, 110, 32] ++ firstL (r.calls.take j)) = t := ⟨_, rfl⟩
          have hts : t.size ≤ 10000000000 := by rw [← ht, strL_size]; simp only [List.length_append, List.length_cons, List.length_nil]; omega
          have hQE : strL (hd ++ [111, 110, 32] ++ firstL (r.calls.take (j + 1))) = t ++ strL ((if 0 < j then [44, 32] else []) ++ callL (s, n)) := by rw [hQ, ← ht, strL_append]; simp
          rw [ht]
          have HS1 := Lib.hid hS
          have HQ := Lib.hid hQE
          have z1 : t.size + 2 ≤ 10000000002 := by omega
          clear hS hQ hQl ht hQE hls
          subst hAc
          by_cases hs : s = ⟨#[]⟩
          · subst hs
            have hn : n < 18446744073709551616 := by
              rcases hgc with h | h
              · exact h.2
              · have := h.2; simp only at this; omega
            have HN := Lib.hid (fun V hV => p_fmt10 n hn V hV)
            obtain ⟨d, hd9⟩ : ∃ d, strL (Lib.decDigits n) = d := ⟨_, rfl⟩
            have hds : d.size ≤ 20 := by rw [← hd9, strL_size]; exact dec_len hn
            rw [hd9] at HN
            have z2 : t.size + d.size ≤ 10000000020 := by omega
            have z3 : (t ++ (⟨#[44, 32]⟩ : ByteArray)).size + d.size ≤ 10000000022 := by rw [size_app]; show t.size + 2 + _ ≤ _; omega
            have z4 : t.size + 2 + d.size ≤ 10000000022 := by omega
            clear hgc hn
            by_cases hj0 : 0 < j
            · have hj0' : (0 : Int) < (j : Int) := by omega
              have HF := Lib.hid (show strL (hd ++ [111, 110, 32] ++ firstL (r.calls.take (j + 1))) = t ++ (⟨#[44, 32]⟩ : ByteArray) ++ d by rw [HQ.out, if_pos hj0, callL_no, ← strL_append, hd9, ByteArray.append_assoc])
              clear hj0 hd9
              go_wp2_with (go_at_call 44; (with_reducible refine (HN.out _ HS1.out.all.tbl).mono ?_); rintro e w3 ⟨rfl, hb⟩; have HS2 := Lib.hid (HS1.out.up hb); clear hb)
              exact ⟨⟨j + 1, by omega, by rw [HF.out], by go_num, HS2.out⟩, by simp [intOf]; omega⟩
            · have hj0' : ¬ (0 : Int) < (j : Int) := by omega
              have HF := Lib.hid (show strL (hd ++ [111, 110, 32] ++ firstL (r.calls.take (j + 1))) = t ++ d by rw [HQ.out, if_neg hj0, callL_no, List.nil_append, hd9])
              clear hj0 hd9
              go_wp2_with (go_at_call 44; (with_reducible refine (HN.out _ HS1.out.all.tbl).mono ?_); rintro e w3 ⟨rfl, hb⟩; have HS2 := Lib.hid (HS1.out.up hb); clear hb)
              exact ⟨⟨j + 1, by omega, by rw [HF.out], by go_num, HS2.out⟩, by simp [intOf]; omega⟩
          · have hss : s.size ≤ 32 := by
              rcases hgc with h | h
              · exact absurd h.1 hs
              · exact name_len h.1
            have qs := name_some hs
            have z2 : t.size + s.size ≤ 10000000032 := by omega
            have z3 : (t ++ (⟨#[44, 32]⟩ : ByteArray)).size + s.size ≤ 10000000034 := by rw [size_app]; show t.size + 2 + _ ≤ _; omega
            have z4 : t.size + 2 + s.size ≤ 10000000034 := by omega
            have HC := Lib.hid (callL_yes hs n)
            clear hgc hs
            by_cases hj0 : 0 < j
            · have hj0' : (0 : Int) < (j : Int) := by omega
              have HF := Lib.hid (show strL (hd ++ [111, 110, 32] ++ firstL (r.calls.take (j + 1))) = t ++ (⟨#[44, 32]⟩ : ByteArray) ++ s by rw [HQ.out, if_pos hj0, ← strL_append, HC.out, ByteArray.append_assoc])
              clear hj0
              go_wp2
              exact ⟨⟨j + 1, by omega, by rw [HF.out], by go_num, HS1.out⟩, by simp [intOf]; omega⟩
            · have hj0' : ¬ (0 : Int) < (j : Int) := by omega
              have HF := Lib.hid (show strL (hd ++ [111, 110, 32] ++ firstL (r.calls.take (j + 1))) = t ++ s by rw [HQ.out, if_neg hj0, List.nil_append, HC.out])
              clear hj0
              go_wp2
              exact ⟨⟨j + 1, by omega, by rw [HF.out], by go_num, HS1.out⟩, by simp [intOf]; omega⟩
        · have hjl' : ¬ (j : Int) < (r.calls.length : Int) := by omega
          rw [List.take_of_length_le (by omega)]
          obtain ⟨t, ht⟩ : ∃ t, strL (hd ++ [111, 110, 32] ++ firstL r.calls) = t := ⟨_, rfl⟩
          have hts : t.size = hd.length + 3 + (firstL r.calls).length := by rw [← ht, strL_size]; simp only [List.length_append, List.length_cons, List.length_nil]
          rw [ht]
          have HVD := Lib.hid (fun V hV => ref6_Verdict r.do_ HRU.out.2.1.do_ V hV)
          obtain ⟨v, hv⟩ : ∃ v, strL (verdL r.do_) = v := ⟨_, rfl⟩
          have hvs : v.size = (verdL r.do_).length := by rw [← hv, strL_size]
          rw [hv] at HVD
          have HS1 := Lib.hid hS
          clear hS
          by_cases ho : r.when_.op = 1
          · have q1 : (r.when_.op != 1) = false := by rw [ho]; rfl
            have hwl : whenL r.when_ = [] := if_pos ho
            have z1 : t.size + 4 ≤ 10000000000 := by omega
            have z2 : (t ++ (⟨#[32, 100, 111, 32]⟩ : ByteArray)).size + v.size ≤ 10000000000 := by rw [size_app]; show t.size + 4 + _ ≤ _; omega
            have z3 : (t ++ (⟨#[32, 100, 111, 32]⟩ : ByteArray) ++ v).size + 2 ≤ 10000000000 := by rw [size_app, size_app]; show t.size + 4 + _ + 2 ≤ _; omega
            have y2 : t.size + 4 + v.size ≤ 10000000000 := by omega
            have y3 : t.size + 4 + v.size + 2 ≤ 10000000000 := by omega
            have HF := Lib.hid (show strL (headsL p ++ rulesL (p.rules.take (k + 1))) = t ++ (⟨#[32, 100, 111, 32]⟩ : ByteArray) ++ v ++ (⟨#[59, 10]⟩ : ByteArray) by
              rw [HP.out.1, ← ht, ← hv, show (⟨#[32, 100, 111, 32]⟩ : ByteArray) = strL [32, 100, 111, 32] from rfl, show (⟨#[59, 10]⟩ : ByteArray) = strL [59, 10] from rfl, strL_append, strL_append, strL_append]
              unfold ruleL; rw [hwl]; simp)
            clear hts hvs hv ht hls hwl ho
            go_wp2_with (go_at_call 43; (with_reducible refine (HVD.out _ HS1.out.all.tbl).mono ?_); rintro e w3 ⟨rfl, hb⟩; have HS2 := Lib.hid (HS1.out.up hb); clear hb)
            exact ⟨⟨k + 1, by omega, by rw [HF.out], by go_num, HS2.out.all⟩, by simp [intOf]; omega⟩
          · have q1 : (r.when_.op != 1) = true := bne_iff_ne.2 ho
            have hwl : whenL r.when_ = [32, 119, 104, 101, 110, 32] ++ exL r.when_ := if_neg ho
            have hwn : (whenL r.when_).length = 6 + (exL r.when_).length := by rw [hwl]; simp only [List.length_append, List.length_cons, List.length_nil]
            have HSX := Lib.hid (fun V hV => sx_all HRU.out.2.1.when_ HRU.out.2.2 V Ar capr (HRU.out.1.2.below hV))
            obtain ⟨x, hx⟩ : ∃ x, strL (exL r.when_) = x := ⟨_, rfl⟩
            have hxs : x.size = (exL r.when_).length := by rw [← hx, strL_size]
            rw [hx] at HSX
            have z0 : t.size + 6 ≤ 10000000000 := by omega
            have z5 : (t ++ (⟨#[32, 119, 104, 101, 110, 32]⟩ : ByteArray)).size + x.size ≤ 10000000000 := by rw [size_app]; show t.size + 6 + _ ≤ _; omega
            have y5 : t.size + 6 + x.size ≤ 10000000000 := by omega
            have HF := Lib.hid (show strL (headsL p ++ rulesL (p.rules.take (k + 1))) = t ++ (⟨#[32, 119, 104, 101, 110, 32]⟩ : ByteArray) ++ x ++ (⟨#[32, 100, 111, 32]⟩ : ByteArray) ++ v ++ (⟨#[59, 10]⟩ : ByteArray) by
              rw [HP.out.1, ← ht, ← hv, ← hx, show (⟨#[32, 119, 104, 101, 110, 32]⟩ : ByteArray) = strL [32, 119, 104, 101, 110, 32] from rfl, show (⟨#[32, 100, 111, 32]⟩ : ByteArray) = strL [32, 100, 111, 32] from rfl, show (⟨#[59, 10]⟩ : ByteArray) = strL [59, 10] from rfl, strL_append, strL_append, strL_append, strL_append, strL_append]
              unfold ruleL; rw [hwl]; simp)
            have hz : (t ++ (⟨#[32, 119, 104, 101, 110, 32]⟩ : ByteArray) ++ x).size + 4 + v.size + 2 ≤ 10000000000 := by rw [size_app, size_app]; show t.size + 6 + _ + 4 + _ + 2 ≤ _; omega
            have HZ := Lib.hid hz
            clear hts hvs hv ht hls hwl ho hwn hx hxs hz
            go_upto_region 17 with (go_at_call 17; (with_reducible refine (HSX.out _ HS1.out.all.below HS1.out.all.tbl).mono ?_); rintro e w3 ⟨rfl, hb⟩; have HS2 := Lib.hid (HS1.out.up hb); clear hb)
            obtain ⟨t9, ht9⟩ : ∃ t9, t ++ (⟨#[32, 119, 104, 101, 110, 32]⟩ : ByteArray) ++ x = t9 := ⟨_, rfl⟩
            have hz9 := HZ.out
            rw [ht9] at hz9 HF ⊢
            clear ht9
            obtain ⟨f0, f1, f2, f3, f4, f5, f6, f7, f8⟩ := ru9_cells HS2.out.box
            have z1 : t9.size + 4 ≤ 10000000000 := by omega
            have z2 : (t9 ++ (⟨#[32, 100, 111, 32]⟩ : ByteArray)).size + v.size ≤ 10000000000 := by rw [size_app]; show t9.size + 4 + _ ≤ _; omega
            have z3 : (t9 ++ (⟨#[32, 100, 111, 32]⟩ : ByteArray) ++ v).size + 2 ≤ 10000000000 := by rw [size_app, size_app]; show t9.size + 4 + _ + 2 ≤ _; omega
            have y2 : t9.size + 4 + v.size ≤ 10000000000 := by omega
            have y3 : t9.size + 4 + v.size + 2 ≤ 10000000000 := by omega
            go_wp2_with (go_at_call 43; (with_reducible refine (HVD.out _ HS2.out.all.tbl).mono ?_); rintro e w4 ⟨rfl, hb⟩; have HS3 := Lib.hid (HS2.out.up hb); clear hb)
            exact ⟨⟨k + 1, by omega, by rw [HF.out], by go_num, HS3.out.all⟩, by simp [intOf]; omega⟩
    · have hlt' : ¬ (k : Int) < (p.rules.length : Int) := by omega
      rw [List.take_of_length_le (by omega)]
      have HBB := Lib.hid hB.below
      clear hB
      go_wp2
      go_ret
      exact ⟨rfl, HBB.out⟩
end Go.Proofs.YtgeapkjegemkeaaGreatDoor
namespace Go.Proofs.YtgeapkjegemkeaaGreatDoor
open Go Go.RowKit
set_option linter.unusedSimpArgs false
set_option linter.unusedVariables false

theorem expr_shut (s : ByteArray) : match exprF s with
    | .ok _ _ => True
    | .bad e _ => e ≠ 0
    | .out => False := by
  have hS := lexd s
  have hE := exprN_sim hS (Nat.lt_succ_self (srcF s).toks.length)
  unfold exprF readG
  by_cases h0 : 0 < (srcF s).toks.length
  · rw [if_pos h0]
    obtain ⟨⟨x, r1⟩, hx, hsim⟩ := hE.1 h0
    unfold wholeG
    generalize exprG (srcF s) ((srcF s).toks.length + 1) 0 0 = g at hsim ⊢
    rcases g with ⟨v, j⟩ | ⟨e, p⟩ | _
    · show match (if (tk (srcF s) j).kind = 1 then Got.ok v j else noG (srcF s) j) with
        | .ok _ _ => True
        | .bad e _ => e ≠ 0
        | .out => False
      by_cases hk : (tk (srcF s) j).kind = 1
      · rw [if_pos hk]; trivial
      · rw [if_neg hk]
        show (61 : Int) ≠ 0
        decide
    · exact Bad.ne (show Bad (srcF s) r1 e p from hsim)
    · exact hsim.elim
  · rw [if_neg h0]
    obtain ⟨⟨x, r1⟩, hx, hb⟩ := hE.2 h0
    exact hb.ne
theorem good_resEx (s : ByteArray) (h : (resEx (exprF s)).2.1 = 0) : GEx (resEx (exprF s)).1 ∧ wtE (resEx (exprF s)).1 ≤ 140000 := by
  have hsh := expr_shut s
  have hg : All (fun x => GEx x ∧ wtE x ≤ 140000) (exprF s) := by
    unfold exprF readG
    by_cases h0 : 0 < (srcF s).toks.length
    · rw [if_pos h0]
      exact fun x j e => ⟨gd_whole (tok_ok s) _ 0 h0 x j e, wt_whole (src_small s) _ 0 h0 x j e⟩
    · rw [if_neg h0]; exact all_bad _ _
  generalize exprF s = g at h hsh hg ⊢
  rcases g with ⟨v, j⟩ | ⟨e, p⟩ | _
  · exact hg v j rfl
  · exact absurd h hsh
  · exact hsh.elim
theorem good_resPo (s : ByteArray) (h : (resPo (policyF s)).2.1 = 0) : GPo (resPo (policyF s)).1 ∧ ∀ r ∈ (resPo (policyF s)).1.rules, wtE r.when_ ≤ 140000 := by
  obtain ⟨lr, re, _, hsh⟩ := parse_all s
  have hg : All (fun p : Po => GPo p ∧ ∀ r ∈ p.rules, wtE r.when_ ≤ 140000) (policyF s) := by
    unfold policyF readG
    exact all_ite (fun x j e => ⟨gd_policy (src_small s) (tok_ok s) _ 0 x j e, wt_policy (src_small s) _ 0 x j e⟩) (all_bad _ _)
  generalize policyF s = g at h hsh hg ⊢
  rcases g with ⟨v, j⟩ | ⟨e, p⟩ | _
  · exact hg v j rfl
  · exact absurd h hsh.1
  · exact hsh.elim
theorem tab_of_laid {W : World} (h : laidMetH Tryz.prog [("math/bits.deBruijn32tab", Rows.laid_math_bits_deBruijn32tab), ("math/bits.deBruijn64tab", Rows.laid_math_bits_deBruijn64tab), ("internal/strconv.uint64pow10", Rows.laid_internal_strconv_uint64pow10)] W) : Tbl W := by
  rw [MakeChecks.laidMetH_plain _ _ _ (by kernel_rfl)] at h
  have h2 := h.tail
  have h3 := h2.tail
  have p10 : Pow W := Lib.tabIs_of_head (g := 1) (t := 156) (e := 24) (n := 20) (by kernel_rfl) (by kernel_rfl) (by kernel_rfl) (by kernel_rfl) (by kernel_rfl) (by kernel_rfl) h3
  have bru : Lib.TabIs Tryz.prog W "math/bits.deBruijn64tab" .u8 [0, 1, 56, 2, 57, 49, 28, 3, 61, 58, 42, 50, 38, 29, 17, 4, 62, 47, 59, 36, 45, 43, 51, 22, 53, 39, 33, 30, 24, 18, 12, 5, 63, 55, 48, 27, 60, 41, 37, 16, 46, 35, 44, 21, 52, 32, 23, 11, 54, 26, 40, 15, 34, 20, 31, 10, 25, 14, 19, 9, 13, 8, 7, 6] := Lib.tabIs_of_head (g := 3) (t := 166) (e := 5) (n := 64) (by kernel_rfl) (by kernel_rfl) (by kernel_rfl) (by kernel_rfl) (by kernel_rfl) (by kernel_rfl) h2
  have hc := bru.cell (g := 3) (by kernel_rfl) 15 (by decide)
  refine ⟨p10, hc, ?_⟩
  rcases Nat.lt_or_ge 3 W.heap.size with g | g
  · exact g
  · simp [World.cell?, Array.getElem?_eq_none g] at hc
end Go.Proofs.YtgeapkjegemkeaaGreatDoor
