/-
  The program's rules: their contract by values and places. Conditions: those that it names.
-/
import Derived.Test.YtmmfbeebjehkgaaPPolRule
namespace Go.Proofs.Ytmmfbeebjehkgaa
open Go Go.RowKit
set_option linter.unusedSimpArgs false
set_option linter.unusedVariables false

/-- Rules in a row. -/
def RuRow (w : World) (F : Nat → Prop) : List Ru → Nat → Nat → Prop
  | [], _, _ => True
  | r :: l, tb, o => (∃ t capc A cap, RuIn w F r t A cap ∧ ∀ j u, (ruC r t capc A cap)[j]? = some u → w.cell? ⟨tb, o + j, none⟩ = some u) ∧ RuRow w F l tb (o + 9)
theorem RuRow.keep {w w' : World} {F G : Nat → Prop} (hs : w.heap.size ≤ w'.heap.size) (hF : ∀ k, F k → G k) (hk : ∀ k, F k → k < w.heap.size → w'.heap[k]? = w.heap[k]?) {tb : Nat} (hf : F tb) (ht : tb < w.heap.size) : ∀ {l : List Ru} {o : Nat}, RuRow w F l tb o → RuRow w' G l tb o
  | [], _, _ => trivial
  | r :: l, o, ⟨⟨t, c, A, cap, h1, h2⟩, h3⟩ => ⟨⟨t, c, A, cap, h1.keep hs hF hk, fun j u hj => (World.cell?_of_block (a := ⟨tb, o + j, none⟩) (hk tb hf ht)).trans (h2 j u hj)⟩, RuRow.keep hs hF hk hf ht h3⟩
def ChunksR (w : World) (F : Nat → Prop) : List Ru → List Value → Prop
  | [], xs => xs = []
  | r :: l, xs => ∃ t capc A cap ys, RuIn w F r t A cap ∧ xs = ruC r t capc A cap ++ ys ∧ ChunksR w F l ys
theorem ChunksR.keep {w w' : World} {F G : Nat → Prop} (hs : w.heap.size ≤ w'.heap.size) (hF : ∀ k, F k → G k) (hk : ∀ k, F k → k < w.heap.size → w'.heap[k]? = w.heap[k]?) : ∀ {l : List Ru} {xs : List Value}, ChunksR w F l xs → ChunksR w' G l xs
  | [], _, h => h
  | r :: l, xs, ⟨t, c, A, cap, ys, h1, h2, h3⟩ => ⟨t, c, A, cap, ys, h1.keep hs hF hk, h2, h3.keep hs hF hk⟩
theorem ru_lt {w : World} {F : Nat → Prop} {r : Ru} {t : Nat} {A : Option Addr} {cap : Nat} (h : RuIn w F r t A cap) : RuIn w (fun k => F k ∧ k < w.heap.size) r t A cap := ⟨⟨⟨h.1.1, h.1.2.1⟩, h.1.2⟩, ex_lt h.2⟩
theorem chunksR_lt {w : World} {F : Nat → Prop} : ∀ {l : List Ru} {xs : List Value}, ChunksR w F l xs → ChunksR w (fun k => F k ∧ k < w.heap.size) l xs
  | [], _, h => h
  | r :: l, xs, ⟨t, c, A, cap, ys, h1, h2, h3⟩ => ⟨t, c, A, cap, ys, ru_lt h1, h2, chunksR_lt h3⟩
theorem ChunksR.snoc {w : World} {F : Nat → Prop} {r : Ru} {t capc : Nat} {A : Option Addr} {cap : Nat} (he : RuIn w F r t A cap) : ∀ {l : List Ru} {xs : List Value}, ChunksR w F l xs → ChunksR w F (l ++ [r]) (xs ++ ruC r t capc A cap)
  | [], xs, h => by
    have : xs = [] := h
    subst this
    exact ⟨t, capc, A, cap, [], he, by simp, rfl⟩
  | x :: l, xs, ⟨t', c', A', cap', ys, h1, h2, h3⟩ => ⟨t', c', A', cap', ys ++ ruC r t capc A cap, h1, by rw [h2, List.append_assoc], h3.snoc he⟩
theorem ChunksR.row {w : World} {F : Nat → Prop} {tb : Nat} : ∀ {l : List Ru} {xs : List Value} {o : Nat}, ChunksR w F l xs → (∀ j u, xs[j]? = some u → w.cell? ⟨tb, o + j, none⟩ = some u) → RuRow w F l tb o
  | [], _, _, _, _ => trivial
  | r :: l, xs, o, ⟨t, c, A, cap, ys, h1, h2, h3⟩, hc => by
    subst h2
    refine ⟨⟨t, c, A, cap, h1, fun j u hj => hc j u ?_⟩, h3.row (fun j u hj => ?_)⟩
    · have hlt : j < (ruC r t c A cap).length := (List.getElem?_eq_some_iff.1 hj).1
      rw [List.getElem?_append_left hlt]; exact hj
    · have := hc (9 + j) u (by
        rw [List.getElem?_append_right (by simp [ruC])]
        have : 9 + j - (ruC r t c A cap).length = j := by simp [ruC]
        rw [this]; exact hj)
      rw [show o + 9 + j = o + (9 + j) by omega]; exact this
theorem ru_one {r : Ru} {t capc : Nat} {A : Option Addr} {cap : Nat} : ∀ u ∈ ruC r t capc A cap, u.oneCell' = true := by
  intro u hu
  simp only [ruC, List.mem_cons, List.not_mem_nil, or_false] at hu
  rcases hu with rfl | rfl | rfl | rfl | rfl | rfl | rfl | rfl | rfl <;> rfl
abbrev ruCells (r : Ru) (tb capc : Nat) (A : Option Addr) (cap : Nat) : Obj := .cells #[.slice (some ⟨tb, 0, none⟩) r.calls.length capc, .int .i64 r.when_.op, .slice A r.when_.args.length cap, .int .i64 r.when_.field, .int .u64 (r.when_.mask : Int), .int .i64 r.when_.rel, .int .u64 (r.when_.value : Int), .int .i64 r.do_.1, .int .u64 (r.do_.2 : Int)] 67
theorem ru_cells (w : World) (B : Nat) (hB : B = w.heap.size) (r : Ru) (t capc : Nat) (A : Option Addr) (cap : Nat) (j : Nat) (u : Value) (h : (ruC r t capc A cap)[j]? = some u) : (w.alloc (ruCells r t capc A cap)).cell? ((⟨B, 0, none⟩ : Addr).add j) = some u := by
  subst hB
  rw [addr_add, Nat.zero_add]
  refine cell6 (World.alloc_heap_new w _) j ?_
  rw [← List.getElem?_toArray] at h
  exact h
theorem info_ru : (Try.prog.info? 67).map (fun i => (i.zero, i.size, i.bytes)) = some (some (.agg #[.slice none 0 0, .int .i64 0, .slice none 0 0, .int .i64 0, .int .u64 0, .int .i64 0, .int .u64 0, .int .i64 0, .int .u64 0]), 9, 104) := by kernel_rfl
/-- Rules, as a slice. -/
def RulesP (lo : Nat) (l : List Ru) (v : Value) (W : World) : Prop := (l = [] ∧ v = .slice none 0 0) ∨ ∃ tb cap, v = .slice (some ⟨tb, 0, none⟩) l.length cap ∧ lo ≤ tb ∧ tb < W.heap.size ∧ RuRow W (fun k => lo ≤ k) l tb 0
/-- What has been read. -/
structure TurnR (s : ByteArray) (w wr : World) (b n : Nat) (g : Got (List Ru)) (v : Value) (l : List Ru) (xs : List Value) (m i : Nat) : Prop where
  lt : i < (srcF s).toks.length
  fuel : (srcF s).toks.length - i < m
  len : l.length ≤ 512
  rest : g = rulesG (srcF s) n m l i
  at_ : PAt wr b s (tk (srcF s) i) 0
  grown : w.grownBy wr (some b)
  own : wr.ownsRow w.heap.size 67 9 v l.length xs
  chunks : ChunksR wr (fun k => w.heap.size ≤ k ∧ some k ≠ v.ownBlock) l xs
section
variable {s : ByteArray} {w wr wb wd : World} {b n : Nat} {g : Got (List Ru)} {v v' : Value} {l : List Ru} {xs : List Value} {m i k : Nat} {r : Ru} {t capc : Nat} {A : Option Addr} {cap : Nat} {O : Obj}
theorem rows_done (h : TurnR s w wr b n g v l xs m i) : RulesP w.heap.size l v wr := by
  rcases h.own.2 with ⟨hv, h0⟩ | ⟨tb, cap, cur, hv, hlo, hh, _, _, hs, ht⟩
  · exact .inl ⟨List.length_eq_zero_iff.1 h0, hv⟩
  · subst hv
    refine .inr ⟨tb, cap, rfl, hlo, (Array.getElem?_eq_some_iff.1 hh).1, ?_⟩
    refine (h.chunks.keep (Nat.le_refl _) (fun k hk => hk.1) (fun _ _ _ => rfl)).row (fun j u hj => ?_)
    rw [Nat.zero_add, World.ownsRow.cellAt h.own j (by rw [← h.own.1]; exact (List.getElem?_eq_some_iff.1 hj).1)]
    exact hj
theorem turn_ownR (h : TurnR s w wr b n g v l xs m i) (hb : b < w.heap.size) (hB : wr.grownBy wb (some b)) : (wb.alloc O).ownsRow w.heap.size 67 9 v l.length xs := by
  have hne : v.ownBlock = none ∨ v.ownBlock ≠ some b := by
    rcases hv : v.ownBlock with _ | c
    · exact .inl rfl
    · exact .inr (fun e => by injection e with e; have := (h.own.lt c hv).1; omega)
  exact own_below (h.own.kept (row := some b) hB hne) (lbox wb O)
theorem turn_onR (h : TurnR s w wr b n g v l xs (m + 1) i) (hb : b < w.heap.size) (hk1 : ¬ (tk (srcF s) i).kind = 1) (h512 : l.length < 512) (hx : ruleG (srcF s) n i = .ok r k) (hfw : i + 1 ≤ k ∧ k < (srcF s).toks.length)
    (hB : wr.grownBy wb (some b)) (hp : PAt wb b s (tk (srcF s) k) 0) (he : RuIn wb (fun k => wr.heap.size ≤ k) r t A cap)
    (ho : wd.ownsRow w.heap.size 67 9 v' (l.length + 1) (xs ++ ruC r t capc A cap)) (hg : (wb.alloc O).grownBy wd v.ownBlock) (hv : v'.ownBlock = v.ownBlock ∨ v'.ownBlock = some (wb.alloc O).heap.size) :
    TurnR s w wd b n g v' (l ++ [r]) (xs ++ ruC r t capc A cap) m k := by
  have hsz : (wb.alloc O).heap.size = wb.heap.size + 1 := by simp
  have hvl : ∀ c, v.ownBlock = some c → w.heap.size ≤ c ∧ c < wr.heap.size := fun c e => h.own.lt c e
  have hbl : b < wb.heap.size := hp.lt
  have keep : ∀ c, c < wb.heap.size → some c ≠ v.ownBlock → wd.heap[c]? = wb.heap[c]? := fun c hc hne => (hg.block c (by omega) hne).trans (Below.heap_alloc wb O c hc)
  have hbo : some b ≠ v.ownBlock := fun e => by have := hvl b e.symm; omega
  have size2 := hB.size
  have size0 := h.grown.size
  have size3 := hg.size
  refine ⟨hfw.2, by have := h.fuel; omega, by rw [List.length_append]; simp only [List.length_cons, List.length_nil]; omega, ?_, ?_, ?_, ?_, ?_⟩
  · rw [h.rest]
    show (if (tk (srcF s) i).kind = 1 then _ else if l.length = 512 ∧ (tk (srcF s) i).text = bOn then _ else (ruleG (srcF s) n i).andThen _) = _
    rw [if_neg hk1, if_neg (fun e => by omega), hx]; rfl
  · exact World.rowIs.of_block hp (keep b hbl hbo)
  · refine ⟨hg.os.trans ((grown_trans h.grown hB).os), hg.tape.trans ((grown_trans h.grown hB).tape), hg.output.trans ((grown_trans h.grown hB).output), by omega, fun c hc hne => ?_⟩
    exact (keep c (by omega) (fun e => by have := hvl c e.symm; omega)).trans ((grown_trans h.grown hB).block c hc hne)
  · rw [List.length_append]; exact ho
  · have c1 := (chunksR_lt h.chunks).keep (w' := wd) (G := fun c => w.heap.size ≤ c ∧ some c ≠ v'.ownBlock) (by omega) (fun c hc => ⟨hc.1.1, fun e => by
      rcases hv with hv | hv
      · exact hc.1.2 (e.trans hv)
      · rw [hv, hsz] at e; injection e with e; have := hc.2; omega⟩) (fun c hc _ => by
        have hc2 := hc.2
        have hc1 := hc.1.1
        exact (keep c (by omega) hc.1.2).trans (hB.block c hc2 (fun e => by injection e with e; omega)))
    have c2 := (ru_lt he).keep (w' := wd) (G := fun c => w.heap.size ≤ c ∧ some c ≠ v'.ownBlock) (by omega) (fun c hc => ⟨by have := hc.1; omega, fun e => by
      rcases hv with hv | hv
      · have := hvl c (hv.symm.trans e.symm); have := hc.1; omega
      · rw [hv, hsz] at e; injection e with e; have := hc.2; omega⟩) (fun c hc _ => keep c hc.2 (fun e => by have := hvl c e.symm; have := hc.1; omega))
    exact c1.snoc c2
end
theorem rule_on {S : Src} {n i : Nat} (h : ¬ (tk S i).text = bOn) : ruleG S n i = .bad 61 (tk S i).pos := by
  unfold ruleG demandG
  rw [if_neg h]; rfl
theorem fwd_rule {S : Src} (n i : Nat) : Fwd S 1 i (ruleG S n i) :=
  (fwd_demand bOn i).andThen (m := 0) fun _ j hj => ((fwd_byTurns bComma (fun i _ => fwd_call i) n j hj).andThen (m := 0) fun cs k hk => (show Fwd S 0 k (whenG S n k) from .ite (((fwd_adv k ()).andThen (m := 1) fun _ j hj => fwd_expr n 0 j hj).le (Nat.zero_le _)) (fwd_ok hk _)).andThen (m := 0) fun e l hl =>
    ((fwd_demand bDo l).andThen (m := 0) fun _ m hm => ((fwd_verd m).andThen (m := 0) fun v o ho => ((fwd_demand bSemi o).andThen (m := 0) fun _ p hp => fwd_ok hp _).le (Nat.zero_le _)).le (Nat.zero_le _)).le (Nat.zero_le _)).le (Nat.zero_le _)
set_option maxHeartbeats 4000000 in
set_option maxRecDepth 100000 in
theorem pp_rules (w : World) (b : Nat) (s : ByteArray) (n i : Nat) (hsm : (srcF s).toks.length ≤ 65537) (hn : (srcF s).toks.length < n) (hi : i < (srcF s).toks.length) (h : PAt w b s (tk (srcF s) i) 0) :
    Calls Try.prog 32 #[.pointer (some ⟨b, 0, none⟩)] w (GotP (RulesP w.heap.size) s w b 0 (rulesG (srcF s) n n [] i)) := by
  have hlt := h.lt
  have hI : TurnR s w w b n (rulesG (srcF s) n n [] i) (.slice none 0 0) [] [] n i := ⟨hi, by omega, by simp, rfl, h, World.grownBy.refl w _, World.ownsRow_nil w _ _ _, rfl⟩
  have hRule := Lib.hid (fun (W : World) (j : Nat) (hj : j < (srcF s).toks.length) hp => pp_rule W b s n j hsm hn hj hp)
  generalize rulesG (srcF s) n n [] i = g at hI ⊢
  have HI := Lib.hid hI
  clear hI h
  go_enter Try.func32, Try.ntmps32
  go_wp2
  go_loopw [3] (fun v wr => ∃ l xs m k, TurnR s w wr b n g v l xs m k) (fun v _ => 513 - sliceLen v)
  case atStart => exact ⟨_, _, _, _, HI.out⟩
  case round =>
    obtain ⟨l, xs, m, k, hT⟩ := hrel
    obtain ⟨m, rfl⟩ : ∃ m', m = m' + 1 := ⟨m - 1, by have := hT.fuel; omega⟩
    have hk := hT.lt
    have hll := hT.len
    have HL := Lib.hid (own_len hT.own)
    have HT := Lib.hid hT
    obtain ⟨A0, cap0, rfl⟩ : ∃ A cap, u3 = .slice A l.length cap := by
      rcases hT.own.2 with ⟨rfl, h0⟩ | ⟨gb, cap, cur, rfl, _⟩
      · exact ⟨none, 0, by rw [h0]⟩
      · exact ⟨_, _, rfl⟩
    have c1 : wr.cell? ⟨b, 1, none⟩ = some (.int .i64 (tk (srcF s) k).kind) := World.rowIs.cell hT.at_ (i := 1) (by decide)
    have hrest := hT.rest
    have hat := hT.at_
    unfold rulesG at hrest
    clear HI hT
    by_cases hk1 : (tk (srcF s) k).kind = 1
    · have hkb : ((tk (srcF s) k).kind != 1) = false := by rw [hk1]; rfl
      rw [if_pos hk1] at hrest
      have HRS := Lib.hid hrest
      clear hrest hk1 hat
      go_wp2
      go_ret
      rw [HRS.out]
      exact ⟨_, rfl, rows_done HT.out, HT.out.at_, HT.out.grown⟩
    · have hkb : ((tk (srcF s) k).kind != 1) = true := bne_iff_ne.2 hk1
      rw [if_neg hk1] at hrest
      have HK1 := Lib.hid hk1
      clear hk1
      by_cases h5 : l.length = 512
      · have h5b : ((l.length : Int) == 512) = true := by rw [h5]; rfl
        have h5c : (l.length == 512) = true := by rw [h5]; rfl
        by_cases ht : (tk (srcF s) k).text = bOn
        · rw [if_pos ⟨h5, ht⟩] at hrest
          have HRS := Lib.hid hrest
          have HA := Lib.hid (pp_at_yes wr b s k 0 hat ⟨#[111, 110]⟩ ht)
          have HR := Lib.hid (pp_refuse wr b s _ 0 hat 63)
          clear hrest h5 ht hat
          go_wp2_with (first | (go_at_call 47; (with_reducible refine HA.out.mono ?_); rintro e w1 ⟨rfl, rfl⟩) | (go_at_call 37; (with_reducible refine HR.out.mono ?_); rintro e w1 ⟨rfl, hg⟩; have HX := Lib.hid (grown_trans HT.out.grown hg); clear hg))
          exact ⟨rfl, by rw [HRS.out]; exact ⟨rfl, HX.out⟩⟩
        · rw [if_neg (fun e => ht e.2), rule_on ht] at hrest
          have HRS : Hid (g = .bad 61 (tk (srcF s) k).pos) := Lib.hid hrest
          have HA := Lib.hid (pp_at_no wr b s k 0 hat ⟨#[111, 110]⟩ ht)
          have hO := hRule.out wr k hk hat
          rw [rule_on ht] at hO
          have HO := Lib.hid hO
          clear hrest h5 ht hat hO
          go_wp2_with (first | (go_at_call 47; (with_reducible refine HA.out.mono ?_); rintro e w1 ⟨rfl, rfl⟩) | (go_at_call 48; (with_reducible refine HO.out.mono ?_); rintro e w1 ⟨rfl, hg⟩; have HX := Lib.hid (grown_trans HT.out.grown hg); clear hg))
          exact ⟨rfl, by rw [HRS.out]; exact ⟨rfl, HX.out⟩⟩
      · have h5b : ((l.length : Int) == 512) = false := beq_false_of_ne (by omega)
        have h5c : (l.length == 512) = false := beq_false_of_ne h5
        rw [if_neg (fun e => h5 e.1)] at hrest
        have hO := hRule.out wr k hk hat
        have hfk := fwd_rule (S := srcF s) n k
        have h512 : l.length < 512 := by omega
        clear h5 hat
        rcases hg1 : ruleG (srcF s) n k with ⟨r, j⟩ | ⟨er, p⟩ | _
        · rw [hg1] at hO hrest hfk
          have hj := hfk r j rfl
          have HO := Lib.hid hO
          have HG1 := Lib.hid hg1
          have HJ := Lib.hid hj
          clear hO hrest hfk hg1 hj
          go_wp2_with (first | (go_at_call 48; (with_reducible refine HO.out.mono ?_); rintro e wb ⟨v, rfl, ⟨t, capc, A, cap, rfl, hx⟩, hp, hg⟩; have HB := Lib.hid (And.intro hx (And.intro hp hg)); clear hx hp hg) | (at_builtin; refine wpList_append_own _ rfl (.tmp 19) (.tmp 22) 27 rfl 67 (.agg #[.slice none 0 0, .int .i64 0, .slice none 0 0, .int .i64 0, .int .u64 0, .int .i64 0, .int .u64 0, .int .i64 0, .int .u64 0]) 9 104 Try.underlying27 info_ru rfl (by decide) w.heap.size (.slice A0 l.length cap0) l.length xs rfl (turn_ownR HT.out hlt HB.out.2.2) ⟨wb.heap.size, 0, none⟩ 1 1 (ruC r t capc A cap) rfl rfl (ru_cells _ _ rfl _ _ _ _ _) ru_one (by unfold maxLen; omega) (by omega) (by have h1 := HT.out.grown.size; have h3 := HB.out.2.2.size; simp; omega) ?_; intro v' wd ho hg hv; have HW := Lib.hid (turn_onR HT.out hlt HK1.out h512 HG1.out HJ.out HB.out.2.2 HB.out.2.1 HB.out.1 ho hg hv); clear ho hg hv))
          exact ⟨⟨_, _, _, j, HW.out⟩, by rw [HL.out, own_len HW.out.own, List.length_append]; simp only [List.length_cons, List.length_nil]; omega⟩
        · rw [hg1] at hO hrest
          have HO := Lib.hid hO
          have HRS : Hid (g = .bad er p) := Lib.hid hrest
          clear hO hrest hfk hg1
          go_wp2_with (first | (go_at_call 48; (with_reducible refine HO.out.mono ?_); rintro e w1 ⟨rfl, hg⟩; have HX := Lib.hid (grown_trans HT.out.grown hg); clear hg))
          exact ⟨rfl, by rw [HRS.out]; exact ⟨rfl, HX.out⟩⟩
        · rw [hg1] at hO
          have HO := Lib.hid hO
          clear hO hrest hfk hg1
          go_wp2_with (first | (go_at_call 48; (with_reducible refine HO.out.mono ?_); intro e w1 hF; exact hF.elim))
end Go.Proofs.Ytmmfbeebjehkgaa
