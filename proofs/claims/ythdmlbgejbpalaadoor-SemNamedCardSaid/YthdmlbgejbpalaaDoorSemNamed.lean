/-
  'SemNamed': for every policy and all data, the law of layer 7 that an architecture's names have numbers that rise, and that a policy that names calls says what the same one says that numbers them, returns true, and leaves memory as it was. Condition: the table of the kinds reads as the program's text lays it (the card ties it).
-/
import Derived.Test.YthdmlbgejbpalaaDoorSemBld
import Derived.Test.YthdmlbgejbpalaaDoorSemNam
import Derived.Test.YthdmlbgejbpalaaDoorSemNmP
import Derived.Test.YthdmlbgejbpalaaDoorGSemEnd
import Derived.Test.YthdmlbgejbpalaaDoorCards
import Derived.SevenTiedAt
namespace Go.Proofs.YthdmlbgejbpalaaDoor.semNamed
open Go Go.ChangeShapes Go.WideShapes Go.ChangeAt Go.RowKit
set_option linter.unusedSimpArgs false
set_option linter.unusedVariables false

/-- What is at hand: both boxes, and where the policy lies. -/
structure NmAt (w W : World) (p : Po) (A : Option Addr) (cap : Nat) (d : Dat) : Prop where
  below : Below w.heap.size w W
  po : W.heap[w.heap.size]? = some (poO7 p A cap)
  dat : W.heap[w.heap.size + 1]? = some (datO d)
  rules : RulesL W p.rules A
  tab : Tab W
theorem NmAt.up {w W W' : World} {p : Po} {A : Option Addr} {cap : Nat} {d : Dat} (h : NmAt w W p A cap d) (hb : Below W.heap.size W W') : NmAt w W' p A cap d := ⟨on7 h.below hb, keep7 h.po hb, keep7 h.dat hb, h.rules.below hb, h.tab.up hb⟩
theorem NmAt.drew {w W : World} {p : Po} {A : Option Addr} {cap : Nat} {d : Dat} (h : NmAt w W p A cap d) : NmAt w W.drew p A cap d := h.up (below_drawn (Below.refl _ _) 1)
theorem NamesL.drew {W : World} {l : List (ByteArray × Nat)} {A : Option Addr} (h : NamesL W l A) : NamesL W.drew l A := h.below (below_drawn (Below.refl _ _) 1)
theorem names_at {W : World} {l : List (ByteArray × Nat)} {tb : Nat} (h : NamesL W l (some ⟨tb, 0, none⟩)) (k : Nat) (hk : k < l.length) : W.cell? ⟨tb, k, none⟩ = some (.string (l.getD k (⟨#[]⟩, 0)).1) := by
  obtain ⟨tb', hA, _, hc⟩ := h.2 k hk
  injection hA with hA; injection hA with e; subst e
  exact hc
theorem calls_len {t : List (ByteArray × Nat)} (hw : TabW t) : ∀ (l : List (ByteArray × Nat)) (met : List Nat), callsE t met l = 0 → met.Nodup → (∀ x ∈ met, x < 4294967296) → met.length + l.length ≤ 4294967296
  | [], met, _, hd, hm => by have := nodup_len 4294967296 met hd hm; simpa using this
  | c :: l, met, h, hd, hm => by
    rw [callsE] at h
    cases hq : nrF t c with
    | none => rw [hq] at h; cases h
    | some n =>
      rw [hq] at h
      simp only at h
      split at h
      · cases h
      · rename_i hn
        have := calls_len hw l _ h (snoc_nodup hd hn) (snoc_below hm (nr_w hw hq))
        rw [List.length_append] at this
        simp only [List.length_cons, List.length_nil] at this ⊢
        omega
abbrev poN (p : Po) (A : Option Addr) (cap : Nat) : Value := .agg #[.string p.arch, .int .i64 p.foreign_.1, .int .u64 (p.foreign_.2 : Int), .int .i64 p.default_.1, .int .u64 (p.default_.2 : Int), .slice A p.rules.length cap]
theorem poN_num (p : Po) (A : Option Addr) (cap : Nat) : poA (numP p) A cap = poN p A cap := by
  show Value.agg #[_, _, _, _, _, .slice A (p.rules.map _).length cap] = _
  rw [List.length_map]
  rfl
theorem check_num7 {p : Po} (hok : (checkF p).1 = 0) {t : List (ByteArray × Nat)} (ht : (sysF p.arch).2.1 = t) (A : Option Addr) (cap : Nat) (V : World) (hr : RulesL V (p.rules.map (numR t)) A) (hT : Tab V) :
    Calls Tryd.prog 14 #[poN p A cap] V fun e w' => e = .returned (.tuple #[.int .i64 0, .int .i64 0]) ∧ Below V.heap.size V w' := by
  have := p_Check7 (numP p) A cap V (by unfold numP; rw [ht]; exact hr) hT
  rw [poN_num, check_num hok] at this
  exact this
theorem eval_num7 {p : Po} (hok : (checkF p).1 = 0) {t : List (ByteArray × Nat)} (ht : (sysF p.arch).2.1 = t) (d : Dat) (A : Option Addr) (cap : Nat) (V : World) (hr : RulesL V (p.rules.map (numR t)) A) (hT : Tab V) :
    Calls Tryd.prog 12 #[poN p A cap, datV d] V fun e w' => e = .returned (.int .u32 (evalF p d : Int)) ∧ Below V.heap.size V w' := by
  have := p_Eval7 (numP p) d A cap V (by unfold numP; rw [ht]; exact hr) hT
  rw [poN_num, eval_num hok] at this
  exact this
theorem call_cells7 (w : World) (x : ByteArray × Nat) (j : Nat) (u : Value) (h : (callC x)[j]? = some u) : (w.alloc (callCells x)).cell? ((⟨w.heap.size, 0, none⟩ : Addr).add j) = some u := by
  rw [addr_add, Nat.zero_add]
  refine cell6 (World.alloc_heap_new w _) j ?_
  rw [← List.getElem?_toArray] at h
  exact h
theorem call_one7 {x : ByteArray × Nat} : ∀ u ∈ callC x, u.oneCell' = true := by
  intro u hu
  simp only [callC, List.mem_cons, List.not_mem_nil, or_false] at hu
  rcases hu with rfl | rfl <;> rfl
theorem own_form7 {w : World} {lo : Nat} {e : TypeId} {sz : Nat} {v : Value} {n : Nat} {xs : List Value} (h : w.ownsRow lo e sz v n xs) : ∃ A c, v = .slice A n c := by
  obtain ⟨_, h⟩ := h
  rcases h with ⟨rfl, rfl⟩ | ⟨g, cap, cur, rfl, _⟩
  · exact ⟨_, _, rfl⟩
  · exact ⟨_, _, rfl⟩
theorem set_size7 (w : World) (b i : Nat) (u : Value) : (w.setCell ⟨b, i, none⟩ u).heap.size = w.heap.size := by simp [World.setCell]
theorem InAt.set {V0 W : World} {r : Ru} {A : Option Addr} {cap : Nat} {cs : List (ByteArray × Nat)} {v : Value} (h : InAt V0 W r A cap cs v) {b : Nat} (hb : V0.heap.size < b) (hn : some b ≠ v.ownBlock) (i : Nat) (u : Value) (j : Nat) (u2 : Value) : InAt V0 ((W.setCell ⟨b, i, none⟩ u).setCell ⟨b, j, none⟩ u2) r A cap cs v :=
  ⟨(h.below.setCell (p := ⟨b, i, none⟩) (show V0.heap.size ≤ b by omega) u).setCell (p := ⟨b, j, none⟩) (show V0.heap.size ≤ b by omega) u2, kept_set (kept_set h.box (by omega) i u) (by omega) j u2, h.own.kept (row := some b) (grown_set (grown_set (World.grownBy.refl W _) i u) j u2) (.inr (fun e => hn e.symm))⟩
/-- The first loop's claim. -/
abbrev L1 (w W : World) (p : Po) (A : Option Addr) (cap : Nat) (d : Dat) (t : List (ByteArray × Nat)) (N : Option Addr) : Prop := NmAt w W p A cap d ∧ NamesL W t N
set_option maxRecDepth 100000 in
set_option maxHeartbeats 16000000 in
theorem walk (p : Po) (A : Option Addr) (cap : Nat) (d : Dat) (w : World) (h : RulesL w p.rules A) (hw : PoW p) (hd : DatW d) (hTab : Tab w) :
    Calls Tryd.prog 9 #[poA p A cap, datV d] w fun e w' => e = .returned (.bool true) ∧ Below w.heap.size w w' := by
  have hb := below_of w (w.alloc (poO7 p A cap)) (datO d) (lbox w _)
  have HB : Hid (NmAt w ((w.alloc (poO7 p A cap)).alloc (datO d)) p A cap d) := Lib.hid ⟨hb, kept_alloc (World.alloc_heap_new w _) _, by simpa using World.alloc_heap_new (w.alloc (poO7 p A cap)) (datO d), h.below hb, hTab.up hb⟩
  have HL := Lib.hid (fun V hV => lives7 V hV)
  have HNM := Lib.hid (fun V => p_Names7 p.arch V)
  have HNR := Lib.hid (fun n V => p_Number7 p.arch n V)
  have HCK := Lib.hid (fun V hr ht => p_Check7 p A cap V hr ht)
  have HRI := Lib.hid (fun k hk => rise_at (sys_rise p.arch) k hk)
  clear hb h hw hd hTab
  have HW := Lib.hid (sys_w p.arch)
  obtain ⟨t, ht⟩ : ∃ t, (sysF p.arch).2.1 = t := ⟨_, rfl⟩
  rw [ht] at HNM HNR HRI HW
  have HT := Lib.hid ht
  clear ht
  obtain ⟨ck, hck⟩ : ∃ ck, checkF p = ck := ⟨_, rfl⟩
  obtain ⟨c, at_⟩ := ck
  rw [hck] at HCK
  have HCE := Lib.hid hck
  clear hck
  go_enter Tryd.func9, Tryd.ntmps9
  go_wp2_with (first
    | (go_at_call 10; (with_reducible refine (HL.out _ HB.out.tab).mono ?_); rintro e w1 ⟨rfl, hb⟩; have HB1 := Lib.hid (HB.out.up hb); clear hb; obtain ⟨x0, x1, x2, x3, x4, x5⟩ := po_cells HB1.out.po)
    | (go_at_call 18; (with_reducible refine (HNM.out _).mono ?_); rintro e w2 ⟨N, capn, rfl, hn, hb⟩; have HB2 := Lib.hid (And.intro (HB1.out.up hb) hn); clear hb hn))
  clear x0 x1 x2 x3 x4 x5
  have hlt0 : t.length ≤ 100 := HB2.out.2.1
  go_loopw [7] (fun v wr => ∃ i : Nat, 1 ≤ i ∧ (i ≤ t.length ∨ i = 1) ∧ v = .int .i64 (i : Int) ∧ L1 w wr p A cap d t N) (fun v _ => t.length - (intOf v).toNat)
  case atStart => exact ⟨1, Nat.le_refl _, .inr rfl, rfl, HB2.out⟩
  case round =>
    obtain ⟨i, hi1, hi2, rfl, hbw⟩ := hrel
    by_cases hil : i < t.length
    · have hil' : (i : Int) < (t.length : Int) := by omega
      have hwi : IntKind.i64.wrap ((i : Int) + 1) = ((i + 1 : Nat) : Int) := by rw [IntWalk.i64_in _ (by omega)]; omega
      obtain ⟨j, hj⟩ : ∃ j, j + 1 = i := ⟨i - 1, by omega⟩
      have hsub : IntKind.i64.wrap ((i : Int) - 1) = ((j : Nat) : Int) := by rw [IntWalk.i64_in _ (by omega)]; omega
      have hjl : j < t.length := by omega
      have hjl' : (j : Int) < (t.length : Int) := by omega
      obtain ⟨tb, rfl, _, _⟩ := hbw.2.2 i hil
      have r1 := HRI.out j hjl
      have r2 := HRI.out i hil
      have HX : Hid (((t.getD j (⟨#[]⟩, 0)).2 : Int) < ((t.getD i (⟨#[]⟩, 0)).2 : Int)) := Lib.hid (by have := r1.2.2 (by omega); rw [hj] at this; omega)
      have HN1 : Hid (∀ V, Calls Tryd.prog 20 #[.string p.arch, .string (t.getD j (⟨#[]⟩, 0)).1] V fun e w' => e = .returned (.tuple #[.int .u32 ((t.getD j (⟨#[]⟩, 0)).2 : Int), .bool true]) ∧ Below V.heap.size V w') := Lib.hid (fun V => by have := HNR.out (t.getD j (⟨#[]⟩, 0)).1 V; rw [r1.1, r1.2.1] at this; exact this)
      have HN2 : Hid (∀ V, Calls Tryd.prog 20 #[.string p.arch, .string (t.getD i (⟨#[]⟩, 0)).1] V fun e w' => e = .returned (.tuple #[.int .u32 ((t.getD i (⟨#[]⟩, 0)).2 : Int), .bool true]) ∧ Below V.heap.size V w') := Lib.hid (fun V => by have := HNR.out (t.getD i (⟨#[]⟩, 0)).1 V; rw [r2.1, r2.2.1] at this; exact this)
      have HC1 := Lib.hid (fun W (hW : NamesL W t (some ⟨tb, 0, none⟩)) => names_at hW j hjl)
      have HC2 := Lib.hid (fun W (hW : NamesL W t (some ⟨tb, 0, none⟩)) => names_at hW i hil)
      have HV := Lib.hid hbw
      have HJ := Lib.hid hj
      clear hbw HB HB1 HB2 r1 r2 hj hi1 hi2
      generalize t.getD j (⟨#[]⟩, 0) = a at HX HN1 HC1
      generalize t.getD i (⟨#[]⟩, 0) = b at HX HN2 HC2
      go_wp2
      refine wp_region_held_drew (S := fun W' => L1 w W' p A cap d t (some ⟨tb, 0, none⟩)) (by kernel_rfl) ⟨HV.out.1.drew, NamesL.drew HV.out.2⟩ (fun hHeld => ?_)
      have HD0 : Hid (L1 w wr.drew p A cap d t (some ⟨tb, 0, none⟩)) := Lib.hid ⟨HV.out.1.drew, NamesL.drew HV.out.2⟩
      generalize wr.drew = Y1 at HD0 hHeld ⊢
      clear hHeld
      have hHeld := HD0.out
      refine wpAnyH_take (i := 0) (v := ?_) rfl (by kernel_rfl) (by kernel_rfl) (by kernel_rfl) (fun _ _ _ h => h) (Or.inl ⟨by rfl, ?_⟩) (by assumption) ?_
      rotate_left
      · intro wS hSw
        (have q0 := HC1.out _ hSw.2; obtain ⟨p0, p1, p2, p3, p4, p5⟩ := po_cells hSw.1.po)
        go_simp
        all_goals with_reducible rfl
      (try simp only [List.getElem_toArray, List.getElem_cons_zero, List.getElem_cons_succ, Act.put, List.setIfInBounds_toArray, List.set_cons_zero, List.set_cons_succ])
      refine wpAnyH_take (i := 1) (v := ?_) rfl (by kernel_rfl) (by kernel_rfl) (by kernel_rfl) (fun _ _ _ h => h) (Or.inl ⟨by rfl, ?_⟩) (by assumption) ?_
      rotate_left
      · intro wS hSw
        (have q0 := HC1.out _ hSw.2; obtain ⟨p0, p1, p2, p3, p4, p5⟩ := po_cells hSw.1.po)
        go_simp
        all_goals with_reducible rfl
      (try simp only [List.getElem_toArray, List.getElem_cons_zero, List.getElem_cons_succ, Act.put, List.setIfInBounds_toArray, List.set_cons_zero, List.set_cons_succ])
      refine wpAnyH_take (i := 2) (v := ?_) rfl (by kernel_rfl) (by kernel_rfl) (by kernel_rfl) (fun _ _ _ h => h) (Or.inl ⟨by rfl, ?_⟩) (by assumption) ?_
      rotate_left
      · intro wS hSw
        (have q0 := HC1.out _ hSw.2; obtain ⟨p0, p1, p2, p3, p4, p5⟩ := po_cells hSw.1.po)
        go_simp
        all_goals with_reducible rfl
      (try simp only [List.getElem_toArray, List.getElem_cons_zero, List.getElem_cons_succ, Act.put, List.setIfInBounds_toArray, List.set_cons_zero, List.set_cons_succ])
      refine wpAnyH_take (i := 3) (v := ?_) rfl (by kernel_rfl) (by kernel_rfl) (by kernel_rfl) (fun _ _ _ h => h) (Or.inl ⟨by rfl, ?_⟩) (by assumption) ?_
      rotate_left
      · intro wS hSw
        (have q0 := HC1.out _ hSw.2; obtain ⟨p0, p1, p2, p3, p4, p5⟩ := po_cells hSw.1.po)
        go_simp
        all_goals with_reducible rfl
      (try simp only [List.getElem_toArray, List.getElem_cons_zero, List.getElem_cons_succ, Act.put, List.setIfInBounds_toArray, List.set_cons_zero, List.set_cons_succ])
      refine wpAnyH_take (i := 4) (v := ?_) rfl (by kernel_rfl) (by kernel_rfl) (by kernel_rfl) (fun _ _ _ h => h) (Or.inl ⟨by rfl, ?_⟩) (by assumption) ?_
      rotate_left
      · intro wS hSw
        (have q0 := HC1.out _ hSw.2; obtain ⟨p0, p1, p2, p3, p4, p5⟩ := po_cells hSw.1.po)
        go_simp
        all_goals with_reducible rfl
      (try simp only [List.getElem_toArray, List.getElem_cons_zero, List.getElem_cons_succ, Act.put, List.setIfInBounds_toArray, List.set_cons_zero, List.set_cons_succ])
      refine wpAnyH_take (i := 5) (v := ?_) rfl (by kernel_rfl) (by kernel_rfl) (by kernel_rfl) (fun _ _ _ h => h) (Or.inl ⟨by rfl, ?_⟩) (by assumption) ?_
      rotate_left
      · intro wS hSw
        (have q0 := HC1.out _ hSw.2; obtain ⟨p0, p1, p2, p3, p4, p5⟩ := po_cells hSw.1.po)
        go_simp
        all_goals with_reducible rfl
      (try simp only [List.getElem_toArray, List.getElem_cons_zero, List.getElem_cons_succ, Act.put, List.setIfInBounds_toArray, List.set_cons_zero, List.set_cons_succ])
      refine wpAnyH_take (i := 6) (v := ?_) rfl (by kernel_rfl) (by kernel_rfl) (by kernel_rfl) (fun _ _ _ h => h) (Or.inl ⟨by rfl, ?_⟩) (by assumption) ?_
      rotate_left
      · intro wS hSw
        (have q0 := HC1.out _ hSw.2; obtain ⟨p0, p1, p2, p3, p4, p5⟩ := po_cells hSw.1.po)
        go_simp
        all_goals with_reducible rfl
      (try simp only [List.getElem_toArray, List.getElem_cons_zero, List.getElem_cons_succ, Act.put, List.setIfInBounds_toArray, List.set_cons_zero, List.set_cons_succ])
      refine held_one (i := 7) (by kernel_rfl) rfl (fun K hK => ?_)
      go_simp
      go_at_call 20
      refine (HN1.out _).mono ?_
      rintro e w4 ⟨rfl, hb3⟩
      have HE0 := Lib.hid (show L1 w w4 p A cap d t (some ⟨tb, 0, none⟩) from ⟨NmAt.up hHeld.1 hb3, hHeld.2.below hb3⟩)
      refine hK.out _ _ HE0.out (fun hH2 => ?_)
      clear hK K hHeld hb3 hH2 HD0
      (try simp only [Act.put, List.setIfInBounds_toArray, List.set_cons_zero, List.set_cons_succ, List.getElem_toArray, List.getElem_cons_zero, List.getElem_cons_succ])
      refine wpAnyH_take (i := 8) (v := ?_) rfl (by kernel_rfl) (by kernel_rfl) (by kernel_rfl) (fun _ _ _ h => h) (Or.inl ⟨by rfl, ?_⟩) (by assumption) ?_
      rotate_left
      · intro wS hSw
        (skip)
        go_simp
        all_goals with_reducible rfl
      (try simp only [List.getElem_toArray, List.getElem_cons_zero, List.getElem_cons_succ, Act.put, List.setIfInBounds_toArray, List.set_cons_zero, List.set_cons_succ])
      refine wpAnyH_take (i := 9) (v := ?_) rfl (by kernel_rfl) (by kernel_rfl) (by kernel_rfl) (fun _ _ _ h => h) (Or.inl ⟨by rfl, ?_⟩) (by assumption) ?_
      rotate_left
      · intro wS hSw
        (skip)
        go_simp
        all_goals with_reducible rfl
      (try simp only [List.getElem_toArray, List.getElem_cons_zero, List.getElem_cons_succ, Act.put, List.setIfInBounds_toArray, List.set_cons_zero, List.set_cons_succ])
      refine wpAnyH_take (i := 10) (v := ?_) rfl (by kernel_rfl) (by kernel_rfl) (by kernel_rfl) (fun _ _ _ h => h) (Or.inl ⟨by rfl, ?_⟩) (by assumption) ?_
      rotate_left
      · intro wS hSw
        (skip)
        go_simp
        all_goals with_reducible rfl
      (try simp only [List.getElem_toArray, List.getElem_cons_zero, List.getElem_cons_succ, Act.put, List.setIfInBounds_toArray, List.set_cons_zero, List.set_cons_succ])
      refine wpAnyH_take (i := 11) (v := ?_) rfl (by kernel_rfl) (by kernel_rfl) (by kernel_rfl) (fun _ _ _ h => h) (Or.inl ⟨by rfl, ?_⟩) (by assumption) ?_
      rotate_left
      · intro wS hSw
        (skip)
        go_simp
        all_goals with_reducible rfl
      (try simp only [List.getElem_toArray, List.getElem_cons_zero, List.getElem_cons_succ, Act.put, List.setIfInBounds_toArray, List.set_cons_zero, List.set_cons_succ])
      refine wpAnyH_take (i := 12) (v := ?_) rfl (by kernel_rfl) (by kernel_rfl) (by kernel_rfl) (fun _ _ _ h => h) (Or.inl ⟨by rfl, ?_⟩) (by assumption) ?_
      rotate_left
      · intro wS hSw
        (skip)
        go_simp
        all_goals with_reducible rfl
      (try simp only [List.getElem_toArray, List.getElem_cons_zero, List.getElem_cons_succ, Act.put, List.setIfInBounds_toArray, List.set_cons_zero, List.set_cons_succ])
      refine wpAnyH_done (by kernel_rfl) ?_ _
      have HV4 := HE0
      clear HE0 HV
      go_wp2
      refine wp_region_held_drew (S := fun W' => L1 w W' p A cap d t (some ⟨tb, 0, none⟩)) (by kernel_rfl) ⟨HV4.out.1.drew, NamesL.drew HV4.out.2⟩ (fun hHeld => ?_)
      have HD0 : Hid (L1 w w4.drew p A cap d t (some ⟨tb, 0, none⟩)) := Lib.hid ⟨HV4.out.1.drew, NamesL.drew HV4.out.2⟩
      generalize w4.drew = Y2 at HD0 hHeld ⊢
      clear hHeld
      have hHeld := HD0.out
      refine wpAnyH_take (i := 0) (v := ?_) rfl (by kernel_rfl) (by kernel_rfl) (by kernel_rfl) (fun _ _ _ h => h) (Or.inl ⟨by rfl, ?_⟩) (by assumption) ?_
      rotate_left
      · intro wS hSw
        (have q0 := HC2.out _ hSw.2; obtain ⟨p0, p1, p2, p3, p4, p5⟩ := po_cells hSw.1.po)
        go_simp
        all_goals with_reducible rfl
      (try simp only [List.getElem_toArray, List.getElem_cons_zero, List.getElem_cons_succ, Act.put, List.setIfInBounds_toArray, List.set_cons_zero, List.set_cons_succ])
      refine wpAnyH_take (i := 1) (v := ?_) rfl (by kernel_rfl) (by kernel_rfl) (by kernel_rfl) (fun _ _ _ h => h) (Or.inl ⟨by rfl, ?_⟩) (by assumption) ?_
      rotate_left
      · intro wS hSw
        (have q0 := HC2.out _ hSw.2; obtain ⟨p0, p1, p2, p3, p4, p5⟩ := po_cells hSw.1.po)
        go_simp
        all_goals with_reducible rfl
      (try simp only [List.getElem_toArray, List.getElem_cons_zero, List.getElem_cons_succ, Act.put, List.setIfInBounds_toArray, List.set_cons_zero, List.set_cons_succ])
      refine wpAnyH_take (i := 2) (v := ?_) rfl (by kernel_rfl) (by kernel_rfl) (by kernel_rfl) (fun _ _ _ h => h) (Or.inl ⟨by rfl, ?_⟩) (by assumption) ?_
      rotate_left
      · intro wS hSw
        (have q0 := HC2.out _ hSw.2; obtain ⟨p0, p1, p2, p3, p4, p5⟩ := po_cells hSw.1.po)
        go_simp
        all_goals with_reducible rfl
      (try simp only [List.getElem_toArray, List.getElem_cons_zero, List.getElem_cons_succ, Act.put, List.setIfInBounds_toArray, List.set_cons_zero, List.set_cons_succ])
      refine wpAnyH_take (i := 3) (v := ?_) rfl (by kernel_rfl) (by kernel_rfl) (by kernel_rfl) (fun _ _ _ h => h) (Or.inl ⟨by rfl, ?_⟩) (by assumption) ?_
      rotate_left
      · intro wS hSw
        (have q0 := HC2.out _ hSw.2; obtain ⟨p0, p1, p2, p3, p4, p5⟩ := po_cells hSw.1.po)
        go_simp
        all_goals with_reducible rfl
      (try simp only [List.getElem_toArray, List.getElem_cons_zero, List.getElem_cons_succ, Act.put, List.setIfInBounds_toArray, List.set_cons_zero, List.set_cons_succ])
      refine wpAnyH_take (i := 4) (v := ?_) rfl (by kernel_rfl) (by kernel_rfl) (by kernel_rfl) (fun _ _ _ h => h) (Or.inl ⟨by rfl, ?_⟩) (by assumption) ?_
      rotate_left
      · intro wS hSw
        (have q0 := HC2.out _ hSw.2; obtain ⟨p0, p1, p2, p3, p4, p5⟩ := po_cells hSw.1.po)
        go_simp
        all_goals with_reducible rfl
      (try simp only [List.getElem_toArray, List.getElem_cons_zero, List.getElem_cons_succ, Act.put, List.setIfInBounds_toArray, List.set_cons_zero, List.set_cons_succ])
      refine wpAnyH_take (i := 5) (v := ?_) rfl (by kernel_rfl) (by kernel_rfl) (by kernel_rfl) (fun _ _ _ h => h) (Or.inl ⟨by rfl, ?_⟩) (by assumption) ?_
      rotate_left
      · intro wS hSw
        (have q0 := HC2.out _ hSw.2; obtain ⟨p0, p1, p2, p3, p4, p5⟩ := po_cells hSw.1.po)
        go_simp
        all_goals with_reducible rfl
      (try simp only [List.getElem_toArray, List.getElem_cons_zero, List.getElem_cons_succ, Act.put, List.setIfInBounds_toArray, List.set_cons_zero, List.set_cons_succ])
      refine held_one (i := 6) (by kernel_rfl) rfl (fun K hK => ?_)
      go_simp
      go_at_call 20
      refine (HN2.out _).mono ?_
      rintro e w5 ⟨rfl, hb3⟩
      have HE0 := Lib.hid (show L1 w w5 p A cap d t (some ⟨tb, 0, none⟩) from ⟨NmAt.up hHeld.1 hb3, hHeld.2.below hb3⟩)
      refine hK.out _ _ HE0.out (fun hH2 => ?_)
      clear hK K hHeld hb3 hH2 HD0
      (try simp only [Act.put, List.setIfInBounds_toArray, List.set_cons_zero, List.set_cons_succ, List.getElem_toArray, List.getElem_cons_zero, List.getElem_cons_succ])
      refine wpAnyH_take (i := 7) (v := ?_) rfl (by kernel_rfl) (by kernel_rfl) (by kernel_rfl) (fun _ _ _ h => h) (Or.inl ⟨by rfl, ?_⟩) (by assumption) ?_
      rotate_left
      · intro wS hSw
        (skip)
        go_simp
        all_goals with_reducible rfl
      (try simp only [List.getElem_toArray, List.getElem_cons_zero, List.getElem_cons_succ, Act.put, List.setIfInBounds_toArray, List.set_cons_zero, List.set_cons_succ])
      refine wpAnyH_take (i := 8) (v := ?_) rfl (by kernel_rfl) (by kernel_rfl) (by kernel_rfl) (fun _ _ _ h => h) (Or.inl ⟨by rfl, ?_⟩) (by assumption) ?_
      rotate_left
      · intro wS hSw
        (skip)
        go_simp
        all_goals with_reducible rfl
      (try simp only [List.getElem_toArray, List.getElem_cons_zero, List.getElem_cons_succ, Act.put, List.setIfInBounds_toArray, List.set_cons_zero, List.set_cons_succ])
      refine wpAnyH_take (i := 9) (v := ?_) rfl (by kernel_rfl) (by kernel_rfl) (by kernel_rfl) (fun _ _ _ h => h) (Or.inl ⟨by rfl, ?_⟩) (by assumption) ?_
      rotate_left
      · intro wS hSw
        (skip)
        go_simp
        all_goals with_reducible rfl
      (try simp only [List.getElem_toArray, List.getElem_cons_zero, List.getElem_cons_succ, Act.put, List.setIfInBounds_toArray, List.set_cons_zero, List.set_cons_succ])
      refine wpAnyH_take (i := 10) (v := ?_) rfl (by kernel_rfl) (by kernel_rfl) (by kernel_rfl) (fun _ _ _ h => h) (Or.inl ⟨by rfl, ?_⟩) (by assumption) ?_
      rotate_left
      · intro wS hSw
        (skip)
        go_simp
        all_goals with_reducible rfl
      (try simp only [List.getElem_toArray, List.getElem_cons_zero, List.getElem_cons_succ, Act.put, List.setIfInBounds_toArray, List.set_cons_zero, List.set_cons_succ])
      refine wpAnyH_take (i := 11) (v := ?_) rfl (by kernel_rfl) (by kernel_rfl) (by kernel_rfl) (fun _ _ _ h => h) (Or.inl ⟨by rfl, ?_⟩) (by assumption) ?_
      rotate_left
      · intro wS hSw
        (skip)
        go_simp
        all_goals with_reducible rfl
      (try simp only [List.getElem_toArray, List.getElem_cons_zero, List.getElem_cons_succ, Act.put, List.setIfInBounds_toArray, List.set_cons_zero, List.set_cons_succ])
      refine wpAnyH_done (by kernel_rfl) ?_ _
      have HV5 := HE0
      clear HE0 HV4
      obtain ⟨an, a2⟩ := a
      obtain ⟨bn, b2⟩ := b
      have hxx : (a2 : Int) < (b2 : Int) := HX.out
      have hxd : ¬ ((b2 : Int) ≤ (a2 : Int)) := by omega
      go_wp2
      exact ⟨⟨i + 1, by omega, by omega, by go_num, HV5.out⟩, by simp [intOf]; omega⟩
    · have hil' : ¬ (i : Int) < (t.length : Int) := by omega
      have HV := Lib.hid hbw
      clear hbw hi2 HRI HNM HB HB1 HB2
      obtain ⟨x0, x1, x2, x3, x4, x5⟩ := po_cells HV.out.1.po
      by_cases hc0 : c = 0
      · subst hc0
        have q0 : ((0 : Int) != 0) = false := rfl
        have hok : (checkF p).1 = 0 := by rw [HCE.out]
        have HCK2 := Lib.hid (fun A' cap' V hr ht => check_num7 hok HT.out A' cap' V hr ht)
        have HE1 := Lib.hid (fun V hr ht => p_Eval7 p d A cap V hr ht)
        have HE2 := Lib.hid (fun A' cap' V hr ht => eval_num7 hok HT.out d A' cap' V hr ht)
        have HRU : Hid (∀ k, k < p.rules.length → ruleE t (p.rules.getD k zeroR7) = 0) := Lib.hid (by have := (check_parts hok).2.2.2.2; rw [HT.out] at this; exact this)
        have hrl : p.rules.length ≤ 512 := (check_parts hok).2.2.2.1
        clear hok HCE HT
        generalize evalF p d = ev at HE1 HE2
        go_wp2_with (go_at_call 14; (with_reducible refine (HCK.out _ HV.out.1.rules HV.out.1.tab).mono ?_); rintro e w3 ⟨rfl, hb⟩; have HB3 := Lib.hid (HV.out.1.up hb); clear hb; obtain ⟨y0, y1, y2, y3, y4, y5⟩ := po_cells HB3.out.po)
        clear y0 y1 y2 y3 y4 y5 x0 x1 x2 x3 x4 x5 q0 HV HCK
        go_loopw [15] (fun v wr => ∃ (i : Nat) (v2 : Value) (l : List Ru) (xs : List Value), i ≤ p.rules.length ∧ v = .int .i64 (i : Int) ∧ (l = (p.rules.map (numR t)).take i ∧ l.length = i) ∧ BuiltAt w3 wr p l v2 xs) (fun v _ => p.rules.length - (intOf v).toNat)
        case atStart => exact ⟨0, _, [], _, Nat.zero_le _, rfl, ⟨rfl, rfl⟩, BuiltAt.first p w3⟩
        case round =>
          obtain ⟨k, v2, l, xs, hk, rfl, hl, hB⟩ := hrel
          have hN := HB3.out.up (show Below w3.heap.size w3 wr from hB.below)
          obtain ⟨p0, p1, p2, p3, p4, p5⟩ := po_cells hN.po
          by_cases hlt : k < p.rules.length
          · have hlt' : (k : Int) < (p.rules.length : Int) := by omega
            have hwk : IntKind.i64.wrap ((k : Int) + 1) = ((k + 1 : Nat) : Int) := by rw [IntWalk.i64_in _ (by omega)]; omega
            obtain ⟨tb, o, Ac, capc, Ar, capr, rfl, hru, hh⟩ := rules_both HB3.out.rules hB.below k hlt
            have hre := HRU.out k hlt
            have hsn : (p.rules.map (numR t)).take (k + 1) = (p.rules.map (numR t)).take k ++ [numR t (p.rules.getD k zeroR7)] := by
              rw [List.take_add_one, List.getElem?_map, List.getElem?_eq_getElem hlt, List.getD_eq_getElem?_getD, List.getElem?_eq_getElem hlt]; rfl
            generalize p.rules.getD k zeroR7 = r at hru hh hre hsn
            obtain ⟨e0, e1, e2, e3, e4, e5, e6, e7, e8⟩ := RuAt.cells hh.at_
            obtain ⟨hl1, hl2⟩ := hl
            rw [← hl1] at hsn
            have HSN := Lib.hid hsn
            have HLL := Lib.hid (And.intro hl1 hl2)
            have HRP := Lib.hid (rule_parts hre)
            have HV := Lib.hid (And.intro hB (And.intro hN (And.intro hru hh)))
            clear hsn hl1 hl2 hre hB hN hru hh
            have hcl : r.calls.length ≤ 4294967296 := by
              have := calls_len HW.out r.calls [] HRP.out.2.1 List.nodup_nil (fun x hx => absurd hx (by simp))
              simpa using this
            have HCS := Lib.hid (calls_some HRP.out.2.1)
            obtain ⟨V0, hV0⟩ : ∃ V0, V0 = wr := ⟨wr, rfl⟩
            subst hV0
            have hV0s : w3.heap.size < V0.heap.size := HV.out.1.size
            go_wp2
            go_loopw [17] (fun v wr => ∃ (j : Nat) (v3 : Value) (cs : List (ByteArray × Nat)), j ≤ r.calls.length ∧ v = .int .i64 (j : Int) ∧ (cs = (r.calls.map (numC t)).take j ∧ cs.length = j) ∧ InAt V0 wr r Ar capr cs v3) (fun v _ => r.calls.length - (intOf v).toNat)
            case atStart => exact ⟨0, _, [], Nat.zero_le _, rfl, ⟨rfl, rfl⟩, InAt.first V0 r Ar capr⟩
            case round =>
              clear p0 p1 p2 p3 p4 p5 e0 e1 e2 e3 e4 e5 e6 e7 e8
              obtain ⟨j, v3, cs, hj, rfl, hcs, hI⟩ := hrel
              have hN2 := NmAt.up HV.out.2.1 (show Below V0.heap.size V0 wr from hI.below)
              obtain ⟨p0, p1, p2, p3, p4, p5⟩ := po_cells hN2.po
              obtain ⟨e0, e1, e2, e3, e4, e5, e6, e7, e8⟩ := RuAt.cells (RuHand.up HV.out.2.2.2 hI.below).at_
              by_cases hjl : j < r.calls.length
              · have hjl' : (j : Int) < (r.calls.length : Int) := by omega
                have hwj : IntKind.i64.wrap ((j : Int) + 1) = ((j + 1 : Nat) : Int) := by rw [IntWalk.i64_in _ (by omega)]; omega
                obtain ⟨tc, oc, rfl, htc, c0, c1⟩ := calls_cells (B := 0) HV.out.2.2.1.1 (on7 HV.out.1.below hI.below) j hjl
                have hsn : (r.calls.map (numC t)).take (j + 1) = (r.calls.map (numC t)).take j ++ [numC t (r.calls.getD j (⟨#[]⟩, 0))] := by
                  rw [List.take_add_one, List.getElem?_map, List.getElem?_eq_getElem hjl, List.getD_eq_getElem?_getD, List.getElem?_eq_getElem hjl]; rfl
                have hmem : r.calls.getD j (⟨#[]⟩, 0) ∈ r.calls := by rw [List.getD_eq_getElem?_getD, List.getElem?_eq_getElem hjl]; exact List.getElem_mem hjl
                obtain ⟨nn, hnn⟩ := HCS.out _ hmem
                generalize r.calls.getD j (⟨#[]⟩, 0) = c at c0 c1 hsn hnn
                obtain ⟨hc1, hc2⟩ := hcs
                rw [← hc1] at hsn
                have HSC := Lib.hid hsn
                have hcb : cs.length + 1 ≤ 4294967297 := by omega
                have HC2 := Lib.hid hc2
                have HI := Lib.hid (And.intro hI hN2)
                have hq5 : wr.heap.size + 1 = wr.heap.size + 1 := rfl
                by_cases h0 : c.1 = ⟨#[]⟩
                · have q0 : (c.1.toList == []) = true := lit_is6 h0
                  have hnc : numC t c = c := by unfold numC; rw [if_pos h0]
                  rw [hnc] at hsn
                  have HSD := Lib.hid hsn
                  have HI2 := Lib.hid (InAt.up hI (lbox wr (callCells c)))
                  have k0 := (ruQ_cells HI2.out.box).1
                  have HSZ : (wr.alloc (callCells c)).heap.size = wr.heap.size + 1 := by simp
                  have hco := call_cells7 (wr.alloc (callCells c)) c
                  rw [HSZ] at hco
                  have HCO := Lib.hid hco
                  clear hco
                  have HOW := Lib.hid (own_below HI2.out.own (lbox _ (callCells c)))
                  have hs0 : V0.heap.size < wr.heap.size := (Array.getElem?_eq_some_iff.1 hI.box).1
                  clear hsn hc1 hc2 hnn h0 hI hN2 hmem hnc
                  go_wp2_with (refine wpList_append_own _ rfl (.tmp 125) (.tmp 127) 56 rfl 68 (.agg #[.string ⟨#[]⟩, .int .u64 0]) 2 24 Tryd.underlying56 info_call7 rfl (by decide) (V0.heap.size + 1) v3 cs.length (callsC cs) rfl HOW.out ⟨wr.heap.size + 1, 0, none⟩ 1 1 (callC c) rfl rfl HCO.out call_one7 (by unfold maxLen; omega) (by omega) (by simp; omega) ?_; intro v' wd ho hg hv; obtain ⟨Av, cv, rfl⟩ := own_form7 ho; have hT := InAt.turn (c := c) HI2.out ho hg hv; have t0 := cell6 hT.2 0 (v := v3) rfl; have u0 := frozen6 hT.2 0; have HT2 := Lib.hid hT.1; clear ho hg hv hT)
                  exact ⟨⟨j + 1, _, cs ++ [c], by omega, by go_num, ⟨HSD.out.symm, by rw [List.length_append, HC2.out]; rfl⟩, HT2.out⟩, by simp [intOf]; omega⟩
                · have q0 : (c.1.toList == []) = false := lit_ne6 h0
                  have hnc : numC t c = (⟨#[]⟩, (findF t c.1).1) := by unfold numC; rw [if_neg h0]
                  have hfb := find_w c.1 HW.out
                  have hNR : Hid (∀ V, Calls Tryd.prog 20 #[.string p.arch, .string c.1] V fun e w' => e = .returned (.tuple #[.int .u32 ((findF t c.1).1 : Int), .bool true]) ∧ Below V.heap.size V w') := Lib.hid (fun V => by have := HNR.out c.1 V; rw [nr_named hnn h0] at this; exact this)
                  rw [hnc] at hsn
                  generalize (findF t c.1).1 = m at hsn hfb hNR
                  have hwm : IntKind.u64.wrap (m : Int) = (m : Int) := by rw [IntKind.wrap_u64]; omega
                  have HSD := Lib.hid hsn
                  have pp := fun o => cell6 (kept_alloc hN2.po o) 0 (v := .string p.arch) rfl
                  have HI1 := Lib.hid (And.intro (InAt.up hI (lbox wr (callCells c))) (World.alloc_heap_new wr (callCells c)))
                  have hs0 : V0.heap.size < wr.heap.size := (Array.getElem?_eq_some_iff.1 hI.box).1
                  have HNB : Hid (some wr.heap.size ≠ v3.ownBlock) := Lib.hid (fun e => by have := (hI.own.lt _ e.symm).2; omega)
                  clear hsn hc1 hc2 hnn h0 hI hN2 hmem hnc
                  go_wp2_with (first
                    | (go_at_call 20; (with_reducible refine (hNR.out _).mono ?_); rintro e w5 ⟨rfl, hb⟩; have HI3 := Lib.hid (And.intro (InAt.up HI1.out.1 hb) (keep7 HI1.out.2 hb)); have hs5 : wr.heap.size < w5.heap.size := (Array.getElem?_eq_some_iff.1 HI3.out.2).1; have d0 := cell6 HI3.out.2 0 (v := .string c.1) rfl; have d1 := cell6 HI3.out.2 1 (v := .int .u64 (c.2 : Int)) rfl; have y0 := frozen6 HI3.out.2 0; have y1 := frozen6 HI3.out.2 1; have HI4 := Lib.hid (InAt.set HI3.out.1 hs0 HNB.out 0 (.string ⟨#[]⟩) 1 (.int .u64 (m : Int))); have k0 := (ruQ_cells HI4.out.box).1; have hco := call_cells7 ((w5.setCell ⟨wr.heap.size, 0, none⟩ (.string ⟨#[]⟩)).setCell ⟨wr.heap.size, 1, none⟩ (.int .u64 (m : Int))) (⟨#[]⟩, m); rw [set_size7, set_size7] at hco; have HCO := Lib.hid hco; have HOW := Lib.hid (own_below HI4.out.own (lbox _ (callCells (⟨#[]⟩, m)))); clear hb hco)
                    |                     (refine wpList_append_own _ rfl (.tmp 125) (.tmp 127) 56 rfl 68 (.agg #[.string ⟨#[]⟩, .int .u64 0]) 2 24 Tryd.underlying56 info_call7 rfl (by decide) (V0.heap.size + 1) v3 cs.length (callsC cs) rfl HOW.out ⟨w5.heap.size, 0, none⟩ 1 1 (callC (⟨#[]⟩, m)) rfl rfl HCO.out call_one7 (by unfold maxLen; omega) (by omega) (by simp; omega) ?_; intro v' wd ho hg hv; obtain ⟨Av, cv, rfl⟩ := own_form7 ho; have hT := InAt.turn (c := (⟨#[]⟩, m)) HI4.out ho hg hv; have t0 := cell6 hT.2 0 (v := v3) rfl; have u0 := frozen6 hT.2 0; have HT2 := Lib.hid hT.1; clear ho hg hv hT))
                  exact ⟨⟨j + 1, _, cs ++ [(⟨#[]⟩, m)], by omega, by go_num, ⟨HSD.out.symm, by rw [List.length_append, HC2.out]; rfl⟩, HT2.out⟩, by simp [intOf]; omega⟩
              · have hjl' : ¬ (j : Int) < (r.calls.length : Int) := by omega
                obtain ⟨hc1, hc2⟩ := hcs
                have hcq : cs = (numR t r).calls := by rw [hc1, List.take_of_length_le (by rw [List.length_map]; omega)]; rfl
                subst hcq
                obtain ⟨A2, cap2, rfl, hcf⟩ := InAt.calls hI (fun k => k < w3.heap.size ∨ (w3.heap.size + 1 ≤ k ∧ some k ≠ v2.ownBlock)) (fun k hk => .inr ⟨by omega, fun e => by have := (HV.out.1.own.lt k e.symm).2; omega⟩)
                have hBU := BuiltAt.up HV.out.1 (show Below V0.heap.size V0 wr from hI.below)
                have k5 := cell6 hBU.box 5 (v := v2) rfl
                obtain ⟨r0, r1, r2, r3, r4, r5, r6, r7, r8⟩ := ruQ_cells hI.box
                have HBU := Lib.hid (And.intro hBU hcf)
                have HOW := Lib.hid (own_below hBU.own (lbox wr (ruO7 (numR t r) A2 cap2 Ar capr)))
                have HCO := Lib.hid (show ∀ j u, (ruL (numR t r) A2 cap2 Ar capr)[j]? = some u → (wr.alloc (ruQ r (.slice A2 (numR t r).calls.length cap2) Ar capr)).cell? ((⟨wr.heap.size, 0, none⟩ : Addr).add j) = some u from ruL_cells wr wr.heap.size rfl (numR t r) A2 cap2 Ar capr)
                have hll : l.length = k := HLL.out.2
                have hsq : w3.heap.size + 1 ≤ wr.heap.size := by have := hBU.size; omega
                clear hI hN2 hc1 hc2 hBU hcf
                go_wp2_with (refine wpList_append_own _ rfl (.tmp 131) (.tmp 133) 27 rfl 58 _ 9 104 Tryd.underlying27 info_ru7 rfl (by decide) (w3.heap.size + 1) v2 l.length xs rfl HOW.out ⟨wr.heap.size, 0, none⟩ 1 1 (ruL (numR t r) A2 cap2 Ar capr) rfl rfl HCO.out ruL_one (by unfold maxLen; omega) (by omega) (by simp; omega) ?_; intro v' wd ho hg hv; obtain ⟨Av, cv, rfl⟩ := own_form7 ho; have hT := BuiltAt.turn (x := numR t r) HBU.out.1 HBU.out.2 HV.out.2.2.1.2 ho hg hv; have t0 := cell6 hT.2 5 (v := v2) rfl; have u0 := frozen6 hT.2 5; have HT2 := Lib.hid hT.1; clear ho hg hv hT)
                have h9 := HT2.out
                rw [hll] at h9
                exact ⟨⟨k + 1, _, l ++ [numR t r], _, by omega, by go_num, ⟨HSN.out.symm, by rw [List.length_append, HLL.out.2]; rfl⟩, h9⟩, by simp [intOf]; omega⟩
          · have hlt' : ¬ (k : Int) < (p.rules.length : Int) := by omega
            obtain ⟨hl1, hl2⟩ := hl
            have hlq : l = p.rules.map (numR t) := by rw [hl1, List.take_of_length_le (by rw [List.length_map]; omega)]
            have hlen : l.length = p.rules.length := by rw [hlq, List.length_map]
            obtain ⟨A', cap', rfl, hR⟩ := BuiltAt.rules hB
            rw [hlen] at *
            rw [hlq] at hR
            have hbx : wr.heap[w3.heap.size]? = some (poQ p (.slice A' p.rules.length cap')) := by have := hB.box; rwa [hlen] at this
            obtain ⟨b0, b1, b2, b3, b4, b5⟩ := poQ_cells hbx
            have HV := Lib.hid (And.intro hN (And.intro hbx hR))
            clear hl1 hl2 hlq hlen hB hN hR hbx
            go_wp2_with (go_at_call 14; (with_reducible refine (HCK2.out _ _ _ HV.out.2.2 HV.out.1.tab).mono ?_); rintro e w6 ⟨rfl, hb⟩; have HV6 := Lib.hid (And.intro (NmAt.up HV.out.1 hb) (And.intro (keep7 HV.out.2.1 hb) (HV.out.2.2.below hb))); clear hb)
            refine wp_region_held_drew (S := fun W' => NmAt w W' p A cap d ∧ W'.heap[w3.heap.size]? = some (poQ p (.slice A' p.rules.length cap')) ∧ RulesL W' (p.rules.map (numR t)) A') (by kernel_rfl) ⟨HV6.out.1.drew, keep7 HV6.out.2.1 (below_drawn (Below.refl _ _) 1), HV6.out.2.2.below (below_drawn (Below.refl _ _) 1)⟩ (fun hHeld => ?_)
            have HD0 : Hid (NmAt w w6.drew p A cap d ∧ w6.drew.heap[w3.heap.size]? = some (poQ p (.slice A' p.rules.length cap')) ∧ RulesL w6.drew (p.rules.map (numR t)) A') := Lib.hid ⟨HV6.out.1.drew, keep7 HV6.out.2.1 (below_drawn (Below.refl _ _) 1), HV6.out.2.2.below (below_drawn (Below.refl _ _) 1)⟩
            generalize w6.drew = Y3 at HD0 hHeld ⊢
            clear hHeld
            have hHeld := HD0.out
            refine wpAnyH_take (i := 0) (v := ?_) rfl (by kernel_rfl) (by kernel_rfl) (by kernel_rfl) (fun _ _ _ h => h) (Or.inl ⟨by rfl, ?_⟩) (by assumption) ?_
            rotate_left
            · intro wS hSw
              (obtain ⟨p0, p1, p2, p3, p4, p5⟩ := po_cells hSw.1.po; obtain ⟨z0, z1, z2, z3, z4, z5, z6, z7, z8⟩ := dat_cells hSw.1.dat; obtain ⟨b0, b1, b2, b3, b4, b5⟩ := poQ_cells hSw.2.1)
              go_simp
              all_goals with_reducible rfl
            (try simp only [List.getElem_toArray, List.getElem_cons_zero, List.getElem_cons_succ, Act.put, List.setIfInBounds_toArray, List.set_cons_zero, List.set_cons_succ])
            refine wpAnyH_take (i := 1) (v := ?_) rfl (by kernel_rfl) (by kernel_rfl) (by kernel_rfl) (fun _ _ _ h => h) (Or.inl ⟨by rfl, ?_⟩) (by assumption) ?_
            rotate_left
            · intro wS hSw
              (obtain ⟨p0, p1, p2, p3, p4, p5⟩ := po_cells hSw.1.po; obtain ⟨z0, z1, z2, z3, z4, z5, z6, z7, z8⟩ := dat_cells hSw.1.dat; obtain ⟨b0, b1, b2, b3, b4, b5⟩ := poQ_cells hSw.2.1)
              go_simp
              all_goals with_reducible rfl
            (try simp only [List.getElem_toArray, List.getElem_cons_zero, List.getElem_cons_succ, Act.put, List.setIfInBounds_toArray, List.set_cons_zero, List.set_cons_succ])
            refine wpAnyH_take (i := 2) (v := ?_) rfl (by kernel_rfl) (by kernel_rfl) (by kernel_rfl) (fun _ _ _ h => h) (Or.inl ⟨by rfl, ?_⟩) (by assumption) ?_
            rotate_left
            · intro wS hSw
              (obtain ⟨p0, p1, p2, p3, p4, p5⟩ := po_cells hSw.1.po; obtain ⟨z0, z1, z2, z3, z4, z5, z6, z7, z8⟩ := dat_cells hSw.1.dat; obtain ⟨b0, b1, b2, b3, b4, b5⟩ := poQ_cells hSw.2.1)
              go_simp
              all_goals with_reducible rfl
            (try simp only [List.getElem_toArray, List.getElem_cons_zero, List.getElem_cons_succ, Act.put, List.setIfInBounds_toArray, List.set_cons_zero, List.set_cons_succ])
            refine wpAnyH_take (i := 3) (v := ?_) rfl (by kernel_rfl) (by kernel_rfl) (by kernel_rfl) (fun _ _ _ h => h) (Or.inl ⟨by rfl, ?_⟩) (by assumption) ?_
            rotate_left
            · intro wS hSw
              (obtain ⟨p0, p1, p2, p3, p4, p5⟩ := po_cells hSw.1.po; obtain ⟨z0, z1, z2, z3, z4, z5, z6, z7, z8⟩ := dat_cells hSw.1.dat; obtain ⟨b0, b1, b2, b3, b4, b5⟩ := poQ_cells hSw.2.1)
              go_simp
              all_goals with_reducible rfl
            (try simp only [List.getElem_toArray, List.getElem_cons_zero, List.getElem_cons_succ, Act.put, List.setIfInBounds_toArray, List.set_cons_zero, List.set_cons_succ])
            refine wpAnyH_take (i := 4) (v := ?_) rfl (by kernel_rfl) (by kernel_rfl) (by kernel_rfl) (fun _ _ _ h => h) (Or.inl ⟨by rfl, ?_⟩) (by assumption) ?_
            rotate_left
            · intro wS hSw
              (obtain ⟨p0, p1, p2, p3, p4, p5⟩ := po_cells hSw.1.po; obtain ⟨z0, z1, z2, z3, z4, z5, z6, z7, z8⟩ := dat_cells hSw.1.dat; obtain ⟨b0, b1, b2, b3, b4, b5⟩ := poQ_cells hSw.2.1)
              go_simp
              all_goals with_reducible rfl
            (try simp only [List.getElem_toArray, List.getElem_cons_zero, List.getElem_cons_succ, Act.put, List.setIfInBounds_toArray, List.set_cons_zero, List.set_cons_succ])
            refine wpAnyH_take (i := 5) (v := ?_) rfl (by kernel_rfl) (by kernel_rfl) (by kernel_rfl) (fun _ _ _ h => h) (Or.inl ⟨by rfl, ?_⟩) (by assumption) ?_
            rotate_left
            · intro wS hSw
              (obtain ⟨p0, p1, p2, p3, p4, p5⟩ := po_cells hSw.1.po; obtain ⟨z0, z1, z2, z3, z4, z5, z6, z7, z8⟩ := dat_cells hSw.1.dat; obtain ⟨b0, b1, b2, b3, b4, b5⟩ := poQ_cells hSw.2.1)
              go_simp
              all_goals with_reducible rfl
            (try simp only [List.getElem_toArray, List.getElem_cons_zero, List.getElem_cons_succ, Act.put, List.setIfInBounds_toArray, List.set_cons_zero, List.set_cons_succ])
            refine wpAnyH_take (i := 6) (v := ?_) rfl (by kernel_rfl) (by kernel_rfl) (by kernel_rfl) (fun _ _ _ h => h) (Or.inl ⟨by rfl, ?_⟩) (by assumption) ?_
            rotate_left
            · intro wS hSw
              (obtain ⟨p0, p1, p2, p3, p4, p5⟩ := po_cells hSw.1.po; obtain ⟨z0, z1, z2, z3, z4, z5, z6, z7, z8⟩ := dat_cells hSw.1.dat; obtain ⟨b0, b1, b2, b3, b4, b5⟩ := poQ_cells hSw.2.1)
              go_simp
              all_goals with_reducible rfl
            (try simp only [List.getElem_toArray, List.getElem_cons_zero, List.getElem_cons_succ, Act.put, List.setIfInBounds_toArray, List.set_cons_zero, List.set_cons_succ])
            refine wpAnyH_take (i := 7) (v := ?_) rfl (by kernel_rfl) (by kernel_rfl) (by kernel_rfl) (fun _ _ _ h => h) (Or.inl ⟨by rfl, ?_⟩) (by assumption) ?_
            rotate_left
            · intro wS hSw
              (obtain ⟨p0, p1, p2, p3, p4, p5⟩ := po_cells hSw.1.po; obtain ⟨z0, z1, z2, z3, z4, z5, z6, z7, z8⟩ := dat_cells hSw.1.dat; obtain ⟨b0, b1, b2, b3, b4, b5⟩ := poQ_cells hSw.2.1)
              go_simp
              all_goals with_reducible rfl
            (try simp only [List.getElem_toArray, List.getElem_cons_zero, List.getElem_cons_succ, Act.put, List.setIfInBounds_toArray, List.set_cons_zero, List.set_cons_succ])
            refine wpAnyH_take (i := 9) (v := ?_) rfl (by kernel_rfl) (by kernel_rfl) (by kernel_rfl) (fun _ _ _ h => h) (Or.inl ⟨by rfl, ?_⟩) (by assumption) ?_
            rotate_left
            · intro wS hSw
              (obtain ⟨p0, p1, p2, p3, p4, p5⟩ := po_cells hSw.1.po; obtain ⟨z0, z1, z2, z3, z4, z5, z6, z7, z8⟩ := dat_cells hSw.1.dat; obtain ⟨b0, b1, b2, b3, b4, b5⟩ := poQ_cells hSw.2.1)
              go_simp
              all_goals with_reducible rfl
            (try simp only [List.getElem_toArray, List.getElem_cons_zero, List.getElem_cons_succ, Act.put, List.setIfInBounds_toArray, List.set_cons_zero, List.set_cons_succ])
            refine wpAnyH_take (i := 10) (v := ?_) rfl (by kernel_rfl) (by kernel_rfl) (by kernel_rfl) (fun _ _ _ h => h) (Or.inl ⟨by rfl, ?_⟩) (by assumption) ?_
            rotate_left
            · intro wS hSw
              (obtain ⟨p0, p1, p2, p3, p4, p5⟩ := po_cells hSw.1.po; obtain ⟨z0, z1, z2, z3, z4, z5, z6, z7, z8⟩ := dat_cells hSw.1.dat; obtain ⟨b0, b1, b2, b3, b4, b5⟩ := poQ_cells hSw.2.1)
              go_simp
              all_goals with_reducible rfl
            (try simp only [List.getElem_toArray, List.getElem_cons_zero, List.getElem_cons_succ, Act.put, List.setIfInBounds_toArray, List.set_cons_zero, List.set_cons_succ])
            refine held_one (i := 8) (by kernel_rfl) rfl (fun K hK => ?_)
            rw [if_pos (by kernel_rfl)]
            go_simp
            go_at_call 12
            refine (HE1.out _ hHeld.1.rules hHeld.1.tab).mono ?_
            rintro e w7 ⟨rfl, hb3⟩
            have HE0 := Lib.hid (And.intro (NmAt.up hHeld.1 hb3) (And.intro (keep7 hHeld.2.1 hb3) (hHeld.2.2.below hb3)))
            refine hK.out _ _ HE0.out (fun hH2 => ?_)
            clear hK K hHeld hb3 hH2 HD0
            (try simp only [Act.put, List.setIfInBounds_toArray, List.set_cons_zero, List.set_cons_succ, List.getElem_toArray, List.getElem_cons_zero, List.getElem_cons_succ])
            refine held_one (i := 11) (by kernel_rfl) rfl (fun K hK => ?_)
            rw [if_pos (by kernel_rfl)]
            go_simp
            go_at_call 12
            refine (HE2.out _ _ _ HE0.out.2.2 HE0.out.1.tab).mono ?_
            rintro e w8 ⟨rfl, hb3⟩
            have HE8 := Lib.hid (And.intro (NmAt.up HE0.out.1 hb3) (And.intro (keep7 HE0.out.2.1 hb3) (HE0.out.2.2.below hb3)))
            refine hK.out _ _ HE8.out (fun hH2 => ?_)
            clear hK K hb3 hH2 HE0
            (try simp only [Act.put, List.setIfInBounds_toArray, List.set_cons_zero, List.set_cons_succ, List.getElem_toArray, List.getElem_cons_zero, List.getElem_cons_succ])
            refine wpAnyH_take (i := 12) (v := ?_) rfl (by kernel_rfl) (by kernel_rfl) (by kernel_rfl) (fun _ _ _ h => h) (Or.inl ⟨by rfl, ?_⟩) (by assumption) ?_
            rotate_left
            · intro wS hSw
              (skip)
              go_simp
              all_goals with_reducible rfl
            (try simp only [List.getElem_toArray, List.getElem_cons_zero, List.getElem_cons_succ, Act.put, List.setIfInBounds_toArray, List.set_cons_zero, List.set_cons_succ])
            refine wpAnyH_take (i := 13) (v := ?_) rfl (by kernel_rfl) (by kernel_rfl) (by kernel_rfl) (fun _ _ _ h => h) (Or.inl ⟨by rfl, ?_⟩) (by assumption) ?_
            rotate_left
            · intro wS hSw
              (skip)
              go_simp
              all_goals with_reducible rfl
            (try simp only [List.getElem_toArray, List.getElem_cons_zero, List.getElem_cons_succ, Act.put, List.setIfInBounds_toArray, List.set_cons_zero, List.set_cons_succ])
            refine wpAnyH_take (i := 14) (v := ?_) rfl (by kernel_rfl) (by kernel_rfl) (by kernel_rfl) (fun _ _ _ h => h) (Or.inl ⟨by rfl, ?_⟩) (by assumption) ?_
            rotate_left
            · intro wS hSw
              (skip)
              go_simp
              all_goals with_reducible rfl
            (try simp only [List.getElem_toArray, List.getElem_cons_zero, List.getElem_cons_succ, Act.put, List.setIfInBounds_toArray, List.set_cons_zero, List.set_cons_succ])
            refine wpAnyH_done (by kernel_rfl) ?_ _
            go_wp2
            go_ret
            exact ⟨rfl, HE8.out.1.below⟩
      · have q0 : (c != 0) = true := bne_iff_ne.2 hc0
        clear hc0 HCE
        go_wp2_with (go_at_call 14; (with_reducible refine (HCK.out _ HV.out.1.rules HV.out.1.tab).mono ?_); rintro e w3 ⟨rfl, hb⟩; have HB3 := Lib.hid (HV.out.1.up hb); clear hb)
        go_ret
        exact ⟨rfl, HB3.out.below⟩

/-! ### The row's step, the statement, and the card -/
theorem door_met (os : Os) (args : Array Value) : laidMetH Tryd.prog [("ravelin/secdata.rows", Rows.laid_ravelin_secdata_rows)] ((World.doorLaid Tryd.prog 400 os).forCall (fun _ _ => 0) ⟨#[], args, []⟩).memory :=
  laidMetH_of_parts3 (fuel := 8) (laidMet_of_run' 8 (by kernel_rfl) (by kernel_rfl)) (by kernel_rfl) (by kernel_rfl)

set_option maxRecDepth 100000 in
theorem lifted (os : Os) (started : os.Started) (H : Type) (enc : TypeId × Value → H) :
    ReturnsInHanded {} Tryd.checked os 9 .any (fun w args => (Rows.semNamedSpec.pre enc Tryd.prog Tryd.f9 [] false w args ∧ laidMetH Tryd.prog [("ravelin/secdata.rows", Rows.laid_ravelin_secdata_rows)] w) ∧ sizedMet enc Tryd.prog Tryd.f9 (OpenSpec.ofChange Rows.semNamedSpec) false w args)
      (Rows.semNamedSpec.post enc Tryd.prog Tryd.f9 false true false false) := by
  refine returnsInHanded_of_change_and (C := Tryd.checked) (X := fun w _ => laidMetH Tryd.prog [("ravelin/secdata.rows", Rows.laid_ravelin_secdata_rows)] w) (fun _ _ _ hh h => h.of_heap hh) own started (by kernel_rfl) Tryd.func9
    (ChangeSpec.witness_shaped (enc := enc) (C := Tryd.checked) (os := os) (X := fun w _ => laidMetH Tryd.prog [("ravelin/secdata.rows", Rows.laid_ravelin_secdata_rows)] w) false (World.doorLaid Tryd.prog 400 os) #[.agg #[.string ⟨#[]⟩, .int .i64 0, .int .u64 0, .int .i64 0, .int .u64 0, .slice none 0 0], .agg #[.int .u32 0, .int .u32 0, .int .u64 0, .int .u64 0, .int .u64 0, .int .u64 0, .int .u64 0, .int .u64 0, .int .u64 0]] 8 rfl (World.shaped_of_RefB (by kernel_rfl) (by kernel_rfl)) (by kernel_rfl) (by kernel_rfl) (by kernel_rfl) (door_met os _)) ?_
  intro W base args ds gs before hval0 hW _ _ hL _
  have hval : ∀ (j : Nat) t v, Tryd.f9.params[j]? = some t → args[j]? = some v → Value.okWide Tryd.prog W .any base t v := hval0
  have hW' := hW
  obtain ⟨p, q, hA0, hV, rfl, hfz, hnd⟩ := hW
  have hA : DataW.TrodAll enc Tryd.prog W 0 (fun _ => true) true Tryd.f9.params.toList args.toList ds p := hA0
  rw [Tryd.params9] at hA hval
  obtain ⟨v0, vs0, d0, ds0, p0, q0, hargs, rfl, rfl, h0, r0⟩ := trodAll_cons hA
  obtain ⟨v1, vs1, d1, ds1, p1, q1, rfl, rfl, rfl, h1, r1⟩ := trodAll_cons r0
  obtain ⟨rfl, rfl, rfl⟩ := trodAll_nil r1
  obtain rfl : args = #[v0, v1] := by cases args; simp_all
  obtain ⟨rfl, rfl⟩ := trodVars_none hV
  have k0 := h0
  have lt0 : ∀ x ∈ p0, x.block < W.heap.size := by obtain ⟨m, hm⟩ := k0; exact DataW.trod_lt m _ _ _ hm
  obtain ⟨q0, a0, cap0, rfl, w0, ww0⟩ := open_policy (hval 0 29 v0 rfl rfl) h0
  have k1 := h1
  have lt1 : ∀ x ∈ p1, x.block < W.heap.size := by obtain ⟨m, hm⟩ := k1; exact DataW.trod_lt m _ _ _ hm
  obtain ⟨q1, rfl, w1⟩ := open_dat (hval 1 34 v1 rfl rfl) h1
  clear hA0 hval0
  refine (walk q0 a0 cap0 q1 W w0 ww0 w1 (tab_of_laid hL)).mono fun e W' ⟨he, bel⟩ => ?_
  subst he
  exact ⟨_, rfl, _, _, _, [], _, [], hW', trodAll_mk1 (shut_bool Tryd.underlying4 _), (trodAll_cons_mk (Below.trod laidOut (by kernel_rfl) (of_decide_eq_true (by kernel_rfl)) k0 bel lt0) (trodAll_cons_mk (Below.trod laidOut (by kernel_rfl) (of_decide_eq_true (by kernel_rfl)) k1 bel lt1) trodAll_mk0)), rfl, bel.frame _, fun h => by cases h⟩

theorem over : Rows.semNamedRow.holds Tryd.pinned (OpenSpec.ofChange Rows.semNamedSpec) :=
  OpenClaim.holds_of_wide 9 Tryd.f9 rfl rfl rfl rfl rfl rfl rfl ⟨rfl, rfl, rfl, rfl, rfl⟩ rfl rfl rfl rfl rfl (by kernel_rfl) Tryd.func9 (by kernel_rfl)
    (of_decide_eq_true (by kernel_rfl)) (by unfold Func.isWrapper; first | (rw [if_pos (by decide +kernel)]; kernel_rfl) | (rw [if_neg (by decide +kernel)]; exact ⟨rfl, rfl⟩))
    (fun os started H enc _ => lifted os started H enc)

/-- The statement: the row's card, what it lists tied to the program's text. -/
theorem proved : Rows.SemNamedCardSaid :=
  Claim7.holds_tied_plain_at .later [] [.data] true Rows.semNamedCard.stood.harness Rows.semNamedCard.stood.looks
    over (fun _ h => by cases h) (by kernel_rfl) (fun _ h => by cases h) semNamed_row_tie rfl ⟨rfl, rfl⟩ (by kernel_rfl) rfl
    (fun f fn hf hfn => by
      obtain rfl : f = 9 := Option.some.inj ((show Tryd.prog.funcNamed "ravelin/ravelinlaw07.SemNamed" = some 9 by kernel_rfl).symm.trans hf) |>.symm
      obtain rfl : fn = Tryd.f9 := (Option.some.inj (Tryd.func9.symm.trans hfn)).symm
      exact ⟨by kernel_rfl, fun j t ht => by
        have hm : t ∈ Tryd.f9.params.toList := by
          have := Array.mem_of_getElem? ht
          simpa using this
        have hall : (Tryd.f9.params.toList.all fun u => !Tryd.prog.wantsStandIn u) = true := by kernel_rfl
        exact (show Tryd.prog.wantsStandIn t = false by simpa using List.all_eq_true.1 hall t hm)⟩)
    (by kernel_rfl)
end Go.Proofs.YthdmlbgejbpalaaDoor.semNamed
