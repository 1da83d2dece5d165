/-
  The program's Next of a text: a contract. Condition: the text's size.
-/
import Derived.Test.YtgeapkjegemkeaaGreatDoorPLexNext
namespace Go.Proofs.YtgeapkjegemkeaaGreatDoor
open Go Go.RowKit
set_option linter.unusedSimpArgs false
set_option linter.unusedVariables false

set_option maxRecDepth 100000 in
theorem tok_behind {s : ByteArray} {i : Nat} (hi : i ≤ s.size) (he : (tokF s i).err = 0) : (tokF s i).pos + (tokF s i).text.size = (tokF s i).next ∧ (tokF s i).next ≤ s.size := by
  by_cases hk : (tokF s i).kind = 1
  · unfold tokF at he hk ⊢
    by_cases h0 : i = s.size
    · rw [if_pos h0]; exact ⟨rfl, hi⟩
    · rw [if_neg h0] at he hk
      split at hk
      · split at hk <;> cases hk
      · split at hk
        · split at hk <;> cases hk
        · split at hk <;> cases hk
  · have := tok_goes hi he hk
    rw [this.2.2.2, this.2.2.1, size_extract5 s _ _ this.2.1]
    omega
set_option maxRecDepth 100000 in
theorem tok_bad {s : ByteArray} {i : Nat} (he : (tokF s i).err ≠ 0) : tokF s i = Nx.fail i (tokF s i).err := by
  unfold tokF at he ⊢
  split
  · rename_i h0; rw [if_pos h0] at he; exact absurd rfl he
  · rename_i h0
    rw [if_neg h0] at he
    split
    · rename_i h1
      rw [if_pos h1] at he
      split
      · rfl
      · rename_i h2; rw [if_neg h2] at he; exact absurd rfl he
    · rename_i h1
      rw [if_neg h1] at he
      split
      · rename_i h2
        rw [if_pos h2] at he
        split
        · rfl
        · rename_i h3; rw [if_neg h3] at he; exact absurd rfl he
      · rename_i h2
        rw [if_neg h2] at he
        split
        · rfl
        · rename_i h3; rw [if_neg h3] at he; exact absurd rfl he
set_option maxRecDepth 100000 in
theorem lbox_at5 {B : Nat} (w : World) (o : Obj) (h : B ≤ w.heap.size) : Below B w (w.alloc o) := (Below.refl _ _).alloc h o
set_option maxRecDepth 100000 in
theorem p_behind (kind : Int) (text : ByteArray) (num : Nat) (pos : Nat) (hp : pos + text.size ≤ 65536) (w : World) : Calls Tryz.prog 106 #[.agg #[.int .i64 kind, .string text, .int .u64 (num : Int), .int .i64 (pos : Int)]] w fun e w' => e = .returned (.int .i64 ((pos + text.size : Nat) : Int)) ∧ Below w.heap.size w w' := by
  have hw : IntKind.i64.wrap ((pos : Int) + (text.size : Int)) = ((pos + text.size : Nat) : Int) := by rw [IntWalk.i64_in _ (by omega)] <;> omega
  go_enter Tryz.func106, Tryz.ntmps106
  go_wp2
  go_ret
  exact ⟨by go_num, lbox w _⟩
/-- A token's cells at the head of a block. -/
def Tk (W : World) (b : Nat) (kind : Int) (text : ByteArray) (num pos : Nat) : Prop := W.cell? ⟨b, 0, none⟩ = some (.int .i64 kind) ∧ W.cell? ⟨b, 1, none⟩ = some (.string text) ∧ W.cell? ⟨b, 2, none⟩ = some (.int .u64 (num : Int)) ∧ W.cell? ⟨b, 3, none⟩ = some (.int .i64 (pos : Int))
set_option maxRecDepth 100000 in
theorem Tk.below {W W' : World} {b : Nat} {kind : Int} {text : ByteArray} {num pos : Nat} (h : Tk W b kind text num pos) (hb : Below W.heap.size W W') : Tk W' b kind text num pos :=
  ⟨(hb.cell (p := ⟨b, 0, none⟩) (cell_lt h.1)).trans h.1, (hb.cell (p := ⟨b, 1, none⟩) (cell_lt h.1)).trans h.2.1, (hb.cell (p := ⟨b, 2, none⟩) (cell_lt h.1)).trans h.2.2.1, (hb.cell (p := ⟨b, 3, none⟩) (cell_lt h.1)).trans h.2.2.2⟩
set_option maxRecDepth 100000 in
theorem Tk.set {W : World} {b : Nat} {kind : Int} {text : ByteArray} {num pos : Nat} (h : Tk W b kind text num pos) {c : Nat} (hc : c ≠ b) (i : Nat) (v : Value) : Tk (W.setCell ⟨c, i, none⟩ v) b kind text num pos := by
  have ne : ∀ j, (⟨c, i, none⟩ : Addr) ≠ ⟨b, j, none⟩ := fun j e => hc (congrArg Addr.block e)
  exact ⟨(World.cell?_setCell_other (h := ne 0) ..).trans h.1, (World.cell?_setCell_other (h := ne 1) ..).trans h.2.1, (World.cell?_setCell_other (h := ne 2) ..).trans h.2.2.1, (World.cell?_setCell_other (h := ne 3) ..).trans h.2.2.2⟩
set_option maxRecDepth 100000 in
theorem Tk.new (W : World) (kind : Int) (text : ByteArray) (num pos : Nat) : Tk (W.alloc (.cells #[.int .i64 kind, .string text, .int .u64 (num : Int), .int .i64 (pos : Int)] 77)) W.heap.size kind text num pos := ⟨by simp, by simp, by simp, by simp⟩
/-- What Next answers, as a value. -/
abbrev nextP (kind : Int) (text : ByteArray) (num pos next : Nat) (err : Int) (w : World) (e : Ending) (w' : World) : Prop := e = .returned (.tuple #[.agg #[.int .i64 kind, .string text, .int .u64 (num : Int), .int .i64 (pos : Int)], .int .i64 (next : Int), .int .i64 err]) ∧ Below w.heap.size w w'
set_option maxRecDepth 100000 in
theorem p_Next_long (s : ByteArray) (p : Int) (h : 65536 < s.size) (w : World) : Calls Tryz.prog 77 #[.string s, .int .i64 p] w (nextP 0 ⟨#[]⟩ 0 0 0 54 w) := by
  have h' : (65536 : Int) < (s.size : Int) := by omega
  go_enter Tryz.func77, Tryz.ntmps77
  go_wp2
  exact bodyPost_ret (v := .tuple #[.agg #[.int .i64 0, .string ⟨#[]⟩, .int .u64 0, .int .i64 0], .int .i64 0, .int .i64 54]) (by simp [results, Tryz.results77, go_sem]) rfl ⟨rfl, lbox w _⟩
set_option maxRecDepth 100000 in
theorem p_Next_out (s : ByteArray) (p : Int) (hs : s.size ≤ 65536) (h : p < 0 ∨ (s.size : Int) < p) (w : World) : Calls Tryz.prog 77 #[.string s, .int .i64 p] w (nextP 0 ⟨#[]⟩ 0 0 0 1 w) := by
  have h' : ¬ (65536 : Int) < (s.size : Int) := by omega
  rcases h with h | h
  · go_enter Tryz.func77, Tryz.ntmps77
    go_wp2
    exact bodyPost_ret (v := .tuple #[.agg #[.int .i64 0, .string ⟨#[]⟩, .int .u64 0, .int .i64 0], .int .i64 0, .int .i64 1]) (by simp [results, Tryz.results77, go_sem]) rfl ⟨rfl, lbox w _⟩
  · have h0 : ¬ p < 0 := by omega
    go_enter Tryz.func77, Tryz.ntmps77
    go_wp2
    exact bodyPost_ret (v := .tuple #[.agg #[.int .i64 0, .string ⟨#[]⟩, .int .u64 0, .int .i64 0], .int .i64 0, .int .i64 1]) (by simp [results, Tryz.results77, go_sem]) rfl ⟨rfl, lbox w _⟩
set_option maxHeartbeats 1000000 in
set_option maxRecDepth 100000 in
theorem p_Next_in (s : ByteArray) (i : Nat) (hs : s.size ≤ 65536) (hi : i ≤ s.size) {kind : Int} {text : ByteArray} {num pos next : Nat} {err : Int} (hx : nextF s (i : Int) = ⟨kind, text, num, pos, next, err⟩) (w : World) :
    Calls Tryz.prog 77 #[.string s, .int .i64 (i : Int)] w (nextP kind text num pos next err w) := by
  have hm : s.size ≤ maxLen := by unfold maxLen; omega
  rw [next_in hs hi] at hx
  have hk := skip_le (byt s) s.size i hi
  have HK := Lib.hid (p_gap s hm i hi)
  have h' : ¬ (65536 : Int) < (s.size : Int) := by omega
  have hn1 : ¬ (i : Int) < 0 := by omega
  have hn2 : ¬ (s.size : Int) < (i : Int) := by omega
  generalize skipF (byt s) s.size i = k at hx hk HK
  have HT : Hid (∀ w, Calls Tryz.prog 105 #[.string s, .int .i64 (k : Int)] w fun e w' => e = .returned (.tuple #[.agg #[.int .i64 kind, .string text, .int .u64 (num : Int), .int .i64 (pos : Int)], .int .i64 err]) ∧ Below w.heap.size w w') := Lib.hid fun w => by
    have := p_tokenAt s hs k hk w
    rw [hx] at this; exact this
  have hgood := fun h => tok_behind hk h
  have hbad := fun h => tok_bad (s := s) (i := k) h
  rw [hx] at hgood hbad
  simp only at hgood hbad
  clear hx
  by_cases he : err = 0
  · subst he
    have hg := hgood rfl
    have HBh := Lib.hid (fun w => p_behind kind text num pos (by omega) w)
    rw [hg.1] at HBh
    clear hgood hbad hg
    go_enter Tryz.func77, Tryz.ntmps77
    go_wp2_with (first
      | (go_at_call 104; (with_reducible refine (HK.out _).mono ?_); rintro e w1 ⟨rfl, hb1⟩; have HB1 := Lib.hid hb1; clear hb1)
      | (go_at_call 105; (with_reducible refine (HT.out _).mono ?_); rintro e w2 ⟨rfl, hb2⟩; have HB2 := Lib.hid (HB1.out.trans (hb2.mono HB1.out.size)); clear hb2))
    have hlt : w.heap.size < w2.heap.size := by have := HB2.out.size; simp at this; omega
    have HT2 := Lib.hid (Tk.new w2 kind text num pos)
    have HB3 := Lib.hid (HB2.out.trans (lbox_at5 w2 (.cells #[.int .i64 kind, .string text, .int .u64 (num : Int), .int .i64 (pos : Int)] 77) HB2.out.size))
    generalize w2.alloc (.cells #[.int .i64 kind, .string text, .int .u64 (num : Int), .int .i64 (pos : Int)] 77) = W3 at HT2 HB3 ⊢
    generalize w2.heap.size = b2 at hlt HT2 ⊢
    clear HB1 HB2 HK HT
    refine wp_region_held_drew (S := fun W' => Tk W' b2 kind text num pos) (by kernel_rfl) HT2.out (fun hHeld => ?_)
    have HB4 := Lib.hid (below_drawn HB3.out 1)
    have HT4 : Hid (Tk W3.drew b2 kind text num pos) := Lib.hid HT2.out
    generalize hY : W3.drew = Y at HT4 ⊢
    have HBY : Hid (Below (w.alloc tokO).heap.size (w.alloc tokO) Y) := Lib.hid (hY ▸ HB4.out)
    clear HB3 HB4 HT2 hY
    refine wpAnyH_take (i := 0) (v := ?_) rfl (by kernel_rfl) (by kernel_rfl) (by kernel_rfl) (fun _ _ _ h => h) (Or.inl ⟨by rfl, ?_⟩) (by assumption) ?_
    rotate_left
    · intro wS hSw
      (obtain ⟨i0, i1, i2, i3⟩ := hSw)
      go_simp
      all_goals with_reducible rfl
    (try simp only [List.getElem_toArray, List.getElem_cons_zero, List.getElem_cons_succ, Act.put, List.setIfInBounds_toArray, List.set_cons_zero, List.set_cons_succ])
    refine wpAnyH_take (i := 1) (v := ?_) rfl (by kernel_rfl) (by kernel_rfl) (by kernel_rfl) (fun _ _ _ h => h) (Or.inl ⟨by rfl, ?_⟩) (by assumption) ?_
    rotate_left
    · intro wS hSw
      (obtain ⟨i0, i1, i2, i3⟩ := hSw)
      go_simp
      all_goals with_reducible rfl
    (try simp only [List.getElem_toArray, List.getElem_cons_zero, List.getElem_cons_succ, Act.put, List.setIfInBounds_toArray, List.set_cons_zero, List.set_cons_succ])
    refine held_one (i := 2) (by kernel_rfl) rfl (fun K hK => ?_)
    go_simp
    refine (HBh.out _).mono ?_
    rintro e w5 ⟨rfl, hb5⟩
    have HT5 := Lib.hid (HT4.out.below hb5)
    have HB5 := Lib.hid (HBY.out.trans (hb5.mono HBY.out.size))
    refine hK.out _ _ HT5.out (fun hH2 => ?_)
    obtain ⟨d0, d1, d2, d3, z0, z1, z2, z3⟩ := tbox HB5.out
    clear hK K hb5 HBY HT4 hHeld
    refine held_one (i := 3) (by kernel_rfl) rfl (fun K hK => ?_)
    go_simp
    refine hK.out _ _ ((((HT5.out.set (by omega) 0 _).set (by omega) 1 _).set (by omega) 2 _).set (by omega) 3 _) (fun _ => ?_)
    clear hK K hH2
    refine wpAnyH_take (i := 4) (v := ?_) rfl (by kernel_rfl) (by kernel_rfl) (by kernel_rfl) (fun _ _ _ h => h) (Or.inl ⟨by rfl, ?_⟩) (by assumption) ?_
    rotate_left
    · intro wS hSw
      (skip)
      go_simp
      all_goals with_reducible rfl
    (try simp only [List.getElem_toArray, List.getElem_cons_zero, List.getElem_cons_succ, Act.put, List.setIfInBounds_toArray, List.set_cons_zero, List.set_cons_succ])
    refine wpAnyH_take (i := 5) (v := ?_) rfl (by kernel_rfl) (by kernel_rfl) (by kernel_rfl) (fun _ _ _ h => h) (Or.inl ⟨by rfl, ?_⟩) (by assumption) ?_
    rotate_left
    · intro wS hSw
      (skip)
      go_simp
      all_goals with_reducible rfl
    (try simp only [List.getElem_toArray, List.getElem_cons_zero, List.getElem_cons_succ, Act.put, List.setIfInBounds_toArray, List.set_cons_zero, List.set_cons_succ])
    refine wpAnyH_done (by kernel_rfl) ?_ _
    go_wp2
    exact bodyPost_ret (v := .tuple #[.agg #[.int .i64 kind, .string text, .int .u64 (num : Int), .int .i64 (pos : Int)], .int .i64 (next : Int), .int .i64 0]) (by simp [results, Tryz.results77, go_sem, d0, d1, d2, d3, World.cell?_setCell_same']) rfl ⟨rfl, tset (tup HB5.out) _ _ _ _⟩
  · have hf := hbad he
    have he2 : (err != 0) = true := bne_iff_ne.2 he
    injection hf with h1 h2 h3 h4 h5 h6
    subst h1; subst h2; subst h3; subst h4; subst h5
    clear hgood hbad h6
    go_enter Tryz.func77, Tryz.ntmps77
    go_wp2_with (first
      | (go_at_call 104; (with_reducible refine (HK.out _).mono ?_); rintro e w1 ⟨rfl, hb1⟩; have HB1 := Lib.hid hb1; clear hb1)
      | (go_at_call 105; (with_reducible refine (HT.out _).mono ?_); rintro e w2 ⟨rfl, hb2⟩; have hb3 := HB1.out.trans (hb2.mono HB1.out.size); have HB2 := Lib.hid (hb3.trans (lbox_at5 w2 (.cells #[.int .i64 0, .string ⟨#[]⟩, .int .u64 0, .int .i64 0] 77) hb3.size)); obtain ⟨d0, d1, d2, d3, z0, z1, z2, z3⟩ := tbox HB2.out; clear hb2 hb3))
    exact bodyPost_ret (v := .tuple #[.agg #[.int .i64 0, .string ⟨#[]⟩, .int .u64 0, .int .i64 0], .int .i64 (next : Int), .int .i64 err]) (by simp [results, Tryz.results77, go_sem, d0, d1, d2, d3, World.cell?_setCell_same']) rfl ⟨rfl, tset (tup HB2.out) _ _ _ _⟩
set_option maxRecDepth 100000 in
/-- Next of a text at any place. -/
theorem p_NextAt (s : ByteArray) (p : Int) {kind : Int} {text : ByteArray} {num pos next : Nat} {err : Int} (hx : nextF s p = ⟨kind, text, num, pos, next, err⟩) (w : World) :
    Calls Tryz.prog 77 #[.string s, .int .i64 p] w fun e w' => e = .returned (.tuple #[.agg #[.int .i64 kind, .string text, .int .u64 (num : Int), .int .i64 (pos : Int)], .int .i64 (next : Int), .int .i64 err]) ∧ Below w.heap.size w w' := by
  by_cases hs : 65536 < s.size
  · have h := hx
    unfold nextF at h
    rw [if_pos hs] at h
    injection h with h1 h2 h3 h4 h5 h6
    subst h1; subst h2; subst h3; subst h4; subst h5; subst h6
    exact p_Next_long s p hs w
  by_cases ho : p < 0 ∨ (s.size : Int) < p
  · have h := hx
    unfold nextF at h
    rw [if_neg hs, if_pos ho] at h
    injection h with h1 h2 h3 h4 h5 h6
    subst h1; subst h2; subst h3; subst h4; subst h5; subst h6
    exact p_Next_out s p (by omega) ho w
  · obtain ⟨i, rfl⟩ := Int.eq_ofNat_of_zero_le (show 0 ≤ p by omega)
    exact p_Next_in s i (by omega) (by omega) hx w
end Go.Proofs.YtgeapkjegemkeaaGreatDoor
