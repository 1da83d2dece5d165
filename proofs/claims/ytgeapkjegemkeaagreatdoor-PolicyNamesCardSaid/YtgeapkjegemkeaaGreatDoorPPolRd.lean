/-
  The program's reader of a policy's text in memory, and its first steps: advance, refuse: contracts. Conditions: those that each names.
-/
import Derived.Test.YtgeapkjegemkeaaGreatDoorPolMem
import Derived.Test.YtgeapkjegemkeaaGreatDoorPolPure
import Derived.Test.YtgeapkjegemkeaaGreatDoorPLexStep
import Derived.Test.YtgeapkjegemkeaaGreatDoorPolRd
import Derived.Test.YtgeapkjegemkeaaGreatDoorRegion
import Derived.StillTailTactics
import Derived.WalkLawsBesides
namespace Go.Proofs.YtgeapkjegemkeaaGreatDoor
open Go Go.RowKit
set_option linter.unusedSimpArgs false
set_option linter.unusedVariables false

/-- The program's reader: its seven cells. -/
def prV (s : ByteArray) (x : Nx) (d : Nat) : Nat → Value
  | 0 => .string s
  | 1 => .int .i64 x.kind
  | 2 => .string x.text
  | 3 => .int .u64 (x.num : Int)
  | 4 => .int .i64 (x.pos : Int)
  | 5 => .int .i64 (x.next : Int)
  | _ => .int .i64 (d : Int)
/-- It lies in block b, with x next. -/
def PAt (w : World) (b : Nat) (s : ByteArray) (x : Nx) (d : Nat) : Prop := w.rowIs b 100 7 (prV s x d)
/-- What a text is refused with. -/
abbrev noE (e : Int) (p : Nat) : Ending := .panicked [{ v := .iface 98 (.agg #[.int .i64 e, .int .i64 (p : Int)]), recovered := false }]
theorem cases7 {P : Nat → Prop} (h0 : P 0) (h1 : P 1) (h2 : P 2) (h3 : P 3) (h4 : P 4) (h5 : P 5) (h6 : P 6) : ∀ i, i < 7 → P i := by
  intro i hi
  rcases i with _ | _ | _ | _ | _ | _ | _ | i
  · exact h0
  · exact h1
  · exact h2
  · exact h3
  · exact h4
  · exact h5
  · exact h6
  · omega
section
variable {w : World} {b : Nat} {s : ByteArray} {x : Nx} {d : Nat}
theorem PAt.below {w' : World} (h : PAt w b s x d) (hb : Below w.heap.size w w') : PAt w' b s x d := rowIs_below h hb (World.rowIs.lt h)
theorem PAt.lt (h : PAt w b s x d) : b < w.heap.size := World.rowIs.lt h
theorem PAt.turn (h : PAt w b s x d) (y : Nx) : PAt ((((((w.setCell ⟨b, 1, none⟩ (.int .i64 y.kind)).setCell ⟨b, 2, none⟩ (.string y.text)).setCell ⟨b, 3, none⟩ (.int .u64 (y.num : Int))).setCell ⟨b, 4, none⟩ (.int .i64 (y.pos : Int))).setCell ⟨b, 5, none⟩ (.int .i64 (y.next : Int)))) b s y d :=
  (((((World.rowIs.set h 1 _).set 2 _).set 3 _).set 4 _).set 5 _).congr (cases7 rfl rfl rfl rfl rfl rfl rfl)
theorem PAt.within (h : PAt w b s x d) (v : Nat) : PAt (w.setCell ⟨b, 6, none⟩ (.int .i64 (v : Int))) b s x v :=
  (World.rowIs.set h 6 _).congr (cases7 rfl rfl rfl rfl rfl rfl rfl)
end
theorem heap_set1 {w : World} {B : Nat} {c : Array Value} {T : TypeId} {z : Nat × Nat} (h : w.heap[B]? = some (.cells c T z)) (i : Nat) (v : Value) :
    (w.setCell ⟨B, i, none⟩ v).heap[B]? = some (.cells (c.setIfInBounds i v) T z) := by
  unfold World.setCell
  simp only [Array.getElem?_modify, if_true, h]
  rfl
/-- A block of four cells, written over. -/
theorem heap_set4 {w : World} {B : Nat} {a b c d : Value} {T : TypeId} (h : w.heap[B]? = some (.cells #[a, b, c, d] T (0, 0))) (a' b' c' d' : Value) :
    ((((w.setCell ⟨B, 0, none⟩ a').setCell ⟨B, 1, none⟩ b').setCell ⟨B, 2, none⟩ c').setCell ⟨B, 3, none⟩ d').heap[B]? = some (.cells #[a', b', c', d'] T (0, 0)) :=
  heap_set1 (heap_set1 (heap_set1 (heap_set1 h 0 a') 1 b') 2 c') 3 d'
theorem pset {w : World} {b B : Nat} {s : ByteArray} {x : Nx} {d : Nat} (h : PAt w b s x d) (hne : b ≠ B) (a' b' c' d' : Value) : PAt ((((w.setCell ⟨B, 0, none⟩ a').setCell ⟨B, 1, none⟩ b').setCell ⟨B, 2, none⟩ c').setCell ⟨B, 3, none⟩ d') b s x d :=
  row_new (row_new (row_new (row_new h hne 0 _) hne 1 _) hne 2 _) hne 3 _
/-- What a step leaves: the reader with y next. -/
def OkP (w : World) (b : Nat) (s : ByteArray) (v : Value) (y : Nx) (d : Nat) (e : Ending) (w' : World) : Prop := e = .returned v ∧ PAt w' b s y d ∧ w.grownBy w' (some b)
def NoP (w : World) (b : Nat) (er : Int) (p : Nat) (e : Ending) (w' : World) : Prop := e = noE er p ∧ w.grownBy w' (some b)
section
variable (w : World) (b : Nat) (s : ByteArray) (x : Nx) (d : Nat) (h : PAt w b s x d)
include h
set_option maxRecDepth 100000 in
theorem pp_refuse (er : Int) : Calls Tryz.prog 60 #[.pointer (some ⟨b, 0, none⟩), .int .i64 er] w (NoP w b er x.pos) := by
  have c4 : w.cell? ⟨b, 4, none⟩ = some (.int .i64 (x.pos : Int)) := World.rowIs.cell h (i := 4) (by decide)
  clear h
  go_enter Tryz.func60, Tryz.ntmps60
  go_wp2
  exact ⟨rfl, rfl, World.grownBy.refl w _⟩
set_option maxRecDepth 100000 in
theorem pp_advance_ok {kind : Int} {text : ByteArray} {num pos next : Nat} (hx : nextF s (x.next : Int) = ⟨kind, text, num, pos, next, 0⟩) : Calls Tryz.prog 49 #[.pointer (some ⟨b, 0, none⟩)] w (OkP w b s (.tuple #[]) ⟨kind, text, num, pos, next, 0⟩ d) := by
  have c0 : w.cell? ⟨b, 0, none⟩ = some (.string s) := World.rowIs.cell h (i := 0) (by decide)
  have c5 : w.cell? ⟨b, 5, none⟩ = some (.int .i64 (x.next : Int)) := World.rowIs.cell h (i := 5) (by decide)
  have H := Lib.hid h
  have HN := Lib.hid (fun w => p_NextAt s (x.next : Int) hx w)
  have hlt := h.lt
  clear hx h
  go_enter Tryz.func49, Tryz.ntmps49
  go_wp2
  refine wp_region_held_drew (S := fun W' => PAt W' b s x d) (by kernel_rfl) H.out (fun hHeld => ?_)
  have H4 : Hid (PAt w.drew b s x d) := Lib.hid H.out
  have HBY : Hid (Below w.heap.size w w.drew) := Lib.hid (below_drawn (Below.refl _ _) 1)
  have hltY : b < w.drew.heap.size := hlt
  clear c0 c5 H hlt
  generalize w.drew = Y at H4 HBY hltY ⊢
  refine wpAnyH_take (i := 0) (v := ?_) rfl (by kernel_rfl) (by kernel_rfl) (by kernel_rfl) (fun _ _ _ h => h) (Or.inl ⟨by rfl, ?_⟩) (by assumption) ?_
  rotate_left
  · intro wS hSw
    (have i0 : wS.cell? ⟨b, 0, none⟩ = some (.string s) := World.rowIs.cell hSw (i := 0) (by decide); have i5 : wS.cell? ⟨b, 5, none⟩ = some (.int .i64 (x.next : Int)) := World.rowIs.cell hSw (i := 5) (by decide))
    go_simp
    all_goals with_reducible rfl
  (try simp only [List.getElem_toArray, List.getElem_cons_zero, List.getElem_cons_succ, Act.put, List.setIfInBounds_toArray, List.set_cons_zero, List.set_cons_succ])
  refine wpAnyH_take (i := 1) (v := ?_) rfl (by kernel_rfl) (by kernel_rfl) (by kernel_rfl) (fun _ _ _ h => h) (Or.inl ⟨by rfl, ?_⟩) (by assumption) ?_
  rotate_left
  · intro wS hSw
    (have i0 : wS.cell? ⟨b, 0, none⟩ = some (.string s) := World.rowIs.cell hSw (i := 0) (by decide); have i5 : wS.cell? ⟨b, 5, none⟩ = some (.int .i64 (x.next : Int)) := World.rowIs.cell hSw (i := 5) (by decide))
    go_simp
    all_goals with_reducible rfl
  (try simp only [List.getElem_toArray, List.getElem_cons_zero, List.getElem_cons_succ, Act.put, List.setIfInBounds_toArray, List.set_cons_zero, List.set_cons_succ])
  refine wpAnyH_take (i := 2) (v := ?_) rfl (by kernel_rfl) (by kernel_rfl) (by kernel_rfl) (fun _ _ _ h => h) (Or.inl ⟨by rfl, ?_⟩) (by assumption) ?_
  rotate_left
  · intro wS hSw
    (have i0 : wS.cell? ⟨b, 0, none⟩ = some (.string s) := World.rowIs.cell hSw (i := 0) (by decide); have i5 : wS.cell? ⟨b, 5, none⟩ = some (.int .i64 (x.next : Int)) := World.rowIs.cell hSw (i := 5) (by decide))
    go_simp
    all_goals with_reducible rfl
  (try simp only [List.getElem_toArray, List.getElem_cons_zero, List.getElem_cons_succ, Act.put, List.setIfInBounds_toArray, List.set_cons_zero, List.set_cons_succ])
  refine wpAnyH_take (i := 3) (v := ?_) rfl (by kernel_rfl) (by kernel_rfl) (by kernel_rfl) (fun _ _ _ h => h) (Or.inl ⟨by rfl, ?_⟩) (by assumption) ?_
  rotate_left
  · intro wS hSw
    (have i0 : wS.cell? ⟨b, 0, none⟩ = some (.string s) := World.rowIs.cell hSw (i := 0) (by decide); have i5 : wS.cell? ⟨b, 5, none⟩ = some (.int .i64 (x.next : Int)) := World.rowIs.cell hSw (i := 5) (by decide))
    go_simp
    all_goals with_reducible rfl
  (try simp only [List.getElem_toArray, List.getElem_cons_zero, List.getElem_cons_succ, Act.put, List.setIfInBounds_toArray, List.set_cons_zero, List.set_cons_succ])
  refine wpAnyH_take (i := 4) (v := ?_) rfl (by kernel_rfl) (by kernel_rfl) (by kernel_rfl) (fun _ _ _ h => h) (Or.inl ⟨by rfl, ?_⟩) (by assumption) ?_
  rotate_left
  · intro wS hSw
    (have i0 : wS.cell? ⟨b, 0, none⟩ = some (.string s) := World.rowIs.cell hSw (i := 0) (by decide); have i5 : wS.cell? ⟨b, 5, none⟩ = some (.int .i64 (x.next : Int)) := World.rowIs.cell hSw (i := 5) (by decide))
    go_simp
    all_goals with_reducible rfl
  (try simp only [List.getElem_toArray, List.getElem_cons_zero, List.getElem_cons_succ, Act.put, List.setIfInBounds_toArray, List.set_cons_zero, List.set_cons_succ])
  refine wpAnyH_take (i := 5) (v := ?_) rfl (by kernel_rfl) (by kernel_rfl) (by kernel_rfl) (fun _ _ _ h => h) (Or.inl ⟨by rfl, ?_⟩) (by assumption) ?_
  rotate_left
  · intro wS hSw
    (have i0 : wS.cell? ⟨b, 0, none⟩ = some (.string s) := World.rowIs.cell hSw (i := 0) (by decide); have i5 : wS.cell? ⟨b, 5, none⟩ = some (.int .i64 (x.next : Int)) := World.rowIs.cell hSw (i := 5) (by decide))
    go_simp
    all_goals with_reducible rfl
  (try simp only [List.getElem_toArray, List.getElem_cons_zero, List.getElem_cons_succ, Act.put, List.setIfInBounds_toArray, List.set_cons_zero, List.set_cons_succ])
  refine wpAnyH_take (i := 6) (v := ?_) rfl (by kernel_rfl) (by kernel_rfl) (by kernel_rfl) (fun _ _ _ h => h) (Or.inl ⟨by rfl, ?_⟩) (by assumption) ?_
  rotate_left
  · intro wS hSw
    (have i0 : wS.cell? ⟨b, 0, none⟩ = some (.string s) := World.rowIs.cell hSw (i := 0) (by decide); have i5 : wS.cell? ⟨b, 5, none⟩ = some (.int .i64 (x.next : Int)) := World.rowIs.cell hSw (i := 5) (by decide))
    go_simp
    all_goals with_reducible rfl
  (try simp only [List.getElem_toArray, List.getElem_cons_zero, List.getElem_cons_succ, Act.put, List.setIfInBounds_toArray, List.set_cons_zero, List.set_cons_succ])
  refine wpAnyH_take (i := 7) (v := ?_) rfl (by kernel_rfl) (by kernel_rfl) (by kernel_rfl) (fun _ _ _ h => h) (Or.inl ⟨by rfl, ?_⟩) (by assumption) ?_
  rotate_left
  · intro wS hSw
    (have i0 : wS.cell? ⟨b, 0, none⟩ = some (.string s) := World.rowIs.cell hSw (i := 0) (by decide); have i5 : wS.cell? ⟨b, 5, none⟩ = some (.int .i64 (x.next : Int)) := World.rowIs.cell hSw (i := 5) (by decide))
    go_simp
    all_goals with_reducible rfl
  (try simp only [List.getElem_toArray, List.getElem_cons_zero, List.getElem_cons_succ, Act.put, List.setIfInBounds_toArray, List.set_cons_zero, List.set_cons_succ])
  refine wpAnyH_ready (rs := [8, 13]) (by kernel_rfl) (by simp) (AllReadyH.cons rfl (fun K hK => ?_) (AllReadyH.cons rfl (fun K hK => ?_) AllReadyH.nil))
  · go_simp
    refine (HN.out _).mono ?_
    rintro e w5 ⟨rfl, hb5⟩
    have HT5 := Lib.hid (H4.out.below hb5)
    have HB5 := Lib.hid (HBY.out.trans (hb5.mono HBY.out.size))
    refine hK.out _ _ HT5.out (fun hH2 => ?_)
    clear hK K hb5 HBY H4 hHeld
    refine wpAnyH_take (i := 9) (v := ?_) rfl (by kernel_rfl) (by kernel_rfl) (by kernel_rfl) (fun _ _ _ h => h) (Or.inl ⟨by rfl, ?_⟩) (by assumption) ?_
    rotate_left
    · intro wS hSw
      (skip)
      go_simp
      all_goals with_reducible rfl
    (try simp only [List.getElem_toArray, List.getElem_cons_zero, List.getElem_cons_succ, Act.put, List.setIfInBounds_toArray, List.set_cons_zero, List.set_cons_succ])
    refine wpAnyH_take (i := 10) (v := ?_) rfl (by kernel_rfl) (by kernel_rfl) (by kernel_rfl) (fun _ _ _ h => h) (Or.inl ⟨by rfl, ?_⟩) (by assumption) ?_
    rotate_left
    · intro wS hSw
      (skip)
      go_simp
      all_goals with_reducible rfl
    (try simp only [List.getElem_toArray, List.getElem_cons_zero, List.getElem_cons_succ, Act.put, List.setIfInBounds_toArray, List.set_cons_zero, List.set_cons_succ])
    refine wpAnyH_take (i := 11) (v := ?_) rfl (by kernel_rfl) (by kernel_rfl) (by kernel_rfl) (fun _ _ _ h => h) (Or.inl ⟨by rfl, ?_⟩) (by assumption) ?_
    rotate_left
    · intro wS hSw
      (skip)
      go_simp
      all_goals with_reducible rfl
    (try simp only [List.getElem_toArray, List.getElem_cons_zero, List.getElem_cons_succ, Act.put, List.setIfInBounds_toArray, List.set_cons_zero, List.set_cons_succ])
    refine wpAnyH_take (i := 12) (v := ?_) rfl (by kernel_rfl) (by kernel_rfl) (by kernel_rfl) (fun _ _ _ h => h) (Or.inl ⟨by rfl, ?_⟩) (by assumption) ?_
    rotate_left
    · intro wS hSw
      (skip)
      go_simp
      all_goals with_reducible rfl
    (try simp only [List.getElem_toArray, List.getElem_cons_zero, List.getElem_cons_succ, Act.put, List.setIfInBounds_toArray, List.set_cons_zero, List.set_cons_succ])
    refine held_one (i := 13) (by kernel_rfl) rfl (fun K hK => ?_)
    go_simp
    have HT6 := Lib.hid (HT5.out.below (lbox w5 (.cells #[.int .i64 kind, .string text, .int .u64 (num : Int), .int .i64 (pos : Int)] 77)))
    refine hK.out _ _ (HT5.out.below (lbox w5 _)) (fun hH3 => ?_)
    clear hK K hH2
    refine held_one (i := 14) (by kernel_rfl) rfl (fun K hK => ?_)
    go_simp
    refine hK.out _ _ HT6.out (fun hH4 => ?_)
    clear hK K hH3
    refine wpAnyH_take (i := 15) (v := ?_) rfl (by kernel_rfl) (by kernel_rfl) (by kernel_rfl) (fun _ _ _ h => h) (Or.inl ⟨by rfl, ?_⟩) (by assumption) ?_
    rotate_left
    · intro wS hSw
      (skip)
      go_simp
      all_goals with_reducible rfl
    (try simp only [List.getElem_toArray, List.getElem_cons_zero, List.getElem_cons_succ, Act.put, List.setIfInBounds_toArray, List.set_cons_zero, List.set_cons_succ])
    refine wpAnyH_take (i := 16) (v := ?_) rfl (by kernel_rfl) (by kernel_rfl) (by kernel_rfl) (fun _ _ _ h => h) (Or.inl ⟨by rfl, ?_⟩) (by assumption) ?_
    rotate_left
    · intro wS hSw
      (skip)
      go_simp
      all_goals with_reducible rfl
    (try simp only [List.getElem_toArray, List.getElem_cons_zero, List.getElem_cons_succ, Act.put, List.setIfInBounds_toArray, List.set_cons_zero, List.set_cons_succ])
    refine wpAnyH_done (by kernel_rfl) ?_ _
    have HG := Lib.hid (grown_of_below (HB5.out.trans (lbox_at5 w5 (.cells #[.int .i64 kind, .string text, .int .u64 (num : Int), .int .i64 (pos : Int)] 77) HB5.out.size)) (some b))
    have HX := Lib.hid (World.alloc_heap_new w5 (.cells #[.int .i64 kind, .string text, .int .u64 (num : Int), .int .i64 (pos : Int)] 77))
    clear HT5 HB5 HN hH4
    generalize w5.alloc (.cells #[.int .i64 kind, .string text, .int .u64 (num : Int), .int .i64 (pos : Int)] 77) = V at HG HX HT6 ⊢
    generalize w5.heap.size = B at HX ⊢
    have d0 := cell6 HX.out 0 rfl
    have d1 := cell6 HX.out 1 rfl
    have d2 := cell6 HX.out 2 rfl
    have d3 := cell6 HX.out 3 rfl
    have z1 := World.rowIs.frozen HT6.out 1
    have z2 := World.rowIs.frozen HT6.out 2
    have z3 := World.rowIs.frozen HT6.out 3
    have z4 := World.rowIs.frozen HT6.out 4
    have z5 := World.rowIs.frozen HT6.out 5
    have e1 := World.rowIs.cell HT6.out (i := 1) (by decide)
    have e2 := World.rowIs.cell HT6.out (i := 2) (by decide)
    have e3 := World.rowIs.cell HT6.out (i := 3) (by decide)
    have e4 := World.rowIs.cell HT6.out (i := 4) (by decide)
    have e5 := World.rowIs.cell HT6.out (i := 5) (by decide)
    go_wp2
    go_end0
    exact ⟨rfl, HT6.out.turn ⟨kind, text, num, pos, next, 0⟩, grown_set (grown_set (grown_set (grown_set (grown_set HG.out 1 _) 2 _) 3 _) 4 _) 5 _⟩
  · go_simp
    have HA := Lib.hid (H4.out.below (lbox Y (.cells #[.int .i64 0, .string ⟨#[]⟩, .int .u64 0, .int .i64 0] 77)))
    have HBA := Lib.hid (HBY.out.trans (lbox_at5 Y (.cells #[.int .i64 0, .string ⟨#[]⟩, .int .u64 0, .int .i64 0] 77) HBY.out.size))
    have HXA := Lib.hid (World.alloc_heap_new Y (.cells #[.int .i64 0, .string ⟨#[]⟩, .int .u64 0, .int .i64 0] 77))
    have hBs : Y.heap.size < (Y.alloc (.cells #[.int .i64 0, .string ⟨#[]⟩, .int .u64 0, .int .i64 0] 77)).heap.size := by simp
    have hwB : w.heap.size ≤ Y.heap.size := HBY.out.size
    refine hK.out _ _ HA.out (fun hH2 => ?_)
    clear hK K HBY H4 hHeld
    generalize Y.alloc (.cells #[.int .i64 0, .string ⟨#[]⟩, .int .u64 0, .int .i64 0] 77) = Z at HA HBA HXA hBs hH2 ⊢
    generalize Y.heap.size = B at HXA hBs hwB hltY ⊢
    refine held_one (i := 8) (by kernel_rfl) rfl (fun K hK => ?_)
    go_simp
    refine (HN.out _).mono ?_
    rintro e w5 ⟨rfl, hb5⟩
    have HT5 := Lib.hid (HA.out.below hb5)
    have HB5 := Lib.hid (HBA.out.trans (hb5.mono HBA.out.size))
    have HX5 := Lib.hid ((hb5.block B hBs).trans HXA.out)
    refine hK.out _ _ HT5.out (fun hH3 => ?_)
    clear hK K hb5 HBA HA hH2 HXA
    refine wpAnyH_take (i := 9) (v := ?_) rfl (by kernel_rfl) (by kernel_rfl) (by kernel_rfl) (fun _ _ _ h => h) (Or.inl ⟨by rfl, ?_⟩) (by assumption) ?_
    rotate_left
    · intro wS hSw
      (skip)
      go_simp
      all_goals with_reducible rfl
    (try simp only [List.getElem_toArray, List.getElem_cons_zero, List.getElem_cons_succ, Act.put, List.setIfInBounds_toArray, List.set_cons_zero, List.set_cons_succ])
    refine wpAnyH_take (i := 10) (v := ?_) rfl (by kernel_rfl) (by kernel_rfl) (by kernel_rfl) (fun _ _ _ h => h) (Or.inl ⟨by rfl, ?_⟩) (by assumption) ?_
    rotate_left
    · intro wS hSw
      (skip)
      go_simp
      all_goals with_reducible rfl
    (try simp only [List.getElem_toArray, List.getElem_cons_zero, List.getElem_cons_succ, Act.put, List.setIfInBounds_toArray, List.set_cons_zero, List.set_cons_succ])
    refine wpAnyH_take (i := 11) (v := ?_) rfl (by kernel_rfl) (by kernel_rfl) (by kernel_rfl) (fun _ _ _ h => h) (Or.inl ⟨by rfl, ?_⟩) (by assumption) ?_
    rotate_left
    · intro wS hSw
      (skip)
      go_simp
      all_goals with_reducible rfl
    (try simp only [List.getElem_toArray, List.getElem_cons_zero, List.getElem_cons_succ, Act.put, List.setIfInBounds_toArray, List.set_cons_zero, List.set_cons_succ])
    refine wpAnyH_take (i := 12) (v := ?_) rfl (by kernel_rfl) (by kernel_rfl) (by kernel_rfl) (fun _ _ _ h => h) (Or.inl ⟨by rfl, ?_⟩) (by assumption) ?_
    rotate_left
    · intro wS hSw
      (skip)
      go_simp
      all_goals with_reducible rfl
    (try simp only [List.getElem_toArray, List.getElem_cons_zero, List.getElem_cons_succ, Act.put, List.setIfInBounds_toArray, List.set_cons_zero, List.set_cons_succ])
    have u0 := cell6 HX5.out 0 rfl
    have u1 := cell6 HX5.out 1 rfl
    have u2 := cell6 HX5.out 2 rfl
    have u3 := cell6 HX5.out 3 rfl
    have y0 := frozen6 HX5.out 0
    have y1 := frozen6 HX5.out 1
    have y2 := frozen6 HX5.out 2
    have y3 := frozen6 HX5.out 3
    refine held_one (i := 14) (by kernel_rfl) rfl (fun K hK => ?_)
    go_simp
    have HT6 : Hid (PAt ((((w5.setCell ⟨B, 0, none⟩ (.int .i64 kind)).setCell ⟨B, 1, none⟩ (.string text)).setCell ⟨B, 2, none⟩ (.int .u64 (num : Int))).setCell ⟨B, 3, none⟩ (.int .i64 (pos : Int))) b s x d) := Lib.hid (pset HT5.out (show b ≠ B by omega) _ _ _ _)
    refine hK.out _ _ HT6.out (fun hH4 => ?_)
    clear hK K hH3
    refine wpAnyH_take (i := 15) (v := ?_) rfl (by kernel_rfl) (by kernel_rfl) (by kernel_rfl) (fun _ _ _ h => h) (Or.inl ⟨by rfl, ?_⟩) (by assumption) ?_
    rotate_left
    · intro wS hSw
      (skip)
      go_simp
      all_goals with_reducible rfl
    (try simp only [List.getElem_toArray, List.getElem_cons_zero, List.getElem_cons_succ, Act.put, List.setIfInBounds_toArray, List.set_cons_zero, List.set_cons_succ])
    refine wpAnyH_take (i := 16) (v := ?_) rfl (by kernel_rfl) (by kernel_rfl) (by kernel_rfl) (fun _ _ _ h => h) (Or.inl ⟨by rfl, ?_⟩) (by assumption) ?_
    rotate_left
    · intro wS hSw
      (skip)
      go_simp
      all_goals with_reducible rfl
    (try simp only [List.getElem_toArray, List.getElem_cons_zero, List.getElem_cons_succ, Act.put, List.setIfInBounds_toArray, List.set_cons_zero, List.set_cons_succ])
    refine wpAnyH_done (by kernel_rfl) ?_ _
    have HG := Lib.hid (grown_new (grown_new (grown_new (grown_new (grown_of_below HB5.out (some b)) hwB 0 (.int .i64 kind)) hwB 1 (.string text)) hwB 2 (.int .u64 (num : Int))) hwB 3 (.int .i64 (pos : Int)))
    have HX := Lib.hid (heap_set4 HX5.out (.int .i64 kind) (.string text) (.int .u64 (num : Int)) (.int .i64 (pos : Int)))
    clear HT5 HB5 HX5 HN hH4 u0 u1 u2 u3 y0 y1 y2 y3
    generalize ((((w5.setCell ⟨B, 0, none⟩ (.int .i64 kind)).setCell ⟨B, 1, none⟩ (.string text)).setCell ⟨B, 2, none⟩ (.int .u64 (num : Int))).setCell ⟨B, 3, none⟩ (.int .i64 (pos : Int))) = V at HG HX HT6 ⊢
    have d0 := cell6 HX.out 0 rfl
    have d1 := cell6 HX.out 1 rfl
    have d2 := cell6 HX.out 2 rfl
    have d3 := cell6 HX.out 3 rfl
    have z1 := World.rowIs.frozen HT6.out 1
    have z2 := World.rowIs.frozen HT6.out 2
    have z3 := World.rowIs.frozen HT6.out 3
    have z4 := World.rowIs.frozen HT6.out 4
    have z5 := World.rowIs.frozen HT6.out 5
    have e1 := World.rowIs.cell HT6.out (i := 1) (by decide)
    have e2 := World.rowIs.cell HT6.out (i := 2) (by decide)
    have e3 := World.rowIs.cell HT6.out (i := 3) (by decide)
    have e4 := World.rowIs.cell HT6.out (i := 4) (by decide)
    have e5 := World.rowIs.cell HT6.out (i := 5) (by decide)
    go_wp2
    go_end0
    exact ⟨rfl, HT6.out.turn ⟨kind, text, num, pos, next, 0⟩, grown_set (grown_set (grown_set (grown_set (grown_set HG.out 1 _) 2 _) 3 _) 4 _) 5 _⟩
set_option maxRecDepth 100000 in
theorem pp_advance_no {kind : Int} {text : ByteArray} {num pos next : Nat} {err : Int} (he : err ≠ 0) (hx : nextF s (x.next : Int) = ⟨kind, text, num, pos, next, err⟩) : Calls Tryz.prog 49 #[.pointer (some ⟨b, 0, none⟩)] w (NoP w b err next) := by
  have c0 : w.cell? ⟨b, 0, none⟩ = some (.string s) := World.rowIs.cell h (i := 0) (by decide)
  have c5 : w.cell? ⟨b, 5, none⟩ = some (.int .i64 (x.next : Int)) := World.rowIs.cell h (i := 5) (by decide)
  have H := Lib.hid h
  have HN := Lib.hid (fun w => p_NextAt s (x.next : Int) hx w)
  have hlt := h.lt
  have hb : (err != 0) = true := bne_iff_ne.2 he
  clear he
  clear hx h
  go_enter Tryz.func49, Tryz.ntmps49
  go_wp2
  refine wp_region_held_drew (S := fun W' => PAt W' b s x d) (by kernel_rfl) H.out (fun hHeld => ?_)
  have H4 : Hid (PAt w.drew b s x d) := Lib.hid H.out
  have HBY : Hid (Below w.heap.size w w.drew) := Lib.hid (below_drawn (Below.refl _ _) 1)
  have hltY : b < w.drew.heap.size := hlt
  clear c0 c5 H hlt
  generalize w.drew = Y at H4 HBY hltY ⊢
  refine wpAnyH_take (i := 0) (v := ?_) rfl (by kernel_rfl) (by kernel_rfl) (by kernel_rfl) (fun _ _ _ h => h) (Or.inl ⟨by rfl, ?_⟩) (by assumption) ?_
  rotate_left
  · intro wS hSw
    (have i0 : wS.cell? ⟨b, 0, none⟩ = some (.string s) := World.rowIs.cell hSw (i := 0) (by decide); have i5 : wS.cell? ⟨b, 5, none⟩ = some (.int .i64 (x.next : Int)) := World.rowIs.cell hSw (i := 5) (by decide))
    go_simp
    all_goals with_reducible rfl
  (try simp only [List.getElem_toArray, List.getElem_cons_zero, List.getElem_cons_succ, Act.put, List.setIfInBounds_toArray, List.set_cons_zero, List.set_cons_succ])
  refine wpAnyH_take (i := 1) (v := ?_) rfl (by kernel_rfl) (by kernel_rfl) (by kernel_rfl) (fun _ _ _ h => h) (Or.inl ⟨by rfl, ?_⟩) (by assumption) ?_
  rotate_left
  · intro wS hSw
    (have i0 : wS.cell? ⟨b, 0, none⟩ = some (.string s) := World.rowIs.cell hSw (i := 0) (by decide); have i5 : wS.cell? ⟨b, 5, none⟩ = some (.int .i64 (x.next : Int)) := World.rowIs.cell hSw (i := 5) (by decide))
    go_simp
    all_goals with_reducible rfl
  (try simp only [List.getElem_toArray, List.getElem_cons_zero, List.getElem_cons_succ, Act.put, List.setIfInBounds_toArray, List.set_cons_zero, List.set_cons_succ])
  refine wpAnyH_take (i := 2) (v := ?_) rfl (by kernel_rfl) (by kernel_rfl) (by kernel_rfl) (fun _ _ _ h => h) (Or.inl ⟨by rfl, ?_⟩) (by assumption) ?_
  rotate_left
  · intro wS hSw
    (have i0 : wS.cell? ⟨b, 0, none⟩ = some (.string s) := World.rowIs.cell hSw (i := 0) (by decide); have i5 : wS.cell? ⟨b, 5, none⟩ = some (.int .i64 (x.next : Int)) := World.rowIs.cell hSw (i := 5) (by decide))
    go_simp
    all_goals with_reducible rfl
  (try simp only [List.getElem_toArray, List.getElem_cons_zero, List.getElem_cons_succ, Act.put, List.setIfInBounds_toArray, List.set_cons_zero, List.set_cons_succ])
  refine wpAnyH_take (i := 3) (v := ?_) rfl (by kernel_rfl) (by kernel_rfl) (by kernel_rfl) (fun _ _ _ h => h) (Or.inl ⟨by rfl, ?_⟩) (by assumption) ?_
  rotate_left
  · intro wS hSw
    (have i0 : wS.cell? ⟨b, 0, none⟩ = some (.string s) := World.rowIs.cell hSw (i := 0) (by decide); have i5 : wS.cell? ⟨b, 5, none⟩ = some (.int .i64 (x.next : Int)) := World.rowIs.cell hSw (i := 5) (by decide))
    go_simp
    all_goals with_reducible rfl
  (try simp only [List.getElem_toArray, List.getElem_cons_zero, List.getElem_cons_succ, Act.put, List.setIfInBounds_toArray, List.set_cons_zero, List.set_cons_succ])
  refine wpAnyH_take (i := 4) (v := ?_) rfl (by kernel_rfl) (by kernel_rfl) (by kernel_rfl) (fun _ _ _ h => h) (Or.inl ⟨by rfl, ?_⟩) (by assumption) ?_
  rotate_left
  · intro wS hSw
    (have i0 : wS.cell? ⟨b, 0, none⟩ = some (.string s) := World.rowIs.cell hSw (i := 0) (by decide); have i5 : wS.cell? ⟨b, 5, none⟩ = some (.int .i64 (x.next : Int)) := World.rowIs.cell hSw (i := 5) (by decide))
    go_simp
    all_goals with_reducible rfl
  (try simp only [List.getElem_toArray, List.getElem_cons_zero, List.getElem_cons_succ, Act.put, List.setIfInBounds_toArray, List.set_cons_zero, List.set_cons_succ])
  refine wpAnyH_take (i := 5) (v := ?_) rfl (by kernel_rfl) (by kernel_rfl) (by kernel_rfl) (fun _ _ _ h => h) (Or.inl ⟨by rfl, ?_⟩) (by assumption) ?_
  rotate_left
  · intro wS hSw
    (have i0 : wS.cell? ⟨b, 0, none⟩ = some (.string s) := World.rowIs.cell hSw (i := 0) (by decide); have i5 : wS.cell? ⟨b, 5, none⟩ = some (.int .i64 (x.next : Int)) := World.rowIs.cell hSw (i := 5) (by decide))
    go_simp
    all_goals with_reducible rfl
  (try simp only [List.getElem_toArray, List.getElem_cons_zero, List.getElem_cons_succ, Act.put, List.setIfInBounds_toArray, List.set_cons_zero, List.set_cons_succ])
  refine wpAnyH_take (i := 6) (v := ?_) rfl (by kernel_rfl) (by kernel_rfl) (by kernel_rfl) (fun _ _ _ h => h) (Or.inl ⟨by rfl, ?_⟩) (by assumption) ?_
  rotate_left
  · intro wS hSw
    (have i0 : wS.cell? ⟨b, 0, none⟩ = some (.string s) := World.rowIs.cell hSw (i := 0) (by decide); have i5 : wS.cell? ⟨b, 5, none⟩ = some (.int .i64 (x.next : Int)) := World.rowIs.cell hSw (i := 5) (by decide))
    go_simp
    all_goals with_reducible rfl
  (try simp only [List.getElem_toArray, List.getElem_cons_zero, List.getElem_cons_succ, Act.put, List.setIfInBounds_toArray, List.set_cons_zero, List.set_cons_succ])
  refine wpAnyH_take (i := 7) (v := ?_) rfl (by kernel_rfl) (by kernel_rfl) (by kernel_rfl) (fun _ _ _ h => h) (Or.inl ⟨by rfl, ?_⟩) (by assumption) ?_
  rotate_left
  · intro wS hSw
    (have i0 : wS.cell? ⟨b, 0, none⟩ = some (.string s) := World.rowIs.cell hSw (i := 0) (by decide); have i5 : wS.cell? ⟨b, 5, none⟩ = some (.int .i64 (x.next : Int)) := World.rowIs.cell hSw (i := 5) (by decide))
    go_simp
    all_goals with_reducible rfl
  (try simp only [List.getElem_toArray, List.getElem_cons_zero, List.getElem_cons_succ, Act.put, List.setIfInBounds_toArray, List.set_cons_zero, List.set_cons_succ])
  refine wpAnyH_ready (rs := [8, 13]) (by kernel_rfl) (by simp) (AllReadyH.cons rfl (fun K hK => ?_) (AllReadyH.cons rfl (fun K hK => ?_) AllReadyH.nil))
  · go_simp
    refine (HN.out _).mono ?_
    rintro e w5 ⟨rfl, hb5⟩
    have HT5 := Lib.hid (H4.out.below hb5)
    have HB5 := Lib.hid (HBY.out.trans (hb5.mono HBY.out.size))
    refine hK.out _ _ HT5.out (fun hH2 => ?_)
    clear hK K hb5 HBY H4 hHeld
    refine wpAnyH_take (i := 9) (v := ?_) rfl (by kernel_rfl) (by kernel_rfl) (by kernel_rfl) (fun _ _ _ h => h) (Or.inl ⟨by rfl, ?_⟩) (by assumption) ?_
    rotate_left
    · intro wS hSw
      (skip)
      go_simp
      all_goals with_reducible rfl
    (try simp only [List.getElem_toArray, List.getElem_cons_zero, List.getElem_cons_succ, Act.put, List.setIfInBounds_toArray, List.set_cons_zero, List.set_cons_succ])
    refine wpAnyH_take (i := 10) (v := ?_) rfl (by kernel_rfl) (by kernel_rfl) (by kernel_rfl) (fun _ _ _ h => h) (Or.inl ⟨by rfl, ?_⟩) (by assumption) ?_
    rotate_left
    · intro wS hSw
      (skip)
      go_simp
      all_goals with_reducible rfl
    (try simp only [List.getElem_toArray, List.getElem_cons_zero, List.getElem_cons_succ, Act.put, List.setIfInBounds_toArray, List.set_cons_zero, List.set_cons_succ])
    refine wpAnyH_take (i := 11) (v := ?_) rfl (by kernel_rfl) (by kernel_rfl) (by kernel_rfl) (fun _ _ _ h => h) (Or.inl ⟨by rfl, ?_⟩) (by assumption) ?_
    rotate_left
    · intro wS hSw
      (skip)
      go_simp
      all_goals with_reducible rfl
    (try simp only [List.getElem_toArray, List.getElem_cons_zero, List.getElem_cons_succ, Act.put, List.setIfInBounds_toArray, List.set_cons_zero, List.set_cons_succ])
    refine wpAnyH_take (i := 12) (v := ?_) rfl (by kernel_rfl) (by kernel_rfl) (by kernel_rfl) (fun _ _ _ h => h) (Or.inl ⟨by rfl, ?_⟩) (by assumption) ?_
    rotate_left
    · intro wS hSw
      (skip)
      go_simp
      all_goals with_reducible rfl
    (try simp only [List.getElem_toArray, List.getElem_cons_zero, List.getElem_cons_succ, Act.put, List.setIfInBounds_toArray, List.set_cons_zero, List.set_cons_succ])
    refine held_one (i := 13) (by kernel_rfl) rfl (fun K hK => ?_)
    go_simp
    have HT6 := Lib.hid (HT5.out.below (lbox w5 (.cells #[.int .i64 kind, .string text, .int .u64 (num : Int), .int .i64 (pos : Int)] 77)))
    refine hK.out _ _ (HT5.out.below (lbox w5 _)) (fun hH3 => ?_)
    clear hK K hH2
    refine held_one (i := 14) (by kernel_rfl) rfl (fun K hK => ?_)
    go_simp
    refine hK.out _ _ HT6.out (fun hH4 => ?_)
    clear hK K hH3
    refine wpAnyH_take (i := 15) (v := ?_) rfl (by kernel_rfl) (by kernel_rfl) (by kernel_rfl) (fun _ _ _ h => h) (Or.inl ⟨by rfl, ?_⟩) (by assumption) ?_
    rotate_left
    · intro wS hSw
      (skip)
      go_simp
      all_goals with_reducible rfl
    (try simp only [List.getElem_toArray, List.getElem_cons_zero, List.getElem_cons_succ, Act.put, List.setIfInBounds_toArray, List.set_cons_zero, List.set_cons_succ])
    refine wpAnyH_take (i := 16) (v := ?_) rfl (by kernel_rfl) (by kernel_rfl) (by kernel_rfl) (fun _ _ _ h => h) (Or.inl ⟨by rfl, ?_⟩) (by assumption) ?_
    rotate_left
    · intro wS hSw
      (skip)
      go_simp
      all_goals with_reducible rfl
    (try simp only [List.getElem_toArray, List.getElem_cons_zero, List.getElem_cons_succ, Act.put, List.setIfInBounds_toArray, List.set_cons_zero, List.set_cons_succ])
    refine wpAnyH_done (by kernel_rfl) ?_ _
    have HG := Lib.hid (grown_of_below (HB5.out.trans (lbox_at5 w5 (.cells #[.int .i64 kind, .string text, .int .u64 (num : Int), .int .i64 (pos : Int)] 77) HB5.out.size)) (some b))
    have HX := Lib.hid (World.alloc_heap_new w5 (.cells #[.int .i64 kind, .string text, .int .u64 (num : Int), .int .i64 (pos : Int)] 77))
    clear HT5 HB5 HN hH4
    generalize w5.alloc (.cells #[.int .i64 kind, .string text, .int .u64 (num : Int), .int .i64 (pos : Int)] 77) = V at HG HX HT6 ⊢
    generalize w5.heap.size = B at HX ⊢
    go_wp2
    exact ⟨rfl, rfl, HG.out⟩
  · go_simp
    have HA := Lib.hid (H4.out.below (lbox Y (.cells #[.int .i64 0, .string ⟨#[]⟩, .int .u64 0, .int .i64 0] 77)))
    have HBA := Lib.hid (HBY.out.trans (lbox_at5 Y (.cells #[.int .i64 0, .string ⟨#[]⟩, .int .u64 0, .int .i64 0] 77) HBY.out.size))
    have HXA := Lib.hid (World.alloc_heap_new Y (.cells #[.int .i64 0, .string ⟨#[]⟩, .int .u64 0, .int .i64 0] 77))
    have hBs : Y.heap.size < (Y.alloc (.cells #[.int .i64 0, .string ⟨#[]⟩, .int .u64 0, .int .i64 0] 77)).heap.size := by simp
    have hwB : w.heap.size ≤ Y.heap.size := HBY.out.size
    refine hK.out _ _ HA.out (fun hH2 => ?_)
    clear hK K HBY H4 hHeld
    generalize Y.alloc (.cells #[.int .i64 0, .string ⟨#[]⟩, .int .u64 0, .int .i64 0] 77) = Z at HA HBA HXA hBs hH2 ⊢
    generalize Y.heap.size = B at HXA hBs hwB hltY ⊢
    refine held_one (i := 8) (by kernel_rfl) rfl (fun K hK => ?_)
    go_simp
    refine (HN.out _).mono ?_
    rintro e w5 ⟨rfl, hb5⟩
    have HT5 := Lib.hid (HA.out.below hb5)
    have HB5 := Lib.hid (HBA.out.trans (hb5.mono HBA.out.size))
    have HX5 := Lib.hid ((hb5.block B hBs).trans HXA.out)
    refine hK.out _ _ HT5.out (fun hH3 => ?_)
    clear hK K hb5 HBA HA hH2 HXA
    refine wpAnyH_take (i := 9) (v := ?_) rfl (by kernel_rfl) (by kernel_rfl) (by kernel_rfl) (fun _ _ _ h => h) (Or.inl ⟨by rfl, ?_⟩) (by assumption) ?_
    rotate_left
    · intro wS hSw
      (skip)
      go_simp
      all_goals with_reducible rfl
    (try simp only [List.getElem_toArray, List.getElem_cons_zero, List.getElem_cons_succ, Act.put, List.setIfInBounds_toArray, List.set_cons_zero, List.set_cons_succ])
    refine wpAnyH_take (i := 10) (v := ?_) rfl (by kernel_rfl) (by kernel_rfl) (by kernel_rfl) (fun _ _ _ h => h) (Or.inl ⟨by rfl, ?_⟩) (by assumption) ?_
    rotate_left
    · intro wS hSw
      (skip)
      go_simp
      all_goals with_reducible rfl
    (try simp only [List.getElem_toArray, List.getElem_cons_zero, List.getElem_cons_succ, Act.put, List.setIfInBounds_toArray, List.set_cons_zero, List.set_cons_succ])
    refine wpAnyH_take (i := 11) (v := ?_) rfl (by kernel_rfl) (by kernel_rfl) (by kernel_rfl) (fun _ _ _ h => h) (Or.inl ⟨by rfl, ?_⟩) (by assumption) ?_
    rotate_left
    · intro wS hSw
      (skip)
      go_simp
      all_goals with_reducible rfl
    (try simp only [List.getElem_toArray, List.getElem_cons_zero, List.getElem_cons_succ, Act.put, List.setIfInBounds_toArray, List.set_cons_zero, List.set_cons_succ])
    refine wpAnyH_take (i := 12) (v := ?_) rfl (by kernel_rfl) (by kernel_rfl) (by kernel_rfl) (fun _ _ _ h => h) (Or.inl ⟨by rfl, ?_⟩) (by assumption) ?_
    rotate_left
    · intro wS hSw
      (skip)
      go_simp
      all_goals with_reducible rfl
    (try simp only [List.getElem_toArray, List.getElem_cons_zero, List.getElem_cons_succ, Act.put, List.setIfInBounds_toArray, List.set_cons_zero, List.set_cons_succ])
    have u0 := cell6 HX5.out 0 rfl
    have u1 := cell6 HX5.out 1 rfl
    have u2 := cell6 HX5.out 2 rfl
    have u3 := cell6 HX5.out 3 rfl
    have y0 := frozen6 HX5.out 0
    have y1 := frozen6 HX5.out 1
    have y2 := frozen6 HX5.out 2
    have y3 := frozen6 HX5.out 3
    refine held_one (i := 14) (by kernel_rfl) rfl (fun K hK => ?_)
    go_simp
    have HT6 : Hid (PAt ((((w5.setCell ⟨B, 0, none⟩ (.int .i64 kind)).setCell ⟨B, 1, none⟩ (.string text)).setCell ⟨B, 2, none⟩ (.int .u64 (num : Int))).setCell ⟨B, 3, none⟩ (.int .i64 (pos : Int))) b s x d) := Lib.hid (pset HT5.out (show b ≠ B by omega) _ _ _ _)
    refine hK.out _ _ HT6.out (fun hH4 => ?_)
    clear hK K hH3
    refine wpAnyH_take (i := 15) (v := ?_) rfl (by kernel_rfl) (by kernel_rfl) (by kernel_rfl) (fun _ _ _ h => h) (Or.inl ⟨by rfl, ?_⟩) (by assumption) ?_
    rotate_left
    · intro wS hSw
      (skip)
      go_simp
      all_goals with_reducible rfl
    (try simp only [List.getElem_toArray, List.getElem_cons_zero, List.getElem_cons_succ, Act.put, List.setIfInBounds_toArray, List.set_cons_zero, List.set_cons_succ])
    refine wpAnyH_take (i := 16) (v := ?_) rfl (by kernel_rfl) (by kernel_rfl) (by kernel_rfl) (fun _ _ _ h => h) (Or.inl ⟨by rfl, ?_⟩) (by assumption) ?_
    rotate_left
    · intro wS hSw
      (skip)
      go_simp
      all_goals with_reducible rfl
    (try simp only [List.getElem_toArray, List.getElem_cons_zero, List.getElem_cons_succ, Act.put, List.setIfInBounds_toArray, List.set_cons_zero, List.set_cons_succ])
    refine wpAnyH_done (by kernel_rfl) ?_ _
    have HG := Lib.hid (grown_new (grown_new (grown_new (grown_new (grown_of_below HB5.out (some b)) hwB 0 (.int .i64 kind)) hwB 1 (.string text)) hwB 2 (.int .u64 (num : Int))) hwB 3 (.int .i64 (pos : Int)))
    have HX := Lib.hid (heap_set4 HX5.out (.int .i64 kind) (.string text) (.int .u64 (num : Int)) (.int .i64 (pos : Int)))
    clear HT5 HB5 HX5 HN hH4 u0 u1 u2 u3 y0 y1 y2 y3
    generalize ((((w5.setCell ⟨B, 0, none⟩ (.int .i64 kind)).setCell ⟨B, 1, none⟩ (.string text)).setCell ⟨B, 2, none⟩ (.int .u64 (num : Int))).setCell ⟨B, 3, none⟩ (.int .i64 (pos : Int))) = V at HG HX HT6 ⊢
    go_wp2
    exact ⟨rfl, rfl, HG.out⟩
end
end Go.Proofs.YtgeapkjegemkeaaGreatDoor
