/-
  The tables of architectures and calls, on both sides: contracts. No condition.
-/
import Derived.Test.YtgeapkjegemkeaaDoorSemMem
namespace Go.Proofs.YtgeapkjegemkeaaDoor
open Go Go.RowKit
set_option linter.unusedSimpArgs false
set_option linter.unusedVariables false

/-- A table as it is laid. -/
abbrev oldC : Array Value := #[.string ⟨#[114, 101, 97, 100]⟩, .int .u32 0, .string ⟨#[119, 114, 105, 116, 101]⟩, .int .u32 1, .string ⟨#[111, 112, 101, 110]⟩, .int .u32 2, .string ⟨#[99, 108, 111, 115, 101]⟩, .int .u32 3, .string ⟨#[115, 116, 97, 116]⟩, .int .u32 4, .string ⟨#[109, 109, 97, 112]⟩, .int .u32 9, .string ⟨#[109, 112, 114, 111, 116, 101, 99, 116]⟩, .int .u32 10, .string ⟨#[98, 114, 107]⟩, .int .u32 12, .string ⟨#[105, 111, 99, 116, 108]⟩, .int .u32 16, .string ⟨#[103, 101, 116, 112, 105, 100]⟩, .int .u32 39, .string ⟨#[115, 111, 99, 107, 101, 116]⟩, .int .u32 41, .string ⟨#[99, 111, 110, 110, 101, 99, 116]⟩, .int .u32 42, .string ⟨#[99, 108, 111, 110, 101]⟩, .int .u32 56, .string ⟨#[102, 111, 114, 107]⟩, .int .u32 57, .string ⟨#[101, 120, 101, 99, 118, 101]⟩, .int .u32 59, .string ⟨#[101, 120, 105, 116]⟩, .int .u32 60, .string ⟨#[107, 105, 108, 108]⟩, .int .u32 62, .string ⟨#[112, 116, 114, 97, 99, 101]⟩, .int .u32 101, .string ⟨#[112, 114, 99, 116, 108]⟩, .int .u32 157, .string ⟨#[101, 120, 105, 116, 95, 103, 114, 111, 117, 112]⟩, .int .u32 231, .string ⟨#[111, 112, 101, 110, 97, 116]⟩, .int .u32 257, .string ⟨#[115, 101, 99, 99, 111, 109, 112]⟩, .int .u32 317, .string ⟨#[103, 101, 116, 114, 97, 110, 100, 111, 109]⟩, .int .u32 318, .string ⟨#[98, 112, 102]⟩, .int .u32 321]
abbrev newC : Array Value := #[.string ⟨#[105, 111, 99, 116, 108]⟩, .int .u32 29, .string ⟨#[111, 112, 101, 110, 97, 116]⟩, .int .u32 56, .string ⟨#[99, 108, 111, 115, 101]⟩, .int .u32 57, .string ⟨#[114, 101, 97, 100]⟩, .int .u32 63, .string ⟨#[119, 114, 105, 116, 101]⟩, .int .u32 64, .string ⟨#[101, 120, 105, 116]⟩, .int .u32 93, .string ⟨#[101, 120, 105, 116, 95, 103, 114, 111, 117, 112]⟩, .int .u32 94, .string ⟨#[112, 116, 114, 97, 99, 101]⟩, .int .u32 117, .string ⟨#[107, 105, 108, 108]⟩, .int .u32 129, .string ⟨#[112, 114, 99, 116, 108]⟩, .int .u32 167, .string ⟨#[103, 101, 116, 112, 105, 100]⟩, .int .u32 172, .string ⟨#[115, 111, 99, 107, 101, 116]⟩, .int .u32 198, .string ⟨#[99, 111, 110, 110, 101, 99, 116]⟩, .int .u32 203, .string ⟨#[98, 114, 107]⟩, .int .u32 214, .string ⟨#[99, 108, 111, 110, 101]⟩, .int .u32 220, .string ⟨#[101, 120, 101, 99, 118, 101]⟩, .int .u32 221, .string ⟨#[109, 109, 97, 112]⟩, .int .u32 222, .string ⟨#[109, 112, 114, 111, 116, 101, 99, 116]⟩, .int .u32 226, .string ⟨#[115, 101, 99, 99, 111, 109, 112]⟩, .int .u32 277, .string ⟨#[103, 101, 116, 114, 97, 110, 100, 111, 109]⟩, .int .u32 278, .string ⟨#[98, 112, 102]⟩, .int .u32 280]
theorem tab_of {w : World} {l : List (ByteArray × Nat)} {c : Array Value} {T : TypeId} (hc : c = (tabC l).toArray) (hl : l.length ≤ 100) : TabL (w.alloc (.cells c T)) l (some ⟨w.heap.size, 0, none⟩) := by
  subst hc
  refine ⟨hl, .inr ⟨w.heap.size, rfl, by simp, fun j u hj => cell6 (World.alloc_heap_new w _) j ?_⟩⟩
  rw [← List.getElem?_toArray] at hj
  exact hj
theorem old_is : oldC = (tabC oldT).toArray := by kernel_rfl
theorem new_is : newC = (tabC newT).toArray := by kernel_rfl
/-- What answers a table. -/
def TabP (w : World) (l : List (ByteArray × Nat)) (e : Ending) (w' : World) : Prop := ∃ A cap, e = .returned (.slice A l.length cap) ∧ TabL w' l A ∧ (∀ tb, A = some ⟨tb, 0, none⟩ → w.heap.size ≤ tb) ∧ Below w.heap.size w w'
theorem TabL.set {W : World} {l : List (ByteArray × Nat)} {A : Option Addr} (h : TabL W l A) {R : Nat} (hne : ∀ tb, A = some ⟨tb, 0, none⟩ → tb ≠ R) (i : Nat) (u : Value) : TabL (W.setCell ⟨R, i, none⟩ u) l A := by
  refine ⟨h.1, ?_⟩
  rcases h.2 with h | ⟨tb, hA, ht, hc⟩
  · exact .inl h
  · exact .inr ⟨tb, hA, by simpa [World.setCell] using ht, fun j v hj => (World.cell?_of_block (a := ⟨tb, j, none⟩) (Below.heap_setCell W ⟨R, i, none⟩ u tb (hne tb hA))).trans (hc j v hj)⟩
set_option maxRecDepth 100000 in
set_option maxHeartbeats 2000000 in
theorem p_oldCalls (w : World) : Calls Tryd.prog 17 #[] w (TabP w oldT) := by
  go_enter Tryd.func17, Tryd.ntmps17
  go_wp2
  go_ret
  exact ⟨_, _, rfl, tab_of old_is (by decide), (fun tb e => by injection e with e; injection e with e; omega), lbox _ _⟩
set_option maxRecDepth 100000 in
set_option maxHeartbeats 2000000 in
theorem p_sharedCalls (w : World) : Calls Tryd.prog 18 #[] w (TabP w newT) := by
  go_enter Tryd.func18, Tryd.ntmps18
  go_wp2
  go_ret
  exact ⟨_, _, rfl, tab_of new_is (by decide), (fun tb e => by injection e with e; injection e with e; omega), lbox _ _⟩
/-- What answers a system: its word and its table. -/
def SysP (w : World) (s : Nat × List (ByteArray × Nat) × Bool) (e : Ending) (w' : World) : Prop := ∃ A cap, e = .returned (.tuple #[.agg #[.int .u32 (s.1 : Int), .slice A s.2.1.length cap], .bool s.2.2]) ∧ TabL w' s.2.1 A ∧ Below w.heap.size w w'
set_option maxRecDepth 100000 in
set_option maxHeartbeats 4000000 in
theorem p_systemOf (s : ByteArray) (w : World) : Calls Tryd.prog 10 #[.string s] w (SysP w (sysF s)) := by
  have HR0 := Lib.hid (World.alloc_heap_new w (.cells #[.int .u32 0, .slice none 0 0] 55))
  have s0 : (w.alloc (.cells #[.int .u32 0, .slice none 0 0] 55)).heap.size = w.heap.size + 1 := by simp
  by_cases h0 : s = bX86
  · have q0 : (s.toList == [120, 56, 54, 95, 54, 52]) = true := lit_is6 h0
    have hE : sysF s = (3221225534, oldT, true) := by unfold sysF; rw [if_pos h0]
    rw [hE]
    clear h0 hE
    have HT := Lib.hid (p_oldCalls (w.alloc (.cells #[.int .u32 0, .slice none 0 0] 55)))
    go_enter Tryd.func10, Tryd.ntmps10
    go_wp2_with (go_at_call 17; (with_reducible refine HT.out.mono ?_); rintro e w1 ⟨A, cap, rfl, ht, hlo, hb⟩; have hR := (hb.block w.heap.size (by omega)).trans HR0.out; have hl1 : w.heap.size < w1.heap.size := (Array.getElem?_eq_some_iff.1 hR).1; have u0 := cell6 hR 0 rfl; have u1 := cell6 hR 1 rfl; have y0 := frozen6 hR 0; have y1 := frozen6 hR 1; have H1 := Lib.hid (And.intro (And.intro ht hlo) ((lbox w (.cells #[.int .u32 0, .slice none 0 0] 55)).trans (hb.mono (by omega)))); clear ht hb hR hlo)
    have hne : ∀ tb, A = some ⟨tb, 0, none⟩ → tb ≠ w.heap.size := fun tb e => by have := H1.out.1.2 tb e; omega
    exact bodyPost_ret (v := .tuple #[.agg #[.int .u32 3221225534, .slice A oldT.length cap], .bool true]) (by simp [results, Tryd.results10, go_sem, u0, u1, World.cell?_setCell_same']) rfl ⟨A, cap, rfl, (H1.out.1.1.set hne 0 _).set hne 1 _, (H1.out.2.setCell (p := ⟨w.heap.size, 0, none⟩) (Nat.le_refl _) _).setCell (p := ⟨w.heap.size, 1, none⟩) (Nat.le_refl _) _⟩
  have q0 : (s.toList == [120, 56, 54, 95, 54, 52]) = false := lit_ne6 h0
  by_cases h1 : s = bRv
  · have q1 : (s.toList == [114, 105, 115, 99, 118, 54, 52]) = true := lit_is6 h1
    have hE : sysF s = (3221225715, newT, true) := by unfold sysF; rw [if_neg h0, if_pos h1]
    rw [hE]
    clear h0 h1 hE
    have HT := Lib.hid (p_sharedCalls (w.alloc (.cells #[.int .u32 0, .slice none 0 0] 55)))
    go_enter Tryd.func10, Tryd.ntmps10
    go_wp2_with (go_at_call 18; (with_reducible refine HT.out.mono ?_); rintro e w1 ⟨A, cap, rfl, ht, hlo, hb⟩; have hR := (hb.block w.heap.size (by omega)).trans HR0.out; have hl1 : w.heap.size < w1.heap.size := (Array.getElem?_eq_some_iff.1 hR).1; have u0 := cell6 hR 0 rfl; have u1 := cell6 hR 1 rfl; have y0 := frozen6 hR 0; have y1 := frozen6 hR 1; have H1 := Lib.hid (And.intro (And.intro ht hlo) ((lbox w (.cells #[.int .u32 0, .slice none 0 0] 55)).trans (hb.mono (by omega)))); clear ht hb hR hlo)
    have hne : ∀ tb, A = some ⟨tb, 0, none⟩ → tb ≠ w.heap.size := fun tb e => by have := H1.out.1.2 tb e; omega
    exact bodyPost_ret (v := .tuple #[.agg #[.int .u32 3221225715, .slice A newT.length cap], .bool true]) (by simp [results, Tryd.results10, go_sem, u0, u1, World.cell?_setCell_same']) rfl ⟨A, cap, rfl, (H1.out.1.1.set hne 0 _).set hne 1 _, (H1.out.2.setCell (p := ⟨w.heap.size, 0, none⟩) (Nat.le_refl _) _).setCell (p := ⟨w.heap.size, 1, none⟩) (Nat.le_refl _) _⟩
  have q1 : (s.toList == [114, 105, 115, 99, 118, 54, 52]) = false := lit_ne6 h1
  by_cases h2 : s = bArm
  · have q2 : (s.toList == [97, 97, 114, 99, 104, 54, 52]) = true := lit_is6 h2
    have hE : sysF s = (3221225655, newT, true) := by unfold sysF; rw [if_neg h0, if_neg h1, if_pos h2]
    rw [hE]
    clear h0 h1 h2 hE
    have HT := Lib.hid (p_sharedCalls (w.alloc (.cells #[.int .u32 0, .slice none 0 0] 55)))
    go_enter Tryd.func10, Tryd.ntmps10
    go_wp2_with (go_at_call 18; (with_reducible refine HT.out.mono ?_); rintro e w1 ⟨A, cap, rfl, ht, hlo, hb⟩; have hR := (hb.block w.heap.size (by omega)).trans HR0.out; have hl1 : w.heap.size < w1.heap.size := (Array.getElem?_eq_some_iff.1 hR).1; have u0 := cell6 hR 0 rfl; have u1 := cell6 hR 1 rfl; have y0 := frozen6 hR 0; have y1 := frozen6 hR 1; have H1 := Lib.hid (And.intro (And.intro ht hlo) ((lbox w (.cells #[.int .u32 0, .slice none 0 0] 55)).trans (hb.mono (by omega)))); clear ht hb hR hlo)
    have hne : ∀ tb, A = some ⟨tb, 0, none⟩ → tb ≠ w.heap.size := fun tb e => by have := H1.out.1.2 tb e; omega
    exact bodyPost_ret (v := .tuple #[.agg #[.int .u32 3221225655, .slice A newT.length cap], .bool true]) (by simp [results, Tryd.results10, go_sem, u0, u1, World.cell?_setCell_same']) rfl ⟨A, cap, rfl, (H1.out.1.1.set hne 0 _).set hne 1 _, (H1.out.2.setCell (p := ⟨w.heap.size, 0, none⟩) (Nat.le_refl _) _).setCell (p := ⟨w.heap.size, 1, none⟩) (Nat.le_refl _) _⟩
  have q2 : (s.toList == [97, 97, 114, 99, 104, 54, 52]) = false := lit_ne6 h2
  have hE : sysF s = (0, [], false) := by unfold sysF; rw [if_neg h0, if_neg h1, if_neg h2]
  rw [hE]
  clear h0 h1 h2 hE
  have u0 := cell6 HR0.out 0 rfl
  have u1 := cell6 HR0.out 1 rfl
  have y0 := frozen6 HR0.out 0
  have y1 := frozen6 HR0.out 1
  go_enter Tryd.func10, Tryd.ntmps10
  go_wp2
  exact bodyPost_ret (v := .tuple #[.agg #[.int .u32 0, .slice none 0 0], .bool false]) (by simp [results, Tryd.results10, go_sem, World.cell?_setCell_same']) rfl ⟨none, 0, rfl, ⟨Nat.zero_le _, .inl rfl⟩, lbox _ _⟩
end Go.Proofs.YtgeapkjegemkeaaDoor
