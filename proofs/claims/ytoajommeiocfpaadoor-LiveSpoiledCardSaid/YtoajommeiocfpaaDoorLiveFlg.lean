/-
  A set told register by register; what is asked for behind each instruction, as the program tells: contracts. Conditions: those that each names.
-/
import Derived.Test.YtoajommeiocfpaaDoorLiveAll
import Derived.Test.YtoajommeiocfpaaDoorLiveBeh
namespace Go.Proofs.YtoajommeiocfpaaDoor
open Go Go.RowKit Go.Shelf
attribute [local go_sem] Oper.semAt_some
set_option linter.unusedSimpArgs false
set_option linter.unusedVariables false

/-- Where some blocks may be turned. -/
structure TurnL (X : Nat → Prop) (V W : World) : Prop where
  os : W.os = V.os
  tape : W.tape = V.tape
  output : W.output = V.output
  size : V.heap.size ≤ W.heap.size
  block : ∀ k, k < V.heap.size → ¬ X k → W.heap[k]? = V.heap[k]?
section
variable {X : Nat → Prop} {V W W' : World}
theorem TurnL.refl (X : Nat → Prop) (V : World) : TurnL X V V := ⟨rfl, rfl, rfl, Nat.le_refl _, fun _ _ _ => rfl⟩
theorem TurnL.on {row : Option Nat} (h : TurnL X V W) (hg : W.grownBy W' row) (hr : ∀ r, row = some r → V.heap.size ≤ r ∨ X r) : TurnL X V W' :=
  ⟨hg.os.trans h.os, hg.tape.trans h.tape, hg.output.trans h.output, Nat.le_trans h.size hg.size, fun k hk hX => (hg.block k (Nat.lt_of_lt_of_le hk h.size) (fun e => by
    rcases hr k e.symm with g | g
    · omega
    · exact hX g)).trans (h.block k hk hX)⟩
theorem TurnL.box {b : Nat} {t : TypeId} {v : Value} (h : TurnL X V W) (hb : Boxed V b t v) (hX : ¬ X b) : Boxed W b t v := (h.block b hb.lt hX).trans hb
theorem TurnL.below {B : Nat} {w : World} (h : TurnL X V W) (hb : Below B w V) (hX : ∀ k, X k → B ≤ k) (hB : B ≤ V.heap.size) : Below B w W := ⟨h.os.trans hb.os, h.tape.trans hb.tape, h.output.trans hb.output, Nat.le_trans hb.size h.size, fun k hk => (h.block k (by omega) (fun g => by have := hX k g; omega)).trans (hb.block k hk)⟩
end
theorem rowL_other {X Y : World} {b : Nat} {t : TypeId} {n : Nat} {f : Nat → Value} {row : Option Nat} (h : X.rowIs b t n f) (hg : X.grownBy Y row) (hr : some b ≠ row) : Y.rowIs b t n f := by
  obtain ⟨c, h1, h2, h3⟩ := h
  exact ⟨c, (hg.block b (Array.getElem?_eq_some_iff.1 h1).1 hr).trans h1, h2, h3⟩
/-- The registers told so far. -/
structure FgAt (V : World) (R n : Nat) (pre : List Nat) (W : World) : Prop where
  row : W.rowIs R 4 n (fun j => .bool (decide (j ∈ pre)))
  gr : TurnL (fun k => k = R) V W
theorem fg_own (V : World) (R n : Nat) (hR : R < V.heap.size) (ok : Obj → Bool) : Abide ok V.heap.size (FgAt V R n) := fun pre X Y row h hg hr =>
  ⟨rowL_other h.row hg fun e => by have := (hr R e.symm).1; omega, h.gr.on hg fun r e => .inl (hr r e).1⟩
theorem info_boolL : (Tryd.prog.info? 4).map (fun i => (i.zero, i.size, i.bytes)) = some (some (.bool false), 1, 1) := by kernel_rfl
theorem p_allV (s : BitVec 64) (w : World) : Calls Tryd.prog 39 #[.int .u64 (s.toNat : Int)] w fun e w' => e = .returned (.func (.func 52) #[] #[.pointer (some ⟨w.heap.size, 0, none⟩)]) ∧ w' = w.alloc (.cells #[.int .u64 (s.toNat : Int)] 63) := by
  go_enter Tryd.func39, Tryd.ntmps39
  go_wp2
  go_ret
  exact ⟨rfl, rfl⟩
set_option maxHeartbeats 8000000 in
set_option maxRecDepth 100000 in
theorem p_flags (s : BitVec 64) (n : Nat) (hn : n ≤ 64) (hs : ∀ i, n ≤ i → s.getLsbD i = false) (w : World) (ht : TbD w) :
    Calls Tryd.prog 22 #[.int .u64 (s.toNat : Int), .int .i64 (n : Int)] w fun e w' => ∃ b, e = .returned (.slice (some ⟨b, 0, none⟩) n n) ∧ w'.rowIs b 4 n (fun j => .bool (s.getLsbD j)) ∧ Below w.heap.size w w' ∧ w.heap.size ≤ b := by
  obtain ⟨O, hmk, hO⟩ := make_zero (P := Tryd.prog) 38 4 (.bool false) 1 Tryd.underlying38 info_boolL rfl n (by omega) (by omega)
  have hV0 : Hid (Below w.heap.size w (((w.alloc O).alloc (.cells #[.slice (some ⟨w.heap.size, 0, none⟩) n n] 38)).alloc (.cells #[.int .u64 (s.toNat : Int)] 63))
      ∧ Boxed (((w.alloc O).alloc (.cells #[.slice (some ⟨w.heap.size, 0, none⟩) n n] 38)).alloc (.cells #[.int .u64 (s.toNat : Int)] 63)) (w.heap.size + 1) 38 (.slice (some ⟨w.heap.size, 0, none⟩) n n)
      ∧ Boxed (((w.alloc O).alloc (.cells #[.slice (some ⟨w.heap.size, 0, none⟩) n n] 38)).alloc (.cells #[.int .u64 (s.toNat : Int)] 63)) (w.heap.size + 2) 63 (.int .u64 (s.toNat : Int))
      ∧ (((w.alloc O).alloc (.cells #[.slice (some ⟨w.heap.size, 0, none⟩) n n] 38)).alloc (.cells #[.int .u64 (s.toNat : Int)] 63)).rowIs w.heap.size 4 n (fun j => .bool (decide (j ∈ ([] : List Nat))))
      ∧ (((w.alloc O).alloc (.cells #[.slice (some ⟨w.heap.size, 0, none⟩) n n] 38)).alloc (.cells #[.int .u64 (s.toNat : Int)] 63)).heap.size = w.heap.size + 3) := Lib.hid (by
    have h1 := Boxed.new (w.alloc O) 38 (.slice (some ⟨w.heap.size, 0, none⟩) n n)
    rw [World.size_alloc] at h1
    have h2 := Boxed.new ((w.alloc O).alloc (.cells #[.slice (some ⟨w.heap.size, 0, none⟩) n n] 38)) 63 (.int .u64 (s.toNat : Int))
    rw [World.size_alloc, World.size_alloc] at h2
    have hr : (w.alloc O).rowIs w.heap.size 4 n (fun j => .bool (decide (j ∈ ([] : List Nat)))) := World.rowIs.congr (hO w) fun j hj => by simp
    exact ⟨(lboxM w _).trans ((onM (lboxM (w.alloc O) _) (lboxM _ _)).mono (by simp)), h1.alloc _, h2, (rowL_other (rowL_other hr (World.grownBy_alloc _ _ none) (by simp)) (World.grownBy_alloc _ _ none) (by simp)), by simp⟩)
  have c1 := (Boxed.new (w.alloc O) 38 (.slice (some ⟨w.heap.size, 0, none⟩) n n)).cell
  have HT := Lib.hid ht
  clear hO ht
  refine (callsIn_wide (n := 16)).1 ?_
  refine callsIn_of_wp_marks Tryd.func22 rfl trivial ?_ rfl
  simp only [Tryd.ntmps22, List.size_toArray, List.length_cons, List.length_nil, Nat.reduceAdd, Nat.reduceSub, Array.replicate_succ, Array.replicate_zero, List.push_toArray, List.append_toArray, List.nil_append, List.cons_append]
  gi_wp2_with (first
    | (refine ⟨trivial, ?_⟩; gi_at_call 39; refine (callsIn_wide.2 (p_allV s _)).mono ?_; rintro e wc ⟨rfl, rfl⟩))
  generalize ((w.alloc O).alloc (.cells #[.slice (some ⟨w.heap.size, 0, none⟩) n n] 38)).alloc (.cells #[.int .u64 (s.toNat : Int)] 63) = V at hV0 ⊢
  have HV := Lib.hid hV0.out
  clear hV0 hmk c1
  have hVz : V.heap.size = w.heap.size + 3 := HV.out.2.2.2.2
  have hg0 := HT.out.lt
  have HS := Lib.hid (fun m hm => all_stops s (w.heap.size + 2) okN m hm V HV.out.2.2.1 (HT.out.below HV.out.1))
  refine rangeO10 okN okN_rest (K := allK (w.heap.size + 2)) (a₁ := fun a x => var10 #[11] 6 (encR x) (.int .i64 (x : Int)) a) rfl (by decide) (gf := 52) (lb := #[.pointer (some ⟨w.heap.size + 1 + 1, 0, none⟩)]) rfl trivial (enters_of Tryd.func52 (by kernel_rfl) rfl)
    (HS.out (16 - 1) (by decide)) (fun j r hj h => by cases h.2) (fun _ => rfl) (FgAt V w.heap.size n) (fg_own V w.heap.size n (by omega) okN) ⟨HV.out.2.2.2.1, TurnL.refl _ _⟩ ?assign ?body ?don
  case assign =>
    intro l2 x W2 kk hkk
    have HKK := Lib.hid hkk
    clear hkk
    gi_wp2
    exact HKK.out _ (by simp [encR])
  case body =>
    rintro l2 r2 pre x a' W2 rfl hl2 hr2 hI hpre
    have hxm : x ∈ bitsOf s := hpre.subset (by simp)
    have hx : x < n := by
      rcases Nat.lt_or_ge x n with g | g
      · exact g
      · have := (mem_bitsTo.1 hxm).2
        rw [hs x g] at this; cases this
    have hx' : (x : Int) < (n : Int) := by omega
    have hbx := hI.gr.box HV.out.2.1 (by omega)
    have c3 := hbx.cell
    have c4 := World.rowIs.cell hI.row hx
    have c5 := World.rowIs.frozen hI.row x
    have HI2 := Lib.hid hI
    clear hI hbx hpre hxm
    gi_wp2
    have hg := grown_set (World.grownBy.refl W2 (some w.heap.size)) x (.bool true)
    refine ⟨KeepsFrom.of_grownBy hg fun j e => (by cases e; omega), KeepO.of_grown hg fun r e o _ hk => (by cases e; rcases hk.1 with g | g <;> omega), ⟨(World.rowIs.set HI2.out.row x (.bool true)).congr fun j hj => ?_, HI2.out.gr.on hg fun r e => .inr (by cases e; rfl)⟩⟩
    by_cases e : j = x
    · simp [e]
    · simp [e]
  case don =>
    rintro W2 hI hd
    have hbx := hI.gr.box HV.out.2.1 (by omega)
    have c3 := hbx.cell
    have HI2 := Lib.hid hI
    have HD := Lib.hid hd
    clear hI hd hbx
    gi_wp2
    refine ⟨by simp, .inl ⟨_, _, rfl, run_takeDeferred HD.out, ?_⟩⟩
    have hgp := grownBy_putObj' W2 V.heap.size (.deferred none)
    refine ⟨_, results_tmp rfl _ _ _, w.heap.size, rfl, ?_, ?_, Nat.le_refl _⟩
    · refine World.rowIs.congr (rowL_other HI2.out.row hgp (by simp; omega)) fun j hj => ?_
      have : decide (j ∈ bitsOf s) = s.getLsbD j := by
        rw [Bool.eq_iff_iff, decide_eq_true_iff, mem_bitsTo]
        exact ⟨fun g => g.2, fun g => ⟨by omega, g⟩⟩
      rw [this]
    · exact (HI2.out.gr.below HV.out.1 (fun k e => by omega) (by omega)).grown hgp (by have := HI2.out.gr.size; omega) (fun k e => by cases e; omega)
end Go.Proofs.YtoajommeiocfpaaDoor
