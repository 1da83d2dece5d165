/-
  Names, numbers and architectures: contracts of both sides. Conditions: those that each names.
-/
import Derived.Test.YtgeapkjegemkeaaDoorSemTab
import Derived.Deep.QuietTactic
import Derived.BigQuiet
namespace Go.Proofs.YtgeapkjegemkeaaDoor
open Go Go.RowKit
set_option linter.unusedSimpArgs false
set_option linter.unusedVariables false

theorem find_at (l : List (ByteArray × Nat)) (n : ByteArray) (k : Nat) (hk : k < l.length) : findF (l.drop k) n = if (l.getD k (⟨#[]⟩, 0)).1 = n then ((l.getD k (⟨#[]⟩, 0)).2, true) else findF (l.drop (k + 1)) n := by
  rw [List.drop_eq_getElem_cons hk]
  have : l.getD k (⟨#[]⟩, 0) = l[k] := by rw [List.getD_eq_getElem?_getD, List.getElem?_eq_getElem hk]; rfl
  rw [this]; rfl
theorem find_end (l : List (ByteArray × Nat)) (n : ByteArray) (k : Nat) (hk : l.length ≤ k) : findF (l.drop k) n = (0, false) := by
  rw [List.drop_of_length_le hk]; rfl
theorem tab_cells {w : World} {l : List (ByteArray × Nat)} {A : Option Addr} (h : TabL w l A) (k : Nat) (hk : k < l.length) : ∃ tb, A = some ⟨tb, 0, none⟩ ∧ tb < w.heap.size ∧ w.cell? ⟨tb, k * 2, none⟩ = some (.string (l.getD k (⟨#[]⟩, 0)).1) ∧ w.cell? ⟨tb, k * 2 + 1, none⟩ = some (.int .u32 ((l.getD k (⟨#[]⟩, 0)).2 : Int)) := by
  rcases h.2 with h0 | ⟨tb, hA, ht, hc⟩
  · rw [h0] at hk; exact absurd hk (by simp)
  · have h1 := tabC_at l k hk
    exact ⟨tb, hA, ht, hc _ _ h1.1, hc _ _ h1.2⟩
set_option maxRecDepth 100000 in
set_option maxHeartbeats 4000000 in
/-- The program's named. -/
theorem p_named (l : List (ByteArray × Nat)) (wd : Int) (A : Option Addr) (cap : Nat) (n : ByteArray) (w : World) (h : TabL w l A) :
    Calls Tryd.prog 15 #[.agg #[.int .u32 wd, .slice A l.length cap], .string n] w fun e w' => e = .returned (.tuple #[.int .u32 ((findF l n).1 : Int), .bool (findF l n).2]) ∧ Below w.heap.size w w' := by
  have hll := h.1
  have HR0 := Lib.hid (World.alloc_heap_new w (.cells #[.int .u32 wd, .slice A l.length cap] 55))
  have s0 : (w.alloc (.cells #[.int .u32 wd, .slice A l.length cap] 55)).heap.size = w.heap.size + 1 := by simp
  have c1 := cell6 HR0.out 1 rfl
  have HT := Lib.hid (And.intro (h.below (lbox w (.cells #[.int .u32 wd, .slice A l.length cap] 55))) (lbox w (.cells #[.int .u32 wd, .slice A l.length cap] 55)))
  have hf : findF l n = findF (l.drop 0) n := rfl
  generalize hg : findF l n = g at hf ⊢
  have HG := Lib.hid hf
  clear hf hg h
  go_enter Tryd.func15, Tryd.ntmps15
  go_wp2
  go_loopw [11] (fun v wr => ∃ k : Nat, k ≤ l.length ∧ v = .int .i64 (k : Int) ∧ g = findF (l.drop k) n ∧ TabL wr l A ∧ Below w.heap.size w wr) (fun v _ => l.length - (intOf v).toNat)
  case atStart => exact ⟨0, Nat.zero_le _, rfl, HG.out, HT.out.1, HT.out.2⟩
  case round =>
    obtain ⟨k, hk, rfl, hgk, hT, hB⟩ := hrel
    clear HT HG HR0 c1
    have hw : IntKind.i64.wrap ((k : Int) + 1) = ((k + 1 : Nat) : Int) := by rw [IntWalk.i64_in _ (by omega)]; omega
    by_cases hlt : k < l.length
    · have hlt' : (k : Int) < (l.length : Int) := by omega
      have hT2 := hT
      obtain ⟨tb, rfl, htl, c0, c1⟩ := tab_cells hT k hlt
      rw [find_at l n k hlt] at hgk
      have HF := Lib.hid (And.intro hT2 hB)
      have HB2 := Lib.hid (fun o => (lbox wr o))
      clear hT hT2 hB
      generalize l.getD k (⟨#[]⟩, 0) = x at c0 c1 hgk
      by_cases hx : x.1 = n
      · rw [if_pos hx] at hgk
        have hxb : (x.1.toList == n.toList) = true := text_is6 hx
        have HGK := Lib.hid hgk
        clear hx hgk
        go_wp2
        go_ret2
        exact ⟨by rw [HGK.out]; rfl, HF.out.2.trans ((lbox wr _).mono HF.out.2.size)⟩
      · rw [if_neg hx] at hgk
        have hxb : (x.1.toList == n.toList) = false := by
          cases hq : (x.1.toList == n.toList) with
          | false => rfl
          | true => exact absurd (by
              have := eq_of_beq hq
              rw [ByteArray.toList_eq, ByteArray.toList_eq] at this
              obtain ⟨x1, x2⟩ := x
              cases x1; cases n
              simpa using this) hx
        have HGK := Lib.hid hgk
        clear hx hgk
        go_wp2
        exact ⟨⟨k + 1, by omega, by go_num, HGK.out, HF.out.1.below (lbox wr _), HF.out.2.trans ((lbox wr _).mono HF.out.2.size)⟩, by simp [intOf]; omega⟩
    · have hlt' : ¬ (k : Int) < (l.length : Int) := by omega
      rw [find_end l n k (by omega)] at hgk
      have HGK := Lib.hid hgk
      clear hgk
      have HF := Lib.hid (And.intro hT hB)
      clear hT hB
      go_wp2
      go_ret2
      exact ⟨by rw [HGK.out]; rfl, HF.out.2⟩
end Go.Proofs.YtgeapkjegemkeaaDoor
namespace Go.Proofs.YtgeapkjegemkeaaDoor
open Go Go.RowKit
set_option linter.unusedSimpArgs false
set_option linter.unusedVariables false

theorem below_of (w w1 : World) (o : Obj) (h : Below w.heap.size w w1) : Below w.heap.size w (w1.alloc o) := h.trans ((lbox w1 o).mono h.size)
theorem below_in {w w1 : World} {o : Obj} (h : Below (w.alloc o).heap.size (w.alloc o) w1) : Below w.heap.size w w1 := (lbox w o).trans (h.mono (by simp))
set_option maxRecDepth 100000 in
set_option maxHeartbeats 2000000 in
theorem p_Number7 (s n : ByteArray) (w : World) : Calls Tryd.prog 8 #[.string s, .string n] w fun e w' => e = .returned (.tuple #[.int .u32 ((findF (sysF s).2.1 n).1 : Int), .bool (findF (sysF s).2.1 n).2]) ∧ Below w.heap.size w w' := by
  have H := Lib.hid (fun W => p_systemOf s W)
  generalize sysF s = g at H ⊢
  obtain ⟨wd, l, b⟩ := g
  have HN := Lib.hid (fun A cap W h => p_named l (wd : Int) A cap n W h)
  go_enter Tryd.func8, Tryd.ntmps8
  go_wp2_with (first
    | (go_at_call 10; (with_reducible refine (H.out _).mono ?_); rintro e w1 ⟨A, cap, rfl, ht, hb⟩; have HB := Lib.hid (And.intro (TabL.below ht (lbox w1 (.cells #[.int .u32 (wd : Int), .slice A l.length cap] 55))) (below_of _ _ (.cells #[.int .u32 (wd : Int), .slice A l.length cap] 55) hb)); clear ht hb)
    | (go_at_call 15; (with_reducible refine (HN.out _ _ _ HB.out.1).mono ?_); rintro e w2 ⟨rfl, hb⟩; have HB2 := Lib.hid (HB.out.2.trans (hb.mono HB.out.2.size)); clear hb HB))
  go_ret2
  exact ⟨rfl, HB2.out⟩
/-- What answers a call's number. -/
def NrP (o : Option Nat) (w : World) (e : Ending) (w' : World) : Prop := ∃ (m : Nat) (b : Bool), e = .returned (.tuple #[.int .u32 (m : Int), .bool b]) ∧ (match o with | some k => m = k ∧ b = true | none => b = false) ∧ Below w.heap.size w w'
abbrev callV (c : ByteArray × Nat) : Value := .agg #[.string c.1, .int .u64 (c.2 : Int)]
theorem u32_mod (n : Nat) : IntKind.u32.wrap (n : Int) = ((n % 4294967296 : Nat) : Int) := by rw [IntKind.wrap_u32]; omega
set_option maxRecDepth 100000 in
set_option maxHeartbeats 4000000 in
theorem p_numberOf (l : List (ByteArray × Nat)) (wd : Int) (A : Option Addr) (cap : Nat) (c : ByteArray × Nat) (w : World) (h : TabL w l A) :
    Calls Tryd.prog 34 #[.agg #[.int .u32 wd, .slice A l.length cap], callV c] w (NrP (nrF l c) w) := by
  obtain ⟨nm, nr⟩ := c
  have hw := u32_mod nr
  have hb0 := lbox w (.cells #[.int .u32 wd, .slice A l.length cap] 55)
  have hb1 := below_of w (w.alloc (.cells #[.int .u32 wd, .slice A l.length cap] 55)) (.cells #[.string nm, .int .u64 (nr : Int)] 100) hb0
  have HT := Lib.hid (h.below hb1)
  have HB := Lib.hid hb1
  have HN := Lib.hid (fun W h => p_named l wd A cap nm W h)
  clear h hb0 hb1
  by_cases h0 : nm = ⟨#[]⟩
  · have q0 : (nm.toList == []) = true := lit_is6 h0
    by_cases h1 : nr ≤ 4294967295
    · have hE : nrF l (nm, nr) = some nr := by unfold nrF; rw [if_pos h0, if_pos h1]
      have q1 : (nr : Int) ≤ 4294967295 := by omega
      have hm : nr % 4294967296 = nr := Nat.mod_eq_of_lt (by omega)
      have HE := Lib.hid hE
      have HM := Lib.hid hm
      clear hE h0 h1 hm
      go_enter Tryd.func34, Tryd.ntmps34
      go_wp2
      go_ret2
      exact ⟨nr % 4294967296, true, rfl, by rw [HE.out]; exact ⟨HM.out, rfl⟩, HB.out⟩
    · have hE : nrF l (nm, nr) = none := by unfold nrF; rw [if_pos h0, if_neg h1]
      have q1 : ¬ (nr : Int) ≤ 4294967295 := by omega
      have HE := Lib.hid hE
      clear hE h0 h1
      go_enter Tryd.func34, Tryd.ntmps34
      go_wp2
      go_ret2
      exact ⟨0, false, rfl, by rw [HE.out], HB.out⟩
  · have q0 : (nm.toList == []) = false := lit_ne6 h0
    by_cases h1 : nr = 0
    · have q1 : ((nr : Int) == 0) = true := beq_iff_eq.2 (by omega)
      have HE : Hid (nrF l (nm, nr) = if (findF l nm).2 = true then some (findF l nm).1 else none) := Lib.hid (by
        unfold nrF; rw [if_neg h0]
        by_cases hf : (findF l nm).2 = true
        · rw [if_pos ⟨h1, hf⟩, if_pos hf]
        · rw [if_neg (fun g => hf g.2), if_neg hf])
      generalize findF l nm = f at HN HE
      clear h0 h1
      go_enter Tryd.func34, Tryd.ntmps34
      go_wp2_with (go_at_call 15; (with_reducible refine (HN.out _ HT.out).mono ?_); rintro e w2 ⟨rfl, hb⟩; have HB2 := Lib.hid (HB.out.trans (hb.mono HB.out.size)); clear hb)
      go_ret2
      refine ⟨f.1, f.2, rfl, ?_, HB2.out⟩
      rw [HE.out]
      obtain ⟨f1, f2⟩ := f
      cases f2
      · rfl
      · exact ⟨rfl, rfl⟩
    · have hE : nrF l (nm, nr) = none := by unfold nrF; rw [if_neg h0, if_neg (fun g => h1 g.1)]
      have q1 : ((nr : Int) == 0) = false := beq_false_of_ne (by omega)
      have q2 : ¬ (nr : Int) = 0 := by omega
      have HE := Lib.hid hE
      clear hE h0 h1
      go_enter Tryd.func34, Tryd.ntmps34
      go_wp2
      go_ret2
      exact ⟨0, false, rfl, by rw [HE.out], HB.out⟩
end Go.Proofs.YtgeapkjegemkeaaDoor
