/-
  The reader's is, want, kind, rel, deeper, and a field's number: contracts. Conditions: those that each names.
-/
import Derived.Test.YtgeapkjegemkeaaGreatDoorPolRd
import Derived.Test.YtgeapkjegemkeaaGreatDoorLexBack
namespace Go.Proofs.YtgeapkjegemkeaaGreatDoor
open Go Go.RowKit
set_option linter.unusedSimpArgs false
set_option linter.unusedVariables false
set_option maxRecDepth 100000 in
theorem text_is6 {s t : ByteArray} (h : s = t) : (s.toList == t.toList) = true := by rw [h]; exact beq_self_eq_true _
section
variable (w : World) (b : Nat) (A : Option Addr) (cap : Nat) (S : Src) (r : Rd) (h : RdAt w b A cap S r)
include h
set_option maxRecDepth 100000 in
theorem rd6_is (k : Int) (s : ByteArray) (hat : r.at_ ≤ 1000000) : Calls Tryz.prog 39 #[.pointer (some ⟨b, 0, none⟩), .int .i64 k, .string s] w (RdP w b A cap S (.bool (r.isB S k s)) (r.isR S k s)) := by
  have hlt := h.row.lt
  have HP := Lib.hid (fun w h => rd6_peek w b A cap S r h)
  have HH := Lib.hid h
  have hat1 : (r.peekR S).at_ ≤ 1000000 := by unfold Rd.peekR; split <;> exact hat
  have HB := Lib.hid (show r.isB S k s = decide ((r.peekR S).err = 0 ∧ (r.peekT S).kind = k ∧ (r.peekT S).text = s) from rfl)
  have HR := Lib.hid (show r.isR S k s = if r.isB S k s = true then (r.peekR S).step else r.peekR S from rfl)
  clear h
  generalize r.isB S k s = B at HB HR ⊢
  generalize r.isR S k s = r2 at HR ⊢
  generalize r.peekT S = q at HP HB ⊢
  generalize r.peekR S = r1 at HP HB HR hat1 ⊢
  have hw : IntKind.i64.wrap ((r1.at_ : Int) + 1) = ((r1.at_ + 1 : Nat) : Int) := by rw [IntWalk.i64_in _ (by omega)] <;> omega
  by_cases he : r1.err = 0
  · have hb : (r1.err != 0) = false := by rw [he]; rfl
    by_cases hk : q.kind = k
    · have hkb : (q.kind != k) = false := by rw [hk]; exact bne_self_eq_false _
      by_cases ht : q.text = s
      · have htb : (q.text.toList == s.toList) = true := text_is6 ht
        have HE := Lib.hid (show B = true by rw [HB.out]; exact decide_eq_true ⟨he, hk, ht⟩)
        clear he hk ht
        go_enter Tryz.func39, Tryz.ntmps39
        go_wp2_with (go_at_call 38; (with_reducible refine (HP.out _ HH.out).mono ?_); rintro e w1 ⟨rfl, hr1, hg1⟩; have H1 := Lib.hid (And.intro hr1 hg1); have n1 : ¬ b = w1.heap.size := Nat.ne_of_lt hr1.row.lt; have c5 : ∀ o, (w1.alloc o).cell? ⟨b, 5, none⟩ = some (.int .i64 r1.err) := fun o => World.rowIs.cell (World.rowIs.alloc hr1.row o) (i := 5) (by decide); have c3 : ∀ o, (w1.alloc o).cell? ⟨b, 3, none⟩ = some (.int .i64 (r1.at_ : Int)) := fun o => World.rowIs.cell (World.rowIs.alloc hr1.row o) (i := 3) (by decide); have z33 : ∀ o, (w1.alloc o).frozen? ⟨b, 3, none⟩ = false := fun o => World.rowIs.frozen (World.rowIs.alloc hr1.row o) 3; clear hr1 hg1)
        exact bodyPost_ret (v := .bool true) (by simp [results, Tryz.results39, go_sem]) rfl ⟨by rw [HE.out], by rw [HR.out, if_pos HE.out]; exact (H1.out.1.below (lbox w1 _)).set_at (r1.at_ + 1), grown_set (grown_trans H1.out.2 (grown_of_below (lbox w1 _) (some b))) 3 _⟩
      · have htb : (q.text.toList == s.toList) = false := text_ne ht
        have HE := Lib.hid (show B = false by rw [HB.out]; exact decide_eq_false (fun g => ht g.2.2))
        clear he hk ht
        go_enter Tryz.func39, Tryz.ntmps39
        go_wp2_with (go_at_call 38; (with_reducible refine (HP.out _ HH.out).mono ?_); rintro e w1 ⟨rfl, hr1, hg1⟩; have H1 := Lib.hid (And.intro hr1 hg1); have n1 : ¬ b = w1.heap.size := Nat.ne_of_lt hr1.row.lt; have c5 : ∀ o, (w1.alloc o).cell? ⟨b, 5, none⟩ = some (.int .i64 r1.err) := fun o => World.rowIs.cell (World.rowIs.alloc hr1.row o) (i := 5) (by decide); have c3 : ∀ o, (w1.alloc o).cell? ⟨b, 3, none⟩ = some (.int .i64 (r1.at_ : Int)) := fun o => World.rowIs.cell (World.rowIs.alloc hr1.row o) (i := 3) (by decide); have z33 : ∀ o, (w1.alloc o).frozen? ⟨b, 3, none⟩ = false := fun o => World.rowIs.frozen (World.rowIs.alloc hr1.row o) 3; clear hr1 hg1)
        exact bodyPost_ret (v := .bool false) (by simp [results, Tryz.results39, go_sem]) rfl ⟨by rw [HE.out], by rw [HR.out, if_neg (fun g => Bool.noConfusion (HE.out.symm.trans g))]; exact H1.out.1.below (lbox w1 _), grown_trans H1.out.2 (grown_of_below (lbox w1 _) (some b))⟩
    · have hkb : (q.kind != k) = true := bne_iff_ne.2 hk
      have HE := Lib.hid (show B = false by rw [HB.out]; exact decide_eq_false (fun g => hk g.2.1))
      clear he hk
      go_enter Tryz.func39, Tryz.ntmps39
      go_wp2_with (go_at_call 38; (with_reducible refine (HP.out _ HH.out).mono ?_); rintro e w1 ⟨rfl, hr1, hg1⟩; have H1 := Lib.hid (And.intro hr1 hg1); have n1 : ¬ b = w1.heap.size := Nat.ne_of_lt hr1.row.lt; have c5 : ∀ o, (w1.alloc o).cell? ⟨b, 5, none⟩ = some (.int .i64 r1.err) := fun o => World.rowIs.cell (World.rowIs.alloc hr1.row o) (i := 5) (by decide); have c3 : ∀ o, (w1.alloc o).cell? ⟨b, 3, none⟩ = some (.int .i64 (r1.at_ : Int)) := fun o => World.rowIs.cell (World.rowIs.alloc hr1.row o) (i := 3) (by decide); have z33 : ∀ o, (w1.alloc o).frozen? ⟨b, 3, none⟩ = false := fun o => World.rowIs.frozen (World.rowIs.alloc hr1.row o) 3; clear hr1 hg1)
      exact bodyPost_ret (v := .bool false) (by simp [results, Tryz.results39, go_sem]) rfl ⟨by rw [HE.out], by rw [HR.out, if_neg (fun g => Bool.noConfusion (HE.out.symm.trans g))]; exact H1.out.1.below (lbox w1 _), grown_trans H1.out.2 (grown_of_below (lbox w1 _) (some b))⟩
  · have hb : (r1.err != 0) = true := bne_iff_ne.2 he
    have HE := Lib.hid (show B = false by rw [HB.out]; exact decide_eq_false (fun g => he g.1))
    clear he
    go_enter Tryz.func39, Tryz.ntmps39
    go_wp2_with (go_at_call 38; (with_reducible refine (HP.out _ HH.out).mono ?_); rintro e w1 ⟨rfl, hr1, hg1⟩; have H1 := Lib.hid (And.intro hr1 hg1); have n1 : ¬ b = w1.heap.size := Nat.ne_of_lt hr1.row.lt; have c5 : ∀ o, (w1.alloc o).cell? ⟨b, 5, none⟩ = some (.int .i64 r1.err) := fun o => World.rowIs.cell (World.rowIs.alloc hr1.row o) (i := 5) (by decide); have c3 : ∀ o, (w1.alloc o).cell? ⟨b, 3, none⟩ = some (.int .i64 (r1.at_ : Int)) := fun o => World.rowIs.cell (World.rowIs.alloc hr1.row o) (i := 3) (by decide); have z33 : ∀ o, (w1.alloc o).frozen? ⟨b, 3, none⟩ = false := fun o => World.rowIs.frozen (World.rowIs.alloc hr1.row o) 3; clear hr1 hg1)
    exact bodyPost_ret (v := .bool false) (by simp [results, Tryz.results39, go_sem]) rfl ⟨by rw [HE.out], by rw [HR.out, if_neg (fun g => Bool.noConfusion (HE.out.symm.trans g))]; exact H1.out.1.below (lbox w1 _), grown_trans H1.out.2 (grown_of_below (lbox w1 _) (some b))⟩
set_option maxRecDepth 100000 in
theorem rd6_want (k : Int) (s : ByteArray) (hat : r.at_ ≤ 1000000) : Calls Tryz.prog 35 #[.pointer (some ⟨b, 0, none⟩), .int .i64 k, .string s] w (RdP w b A cap S (.tuple #[]) (r.wantR S k s)) := by
  have HI := Lib.hid (fun w h => rd6_is w b A cap S r h k s hat)
  have HP := Lib.hid (fun w h => rd6_peek w b A cap S (r.isR S k s) h)
  have HF := Lib.hid (fun w h => rd6_fails w b A cap S ((r.isR S k s).peekR S) h 61 ((r.isR S k s).peekT S).pos)
  have HR := Lib.hid (show r.wantR S k s = if r.isB S k s = true then r.isR S k s else ((r.isR S k s).peekR S).fails 61 ((r.isR S k s).peekT S).pos from rfl)
  have HH := Lib.hid h
  clear h
  generalize r.wantR S k s = r4 at HR ⊢
  generalize ((r.isR S k s).peekR S).fails 61 ((r.isR S k s).peekT S).pos = r3 at HR HF
  generalize (r.isR S k s).peekT S = q at HP HF
  generalize (r.isR S k s).peekR S = r2 at HP HF
  generalize r.isR S k s = r1 at HI HP HR
  generalize r.isB S k s = B at HI HR
  simp only [tkV] at HP
  have hfld : ∀ V : World, Sem.run Tryz.prog (Instr.field 77 (Value.agg #[.int .i64 q.kind, .string q.text, .int .u64 (q.num : Int), .int .i64 (q.pos : Int)]) 3) V = Result.ok (Value.int .i64 (q.pos : Int)) V := fun V => rfl
  cases B
  · have HE := Lib.hid (show r4 = r3 from HR.out)
    clear HR
    go_enter Tryz.func35, Tryz.ntmps35
    go_wp2_with (first | (go_at_call 39; (with_reducible refine (HI.out _ HH.out).mono ?_); rintro e w1 ⟨rfl, hr1, hg1⟩; have H1 := Lib.hid (And.intro hr1 hg1); clear hr1 hg1) | (go_at_call 38; (with_reducible refine (HP.out _ H1.out.1).mono ?_); rintro e w2 ⟨rfl, hr2, hg2⟩; have H2 := Lib.hid (And.intro hr2 (grown_trans H1.out.2 hg2)); clear hr2 hg2) | (go_at_call 40; (with_reducible refine (HF.out _ H2.out.1).mono ?_); rintro e w3 ⟨rfl, hr3, hg3⟩; have H3 := Lib.hid (And.intro hr3 (grown_trans H2.out.2 hg3)); clear hr3 hg3))
    go_end0
    exact ⟨rfl, by rw [HE.out]; exact H3.out.1, H3.out.2⟩
  · have HE := Lib.hid (show r4 = r1 from HR.out)
    clear HR
    go_enter Tryz.func35, Tryz.ntmps35
    go_wp2_with (go_at_call 39; (with_reducible refine (HI.out _ HH.out).mono ?_); rintro e w1 ⟨rfl, hr1, hg1⟩; have H1 := Lib.hid (And.intro hr1 hg1); clear hr1 hg1)
    go_end0
    exact ⟨rfl, by rw [HE.out]; exact H1.out.1, H1.out.2⟩
set_option maxRecDepth 100000 in
theorem rd6_kind (k : Int) (hat : r.at_ ≤ 1000000) : Calls Tryz.prog 36 #[.pointer (some ⟨b, 0, none⟩), .int .i64 k] w (RdP w b A cap S (tkV (r.kindT S k)) (r.kindR S k)) := by
  have hlt := h.row.lt
  have hat1 : (r.peekR S).at_ ≤ 1000000 := by unfold Rd.peekR; split <;> exact hat
  have HP := Lib.hid (fun w h => rd6_peek w b A cap S r h)
  have HN := Lib.hid (fun w h => rd6_next w b A cap S (r.peekR S) h hat1)
  have HF := Lib.hid (fun w h => rd6_fails w b A cap S (r.peekR S) h 61 (r.peekT S).pos)
  have HR := Lib.hid (show r.kindR S k = if (r.peekT S).kind = k then (r.peekR S).nextR S else (r.peekR S).fails 61 (r.peekT S).pos from rfl)
  have HT := Lib.hid (show r.kindT S k = if (r.peekT S).kind = k then (r.peekR S).peekT S else noT from rfl)
  have HB := Lib.hid (h.below (lbox w tokO6))
  have HG := Lib.hid (grown_of_below (lbox w tokO6) (some b))
  clear h
  generalize r.kindR S k = r4 at HR ⊢
  generalize r.kindT S k = q4 at HT ⊢
  generalize (r.peekR S).fails 61 (r.peekT S).pos = r3 at HR HF
  generalize (r.peekR S).nextR S = r2 at HR HN
  generalize (r.peekR S).peekT S = q2 at HT HN
  generalize r.peekT S = q at HP HF HR HT
  generalize r.peekR S = r1 at HP HF HN
  by_cases hk : q.kind = k
  · have hkb : (q.kind != k) = false := by rw [hk]; exact bne_self_eq_false _
    have HE := Lib.hid (show r4 = r2 ∧ q4 = q2 from ⟨HR.out.trans (if_pos hk), HT.out.trans (if_pos hk)⟩)
    clear hk HR HT
    go_enter Tryz.func36, Tryz.ntmps36
    go_wp2_with (first | (go_at_call 38; (with_reducible refine (HP.out _ HB.out).mono ?_); rintro e w1 ⟨rfl, hr1, hg1⟩; have H1 := Lib.hid (And.intro hr1 (grown_trans HG.out hg1)); have hbx := tbox6 hlt hg1; have HBX := Lib.hid hbx; have hbo := fun o => (Below.heap_alloc w1 o w.heap.size (Array.getElem?_eq_some_iff.1 hbx).1).trans hbx; have HBO := Lib.hid hbo; clear hbo; have n1 : ¬ b = w1.heap.size := Nat.ne_of_lt hr1.row.lt; have n2 : ¬ b = w.heap.size := Nat.ne_of_lt hlt; have n3 : ¬ w1.heap.size = w.heap.size := fun e => absurd (Array.getElem?_eq_some_iff.1 hbx).1 (by omega); have H1o := Lib.hid (fun o => And.intro (RdAt.below hr1 (lbox w1 o)) (grown_trans (grown_trans HG.out hg1) (grown_of_below (lbox w1 o) (some b)))); clear hr1 hg1 hbx) | (go_at_call 71; (with_reducible refine (HN.out _ (H1o.out _).1).mono ?_); rintro e w2 ⟨rfl, hr2, hg2⟩; have H2 := Lib.hid (And.intro hr2 (grown_trans (H1o.out _).2 hg2)); have hbx := (hg2.block w.heap.size (Array.getElem?_eq_some_iff.1 (HBO.out _)).1 (fun e => by injection e with e; omega)).trans (HBO.out _); have d0 := cell6 hbx 0 rfl; have d1 := cell6 hbx 1 rfl; have d2 := cell6 hbx 2 rfl; have d3 := cell6 hbx 3 rfl; have z0 := frozen6 hbx 0; have z1 := frozen6 hbx 1; have z2 := frozen6 hbx 2; have z3 := frozen6 hbx 3; clear hr2 hg2 hbx))
    exact bodyPost_ret (v := tkV q2) (by simp [results, Tryz.results36, go_sem, noT, d0, d1, d2, d3, World.cell?_setCell_same', n1, n2, n3]) rfl ⟨by rw [HE.out.2], by rw [HE.out.1]; exact (((H2.out.1.new hlt 0 _).new hlt 1 _).new hlt 2 _).new hlt 3 _, grown_new (grown_new (grown_new (grown_new H2.out.2 (Nat.le_refl _) 0 _) (Nat.le_refl _) 1 _) (Nat.le_refl _) 2 _) (Nat.le_refl _) 3 _⟩
  · have hkb : (q.kind != k) = true := bne_iff_ne.2 hk
    have HE := Lib.hid (show r4 = r3 ∧ q4 = noT from ⟨HR.out.trans (if_neg hk), HT.out.trans (if_neg hk)⟩)
    clear hk HR HT
    go_enter Tryz.func36, Tryz.ntmps36
    go_wp2_with (first | (go_at_call 38; (with_reducible refine (HP.out _ HB.out).mono ?_); rintro e w1 ⟨rfl, hr1, hg1⟩; have H1 := Lib.hid (And.intro hr1 (grown_trans HG.out hg1)); have hbx := tbox6 hlt hg1; have HBX := Lib.hid hbx; have hbo := fun o => (Below.heap_alloc w1 o w.heap.size (Array.getElem?_eq_some_iff.1 hbx).1).trans hbx; have HBO := Lib.hid hbo; clear hbo; have n1 : ¬ b = w1.heap.size := Nat.ne_of_lt hr1.row.lt; have n2 : ¬ b = w.heap.size := Nat.ne_of_lt hlt; have n3 : ¬ w1.heap.size = w.heap.size := fun e => absurd (Array.getElem?_eq_some_iff.1 hbx).1 (by omega); have H1o := Lib.hid (fun o => And.intro (RdAt.below hr1 (lbox w1 o)) (grown_trans (grown_trans HG.out hg1) (grown_of_below (lbox w1 o) (some b)))); clear hr1 hg1 hbx) | (go_at_call 40; (with_reducible refine (HF.out _ (H1o.out _).1).mono ?_); rintro e w2 ⟨rfl, hr2, hg2⟩; have H2 := Lib.hid (And.intro hr2 (grown_trans (H1o.out _).2 hg2)); have hbx := (hg2.block w.heap.size (Array.getElem?_eq_some_iff.1 (HBO.out _)).1 (fun e => by injection e with e; omega)).trans (HBO.out _); have d0 := cell6 hbx 0 rfl; have d1 := cell6 hbx 1 rfl; have d2 := cell6 hbx 2 rfl; have d3 := cell6 hbx 3 rfl; have z0 := frozen6 hbx 0; have z1 := frozen6 hbx 1; have z2 := frozen6 hbx 2; have z3 := frozen6 hbx 3; clear hr2 hg2 hbx))
    exact bodyPost_ret (v := tkV noT) (by simp [results, Tryz.results36, go_sem, noT, d0, d1, d2, d3, World.cell?_setCell_same', n1, n2, n3]) rfl ⟨by rw [HE.out.2], by rw [HE.out.1]; exact (((H2.out.1.new hlt 0 _).new hlt 1 _).new hlt 2 _).new hlt 3 _, grown_new (grown_new (grown_new (grown_new H2.out.2 (Nat.le_refl _) 0 _) (Nat.le_refl _) 1 _) (Nat.le_refl _) 2 _) (Nat.le_refl _) 3 _⟩
end
end Go.Proofs.YtgeapkjegemkeaaGreatDoor
namespace Go.Proofs.YtgeapkjegemkeaaGreatDoor
open Go Go.RowKit
set_option linter.unusedSimpArgs false
set_option linter.unusedVariables false
set_option maxRecDepth 100000 in
theorem lit_is6 {s : ByteArray} {a : Array UInt8} (h : s = ⟨a⟩) : (s.toList == a.toList) = true := by rw [h, ByteArray.toList_eq]; exact beq_self_eq_true _
set_option maxRecDepth 100000 in
theorem lit_ne6 {s : ByteArray} {a : Array UInt8} (h : ¬ s = ⟨a⟩) : (s.toList == a.toList) = false := by
  have := text_ne h
  rw [ByteArray.toList_eq ⟨a⟩] at this
  exact this
set_option maxRecDepth 100000 in
theorem ref6_rel (s : ByteArray) (w : World) : Calls Tryz.prog 138 #[.string s] w fun e w' => e = .returned (.int .i64 (relF s)) ∧ w = w' := by
  by_cases h0 : s = ⟨#[61, 61]⟩
  · have HE := Lib.hid (show relF s = 1 by unfold relF; rw [if_pos h0])
    have q0 : (s.toList == [61, 61]) = true := lit_is6 h0
    clear h0
    go_enter Tryz.func138, Tryz.ntmps138
    go_wp2
    exact bodyPost_ret (v := .int .i64 1) (by simp [results, Tryz.results138, go_sem]) rfl ⟨by rw [HE.out], rfl⟩
  have q0 : (s.toList == [61, 61]) = false := lit_ne6 h0
  by_cases h1 : s = ⟨#[33, 61]⟩
  · have HE := Lib.hid (show relF s = 2 by unfold relF; rw [if_neg h0, if_pos h1])
    have q1 : (s.toList == [33, 61]) = true := lit_is6 h1
    clear h0 h1
    go_enter Tryz.func138, Tryz.ntmps138
    go_wp2
    exact bodyPost_ret (v := .int .i64 2) (by simp [results, Tryz.results138, go_sem]) rfl ⟨by rw [HE.out], rfl⟩
  have q1 : (s.toList == [33, 61]) = false := lit_ne6 h1
  by_cases h2 : s = ⟨#[60]⟩
  · have HE := Lib.hid (show relF s = 3 by unfold relF; rw [if_neg h0, if_neg h1, if_pos h2])
    have q2 : (s.toList == [60]) = true := lit_is6 h2
    clear h0 h1 h2
    go_enter Tryz.func138, Tryz.ntmps138
    go_wp2
    exact bodyPost_ret (v := .int .i64 3) (by simp [results, Tryz.results138, go_sem]) rfl ⟨by rw [HE.out], rfl⟩
  have q2 : (s.toList == [60]) = false := lit_ne6 h2
  by_cases h3 : s = ⟨#[60, 61]⟩
  · have HE := Lib.hid (show relF s = 4 by unfold relF; rw [if_neg h0, if_neg h1, if_neg h2, if_pos h3])
    have q3 : (s.toList == [60, 61]) = true := lit_is6 h3
    clear h0 h1 h2 h3
    go_enter Tryz.func138, Tryz.ntmps138
    go_wp2
    exact bodyPost_ret (v := .int .i64 4) (by simp [results, Tryz.results138, go_sem]) rfl ⟨by rw [HE.out], rfl⟩
  have q3 : (s.toList == [60, 61]) = false := lit_ne6 h3
  by_cases h4 : s = ⟨#[62]⟩
  · have HE := Lib.hid (show relF s = 5 by unfold relF; rw [if_neg h0, if_neg h1, if_neg h2, if_neg h3, if_pos h4])
    have q4 : (s.toList == [62]) = true := lit_is6 h4
    clear h0 h1 h2 h3 h4
    go_enter Tryz.func138, Tryz.ntmps138
    go_wp2
    exact bodyPost_ret (v := .int .i64 5) (by simp [results, Tryz.results138, go_sem]) rfl ⟨by rw [HE.out], rfl⟩
  have q4 : (s.toList == [62]) = false := lit_ne6 h4
  by_cases h5 : s = ⟨#[62, 61]⟩
  · have HE := Lib.hid (show relF s = 6 by unfold relF; rw [if_neg h0, if_neg h1, if_neg h2, if_neg h3, if_neg h4, if_pos h5])
    have q5 : (s.toList == [62, 61]) = true := lit_is6 h5
    clear h0 h1 h2 h3 h4 h5
    go_enter Tryz.func138, Tryz.ntmps138
    go_wp2
    exact bodyPost_ret (v := .int .i64 6) (by simp [results, Tryz.results138, go_sem]) rfl ⟨by rw [HE.out], rfl⟩
  have q5 : (s.toList == [62, 61]) = false := lit_ne6 h5
  have HE := Lib.hid (show relF s = 0 by unfold relF; rw [if_neg h0, if_neg h1, if_neg h2, if_neg h3, if_neg h4, if_neg h5])
  clear h0 h1 h2 h3 h4 h5
  go_enter Tryz.func138, Tryz.ntmps138
  go_wp2
  exact bodyPost_ret (v := .int .i64 0) (by simp [results, Tryz.results138, go_sem]) rfl ⟨by rw [HE.out], rfl⟩
section
variable (w : World) (b : Nat) (A : Option Addr) (cap : Nat) (S : Src) (r : Rd) (h : RdAt w b A cap S r)
include h
set_option maxRecDepth 100000 in
theorem rd6_deeper (q : Nx) (hd : -1000000 ≤ r.deep ∧ r.deep ≤ 1000000) : Calls Tryz.prog 121 #[.pointer (some ⟨b, 0, none⟩), .agg #[.int .i64 q.kind, .string q.text, .int .u64 (q.num : Int), .int .i64 (q.pos : Int)]] w (RdP w b A cap S (.bool ((deeperR r q.pos).err == 0)) (deeperR r q.pos)) := by
  have hlt := h.row.lt
  have hw : IntKind.i64.wrap (r.deep + 1) = r.deep + 1 := by rw [IntWalk.i64_in _ (by omega)] <;> omega
  have c4 : w.cell? ⟨b, 4, none⟩ = some (.int .i64 r.deep) := World.rowIs.cell h.row (i := 4) (by decide)
  have z4 := World.rowIs.frozen h.row 4
  have H0 := h.set_deep (r.deep + 1)
  have hg0 : w.grownBy (w.setCell ⟨b, 4, none⟩ (.int .i64 (r.deep + 1))) (some b) := grown_set (World.grownBy.refl w _) 4 _
  have c4' : (w.setCell ⟨b, 4, none⟩ (.int .i64 (r.deep + 1))).cell? ⟨b, 4, none⟩ = some (.int .i64 (r.deep + 1)) := World.rowIs.cell H0.row (i := 4) (by decide)
  have c5' : (w.setCell ⟨b, 4, none⟩ (.int .i64 (r.deep + 1))).cell? ⟨b, 5, none⟩ = some (.int .i64 r.err) := World.rowIs.cell H0.row (i := 5) (by decide)
  have HF := Lib.hid (fun w h => rd6_fails w b A cap S { r with deep := r.deep + 1 } h 62 q.pos)
  have H := Lib.hid (fun o => And.intro (H0.below (lbox _ o)) (grown_trans hg0 (grown_of_below (lbox _ o) (some b))))
  have HR := Lib.hid (show deeperR r q.pos = if 64 < r.deep + 1 then ({ r with deep := r.deep + 1 } : Rd).fails 62 q.pos else { r with deep := r.deep + 1 } from rfl)
  clear h H0 hg0
  generalize deeperR r q.pos = r4 at HR ⊢
  by_cases hm : 64 < r.deep + 1
  · have HE := Lib.hid (show r4 = _ from HR.out.trans (if_pos hm))
    clear HR
    generalize ({ r with deep := r.deep + 1 } : Rd).fails 62 q.pos = r3 at HF HE
    go_enter Tryz.func121, Tryz.ntmps121
    go_wp2_with (go_at_call 40; (with_reducible refine (HF.out _ (H.out _).1).mono ?_); rintro e w1 ⟨rfl, hr1, hg1⟩; have c5 := World.rowIs.cell hr1.row (i := 5) (by decide); change _ = some (Value.int .i64 r3.err) at c5; have H1 := Lib.hid (And.intro hr1 (grown_trans (H.out _).2 hg1)); clear hr1 hg1)
    exact bodyPost_ret (v := .bool (r3.err == 0)) (by simp [results, Tryz.results121, go_sem]) rfl ⟨by rw [HE.out], by rw [HE.out]; exact H1.out.1, H1.out.2⟩
  · have HE := Lib.hid (show r4 = _ from HR.out.trans (if_neg hm))
    clear HR
    have hm' : ¬ 64 < r.deep + 1 := hm
    go_enter Tryz.func121, Tryz.ntmps121
    go_wp2
    exact bodyPost_ret (v := .bool (r.err == 0)) (by simp [results, Tryz.results121, go_sem]) rfl ⟨by rw [HE.out], by rw [HE.out]; exact (H.out _).1, (H.out _).2⟩
end
end Go.Proofs.YtgeapkjegemkeaaGreatDoor
namespace Go.Proofs.YtgeapkjegemkeaaGreatDoor
open Go Go.RowKit
set_option linter.unusedSimpArgs false
set_option linter.unusedVariables false
set_option maxRecDepth 100000 in
theorem arg_is {s : ByteArray} (hz : s.size = 4) : ((s.extract 0 3).toList == [97, 114, 103]) = decide (byt s 0 = 97 ∧ byt s 1 = 114 ∧ byt s 2 = 103) := by
  have h3 : (s.extract 0 3).size = 3 := by rw [ByteArray.size_extract]; omega
  rw [Bool.eq_iff_iff, decide_eq_true_iff]
  constructor
  · intro h
    have e : s.extract 0 3 = ⟨#[97, 114, 103]⟩ := by
      by_cases g : s.extract 0 3 = ⟨#[97, 114, 103]⟩
      · exact g
      · have q : ((s.extract 0 3).toList == [97, 114, 103]) = false := lit_ne6 g
        rw [q] at h; cases h
    have k : ∀ j, j < 3 → byt s j = byt (⟨#[97, 114, 103]⟩ : ByteArray) j := fun j hj => by
      rw [← e, byt_extract s 0 3 j (by omega) (by omega), Nat.zero_add]
    exact ⟨k 0 (by omega), k 1 (by omega), k 2 (by omega)⟩
  · rintro ⟨h0, h1, h2⟩
    have e : s.extract 0 3 = ⟨#[97, 114, 103]⟩ := byt_ext (by rw [h3]; rfl) (fun i hi => by
      rw [h3] at hi
      rw [byt_extract s 0 3 i (by omega) (by omega), Nat.zero_add]
      rcases i with _ | _ | _ | i
      · exact h0
      · exact h1
      · exact h2
      · omega)
    exact lit_is6 e
set_option maxRecDepth 100000 in
theorem ref6_field (s : ByteArray) (w : World) : Calls Tryz.prog 120 #[.string s] w fun e w' => e = .returned (.int .i64 (fieldF s)) ∧ w = w' := by
  by_cases h0 : s = bIp
  · have HE := Lib.hid (show fieldF s = 6 by unfold fieldF; rw [if_pos h0])
    have q0 : (s.toList == [105, 112]) = true := lit_is6 h0
    clear h0
    go_enter Tryz.func120, Tryz.ntmps120
    go_wp2
    exact bodyPost_ret (v := .int .i64 6) (by simp [results, Tryz.results120, go_sem]) rfl ⟨by rw [HE.out], rfl⟩
  have q0 : (s.toList == [105, 112]) = false := lit_ne6 h0
  by_cases hz : s.size = 4
  · have hzz : ((s.size : Int) == 4) = true := by rw [hz]; rfl
    have h3 : 3 < s.size := by omega
    by_cases hp : byt s 0 = 97 ∧ byt s 1 = 114 ∧ byt s 2 = 103
    · have q1 : ((s.extract 0 3).toList == [97, 114, 103]) = true := (arg_is hz).trans (decide_eq_true hp)
      have hb := byt_is h3
      have hlt := byt_lt s 3
      by_cases hr : 48 ≤ byt s 3 ∧ byt s 3 ≤ 53
      · have HE := Lib.hid (show fieldF s = (byt s 3 : Int) - 48 by unfold fieldF; rw [if_neg h0, if_pos ⟨hz, hp.1, hp.2.1, hp.2.2, hr.1, hr.2⟩])
        clear h0 hp
        go_enter Tryz.func120, Tryz.ntmps120
        go_wp2
        all_goals first | exact bodyPost_ret (v := .int .i64 ((byt s 3 : Int) - 48)) (by simp [results, Tryz.results120, go_sem]) rfl ⟨by rw [HE.out], rfl⟩ | omega
      · have HE := Lib.hid (show fieldF s = -1 by unfold fieldF; rw [if_neg h0, if_neg (fun g => hr ⟨g.2.2.2.2.1, g.2.2.2.2.2⟩)])
        clear h0 hp
        go_enter Tryz.func120, Tryz.ntmps120
        go_wp2
        all_goals exact bodyPost_ret (v := .int .i64 (-1)) (by simp [results, Tryz.results120, go_sem]) rfl ⟨by rw [HE.out], rfl⟩
    · have q1 : ((s.extract 0 3).toList == [97, 114, 103]) = false := (arg_is hz).trans (decide_eq_false hp)
      have HE := Lib.hid (show fieldF s = -1 by unfold fieldF; rw [if_neg h0, if_neg (fun g => hp ⟨g.2.1, g.2.2.1, g.2.2.2.1⟩)])
      clear h0 hp
      go_enter Tryz.func120, Tryz.ntmps120
      go_wp2
      exact bodyPost_ret (v := .int .i64 (-1)) (by simp [results, Tryz.results120, go_sem]) rfl ⟨by rw [HE.out], rfl⟩
  · have hzz : ((s.size : Int) == 4) = false := beq_false_of_ne (by omega)
    have HE := Lib.hid (show fieldF s = -1 by unfold fieldF; rw [if_neg h0, if_neg (fun g => hz g.1)])
    clear h0 hz
    go_enter Tryz.func120, Tryz.ntmps120
    go_wp2
    exact bodyPost_ret (v := .int .i64 (-1)) (by simp [results, Tryz.results120, go_sem]) rfl ⟨by rw [HE.out], rfl⟩
end Go.Proofs.YtgeapkjegemkeaaGreatDoor
