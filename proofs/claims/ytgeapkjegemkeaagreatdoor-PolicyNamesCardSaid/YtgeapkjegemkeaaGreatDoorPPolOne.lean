/-
  The program's not, inParentheses, one: contracts by values and places; one and expr by induction on the fuel. Conditions: those that each names.
-/
import Derived.Test.YtgeapkjegemkeaaGreatDoorPPolAll
namespace Go.Proofs.YtgeapkjegemkeaaGreatDoor
open Go Go.RowKit
set_option linter.unusedSimpArgs false
set_option linter.unusedVariables false

abbrev exCells (x : Ex) (A : Option Addr) (cap : Nat) : Obj := .cells #[.int .i64 x.op, .slice A x.args.length cap, .int .i64 x.field, .int .u64 (x.mask : Int), .int .i64 x.rel, .int .u64 (x.value : Int)] 39
theorem node_one {W : World} {lo : Nat} {x : Ex} {A : Option Addr} {cap : Nat} (o : Int) (hlo : lo ≤ W.heap.size) (h : ExIn W (fun k => lo ≤ k) x A cap) :
    ExIn (W.alloc (exCells x A cap)) (fun k => lo ≤ k) (.node o [x]) (some ⟨W.heap.size, 0, none⟩) 1 := by
  refine .inr ⟨by simp, W.heap.size, rfl, hlo, by simp, ⟨A, cap, h.keep (by simp) (fun _ hk => hk) (fun k _ hk => Below.heap_alloc W _ k hk), fun j u hj => ?_⟩, trivial⟩
  have := ex_cells W W.heap.size rfl x A cap j u hj
  rw [addr_add] at this
  exact this
theorem node_end {w4 : World} {R lo : Nat} {x : Ex} {A : Option Addr} {cap : Nat} (o : Int) (h : ExIn w4 (fun k => lo ≤ k) x A cap) (hR : R < lo) (hlo : lo ≤ w4.heap.size) (a b c d y z : Value) :
    ExIn (((((((w4.setCell ⟨R, 0, none⟩ a).setCell ⟨R, 1, none⟩ b).setCell ⟨R, 2, none⟩ c).setCell ⟨R, 3, none⟩ d).setCell ⟨R, 4, none⟩ y).setCell ⟨R, 5, none⟩ z).alloc (exCells x A cap)) (fun k => lo ≤ k) (.node o [x]) (some ⟨w4.heap.size, 0, none⟩) 1 := by
  have hs : ((((((w4.setCell ⟨R, 0, none⟩ a).setCell ⟨R, 1, none⟩ b).setCell ⟨R, 2, none⟩ c).setCell ⟨R, 3, none⟩ d).setCell ⟨R, 4, none⟩ y).setCell ⟨R, 5, none⟩ z).heap.size = w4.heap.size := by simp [World.setCell]
  have := node_one (W := ((((((w4.setCell ⟨R, 0, none⟩ a).setCell ⟨R, 1, none⟩ b).setCell ⟨R, 2, none⟩ c).setCell ⟨R, 3, none⟩ d).setCell ⟨R, 4, none⟩ y).setCell ⟨R, 5, none⟩ z)) o (by omega) (ex_set6 h (fun k hk => by omega) a b c d y z)
  rw [hs] at this
  exact this
/-- What is kept beside the reader's block. -/
theorem ex_grown {w w' : World} {b lo lo' : Nat} {x : Ex} {A : Option Addr} {cap : Nat} (h : ExIn w (fun k => lo ≤ k) x A cap) (hb : b < lo) (hlo : lo' ≤ lo) (hg : w.grownBy w' (some b)) : ExIn w' (fun k => lo' ≤ k) x A cap :=
  h.keep hg.size (fun k hk => by omega) (fun k hk hl => hg.block k hl (fun e => by injection e with e; omega))
/-- What stands behind a not; behind a bracket. -/
def notG (S : Src) (item : Nat → Got Ex) (d i : Nat) : Got Ex := (openG S d i).andThen fun _ j => (item j).andThen fun e k => .ok (.node 3 [e]) k
def parG (S : Src) (item : Nat → Got Ex) (d i : Nat) : Got Ex := (openG S d i).andThen fun _ j => (item j).andThen fun e k => (demandG S bShut k).andThen fun _ l => .ok e l
section
variable (s : ByteArray) (b d : Nat) (item : Nat → Got Ex) (N : Nat) (hd : d ≤ 64) (hfw : ∀ i, i < (srcF s).toks.length → Fwd (srcF s) 1 i (item i))
include hd hfw
omit hfw in
set_option maxHeartbeats 2000000 in
set_option maxRecDepth 100000 in
theorem pp_not (hone : d < 64 → OneC 113 s b (d + 1) item N) (w : World) (i : Nat) (hi : i < (srcF s).toks.length) (hN : (srcF s).toks.length - i < N + 1) (h : PAt w b s (tk (srcF s) i) d) (hk : (tk (srcF s) i).kind ≠ 1) :
    Calls Tryz.prog 135 #[.pointer (some ⟨b, 0, none⟩)] w (GotP (ExP w.heap.size) s w b d (notG (srcF s) item d i)) := by
  have hlt := h.lt
  have HR0 := Lib.hid (World.alloc_heap_new w (exO 0 0 0 0 0))
  have HG0 := Lib.hid (grown_of_below (lbox w (exO 0 0 0 0 0)) (some b))
  have hO := pp_open (w.alloc (exO 0 0 0 0 0)) b s i d hi (words_alloc h _) hk hd
  have hfo := fwd_open (S := srcF s) d i
  have h64 : ∀ u j, openG (srcF s) d i = .ok u j → d < 64 := fun u j e => by
    unfold openG at e
    by_cases h6 : d = 64
    · rw [if_pos h6] at e; cases e
    · omega
  unfold notG
  rcases hg0 : openG (srcF s) d i with ⟨u, j⟩ | ⟨er, p⟩ | _
  · rw [hg0] at hO hfo
    have hj := hfo u j rfl
    have hd2 := h64 u j hg0
    have hI := fun (W : World) hp => hone hd2 W j hj.2 (by omega) hp
    show Calls _ _ _ _ (GotP (ExP w.heap.size) s w b d ((item j).andThen fun e k => .ok (.node 3 [e]) k))
    have HO := Lib.hid hO
    have HC := Lib.hid (fun (W : World) (y : Nx) hp => pp_close W b s d y hp hd2)
    clear hO h hfo hg0 h64 hone hN hk hi hd
    generalize item j = gi at hI ⊢
    rcases gi with ⟨x, k⟩ | ⟨er, p⟩ | _
    · show Calls _ _ _ _ (GotP (ExP w.heap.size) s w b d (.ok (.node 3 [x]) k))
      have HI := Lib.hid hI
      clear hI hj
      go_enter Tryz.func135, Tryz.ntmps135
      go_wp2_with (first | (go_at_call 146; (with_reducible refine HO.out.mono ?_); rintro e w1 ⟨rfl, hp, hg⟩; have H1 := Lib.hid (And.intro hp hg); clear hp hg) | (go_at_call 113; (with_reducible refine (HI.out _ H1.out.1).mono ?_); rintro e w2 ⟨v, rfl, ⟨A, cap, rfl, hx⟩, hp, hg⟩; have hb2 := hp.lt; have H2 := Lib.hid (And.intro hx (And.intro (words_alloc hp (exCells x A cap)) hg)); clear hx hp hg) | (go_at_call 147; (with_reducible refine (HC.out _ _ H2.out.2.1).mono ?_); rintro e w4 ⟨rfl, hp, hg⟩; have hE := kept_box (World.alloc_heap_new w2 (exCells x A cap)) hg (by omega); have e0 := cell6 hE 0 rfl; have e1 := cell6 hE 1 rfl; have e2 := cell6 hE 2 rfl; have e3 := cell6 hE 3 rfl; have e4 := cell6 hE 4 rfl; have e5 := cell6 hE 5 rfl; have hgg := grown_trans (grown_trans (grown_trans H1.out.2 H2.out.2.2) (grown_of_below (lbox w2 (exCells x A cap)) (some b))) hg; have hr := kept_box HR0.out hgg (by omega); have hw0 : w.heap.size < w4.heap.size := (Array.getElem?_eq_some_iff.1 hr).1; have u0 := cell6 hr 0 rfl; have u1 := cell6 hr 1 rfl; have u2 := cell6 hr 2 rfl; have u3 := cell6 hr 3 rfl; have u4 := cell6 hr 4 rfl; have u5 := cell6 hr 5 rfl; have y0 := frozen6 hr 0; have y1 := frozen6 hr 1; have y2 := frozen6 hr 2; have y3 := frozen6 hr 3; have y4 := frozen6 hr 4; have y5 := frozen6 hr 5; have H4 := Lib.hid (And.intro hp (And.intro hg (And.intro hgg hr))); clear hp hg hgg hr hE))
      have hz := kept_alloc (heap_set1 (heap_set1 (heap_set1 (heap_set1 (heap_set1 (heap_set1 H4.out.2.2.2 0 (.int .i64 3)) 1 (.slice (some ⟨w4.heap.size, 0, none⟩) 1 1)) 2 (.int .i64 0)) 3 (.int .u64 0)) 4 (.int .i64 0)) 5 (.int .u64 0)) (exCells x A cap)
      have v0 := cell6 hz 0 rfl
      have v1 := cell6 hz 1 rfl
      have v2 := cell6 hz 2 rfl
      have v3 := cell6 hz 3 rfl
      have v4 := cell6 hz 4 rfl
      have v5 := cell6 hz 5 rfl
      have s1 := H1.out.2.size
      have s0 : (w.alloc (exO 0 0 0 0 0)).heap.size = w.heap.size + 1 := by simp
      have hx4 := ex_grown (lo' := w.heap.size + 1) H2.out.1 (b := b) (by omega) (by omega) (grown_trans (grown_of_below (lbox w2 (exCells x A cap)) (some b)) H4.out.2.1)
      exact bodyPost_ret (v := .agg #[.int .i64 3, .slice (some ⟨w4.heap.size, 0, none⟩) 1 1, .int .i64 0, .int .u64 0, .int .i64 0, .int .u64 0]) (by simp [results, Tryz.results135, go_sem, v0, v1, v2, v3, v4, v5]) rfl ⟨_, rfl, ⟨_, _, rfl, (node_end 3 hx4 (Nat.lt_succ_self _) (by omega) _ _ _ _ _ _).keep (Nat.le_refl _) (fun k hk => by omega) (fun _ _ _ => rfl)⟩, words_alloc (pset6 H4.out.1 (by omega) _ _ _ _ _ _) _, grown_trans (gset6 (grown_trans HG0.out H4.out.2.2.1) (Nat.le_refl _) _ _ _ _ _ _) (grown_of_below (lbox _ _) (some b))⟩
    · show Calls _ _ _ _ (GotP (ExP w.heap.size) s w b d (.bad er p))
      have HI := Lib.hid hI
      clear hI hj
      go_enter Tryz.func135, Tryz.ntmps135
      go_wp2_with (first | (go_at_call 146; (with_reducible refine HO.out.mono ?_); rintro e w1 ⟨rfl, hp, hg⟩; have H1 := Lib.hid (And.intro hp hg); clear hp hg) | (go_at_call 113; (with_reducible refine (HI.out _ H1.out.1).mono ?_); rintro e w2 ⟨rfl, hg⟩; have H2 := Lib.hid (grown_trans (grown_trans HG0.out H1.out.2) hg); clear hg))
      exact ⟨rfl, rfl, H2.out⟩
    · show Calls _ _ _ _ (GotP (ExP w.heap.size) s w b d .out)
      have HI := Lib.hid hI
      clear hI hj
      go_enter Tryz.func135, Tryz.ntmps135
      go_wp2_with (first | (go_at_call 146; (with_reducible refine HO.out.mono ?_); rintro e w1 ⟨rfl, hp, hg⟩; have H1 := Lib.hid (And.intro hp hg); clear hp hg) | (go_at_call 113; (with_reducible refine (HI.out _ H1.out.1).mono ?_); intro e w2 hF; exact hF.elim))
  · rw [hg0] at hO
    show Calls _ _ _ _ (GotP (ExP w.heap.size) s w b d (.bad er p))
    have HO := Lib.hid hO
    clear hO h hfo hg0 h64 hone hN hk hi hd
    go_enter Tryz.func135, Tryz.ntmps135
    go_wp2_with (go_at_call 146; (with_reducible refine HO.out.mono ?_); rintro e w1 ⟨rfl, hg⟩; have H1 := Lib.hid (grown_trans HG0.out hg); clear hg)
    exact ⟨rfl, rfl, H1.out⟩
  · rw [hg0] at hO
    show Calls _ _ _ _ (GotP (ExP w.heap.size) s w b d .out)
    have HO := Lib.hid hO
    clear hO h hfo hg0 h64 hone hN hk hi hd
    go_enter Tryz.func135, Tryz.ntmps135
    go_wp2_with (go_at_call 146; (with_reducible refine HO.out.mono ?_); intro e w1 hF; exact hF.elim)
set_option maxHeartbeats 2000000 in
set_option maxRecDepth 100000 in
theorem pp_par (hone : d < 64 → OneC 59 s b (d + 1) item N) (w : World) (i : Nat) (hi : i < (srcF s).toks.length) (hN : (srcF s).toks.length - i < N + 1) (h : PAt w b s (tk (srcF s) i) d) (hk : (tk (srcF s) i).kind ≠ 1) :
    Calls Tryz.prog 136 #[.pointer (some ⟨b, 0, none⟩)] w (GotP (ExP w.heap.size) s w b d (parG (srcF s) item d i)) := by
  have hlt := h.lt
  have HR0 := Lib.hid (World.alloc_heap_new w (exO 0 0 0 0 0))
  have HG0 := Lib.hid (grown_of_below (lbox w (exO 0 0 0 0 0)) (some b))
  have hO := pp_open (w.alloc (exO 0 0 0 0 0)) b s i d hi (words_alloc h _) hk hd
  have hfo := fwd_open (S := srcF s) d i
  have h64 : ∀ u j, openG (srcF s) d i = .ok u j → d < 64 := fun u j e => by
    unfold openG at e
    by_cases h6 : d = 64
    · rw [if_pos h6] at e; cases e
    · omega
  unfold parG
  rcases hg0 : openG (srcF s) d i with ⟨u, j⟩ | ⟨er, p⟩ | _
  · rw [hg0] at hO hfo
    have hj := hfo u j rfl
    have hd2 := h64 u j hg0
    have hI := fun (W : World) hp => hone hd2 W j hj.2 (by omega) hp
    have hfj := hfw j hj.2
    show Calls _ _ _ _ (GotP (ExP w.heap.size) s w b d ((item j).andThen fun e k => (demandG (srcF s) bShut k).andThen fun _ l => .ok e l))
    have HO := Lib.hid hO
    have HC := Lib.hid (fun (W : World) (y : Nx) hp => pp_close W b s d y hp hd2)
    clear hO h hfo hg0 h64 hone hN hk hi hd
    generalize item j = gi at hI hfj ⊢
    rcases gi with ⟨x, k⟩ | ⟨er, p⟩ | _
    · have hkl := (hfj x k rfl).2
      have hD := fun (W : World) hp => pp_demand W b s k (d + 1) hkl hp ⟨#[41]⟩ (by decide)
      show Calls _ _ _ _ (GotP (ExP w.heap.size) s w b d ((demandG (srcF s) ⟨#[41]⟩ k).andThen fun _ l => .ok x l))
      have HI := Lib.hid hI
      clear hI hfw hj hfj hkl
      generalize demandG (srcF s) ⟨#[41]⟩ k = gd at hD ⊢
      rcases gd with ⟨u2, l⟩ | ⟨er, p⟩ | _
      · show Calls _ _ _ _ (GotP (ExP w.heap.size) s w b d (.ok x l))
        have HD := Lib.hid hD
        clear hD
        go_enter Tryz.func136, Tryz.ntmps136
        go_wp2_with (first | (go_at_call 146; (with_reducible refine HO.out.mono ?_); rintro e w1 ⟨rfl, hp, hg⟩; have H1 := Lib.hid (And.intro hp hg); clear hp hg) | (go_at_call 59; (with_reducible refine (HI.out _ H1.out.1).mono ?_); rintro e w2 ⟨v, rfl, ⟨A, cap, rfl, hx⟩, hp, hg⟩; have hb2 := hp.lt; have H2 := Lib.hid (And.intro hx (And.intro (words_alloc hp (exCells x A cap)) hg)); clear hx hp hg) | (go_at_call 50; (with_reducible refine (HD.out _ H2.out.2.1).mono ?_); rintro e w3 ⟨v, rfl, rfl, hp, hg⟩; have H3 := Lib.hid (And.intro hp hg); clear hp hg) | (go_at_call 147; (with_reducible refine (HC.out _ _ H3.out.1).mono ?_); rintro e w4 ⟨rfl, hp, hg⟩; have hE := kept_box (World.alloc_heap_new w2 (exCells x A cap)) (grown_trans H3.out.2 hg) (by omega); have e0 := cell6 hE 0 rfl; have e1 := cell6 hE 1 rfl; have e2 := cell6 hE 2 rfl; have e3 := cell6 hE 3 rfl; have e4 := cell6 hE 4 rfl; have e5 := cell6 hE 5 rfl; have hgg := grown_trans (grown_trans (grown_trans (grown_trans H1.out.2 H2.out.2.2) (grown_of_below (lbox w2 (exCells x A cap)) (some b))) H3.out.2) hg; have hr := kept_box HR0.out hgg (by omega); have u0 := cell6 hr 0 rfl; have u1 := cell6 hr 1 rfl; have u2 := cell6 hr 2 rfl; have u3 := cell6 hr 3 rfl; have u4 := cell6 hr 4 rfl; have u5 := cell6 hr 5 rfl; have y0 := frozen6 hr 0; have y1 := frozen6 hr 1; have y2 := frozen6 hr 2; have y3 := frozen6 hr 3; have y4 := frozen6 hr 4; have y5 := frozen6 hr 5; have H4 := Lib.hid (And.intro hp (And.intro hg hgg)); clear hp hg hgg hr hE))
        have s1 := H1.out.2.size
        have s0 : (w.alloc (exO 0 0 0 0 0)).heap.size = w.heap.size + 1 := by simp
        have hx4 := ex_grown (lo' := w.heap.size + 1) H2.out.1 (b := b) (by omega) (by omega) (grown_trans (grown_of_below (lbox w2 (exCells x A cap)) (some b)) (grown_trans H3.out.2 H4.out.2.1))
        exact bodyPost_ret (v := exV x A cap) (by simp [results, Tryz.results136, go_sem, u0, u1, u2, u3, u4, u5, World.cell?_setCell_same']) rfl ⟨_, rfl, ⟨A, cap, rfl, (ex_set6 hx4 (fun k hk => by omega) _ _ _ _ _ _).keep (Nat.le_refl _) (fun k hk => by omega) (fun _ _ _ => rfl)⟩, pset6 H4.out.1 (by omega) _ _ _ _ _ _, gset6 (grown_trans HG0.out H4.out.2.2) (Nat.le_refl _) _ _ _ _ _ _⟩
      · show Calls _ _ _ _ (GotP (ExP w.heap.size) s w b d (.bad er p))
        have HD := Lib.hid hD
        clear hD
        go_enter Tryz.func136, Tryz.ntmps136
        go_wp2_with (first | (go_at_call 146; (with_reducible refine HO.out.mono ?_); rintro e w1 ⟨rfl, hp, hg⟩; have H1 := Lib.hid (And.intro hp hg); clear hp hg) | (go_at_call 59; (with_reducible refine (HI.out _ H1.out.1).mono ?_); rintro e w2 ⟨v, rfl, ⟨A, cap, rfl, hx⟩, hp, hg⟩; have hb2 := hp.lt; have H2 := Lib.hid (And.intro hx (And.intro (words_alloc hp (exCells x A cap)) hg)); clear hx hp hg) | (go_at_call 50; (with_reducible refine (HD.out _ H2.out.2.1).mono ?_); rintro e w3 ⟨rfl, hg⟩; have H3 := Lib.hid (grown_trans (grown_trans (grown_trans (grown_trans HG0.out H1.out.2) H2.out.2.2) (grown_of_below (lbox w2 (exCells x A cap)) (some b))) hg); clear hg))
        exact ⟨rfl, rfl, H3.out⟩
      · show Calls _ _ _ _ (GotP (ExP w.heap.size) s w b d .out)
        have HD := Lib.hid hD
        clear hD
        go_enter Tryz.func136, Tryz.ntmps136
        go_wp2_with (first | (go_at_call 146; (with_reducible refine HO.out.mono ?_); rintro e w1 ⟨rfl, hp, hg⟩; have H1 := Lib.hid (And.intro hp hg); clear hp hg) | (go_at_call 59; (with_reducible refine (HI.out _ H1.out.1).mono ?_); rintro e w2 ⟨v, rfl, ⟨A, cap, rfl, hx⟩, hp, hg⟩; have hb2 := hp.lt; have H2 := Lib.hid (And.intro hx (And.intro (words_alloc hp (exCells x A cap)) hg)); clear hx hp hg) | (go_at_call 50; (with_reducible refine (HD.out _ H2.out.2.1).mono ?_); intro e w3 hF; exact hF.elim))
    · show Calls _ _ _ _ (GotP (ExP w.heap.size) s w b d (.bad er p))
      have HI := Lib.hid hI
      clear hI hfw hj hfj
      go_enter Tryz.func136, Tryz.ntmps136
      go_wp2_with (first | (go_at_call 146; (with_reducible refine HO.out.mono ?_); rintro e w1 ⟨rfl, hp, hg⟩; have H1 := Lib.hid (And.intro hp hg); clear hp hg) | (go_at_call 59; (with_reducible refine (HI.out _ H1.out.1).mono ?_); rintro e w2 ⟨rfl, hg⟩; have H2 := Lib.hid (grown_trans (grown_trans HG0.out H1.out.2) hg); clear hg))
      exact ⟨rfl, rfl, H2.out⟩
    · show Calls _ _ _ _ (GotP (ExP w.heap.size) s w b d .out)
      have HI := Lib.hid hI
      clear hI hfw hj hfj
      go_enter Tryz.func136, Tryz.ntmps136
      go_wp2_with (first | (go_at_call 146; (with_reducible refine HO.out.mono ?_); rintro e w1 ⟨rfl, hp, hg⟩; have H1 := Lib.hid (And.intro hp hg); clear hp hg) | (go_at_call 59; (with_reducible refine (HI.out _ H1.out.1).mono ?_); intro e w2 hF; exact hF.elim))
  · rw [hg0] at hO
    show Calls _ _ _ _ (GotP (ExP w.heap.size) s w b d (.bad er p))
    have HO := Lib.hid hO
    clear hO h hfo hg0 h64 hone hN hk hi hd hfw
    go_enter Tryz.func136, Tryz.ntmps136
    go_wp2_with (go_at_call 146; (with_reducible refine HO.out.mono ?_); rintro e w1 ⟨rfl, hg⟩; have H1 := Lib.hid (grown_trans HG0.out hg); clear hg)
    exact ⟨rfl, rfl, H1.out⟩
  · rw [hg0] at hO
    show Calls _ _ _ _ (GotP (ExP w.heap.size) s w b d .out)
    have HO := Lib.hid hO
    clear hO h hfo hg0 h64 hone hN hk hi hd hfw
    go_enter Tryz.func136, Tryz.ntmps136
    go_wp2_with (go_at_call 146; (with_reducible refine HO.out.mono ?_); intro e w1 hF; exact hF.elim)
end
theorem leaf_ex {x : Ex} {lo : Nat} {W : World} (h : x.args = []) : ExP lo x (leafVal x.op x.field (x.mask : Int) x.rel (x.value : Int)) W := by
  obtain ⟨op, l, f, m, r, v⟩ := x
  obtain rfl : l = [] := h
  exact ⟨none, 0, rfl, .inl ⟨rfl, rfl, rfl⟩⟩
set_option maxHeartbeats 4000000 in
set_option maxRecDepth 100000 in
theorem pp_oneOf (s : ByteArray) (b d : Nat) (item itemE : Nat → Nat → Got Ex) (N : Nat) (hd : d ≤ 64) (hfw : ∀ i, i < (srcF s).toks.length → Fwd (srcF s) 1 i (item (d + 1) i)) (hfe : ∀ i, i < (srcF s).toks.length → Fwd (srcF s) 1 i (itemE (d + 1) i))
    (hone : d < 64 → OneC 113 s b (d + 1) (item (d + 1)) N) (hexp : d < 64 → OneC 59 s b (d + 1) (itemE (d + 1)) N) :
    OneC 113 s b d (oneH (srcF s) item itemE d) (N + 1) := fun w i hi hN h => by
  have hlt := h.lt
  have hp0 := words_alloc h (exO 0 0 0 0 0)
  have HR0 := Lib.hid (World.alloc_heap_new w (exO 0 0 0 0 0))
  have HG0 := Lib.hid (grown_of_below (lbox w (exO 0 0 0 0 0)) (some b))
  have s0 : (w.alloc (exO 0 0 0 0 0)).heap.size = w.heap.size + 1 := by simp
  have hkd := (lexd s).kinds i hi
  unfold oneH
  clear h
  by_cases h1 : (tk (srcF s) i).text = bNot
  · have hk : (tk (srcF s) i).kind ≠ 1 := by rw [hkd, h1]; decide
    have HA := Lib.hid (pp_at_yes _ b s i d hp0 ⟨#[110, 111, 116]⟩ h1)
    have hM := pp_not s b d (item (d + 1)) N hd hone _ i hi hN hp0 hk
    rw [if_pos h1]
    show Calls _ _ _ _ (GotP (ExP w.heap.size) s w b d (notG (srcF s) (item (d + 1)) d i))
    clear h1 hk hkd hp0 hi hN hone hexp hfw hfe hd
    generalize notG (srcF s) (item (d + 1)) d i = gi at hM ⊢
    rcases gi with ⟨x, j⟩ | ⟨er, p⟩ | _
    · have HC := Lib.hid hM
      clear hM
      go_enter Tryz.func113, Tryz.ntmps113
      go_wp2_with (first | (go_at_call 84; (with_reducible refine HA.out.mono ?_); rintro e w1 ⟨rfl, rfl⟩) | (go_at_call 135; (with_reducible refine HC.out.mono ?_); rintro e w2 ⟨v, rfl, ⟨A, cap, rfl, hx⟩, hp, hg⟩; have hr := kept_box HR0.out hg (by omega); have u0 := cell6 hr 0 rfl; have u1 := cell6 hr 1 rfl; have u2 := cell6 hr 2 rfl; have u3 := cell6 hr 3 rfl; have u4 := cell6 hr 4 rfl; have u5 := cell6 hr 5 rfl; have y0 := frozen6 hr 0; have y1 := frozen6 hr 1; have y2 := frozen6 hr 2; have y3 := frozen6 hr 3; have y4 := frozen6 hr 4; have y5 := frozen6 hr 5; have H2 := Lib.hid (And.intro hx (And.intro hp (grown_trans HG0.out hg))); clear hx hp hg hr))
      exact bodyPost_ret (v := exV x A cap) (by simp [results, Tryz.results113, go_sem, u0, u1, u2, u3, u4, u5, World.cell?_setCell_same']) rfl ⟨_, rfl, ⟨A, cap, rfl, (ex_set6 H2.out.1 (fun k hk => by omega) _ _ _ _ _ _).keep (Nat.le_refl _) (fun k hk => by omega) (fun _ _ _ => rfl)⟩, pset6 H2.out.2.1 (by omega) _ _ _ _ _ _, gset6 H2.out.2.2 (Nat.le_refl _) _ _ _ _ _ _⟩
    · have HC := Lib.hid hM
      clear hM
      go_enter Tryz.func113, Tryz.ntmps113
      go_wp2_with (first | (go_at_call 84; (with_reducible refine HA.out.mono ?_); rintro e w1 ⟨rfl, rfl⟩) | (go_at_call 135; (with_reducible refine HC.out.mono ?_); rintro e w2 ⟨rfl, hg⟩; have H2 := Lib.hid (grown_trans HG0.out hg); clear hg))
      exact ⟨rfl, rfl, H2.out⟩
    · have HC := Lib.hid hM
      clear hM
      go_enter Tryz.func113, Tryz.ntmps113
      go_wp2_with (first | (go_at_call 84; (with_reducible refine HA.out.mono ?_); rintro e w1 ⟨rfl, rfl⟩) | (go_at_call 135; (with_reducible refine HC.out.mono ?_); intro e w2 hF; exact hF.elim))
  have HA := Lib.hid (pp_at_no _ b s i d hp0 ⟨#[110, 111, 116]⟩ h1)
  rw [if_neg h1]
  clear h1
  by_cases h2 : (tk (srcF s) i).text = bOpen
  · have hk : (tk (srcF s) i).kind ≠ 1 := by rw [hkd, h2]; decide
    have HB := Lib.hid (pp_at_yes _ b s i d hp0 ⟨#[40]⟩ h2)
    have hM := pp_par s b d (itemE (d + 1)) N hd hfe hexp _ i hi hN hp0 hk
    rw [if_pos h2]
    show Calls _ _ _ _ (GotP (ExP w.heap.size) s w b d (parG (srcF s) (itemE (d + 1)) d i))
    clear h2 hk hkd hp0 hi hN hone hexp hfw hfe hd
    generalize parG (srcF s) (itemE (d + 1)) d i = gi at hM ⊢
    rcases gi with ⟨x, j⟩ | ⟨er, p⟩ | _
    · have HC := Lib.hid hM
      clear hM
      go_enter Tryz.func113, Tryz.ntmps113
      go_wp2_with (first | (go_at_call 84; (with_reducible refine HA.out.mono ?_); rintro e w1 ⟨rfl, rfl⟩) | (go_at_call 84; (with_reducible refine HB.out.mono ?_); rintro e w1 ⟨rfl, rfl⟩) | (go_at_call 136; (with_reducible refine HC.out.mono ?_); rintro e w2 ⟨v, rfl, ⟨A, cap, rfl, hx⟩, hp, hg⟩; have hr := kept_box HR0.out hg (by omega); have u0 := cell6 hr 0 rfl; have u1 := cell6 hr 1 rfl; have u2 := cell6 hr 2 rfl; have u3 := cell6 hr 3 rfl; have u4 := cell6 hr 4 rfl; have u5 := cell6 hr 5 rfl; have y0 := frozen6 hr 0; have y1 := frozen6 hr 1; have y2 := frozen6 hr 2; have y3 := frozen6 hr 3; have y4 := frozen6 hr 4; have y5 := frozen6 hr 5; have H2 := Lib.hid (And.intro hx (And.intro hp (grown_trans HG0.out hg))); clear hx hp hg hr))
      exact bodyPost_ret (v := exV x A cap) (by simp [results, Tryz.results113, go_sem, u0, u1, u2, u3, u4, u5, World.cell?_setCell_same']) rfl ⟨_, rfl, ⟨A, cap, rfl, (ex_set6 H2.out.1 (fun k hk => by omega) _ _ _ _ _ _).keep (Nat.le_refl _) (fun k hk => by omega) (fun _ _ _ => rfl)⟩, pset6 H2.out.2.1 (by omega) _ _ _ _ _ _, gset6 H2.out.2.2 (Nat.le_refl _) _ _ _ _ _ _⟩
    · have HC := Lib.hid hM
      clear hM
      go_enter Tryz.func113, Tryz.ntmps113
      go_wp2_with (first | (go_at_call 84; (with_reducible refine HA.out.mono ?_); rintro e w1 ⟨rfl, rfl⟩) | (go_at_call 84; (with_reducible refine HB.out.mono ?_); rintro e w1 ⟨rfl, rfl⟩) | (go_at_call 136; (with_reducible refine HC.out.mono ?_); rintro e w2 ⟨rfl, hg⟩; have H2 := Lib.hid (grown_trans HG0.out hg); clear hg))
      exact ⟨rfl, rfl, H2.out⟩
    · have HC := Lib.hid hM
      clear hM
      go_enter Tryz.func113, Tryz.ntmps113
      go_wp2_with (first | (go_at_call 84; (with_reducible refine HA.out.mono ?_); rintro e w1 ⟨rfl, rfl⟩) | (go_at_call 84; (with_reducible refine HB.out.mono ?_); rintro e w1 ⟨rfl, rfl⟩) | (go_at_call 136; (with_reducible refine HC.out.mono ?_); intro e w2 hF; exact hF.elim))
  have HB := Lib.hid (pp_at_no _ b s i d hp0 ⟨#[40]⟩ h2)
  rw [if_neg h2]
  clear h2 hone hexp hfw hfe hd hN
  by_cases h3 : (tk (srcF s) i).text = bTrue
  · have hk : (tk (srcF s) i).kind ≠ 1 := by rw [hkd, h3]; decide
    rw [if_pos h3]
    have hS := pp_skip_yes _ b s i d hi hp0 ⟨#[116, 114, 117, 101]⟩ h3 hk
    by_cases hl : i + 1 < (srcF s).toks.length
    · rw [adv_ok hl] at hS ⊢
      have HC := Lib.hid hS
      clear hS hp0 hi hk hkd h3
      go_enter Tryz.func113, Tryz.ntmps113
      go_wp2_with (first | (go_at_call 84; (with_reducible refine HA.out.mono ?_); rintro e w1 ⟨rfl, rfl⟩) | (go_at_call 84; (with_reducible refine HB.out.mono ?_); rintro e w1 ⟨rfl, rfl⟩) | (go_at_call 78; (with_reducible refine HC.out.mono ?_); rintro e w2 ⟨v, rfl, rfl, hp, hg⟩; have hr := kept_box HR0.out hg (by omega); have u0 := cell6 hr 0 rfl; have u1 := cell6 hr 1 rfl; have u2 := cell6 hr 2 rfl; have u3 := cell6 hr 3 rfl; have u4 := cell6 hr 4 rfl; have u5 := cell6 hr 5 rfl; have y0 := frozen6 hr 0; have y1 := frozen6 hr 1; have y2 := frozen6 hr 2; have y3 := frozen6 hr 3; have y4 := frozen6 hr 4; have y5 := frozen6 hr 5; have H2 := Lib.hid (And.intro hp (grown_trans HG0.out hg)); clear hp hg hr))
      exact bodyPost_ret (v := leafVal 1 0 0 0 0) (by simp [results, Tryz.results113, go_sem, u0, u1, u2, u3, u4, u5, World.cell?_setCell_same']) rfl ⟨_, rfl, leaf_ex (x := .plain 1) rfl, pset6 H2.out.1 (by omega) _ _ _ _ _ _, gset6 H2.out.2 (Nat.le_refl _) _ _ _ _ _ _⟩
    · rw [adv_no hl] at hS ⊢
      generalize (srcF s).err = er at hS ⊢
      generalize (srcF s).place = p at hS ⊢
      have HC := Lib.hid hS
      clear hS hp0 hi hk hkd h3 hl
      go_enter Tryz.func113, Tryz.ntmps113
      go_wp2_with (first | (go_at_call 84; (with_reducible refine HA.out.mono ?_); rintro e w1 ⟨rfl, rfl⟩) | (go_at_call 84; (with_reducible refine HB.out.mono ?_); rintro e w1 ⟨rfl, rfl⟩) | (go_at_call 78; (with_reducible refine HC.out.mono ?_); rintro e w2 ⟨rfl, hg⟩; have H2 := Lib.hid (grown_trans HG0.out hg); clear hg))
      exact ⟨rfl, rfl, H2.out⟩
  have HT := Lib.hid (pp_skip_no _ b s i d hp0 ⟨#[116, 114, 117, 101]⟩ h3)
  rw [if_neg h3]
  clear h3
  by_cases h4 : (tk (srcF s) i).text = bFalse
  · have hk : (tk (srcF s) i).kind ≠ 1 := by rw [hkd, h4]; decide
    rw [if_pos h4]
    have hS := pp_skip_yes _ b s i d hi hp0 ⟨#[102, 97, 108, 115, 101]⟩ h4 hk
    by_cases hl : i + 1 < (srcF s).toks.length
    · rw [adv_ok hl] at hS ⊢
      have HC := Lib.hid hS
      clear hS hp0 hi hk hkd h4
      go_enter Tryz.func113, Tryz.ntmps113
      go_wp2_with (first | (go_at_call 84; (with_reducible refine HA.out.mono ?_); rintro e w1 ⟨rfl, rfl⟩) | (go_at_call 84; (with_reducible refine HB.out.mono ?_); rintro e w1 ⟨rfl, rfl⟩) | (go_at_call 78; (with_reducible refine HT.out.mono ?_); rintro e w1 ⟨rfl, rfl⟩) | (go_at_call 78; (with_reducible refine HC.out.mono ?_); rintro e w2 ⟨v, rfl, rfl, hp, hg⟩; have hr := kept_box HR0.out hg (by omega); have u0 := cell6 hr 0 rfl; have u1 := cell6 hr 1 rfl; have u2 := cell6 hr 2 rfl; have u3 := cell6 hr 3 rfl; have u4 := cell6 hr 4 rfl; have u5 := cell6 hr 5 rfl; have y0 := frozen6 hr 0; have y1 := frozen6 hr 1; have y2 := frozen6 hr 2; have y3 := frozen6 hr 3; have y4 := frozen6 hr 4; have y5 := frozen6 hr 5; have H2 := Lib.hid (And.intro hp (grown_trans HG0.out hg)); clear hp hg hr))
      exact bodyPost_ret (v := leafVal 2 0 0 0 0) (by simp [results, Tryz.results113, go_sem, u0, u1, u2, u3, u4, u5, World.cell?_setCell_same']) rfl ⟨_, rfl, leaf_ex (x := .plain 2) rfl, pset6 H2.out.1 (by omega) _ _ _ _ _ _, gset6 H2.out.2 (Nat.le_refl _) _ _ _ _ _ _⟩
    · rw [adv_no hl] at hS ⊢
      generalize (srcF s).err = er at hS ⊢
      generalize (srcF s).place = p at hS ⊢
      have HC := Lib.hid hS
      clear hS hp0 hi hk hkd h4 hl
      go_enter Tryz.func113, Tryz.ntmps113
      go_wp2_with (first | (go_at_call 84; (with_reducible refine HA.out.mono ?_); rintro e w1 ⟨rfl, rfl⟩) | (go_at_call 84; (with_reducible refine HB.out.mono ?_); rintro e w1 ⟨rfl, rfl⟩) | (go_at_call 78; (with_reducible refine HT.out.mono ?_); rintro e w1 ⟨rfl, rfl⟩) | (go_at_call 78; (with_reducible refine HC.out.mono ?_); rintro e w2 ⟨rfl, hg⟩; have H2 := Lib.hid (grown_trans HG0.out hg); clear hg))
      exact ⟨rfl, rfl, H2.out⟩
  have HF := Lib.hid (pp_skip_no _ b s i d hp0 ⟨#[102, 97, 108, 115, 101]⟩ h4)
  rw [if_neg h4]
  clear h4
  have hM := pp_test _ b s i d hi hp0
  clear hkd hp0 hi
  generalize testG (srcF s) i = gi at hM ⊢
  rcases gi with ⟨x, j⟩ | ⟨er, p⟩ | _
  · have HC := Lib.hid hM
    clear hM
    go_enter Tryz.func113, Tryz.ntmps113
    go_wp2_with (first | (go_at_call 84; (with_reducible refine HA.out.mono ?_); rintro e w1 ⟨rfl, rfl⟩) | (go_at_call 84; (with_reducible refine HB.out.mono ?_); rintro e w1 ⟨rfl, rfl⟩) | (go_at_call 78; (with_reducible refine HT.out.mono ?_); rintro e w1 ⟨rfl, rfl⟩) | (go_at_call 78; (with_reducible refine HF.out.mono ?_); rintro e w1 ⟨rfl, rfl⟩) | (go_at_call 137; (with_reducible refine HC.out.mono ?_); rintro e w2 ⟨v, rfl, ⟨rfl, ha⟩, hp, hg⟩; have hr := kept_box HR0.out hg (by omega); have u0 := cell6 hr 0 rfl; have u1 := cell6 hr 1 rfl; have u2 := cell6 hr 2 rfl; have u3 := cell6 hr 3 rfl; have u4 := cell6 hr 4 rfl; have u5 := cell6 hr 5 rfl; have y0 := frozen6 hr 0; have y1 := frozen6 hr 1; have y2 := frozen6 hr 2; have y3 := frozen6 hr 3; have y4 := frozen6 hr 4; have y5 := frozen6 hr 5; have H2 := Lib.hid (And.intro ha (And.intro hp (grown_trans HG0.out hg))); clear ha hp hg hr))
    exact bodyPost_ret (v := leafVal x.op x.field (x.mask : Int) x.rel (x.value : Int)) (by simp [results, Tryz.results113, go_sem, u0, u1, u2, u3, u4, u5, World.cell?_setCell_same']) rfl ⟨_, rfl, leaf_ex H2.out.1, pset6 H2.out.2.1 (by omega) _ _ _ _ _ _, gset6 H2.out.2.2 (Nat.le_refl _) _ _ _ _ _ _⟩
  · have HC := Lib.hid hM
    clear hM
    go_enter Tryz.func113, Tryz.ntmps113
    go_wp2_with (first | (go_at_call 84; (with_reducible refine HA.out.mono ?_); rintro e w1 ⟨rfl, rfl⟩) | (go_at_call 84; (with_reducible refine HB.out.mono ?_); rintro e w1 ⟨rfl, rfl⟩) | (go_at_call 78; (with_reducible refine HT.out.mono ?_); rintro e w1 ⟨rfl, rfl⟩) | (go_at_call 78; (with_reducible refine HF.out.mono ?_); rintro e w1 ⟨rfl, rfl⟩) | (go_at_call 137; (with_reducible refine HC.out.mono ?_); rintro e w2 ⟨rfl, hg⟩; have H2 := Lib.hid (grown_trans HG0.out hg); clear hg))
    exact ⟨rfl, rfl, H2.out⟩
  · have HC := Lib.hid hM
    clear hM
    go_enter Tryz.func113, Tryz.ntmps113
    go_wp2_with (first | (go_at_call 84; (with_reducible refine HA.out.mono ?_); rintro e w1 ⟨rfl, rfl⟩) | (go_at_call 84; (with_reducible refine HB.out.mono ?_); rintro e w1 ⟨rfl, rfl⟩) | (go_at_call 78; (with_reducible refine HT.out.mono ?_); rintro e w1 ⟨rfl, rfl⟩) | (go_at_call 78; (with_reducible refine HF.out.mono ?_); rintro e w1 ⟨rfl, rfl⟩) | (go_at_call 137; (with_reducible refine HC.out.mono ?_); intro e w2 hF; exact hF.elim))
/-- One and expr, whatever the depth. -/
theorem pp_one (s : ByteArray) (b : Nat) (hsm : (srcF s).toks.length ≤ 65537) : ∀ N d, d ≤ 64 → OneC 113 s b d (oneG (srcF s) N d) N ∧ OneC 59 s b d (exprG (srcF s) N d) N
  | 0, d, hd => ⟨fun W j hj h => by omega, fun W j hj h => by omega⟩
  | N + 1, d, hd => by
    have h1 : OneC 113 s b d (oneG (srcF s) (N + 1) d) (N + 1) :=
      pp_oneOf s b d (oneG (srcF s) N) (exprG (srcF s) N) N hd (fun i hi => fwd_one N (d + 1) i hi) (fun i hi => fwd_expr N (d + 1) i hi) (fun h => (pp_one s b hsm N (d + 1) h).1) (fun h => (pp_one s b hsm N (d + 1) h).2)
    exact ⟨h1, pp_exprOf s b d (allG (srcF s) (oneG (srcF s) (N + 1) d) (N + 1)) (N + 1) (pp_all s b d (oneG (srcF s) (N + 1) d) (N + 1) h1 (fun i hi => fwd_one (N + 1) d i hi) hsm) (fun i hi => fwd_all (fun i hi => fwd_one (N + 1) d i hi) (N + 1) i hi) hsm⟩
end Go.Proofs.YtgeapkjegemkeaaGreatDoor
