/-
  The program's joined, all and expr: contracts by values and places, of any contract of one. Conditions: those that each names.
-/
import Derived.Test.YtgeapkjegemkeaaGreatDoorPPolTurns
namespace Go.Proofs.YtgeapkjegemkeaaGreatDoor
open Go Go.RowKit
set_option linter.unusedSimpArgs false
set_option linter.unusedVariables false

theorem ex_keep {w w' : World} {F G : Nat → Prop} {e : Ex} {A : Option Addr} {cap : Nat} (h : ExIn w F e A cap) (hs : w.heap.size ≤ w'.heap.size) (hF : ∀ k, F k → G k) (hk : ∀ k, F k → k < w.heap.size → w'.heap[k]? = w.heap[k]?) : ExIn w' G e A cap := h.keep hs hF hk
theorem ex_set {w : World} {F : Nat → Prop} {e : Ex} {A : Option Addr} {cap : Nat} (h : ExIn w F e A cap) {R : Nat} (hR : ∀ k, F k → k ≠ R) (i : Nat) (v : Value) : ExIn (w.setCell ⟨R, i, none⟩ v) F e A cap :=
  h.keep (by simp [World.setCell]) (fun _ hk => hk) (fun k hk _ => Below.heap_setCell w ⟨R, i, none⟩ v k (hR k hk))
theorem ex_set6 {w : World} {F : Nat → Prop} {e : Ex} {A : Option Addr} {cap : Nat} (h : ExIn w F e A cap) {R : Nat} (hR : ∀ k, F k → k ≠ R) (a b c d x y : Value) : ExIn ((((((w.setCell ⟨R, 0, none⟩ a).setCell ⟨R, 1, none⟩ b).setCell ⟨R, 2, none⟩ c).setCell ⟨R, 3, none⟩ d).setCell ⟨R, 4, none⟩ x).setCell ⟨R, 5, none⟩ y) F e A cap :=
  ex_set (ex_set (ex_set (ex_set (ex_set (ex_set h hR 0 a) hR 1 b) hR 2 c) hR 3 d) hR 4 x) hR 5 y
/-- What joined tells. -/
def JoinP (lo : Nat) (W : World) (x : Ex) (e : Ending) (w' : World) : Prop := ∃ A cap, e = .returned (exV x A cap) ∧ ExIn w' (fun k => lo ≤ k) x A cap ∧ Below W.heap.size W w'
set_option maxHeartbeats 1000000 in
set_option maxRecDepth 100000 in
theorem pp_joined (op : Int) (lo : Nat) (l : List Ex) (v : Value) (W : World) (h : RowP lo l v W) (hlo : lo ≤ W.heap.size) : Calls Tryz.prog 90 #[.int .i64 op, v] W (JoinP lo W (joinE op l)) := by
  obtain ⟨tb, cap, rfl, h1, h2, h3, h4⟩ := h
  by_cases hl : l.length = 1
  · obtain ⟨x, rfl⟩ : ∃ x, l = [x] := by
      rcases l with _ | ⟨x, _ | ⟨y, l⟩⟩
      · simp at hl
      · exact ⟨x, rfl⟩
      · simp at hl
    obtain ⟨⟨A, c, hx, hc⟩, _⟩ := h4
    have hW := (Below.refl W.heap.size W).alloc (Nat.le_refl _) (exO 0 0 0 0 0)
    have g := fun j u hj => (hW.cell (p := ⟨tb, 0 + j, none⟩) h2).trans (hc j u hj)
    have c0 := g 0 _ rfl
    have c1 := g 1 _ rfl
    have c2 := g 2 _ rfl
    have c3 := g 3 _ rfl
    have c4 := g 4 _ rfl
    have c5 := g 5 _ rfl
    simp only [Nat.zero_add] at c0 c1 c2 c3 c4 c5
    have HX := Lib.hid hx
    have HB := Lib.hid hW
    have hne : tb ≠ W.heap.size := by omega
    clear hx hc g hl hW
    show Calls _ _ _ _ (JoinP lo W x)
    go_enter Tryz.func90, Tryz.ntmps90
    go_wp2
    exact bodyPost_ret (v := exV x A c) (by simp [results, Tryz.results90, go_sem]) rfl ⟨A, c, rfl, ex_keep HX.out (by simp) (fun _ hk => hk) (fun k _ hk => Below.heap_alloc W _ k hk), lbox W _⟩
  · have hlb : ((l.length : Int) == 1) = false := beq_false_of_ne (by omega)
    have hlb2 : (l.length == 1) = false := beq_false_of_ne hl
    have hj : joinE op l = .node op l := by
      unfold joinE
      rcases l with _ | ⟨x, _ | ⟨y, l⟩⟩
      · rfl
      · simp at hl
      · rfl
    rw [hj]
    have HN : Hid (ExIn W (fun k => lo ≤ k) (.node op l) (some ⟨tb, 0, none⟩) cap) := Lib.hid (.inr ⟨fun e => by rw [e] at h3; simp at h3, tb, rfl, h1, h2, h4⟩)
    have hlen : (Ex.node op l).args.length = l.length := rfl
    have HV : Hid (exV (.node op l) (some ⟨tb, 0, none⟩) cap = .agg #[.int .i64 op, .slice (some ⟨tb, 0, none⟩) l.length cap, .int .i64 0, .int .u64 0, .int .i64 0, .int .u64 0]) := Lib.hid rfl
    generalize (Ex.node op l) = x at HN HV hlen ⊢
    generalize l.length = n at *
    clear h1 h2 h3 h4 hl hj hlen
    go_enter Tryz.func90, Tryz.ntmps90
    go_wp2
    exact bodyPost_ret (v := .agg #[.int .i64 op, .slice (some ⟨tb, 0, none⟩) n cap, .int .i64 0, .int .u64 0, .int .i64 0, .int .u64 0]) (by simp [results, Tryz.results90, go_sem]) rfl ⟨_, cap, by rw [HV.out], ex_keep HN.out (by simp) (fun _ hk => hk) (fun k _ hk => Below.heap_alloc W _ k hk), lbox W _⟩
/-- What reads one, as the others are handed it. -/
def OneC (f : Nat) (s : ByteArray) (b d : Nat) (item : Nat → Got Ex) (N : Nat) : Prop := ∀ (W : World) (j : Nat), j < (srcF s).toks.length → (srcF s).toks.length - j < N → PAt W b s (tk (srcF s) j) d → Calls Tryz.prog f #[.pointer (some ⟨b, 0, none⟩)] W (GotP (ExP W.heap.size) s W b d (item j))
set_option maxHeartbeats 1000000 in
set_option maxRecDepth 100000 in
theorem pp_all (s : ByteArray) (b d : Nat) (item : Nat → Got Ex) (N : Nat) (hone : OneC 113 s b d item N) (hfw : ∀ i, i < (srcF s).toks.length → Fwd (srcF s) 1 i (item i)) (hsm : (srcF s).toks.length ≤ 65537) :
    OneC 92 s b d (allG (srcF s) item N) N := fun w i hi hN h => by
  have hmf : ∀ (fn : Fn) (first cap : Array Value) (w : World), (Instr.makeFunc fn first cap).run Tryz.prog w = .ok (.func fn first cap) w := fun _ _ _ _ => rfl
  have hlt := h.lt
  have HR0 := Lib.hid (World.alloc_heap_new w (exO 0 0 0 0 0))
  have HG0 := Lib.hid (grown_of_below (lbox w (exO 0 0 0 0 0)) (some b))
  have hT := p_turns 113 (Go.Proofs.enters_of Tryz.func113 (by kernel_rfl) rfl) ⟨#[97, 110, 100]⟩ (by decide) s item hfw N (w.alloc (exO 0 0 0 0 0)) b i d hi (words_alloc h _) hN hsm (fun W j hj hij hp => hone W j hj (by omega) hp)
  have hsz : (w.alloc (exO 0 0 0 0 0)).heap.size = w.heap.size + 1 := by simp
  show Calls _ _ _ _ (GotP (ExP w.heap.size) s w b d ((byTurnsG (srcF s) ⟨#[97, 110, 100]⟩ item N i).andThen fun l j => .ok (joinE 4 l) j))
  generalize byTurnsG (srcF s) ⟨#[97, 110, 100]⟩ item N i = g at hT ⊢
  rcases g with ⟨l, j⟩ | ⟨er, p⟩ | _
  · show Calls _ _ _ _ (GotP (ExP w.heap.size) s w b d (.ok (joinE 4 l) j))
    have HT := Lib.hid hT
    have HJ := Lib.hid (fun (W : World) (v : Value) hr hlo => pp_joined 4 (w.alloc (exO 0 0 0 0 0)).heap.size l v W hr hlo)
    clear hT h hi hN hone hfw
    generalize joinE 4 l = x at HJ ⊢
    go_enter Tryz.func92, Tryz.ntmps92
    go_wp2_with (first | (go_at_call 91; (with_reducible refine HT.out.mono ?_); rintro e w1 ⟨v, rfl, hr, hp, hg⟩; have H1 := Lib.hid (And.intro hr (And.intro hp hg)); clear hr hp hg) | (go_at_call 90; (with_reducible refine (HJ.out _ _ H1.out.1 H1.out.2.2.size).mono ?_); rintro e w2 ⟨A, cap, rfl, hx, hb⟩; have hg := grown_trans H1.out.2.2 (grown_of_below hb (some b)); have hr := kept_box HR0.out hg (by omega); have u0 := cell6 hr 0 rfl; have u1 := cell6 hr 1 rfl; have u2 := cell6 hr 2 rfl; have u3 := cell6 hr 3 rfl; have u4 := cell6 hr 4 rfl; have u5 := cell6 hr 5 rfl; have y0 := frozen6 hr 0; have y1 := frozen6 hr 1; have y2 := frozen6 hr 2; have y3 := frozen6 hr 3; have y4 := frozen6 hr 4; have y5 := frozen6 hr 5; have H2 := Lib.hid (And.intro hx (And.intro (H1.out.2.1.below hb) (grown_trans HG0.out hg))); clear hx hb hg hr))
    exact bodyPost_ret (v := exV x A cap) (by simp [results, Tryz.results92, go_sem, u0, u1, u2, u3, u4, u5, World.cell?_setCell_same']) rfl ⟨_, rfl, ⟨A, cap, rfl, (ex_set6 H2.out.1 (fun k hk => by rw [hsz] at hk; omega) _ _ _ _ _ _).keep (Nat.le_refl _) (fun k hk => by rw [hsz] at hk; omega) (fun _ _ _ => rfl)⟩, pset6 H2.out.2.1 (by omega) _ _ _ _ _ _, gset6 H2.out.2.2 (Nat.le_refl _) _ _ _ _ _ _⟩
  · show Calls _ _ _ _ (GotP (ExP w.heap.size) s w b d (.bad er p))
    have HT := Lib.hid hT
    clear hT h hi hN hone hfw
    go_enter Tryz.func92, Tryz.ntmps92
    go_wp2_with (go_at_call 91; (with_reducible refine HT.out.mono ?_); rintro e w1 ⟨rfl, hg⟩; have H1 := Lib.hid (grown_trans HG0.out hg); clear hg)
    exact ⟨rfl, rfl, H1.out⟩
  · show Calls _ _ _ _ (GotP (ExP w.heap.size) s w b d .out)
    have HT := Lib.hid hT
    clear hT h hi hN hone hfw
    go_enter Tryz.func92, Tryz.ntmps92
    go_wp2_with (go_at_call 91; (with_reducible refine HT.out.mono ?_); intro e w1 hF; exact hF.elim)
set_option maxHeartbeats 1000000 in
set_option maxRecDepth 100000 in
theorem pp_exprOf (s : ByteArray) (b d : Nat) (item : Nat → Got Ex) (N : Nat) (hone : OneC 92 s b d item N) (hfw : ∀ i, i < (srcF s).toks.length → Fwd (srcF s) 1 i (item i)) (hsm : (srcF s).toks.length ≤ 65537) :
    OneC 59 s b d (fun i => (byTurnsG (srcF s) ⟨#[111, 114]⟩ item N i).andThen fun l j => .ok (joinE 5 l) j) N := fun w i hi hN h => by
  have hmf : ∀ (fn : Fn) (first cap : Array Value) (w : World), (Instr.makeFunc fn first cap).run Tryz.prog w = .ok (.func fn first cap) w := fun _ _ _ _ => rfl
  have hlt := h.lt
  have HR0 := Lib.hid (World.alloc_heap_new w (exO 0 0 0 0 0))
  have HG0 := Lib.hid (grown_of_below (lbox w (exO 0 0 0 0 0)) (some b))
  have hT := p_turns 92 (Go.Proofs.enters_of Tryz.func92 (by kernel_rfl) rfl) ⟨#[111, 114]⟩ (by decide) s item hfw N (w.alloc (exO 0 0 0 0 0)) b i d hi (words_alloc h _) hN hsm (fun W j hj hij hp => hone W j hj (by omega) hp)
  have hsz : (w.alloc (exO 0 0 0 0 0)).heap.size = w.heap.size + 1 := by simp
  show Calls _ _ _ _ (GotP (ExP w.heap.size) s w b d ((byTurnsG (srcF s) ⟨#[111, 114]⟩ item N i).andThen fun l j => .ok (joinE 5 l) j))
  generalize byTurnsG (srcF s) ⟨#[111, 114]⟩ item N i = g at hT ⊢
  rcases g with ⟨l, j⟩ | ⟨er, p⟩ | _
  · show Calls _ _ _ _ (GotP (ExP w.heap.size) s w b d (.ok (joinE 5 l) j))
    have HT := Lib.hid hT
    have HJ := Lib.hid (fun (W : World) (v : Value) hr hlo => pp_joined 5 (w.alloc (exO 0 0 0 0 0)).heap.size l v W hr hlo)
    clear hT h hi hN hone hfw
    generalize joinE 5 l = x at HJ ⊢
    go_enter Tryz.func59, Tryz.ntmps59
    go_wp2_with (first | (go_at_call 91; (with_reducible refine HT.out.mono ?_); rintro e w1 ⟨v, rfl, hr, hp, hg⟩; have H1 := Lib.hid (And.intro hr (And.intro hp hg)); clear hr hp hg) | (go_at_call 90; (with_reducible refine (HJ.out _ _ H1.out.1 H1.out.2.2.size).mono ?_); rintro e w2 ⟨A, cap, rfl, hx, hb⟩; have hg := grown_trans H1.out.2.2 (grown_of_below hb (some b)); have hr := kept_box HR0.out hg (by omega); have u0 := cell6 hr 0 rfl; have u1 := cell6 hr 1 rfl; have u2 := cell6 hr 2 rfl; have u3 := cell6 hr 3 rfl; have u4 := cell6 hr 4 rfl; have u5 := cell6 hr 5 rfl; have y0 := frozen6 hr 0; have y1 := frozen6 hr 1; have y2 := frozen6 hr 2; have y3 := frozen6 hr 3; have y4 := frozen6 hr 4; have y5 := frozen6 hr 5; have H2 := Lib.hid (And.intro hx (And.intro (H1.out.2.1.below hb) (grown_trans HG0.out hg))); clear hx hb hg hr))
    exact bodyPost_ret (v := exV x A cap) (by simp [results, Tryz.results59, go_sem, u0, u1, u2, u3, u4, u5, World.cell?_setCell_same']) rfl ⟨_, rfl, ⟨A, cap, rfl, (ex_set6 H2.out.1 (fun k hk => by rw [hsz] at hk; omega) _ _ _ _ _ _).keep (Nat.le_refl _) (fun k hk => by rw [hsz] at hk; omega) (fun _ _ _ => rfl)⟩, pset6 H2.out.2.1 (by omega) _ _ _ _ _ _, gset6 H2.out.2.2 (Nat.le_refl _) _ _ _ _ _ _⟩
  · show Calls _ _ _ _ (GotP (ExP w.heap.size) s w b d (.bad er p))
    have HT := Lib.hid hT
    clear hT h hi hN hone hfw
    go_enter Tryz.func59, Tryz.ntmps59
    go_wp2_with (go_at_call 91; (with_reducible refine HT.out.mono ?_); rintro e w1 ⟨rfl, hg⟩; have H1 := Lib.hid (grown_trans HG0.out hg); clear hg)
    exact ⟨rfl, rfl, H1.out⟩
  · show Calls _ _ _ _ (GotP (ExP w.heap.size) s w b d .out)
    have HT := Lib.hid hT
    clear hT h hi hN hone hfw
    go_enter Tryz.func59, Tryz.ntmps59
    go_wp2_with (go_at_call 91; (with_reducible refine HT.out.mono ?_); intro e w1 hF; exact hF.elim)
end Go.Proofs.YtgeapkjegemkeaaGreatDoor
