/-
  The program reads a policy whole: contracts. Conditions: those that each names.
-/
import Derived.Test.YtgeapkjegemkeaaGreatDoorZRule
namespace Go.Proofs.YtgeapkjegemkeaaGreatDoor
open Go Go.RowKit
set_option linter.unusedSimpArgs false
set_option linter.unusedVariables false

abbrev poO (a : ByteArray) (fk fn dk dn : Int) (R : Value) : Obj := .cells #[.string a, .int .i64 fk, .int .u64 fn, .int .i64 dk, .int .u64 dn, R] 29
abbrev poV (a : ByteArray) (fk fn dk dn : Int) (R : Value) : Value := .agg #[.string a, .int .i64 fk, .int .u64 fn, .int .i64 dk, .int .u64 dn, R]
/-- A policy as a value. -/
def PoP (lo : Nat) (p : Po) (v : Value) (W : World) : Prop := ∃ R, v = poV p.arch p.foreign_.1 (p.foreign_.2 : Int) p.default_.1 (p.default_.2 : Int) R ∧ RulesP lo p.rules R W
theorem rules_keep {lo lo' : Nat} {l : List Ru} {v : Value} {W W' : World} (h : RulesP lo l v W) (hs : W.heap.size ≤ W'.heap.size) (hlo : lo' ≤ lo) (hk : ∀ k, lo ≤ k → k < W.heap.size → W'.heap[k]? = W.heap[k]?) : RulesP lo' l v W' := by
  rcases h with h | ⟨tb, cap, h1, h2, h3, h4⟩
  · exact .inl h
  · exact .inr ⟨tb, cap, h1, by omega, by omega, RuRow.keep hs (fun k hk => by omega) hk h2 h3 h4⟩
/-- A policy under way. -/
structure PoAt (w W : World) (b : Nat) (s : ByteArray) (i : Nat) (a : ByteArray) (fk fn dk dn : Int) : Prop where
  at_ : PAt W b s (tk (srcF s) i) 0
  gr : w.grownBy W (some b)
  box : W.heap[w.heap.size + 1]? = some (poO a fk fn dk dn (.slice none 0 0))
  res : W.heap[w.heap.size]? = some (poO ⟨#[]⟩ 0 0 0 0 (.slice none 0 0))
  bw : b < w.heap.size
namespace PoAt
variable {w W : World} {b : Nat} {s : ByteArray} {i : Nat} {a : ByteArray} {fk fn dk dn : Int}
theorem call {W' : World} {j : Nat} (h : PoAt w W b s i a fk fn dk dn) (hp : PAt W' b s (tk (srcF s) j) 0) (hg : W.grownBy W' (some b)) : PoAt w W' b s j a fk fn dk dn := by
  have := h.bw
  exact ⟨hp, grown_trans h.gr hg, kept_box h.box hg (by omega), kept_box h.res hg (by omega), h.bw⟩
theorem setArch (h : PoAt w W b s i a fk fn dk dn) (a' : ByteArray) : PoAt w (W.setCell ⟨w.heap.size + 1, 0, none⟩ (.string a')) b s i a' fk fn dk dn := by
  have := h.bw
  exact ⟨row_new h.at_ (by omega) 0 _, grown_new h.gr (by omega) 0 _, heap_set1 h.box 0 _, kept_set h.res (by omega) 0 _, h.bw⟩
theorem setForeign (h : PoAt w W b s i a fk fn dk dn) (k n : Int) : PoAt w ((W.setCell ⟨w.heap.size + 1, 1, none⟩ (.int .i64 k)).setCell ⟨w.heap.size + 1, 2, none⟩ (.int .u64 n)) b s i a k n dk dn := by
  have := h.bw
  exact ⟨row_new (row_new h.at_ (by omega) 1 _) (by omega) 2 _, grown_new (grown_new h.gr (by omega) 1 _) (by omega) 2 _, heap_set1 (heap_set1 h.box 1 _) 2 _, kept_set (kept_set h.res (by omega) 1 _) (by omega) 2 _, h.bw⟩
theorem setDefault (h : PoAt w W b s i a fk fn dk dn) (k n : Int) : PoAt w ((W.setCell ⟨w.heap.size + 1, 3, none⟩ (.int .i64 k)).setCell ⟨w.heap.size + 1, 4, none⟩ (.int .u64 n)) b s i a fk fn k n := by
  have := h.bw
  exact ⟨row_new (row_new h.at_ (by omega) 3 _) (by omega) 4 _, grown_new (grown_new h.gr (by omega) 3 _) (by omega) 4 _, heap_set1 (heap_set1 h.box 3 _) 4 _, kept_set (kept_set h.res (by omega) 3 _) (by omega) 4 _, h.bw⟩
end PoAt

theorem rules_form {lo : Nat} {l : List Ru} {v : Value} {W : World} (h : RulesP lo l v W) : ∃ A n c, v = .slice A n c := by
  rcases h with ⟨_, rfl⟩ | ⟨tb, cap, rfl, _⟩
  · exact ⟨_, _, _, rfl⟩
  · exact ⟨_, _, _, rfl⟩
theorem po_end {w W : World} {lo : Nat} {l : List Ru} {Rv : Value} (h : RulesP lo l Rv W) (hlo : w.heap.size + 1 < lo) (a b c d e f : Value) :
    RulesP w.heap.size l Rv (((((((W.setCell ⟨w.heap.size + 1, 5, none⟩ Rv).setCell ⟨w.heap.size, 0, none⟩ a).setCell ⟨w.heap.size, 1, none⟩ b).setCell ⟨w.heap.size, 2, none⟩ c).setCell ⟨w.heap.size, 3, none⟩ d).setCell ⟨w.heap.size, 4, none⟩ e).setCell ⟨w.heap.size, 5, none⟩ f) := by
  refine rules_keep h (by simp [World.setCell]) (by omega) (fun k hk _ => ?_)
  refine (Below.heap_setCell _ ⟨w.heap.size, 5, none⟩ f k (show k ≠ w.heap.size by omega)).trans ((Below.heap_setCell _ ⟨w.heap.size, 4, none⟩ e k (show k ≠ w.heap.size by omega)).trans ((Below.heap_setCell _ ⟨w.heap.size, 3, none⟩ d k (show k ≠ w.heap.size by omega)).trans ((Below.heap_setCell _ ⟨w.heap.size, 2, none⟩ c k (show k ≠ w.heap.size by omega)).trans ((Below.heap_setCell _ ⟨w.heap.size, 1, none⟩ b k (show k ≠ w.heap.size by omega)).trans ((Below.heap_setCell _ ⟨w.heap.size, 0, none⟩ a k (show k ≠ w.heap.size by omega)).trans (Below.heap_setCell _ ⟨w.heap.size + 1, 5, none⟩ Rv k (show k ≠ w.heap.size + 1 by omega)))))))
set_option maxHeartbeats 8000000 in
set_option maxRecDepth 100000 in
theorem pp_policy (w : World) (b : Nat) (s : ByteArray) (n x0 : Nat) (hsm : (srcF s).toks.length ≤ 65537) (hn : (srcF s).toks.length < n) (hi : x0 < (srcF s).toks.length) (h : PAt w b s (tk (srcF s) x0) 0) :
    Calls Tryz.prog 22 #[.pointer (some ⟨b, 0, none⟩)] w (GotP (PoP w.heap.size) s w b 0 (policyG (srcF s) n x0)) := by
  have hlt := h.lt
  have e1 := World.alloc_heap_new (w.alloc (poO ⟨#[]⟩ 0 0 0 0 (.slice none 0 0))) (poO ⟨#[]⟩ 0 0 0 0 (.slice none 0 0))
  rw [show (w.alloc (poO ⟨#[]⟩ 0 0 0 0 (.slice none 0 0))).heap.size = w.heap.size + 1 by simp] at e1
  have T0 : Hid (PoAt w ((w.alloc (poO ⟨#[]⟩ 0 0 0 0 (.slice none 0 0))).alloc (poO ⟨#[]⟩ 0 0 0 0 (.slice none 0 0))) b s x0 ⟨#[]⟩ 0 0 0 0) := Lib.hid ⟨words_alloc (words_alloc h _) _, grown_of_below (below_two w _ _) (some b), e1, kept_alloc (World.alloc_heap_new w _) _, hlt⟩
  have hDem := Lib.hid (fun (W : World) (j : Nat) (hj : j < (srcF s).toks.length) (hp : PAt W b s (tk (srcF s) j) 0) (t : ByteArray) (ht : kindOf t ≠ 1) => pp_demand W b s j 0 hj hp t ht)
  have hNam := Lib.hid (fun (W : World) (j : Nat) (hj : j < (srcF s).toks.length) (hp : PAt W b s (tk (srcF s) j) 0) => pp_name W b s j 0 hj hp)
  have hVer := Lib.hid (fun (W : World) (j : Nat) (hj : j < (srcF s).toks.length) (hp : PAt W b s (tk (srcF s) j) 0) => pp_verdict W b s j 0 hj hp)
  have hRul := Lib.hid (fun (W : World) (j : Nat) (hj : j < (srcF s).toks.length) (hp : PAt W b s (tk (srcF s) j) 0) => pp_rules W b s n j hsm hn hj hp)
  have hl0 := hi
  clear h e1 hi
  show Calls _ _ _ _ (GotP (PoP w.heap.size) s w b 0 ((demandG (srcF s) ⟨#[97, 114, 99, 104]⟩ x0).andThen fun _ x1 => (nameG (srcF s) x1).andThen fun a x2 => (demandG (srcF s) ⟨#[59]⟩ x2).andThen fun _ x3 => (demandG (srcF s) ⟨#[102, 111, 114, 101, 105, 103, 110]⟩ x3).andThen fun _ x4 => (verdG (srcF s) x4).andThen fun f x5 => (demandG (srcF s) ⟨#[59]⟩ x5).andThen fun _ x6 => (demandG (srcF s) ⟨#[100, 101, 102, 97, 117, 108, 116]⟩ x6).andThen fun _ x7 => (verdG (srcF s) x7).andThen fun v x8 => (demandG (srcF s) ⟨#[59]⟩ x8).andThen fun _ x9 => (rulesG (srcF s) n n [] x9).andThen fun l x10 => .ok ⟨a, f, v, l⟩ x10))
  have h0 := fun (W : World) hp => hDem.out W x0 hl0 hp ⟨#[97, 114, 99, 104]⟩ (by decide)
  have hf0 := fwd_demand (S := srcF s) ⟨#[97, 114, 99, 104]⟩ x0
  generalize demandG (srcF s) ⟨#[97, 114, 99, 104]⟩ x0 = g0 at h0 hf0 ⊢
  rcases g0 with ⟨u0, x1⟩ | ⟨er, p⟩ | _
  · have H0 := Lib.hid h0
    have hl1 := (hf0 u0 x1 rfl).2
    clear h0 hf0
    show Calls _ _ _ _ (GotP (PoP w.heap.size) s w b 0 ((nameG (srcF s) x1).andThen fun a x2 => (demandG (srcF s) ⟨#[59]⟩ x2).andThen fun _ x3 => (demandG (srcF s) ⟨#[102, 111, 114, 101, 105, 103, 110]⟩ x3).andThen fun _ x4 => (verdG (srcF s) x4).andThen fun f x5 => (demandG (srcF s) ⟨#[59]⟩ x5).andThen fun _ x6 => (demandG (srcF s) ⟨#[100, 101, 102, 97, 117, 108, 116]⟩ x6).andThen fun _ x7 => (verdG (srcF s) x7).andThen fun v x8 => (demandG (srcF s) ⟨#[59]⟩ x8).andThen fun _ x9 => (rulesG (srcF s) n n [] x9).andThen fun l x10 => .ok ⟨a, f, v, l⟩ x10))
    have h1 := fun (W : World) hp => hNam.out W x1 hl1 hp
    have hf1 := fwd_name (S := srcF s) x1
    generalize nameG (srcF s) x1 = g1 at h1 hf1 ⊢
    rcases g1 with ⟨a, x2⟩ | ⟨er, p⟩ | _
    · have H1 := Lib.hid h1
      have hl2 := (hf1 a x2 rfl).2
      clear h1 hf1
      show Calls _ _ _ _ (GotP (PoP w.heap.size) s w b 0 ((demandG (srcF s) ⟨#[59]⟩ x2).andThen fun _ x3 => (demandG (srcF s) ⟨#[102, 111, 114, 101, 105, 103, 110]⟩ x3).andThen fun _ x4 => (verdG (srcF s) x4).andThen fun f x5 => (demandG (srcF s) ⟨#[59]⟩ x5).andThen fun _ x6 => (demandG (srcF s) ⟨#[100, 101, 102, 97, 117, 108, 116]⟩ x6).andThen fun _ x7 => (verdG (srcF s) x7).andThen fun v x8 => (demandG (srcF s) ⟨#[59]⟩ x8).andThen fun _ x9 => (rulesG (srcF s) n n [] x9).andThen fun l x10 => .ok ⟨a, f, v, l⟩ x10))
      have h2 := fun (W : World) hp => hDem.out W x2 hl2 hp ⟨#[59]⟩ (by decide)
      have hf2 := fwd_demand (S := srcF s) ⟨#[59]⟩ x2
      generalize demandG (srcF s) ⟨#[59]⟩ x2 = g2 at h2 hf2 ⊢
      rcases g2 with ⟨u2, x3⟩ | ⟨er, p⟩ | _
      · have H2 := Lib.hid h2
        have hl3 := (hf2 u2 x3 rfl).2
        clear h2 hf2
        show Calls _ _ _ _ (GotP (PoP w.heap.size) s w b 0 ((demandG (srcF s) ⟨#[102, 111, 114, 101, 105, 103, 110]⟩ x3).andThen fun _ x4 => (verdG (srcF s) x4).andThen fun f x5 => (demandG (srcF s) ⟨#[59]⟩ x5).andThen fun _ x6 => (demandG (srcF s) ⟨#[100, 101, 102, 97, 117, 108, 116]⟩ x6).andThen fun _ x7 => (verdG (srcF s) x7).andThen fun v x8 => (demandG (srcF s) ⟨#[59]⟩ x8).andThen fun _ x9 => (rulesG (srcF s) n n [] x9).andThen fun l x10 => .ok ⟨a, f, v, l⟩ x10))
        have h3 := fun (W : World) hp => hDem.out W x3 hl3 hp ⟨#[102, 111, 114, 101, 105, 103, 110]⟩ (by decide)
        have hf3 := fwd_demand (S := srcF s) ⟨#[102, 111, 114, 101, 105, 103, 110]⟩ x3
        generalize demandG (srcF s) ⟨#[102, 111, 114, 101, 105, 103, 110]⟩ x3 = g3 at h3 hf3 ⊢
        rcases g3 with ⟨u3, x4⟩ | ⟨er, p⟩ | _
        · have H3 := Lib.hid h3
          have hl4 := (hf3 u3 x4 rfl).2
          clear h3 hf3
          show Calls _ _ _ _ (GotP (PoP w.heap.size) s w b 0 ((verdG (srcF s) x4).andThen fun f x5 => (demandG (srcF s) ⟨#[59]⟩ x5).andThen fun _ x6 => (demandG (srcF s) ⟨#[100, 101, 102, 97, 117, 108, 116]⟩ x6).andThen fun _ x7 => (verdG (srcF s) x7).andThen fun v x8 => (demandG (srcF s) ⟨#[59]⟩ x8).andThen fun _ x9 => (rulesG (srcF s) n n [] x9).andThen fun l x10 => .ok ⟨a, f, v, l⟩ x10))
          have h4 := fun (W : World) hp => hVer.out W x4 hl4 hp
          have hf4 := fwd_verd (S := srcF s) x4
          generalize verdG (srcF s) x4 = g4 at h4 hf4 ⊢
          rcases g4 with ⟨⟨fk, fn⟩, x5⟩ | ⟨er, p⟩ | _
          · have H4 := Lib.hid h4
            have hl5 := (hf4 (fk, fn) x5 rfl).2
            clear h4 hf4
            show Calls _ _ _ _ (GotP (PoP w.heap.size) s w b 0 ((demandG (srcF s) ⟨#[59]⟩ x5).andThen fun _ x6 => (demandG (srcF s) ⟨#[100, 101, 102, 97, 117, 108, 116]⟩ x6).andThen fun _ x7 => (verdG (srcF s) x7).andThen fun v x8 => (demandG (srcF s) ⟨#[59]⟩ x8).andThen fun _ x9 => (rulesG (srcF s) n n [] x9).andThen fun l x10 => .ok ⟨a, (fk, fn), v, l⟩ x10))
            have h5 := fun (W : World) hp => hDem.out W x5 hl5 hp ⟨#[59]⟩ (by decide)
            have hf5 := fwd_demand (S := srcF s) ⟨#[59]⟩ x5
            generalize demandG (srcF s) ⟨#[59]⟩ x5 = g5 at h5 hf5 ⊢
            rcases g5 with ⟨u5, x6⟩ | ⟨er, p⟩ | _
            · have H5 := Lib.hid h5
              have hl6 := (hf5 u5 x6 rfl).2
              clear h5 hf5
              show Calls _ _ _ _ (GotP (PoP w.heap.size) s w b 0 ((demandG (srcF s) ⟨#[100, 101, 102, 97, 117, 108, 116]⟩ x6).andThen fun _ x7 => (verdG (srcF s) x7).andThen fun v x8 => (demandG (srcF s) ⟨#[59]⟩ x8).andThen fun _ x9 => (rulesG (srcF s) n n [] x9).andThen fun l x10 => .ok ⟨a, (fk, fn), v, l⟩ x10))
              have h6 := fun (W : World) hp => hDem.out W x6 hl6 hp ⟨#[100, 101, 102, 97, 117, 108, 116]⟩ (by decide)
              have hf6 := fwd_demand (S := srcF s) ⟨#[100, 101, 102, 97, 117, 108, 116]⟩ x6
              generalize demandG (srcF s) ⟨#[100, 101, 102, 97, 117, 108, 116]⟩ x6 = g6 at h6 hf6 ⊢
              rcases g6 with ⟨u6, x7⟩ | ⟨er, p⟩ | _
              · have H6 := Lib.hid h6
                have hl7 := (hf6 u6 x7 rfl).2
                clear h6 hf6
                show Calls _ _ _ _ (GotP (PoP w.heap.size) s w b 0 ((verdG (srcF s) x7).andThen fun v x8 => (demandG (srcF s) ⟨#[59]⟩ x8).andThen fun _ x9 => (rulesG (srcF s) n n [] x9).andThen fun l x10 => .ok ⟨a, (fk, fn), v, l⟩ x10))
                have h7 := fun (W : World) hp => hVer.out W x7 hl7 hp
                have hf7 := fwd_verd (S := srcF s) x7
                generalize verdG (srcF s) x7 = g7 at h7 hf7 ⊢
                rcases g7 with ⟨⟨dk, dn⟩, x8⟩ | ⟨er, p⟩ | _
                · have H7 := Lib.hid h7
                  have hl8 := (hf7 (dk, dn) x8 rfl).2
                  clear h7 hf7
                  show Calls _ _ _ _ (GotP (PoP w.heap.size) s w b 0 ((demandG (srcF s) ⟨#[59]⟩ x8).andThen fun _ x9 => (rulesG (srcF s) n n [] x9).andThen fun l x10 => .ok ⟨a, (fk, fn), (dk, dn), l⟩ x10))
                  have h8 := fun (W : World) hp => hDem.out W x8 hl8 hp ⟨#[59]⟩ (by decide)
                  have hf8 := fwd_demand (S := srcF s) ⟨#[59]⟩ x8
                  generalize demandG (srcF s) ⟨#[59]⟩ x8 = g8 at h8 hf8 ⊢
                  rcases g8 with ⟨u8, x9⟩ | ⟨er, p⟩ | _
                  · have H8 := Lib.hid h8
                    have hl9 := (hf8 u8 x9 rfl).2
                    clear h8 hf8
                    show Calls _ _ _ _ (GotP (PoP w.heap.size) s w b 0 ((rulesG (srcF s) n n [] x9).andThen fun l x10 => .ok ⟨a, (fk, fn), (dk, dn), l⟩ x10))
                    have h9 := fun (W : World) hp => hRul.out W x9 hl9 hp
                    generalize rulesG (srcF s) n n [] x9 = g9 at h9 ⊢
                    rcases g9 with ⟨l, x10⟩ | ⟨er, p⟩ | _
                    · have H9 := Lib.hid h9
                      clear h9
                      show Calls _ _ _ _ (GotP (PoP w.heap.size) s w b 0 (.ok ⟨a, (fk, fn), (dk, dn), l⟩ x10))
                      go_enter Tryz.func22, Tryz.ntmps22
                      go_wp2_with (first | (go_at_call 50; (with_reducible refine (H0.out _ T0.out.at_).mono ?_); rintro e v0 ⟨v, rfl, rfl, hp, hg⟩; have T1 := Lib.hid (T0.out.call hp hg); clear hp hg) | (go_at_call 51; (with_reducible refine (H1.out _ T1.out.at_).mono ?_); rintro e v1 ⟨v, rfl, rfl, hp, hg⟩; have hc := T1.out.call hp hg; have e0 := cell6 hc.box 0 rfl; have z0 := frozen6 hc.box 0; have T2 := Lib.hid (hc.setArch a); clear hc hp hg) | (go_at_call 50; (with_reducible refine (H2.out _ T2.out.at_).mono ?_); rintro e v2 ⟨v, rfl, rfl, hp, hg⟩; have T3 := Lib.hid (T2.out.call hp hg); clear hp hg) | (go_at_call 50; (with_reducible refine (H3.out _ T3.out.at_).mono ?_); rintro e v3 ⟨v, rfl, rfl, hp, hg⟩; have T4 := Lib.hid (T3.out.call hp hg); clear hp hg) | (go_at_call 52; (with_reducible refine (H4.out _ T4.out.at_).mono ?_); rintro e v4 ⟨v, rfl, rfl, hp, hg⟩; have hc := T4.out.call hp hg; have e1 := cell6 hc.box 1 rfl; have e2 := cell6 hc.box 2 rfl; have z1 := frozen6 hc.box 1; have z2 := frozen6 hc.box 2; have T5 := Lib.hid (hc.setForeign fk (fn : Int)); clear hc hp hg) | (go_at_call 50; (with_reducible refine (H5.out _ T5.out.at_).mono ?_); rintro e v5 ⟨v, rfl, rfl, hp, hg⟩; have T6 := Lib.hid (T5.out.call hp hg); clear hp hg) | (go_at_call 50; (with_reducible refine (H6.out _ T6.out.at_).mono ?_); rintro e v6 ⟨v, rfl, rfl, hp, hg⟩; have T7 := Lib.hid (T6.out.call hp hg); clear hp hg) | (go_at_call 52; (with_reducible refine (H7.out _ T7.out.at_).mono ?_); rintro e v7 ⟨v, rfl, rfl, hp, hg⟩; have hc := T7.out.call hp hg; have e3 := cell6 hc.box 3 rfl; have e4 := cell6 hc.box 4 rfl; have z3 := frozen6 hc.box 3; have z4 := frozen6 hc.box 4; have T8 := Lib.hid (hc.setDefault dk (dn : Int)); clear hc hp hg) | (go_at_call 50; (with_reducible refine (H8.out _ T8.out.at_).mono ?_); rintro e v8 ⟨v, rfl, rfl, hp, hg⟩; have T9 := Lib.hid (T8.out.call hp hg); clear hp hg) | (go_at_call 53; (with_reducible refine (H9.out _ T9.out.at_).mono ?_); rintro e v9 ⟨Rv, rfl, hr, hp, hg⟩; obtain ⟨RA, rn, rc, rfl⟩ := rules_form hr; have hc := T9.out.call hp hg; have hE := heap_set1 hc.box 5 (.slice RA rn rc); have hR := kept_set hc.res (show w.heap.size ≠ w.heap.size + 1 by omega) 5 (.slice RA rn rc); have e5 := cell6 hc.box 5 rfl; have z5 := frozen6 hc.box 5; have p0 := cell6 hE 0 rfl; have p1 := cell6 hE 1 rfl; have p2 := cell6 hE 2 rfl; have p3 := cell6 hE 3 rfl; have p4 := cell6 hE 4 rfl; have p5 := cell6 hE 5 rfl; have u0 := cell6 hR 0 rfl; have u1 := cell6 hR 1 rfl; have u2 := cell6 hR 2 rfl; have u3 := cell6 hR 3 rfl; have u4 := cell6 hR 4 rfl; have u5 := cell6 hR 5 rfl; have y0 := frozen6 hR 0; have y1 := frozen6 hR 1; have y2 := frozen6 hR 2; have y3 := frozen6 hR 3; have y4 := frozen6 hR 4; have y5 := frozen6 hR 5; have HX := Lib.hid (And.intro hc (And.intro hr (grown_size T9.out.gr))); clear hc hp hg hE hR hr))
                      exact bodyPost_ret (v := poV a fk (fn : Int) dk (dn : Int) (.slice RA rn rc)) (by simp [results, Tryz.results22, go_sem, u0, u1, u2, u3, u4, u5, World.cell?_setCell_same']) rfl ⟨_, rfl, ⟨.slice RA rn rc, rfl, po_end HX.out.2.1 (by have := HX.out.2.2; have := (Array.getElem?_eq_some_iff.1 T9.out.box).1; omega) _ _ _ _ _ _⟩, pset6 (row_new HX.out.1.at_ (by omega) 5 _) (by omega) _ _ _ _ _ _, gset6 (grown_new HX.out.1.gr (by omega) 5 _) (Nat.le_refl _) _ _ _ _ _ _⟩
                    · have H9 := Lib.hid h9
                      clear h9
                      show Calls _ _ _ _ (GotP (PoP w.heap.size) s w b 0 (.bad er p))
                      go_enter Tryz.func22, Tryz.ntmps22
                      go_wp2_with (first | (go_at_call 50; (with_reducible refine (H0.out _ T0.out.at_).mono ?_); rintro e v0 ⟨v, rfl, rfl, hp, hg⟩; have T1 := Lib.hid (T0.out.call hp hg); clear hp hg) | (go_at_call 51; (with_reducible refine (H1.out _ T1.out.at_).mono ?_); rintro e v1 ⟨v, rfl, rfl, hp, hg⟩; have hc := T1.out.call hp hg; have e0 := cell6 hc.box 0 rfl; have z0 := frozen6 hc.box 0; have T2 := Lib.hid (hc.setArch a); clear hc hp hg) | (go_at_call 50; (with_reducible refine (H2.out _ T2.out.at_).mono ?_); rintro e v2 ⟨v, rfl, rfl, hp, hg⟩; have T3 := Lib.hid (T2.out.call hp hg); clear hp hg) | (go_at_call 50; (with_reducible refine (H3.out _ T3.out.at_).mono ?_); rintro e v3 ⟨v, rfl, rfl, hp, hg⟩; have T4 := Lib.hid (T3.out.call hp hg); clear hp hg) | (go_at_call 52; (with_reducible refine (H4.out _ T4.out.at_).mono ?_); rintro e v4 ⟨v, rfl, rfl, hp, hg⟩; have hc := T4.out.call hp hg; have e1 := cell6 hc.box 1 rfl; have e2 := cell6 hc.box 2 rfl; have z1 := frozen6 hc.box 1; have z2 := frozen6 hc.box 2; have T5 := Lib.hid (hc.setForeign fk (fn : Int)); clear hc hp hg) | (go_at_call 50; (with_reducible refine (H5.out _ T5.out.at_).mono ?_); rintro e v5 ⟨v, rfl, rfl, hp, hg⟩; have T6 := Lib.hid (T5.out.call hp hg); clear hp hg) | (go_at_call 50; (with_reducible refine (H6.out _ T6.out.at_).mono ?_); rintro e v6 ⟨v, rfl, rfl, hp, hg⟩; have T7 := Lib.hid (T6.out.call hp hg); clear hp hg) | (go_at_call 52; (with_reducible refine (H7.out _ T7.out.at_).mono ?_); rintro e v7 ⟨v, rfl, rfl, hp, hg⟩; have hc := T7.out.call hp hg; have e3 := cell6 hc.box 3 rfl; have e4 := cell6 hc.box 4 rfl; have z3 := frozen6 hc.box 3; have z4 := frozen6 hc.box 4; have T8 := Lib.hid (hc.setDefault dk (dn : Int)); clear hc hp hg) | (go_at_call 50; (with_reducible refine (H8.out _ T8.out.at_).mono ?_); rintro e v8 ⟨v, rfl, rfl, hp, hg⟩; have T9 := Lib.hid (T8.out.call hp hg); clear hp hg) | (go_at_call 53; (with_reducible refine (H9.out _ T9.out.at_).mono ?_); rintro e v9 ⟨rfl, hg⟩; have HY := Lib.hid (grown_trans T9.out.gr hg); clear hg))
                      exact ⟨rfl, rfl, HY.out⟩
                    · have H9 := Lib.hid h9
                      clear h9
                      show Calls _ _ _ _ (GotP (PoP w.heap.size) s w b 0 .out)
                      go_enter Tryz.func22, Tryz.ntmps22
                      go_wp2_with (first | (go_at_call 50; (with_reducible refine (H0.out _ T0.out.at_).mono ?_); rintro e v0 ⟨v, rfl, rfl, hp, hg⟩; have T1 := Lib.hid (T0.out.call hp hg); clear hp hg) | (go_at_call 51; (with_reducible refine (H1.out _ T1.out.at_).mono ?_); rintro e v1 ⟨v, rfl, rfl, hp, hg⟩; have hc := T1.out.call hp hg; have e0 := cell6 hc.box 0 rfl; have z0 := frozen6 hc.box 0; have T2 := Lib.hid (hc.setArch a); clear hc hp hg) | (go_at_call 50; (with_reducible refine (H2.out _ T2.out.at_).mono ?_); rintro e v2 ⟨v, rfl, rfl, hp, hg⟩; have T3 := Lib.hid (T2.out.call hp hg); clear hp hg) | (go_at_call 50; (with_reducible refine (H3.out _ T3.out.at_).mono ?_); rintro e v3 ⟨v, rfl, rfl, hp, hg⟩; have T4 := Lib.hid (T3.out.call hp hg); clear hp hg) | (go_at_call 52; (with_reducible refine (H4.out _ T4.out.at_).mono ?_); rintro e v4 ⟨v, rfl, rfl, hp, hg⟩; have hc := T4.out.call hp hg; have e1 := cell6 hc.box 1 rfl; have e2 := cell6 hc.box 2 rfl; have z1 := frozen6 hc.box 1; have z2 := frozen6 hc.box 2; have T5 := Lib.hid (hc.setForeign fk (fn : Int)); clear hc hp hg) | (go_at_call 50; (with_reducible refine (H5.out _ T5.out.at_).mono ?_); rintro e v5 ⟨v, rfl, rfl, hp, hg⟩; have T6 := Lib.hid (T5.out.call hp hg); clear hp hg) | (go_at_call 50; (with_reducible refine (H6.out _ T6.out.at_).mono ?_); rintro e v6 ⟨v, rfl, rfl, hp, hg⟩; have T7 := Lib.hid (T6.out.call hp hg); clear hp hg) | (go_at_call 52; (with_reducible refine (H7.out _ T7.out.at_).mono ?_); rintro e v7 ⟨v, rfl, rfl, hp, hg⟩; have hc := T7.out.call hp hg; have e3 := cell6 hc.box 3 rfl; have e4 := cell6 hc.box 4 rfl; have z3 := frozen6 hc.box 3; have z4 := frozen6 hc.box 4; have T8 := Lib.hid (hc.setDefault dk (dn : Int)); clear hc hp hg) | (go_at_call 50; (with_reducible refine (H8.out _ T8.out.at_).mono ?_); rintro e v8 ⟨v, rfl, rfl, hp, hg⟩; have T9 := Lib.hid (T8.out.call hp hg); clear hp hg) | (go_at_call 53; (with_reducible refine (H9.out _ T9.out.at_).mono ?_); intro e v9 hF; exact hF.elim))
                  · have H8 := Lib.hid h8
                    clear h8 hf8
                    show Calls _ _ _ _ (GotP (PoP w.heap.size) s w b 0 (.bad er p))
                    go_enter Tryz.func22, Tryz.ntmps22
                    go_wp2_with (first | (go_at_call 50; (with_reducible refine (H0.out _ T0.out.at_).mono ?_); rintro e v0 ⟨v, rfl, rfl, hp, hg⟩; have T1 := Lib.hid (T0.out.call hp hg); clear hp hg) | (go_at_call 51; (with_reducible refine (H1.out _ T1.out.at_).mono ?_); rintro e v1 ⟨v, rfl, rfl, hp, hg⟩; have hc := T1.out.call hp hg; have e0 := cell6 hc.box 0 rfl; have z0 := frozen6 hc.box 0; have T2 := Lib.hid (hc.setArch a); clear hc hp hg) | (go_at_call 50; (with_reducible refine (H2.out _ T2.out.at_).mono ?_); rintro e v2 ⟨v, rfl, rfl, hp, hg⟩; have T3 := Lib.hid (T2.out.call hp hg); clear hp hg) | (go_at_call 50; (with_reducible refine (H3.out _ T3.out.at_).mono ?_); rintro e v3 ⟨v, rfl, rfl, hp, hg⟩; have T4 := Lib.hid (T3.out.call hp hg); clear hp hg) | (go_at_call 52; (with_reducible refine (H4.out _ T4.out.at_).mono ?_); rintro e v4 ⟨v, rfl, rfl, hp, hg⟩; have hc := T4.out.call hp hg; have e1 := cell6 hc.box 1 rfl; have e2 := cell6 hc.box 2 rfl; have z1 := frozen6 hc.box 1; have z2 := frozen6 hc.box 2; have T5 := Lib.hid (hc.setForeign fk (fn : Int)); clear hc hp hg) | (go_at_call 50; (with_reducible refine (H5.out _ T5.out.at_).mono ?_); rintro e v5 ⟨v, rfl, rfl, hp, hg⟩; have T6 := Lib.hid (T5.out.call hp hg); clear hp hg) | (go_at_call 50; (with_reducible refine (H6.out _ T6.out.at_).mono ?_); rintro e v6 ⟨v, rfl, rfl, hp, hg⟩; have T7 := Lib.hid (T6.out.call hp hg); clear hp hg) | (go_at_call 52; (with_reducible refine (H7.out _ T7.out.at_).mono ?_); rintro e v7 ⟨v, rfl, rfl, hp, hg⟩; have hc := T7.out.call hp hg; have e3 := cell6 hc.box 3 rfl; have e4 := cell6 hc.box 4 rfl; have z3 := frozen6 hc.box 3; have z4 := frozen6 hc.box 4; have T8 := Lib.hid (hc.setDefault dk (dn : Int)); clear hc hp hg) | (go_at_call 50; (with_reducible refine (H8.out _ T8.out.at_).mono ?_); rintro e v8 ⟨rfl, hg⟩; have HY := Lib.hid (grown_trans T8.out.gr hg); clear hg))
                    exact ⟨rfl, rfl, HY.out⟩
                  · have H8 := Lib.hid h8
                    clear h8 hf8
                    show Calls _ _ _ _ (GotP (PoP w.heap.size) s w b 0 .out)
                    go_enter Tryz.func22, Tryz.ntmps22
                    go_wp2_with (first | (go_at_call 50; (with_reducible refine (H0.out _ T0.out.at_).mono ?_); rintro e v0 ⟨v, rfl, rfl, hp, hg⟩; have T1 := Lib.hid (T0.out.call hp hg); clear hp hg) | (go_at_call 51; (with_reducible refine (H1.out _ T1.out.at_).mono ?_); rintro e v1 ⟨v, rfl, rfl, hp, hg⟩; have hc := T1.out.call hp hg; have e0 := cell6 hc.box 0 rfl; have z0 := frozen6 hc.box 0; have T2 := Lib.hid (hc.setArch a); clear hc hp hg) | (go_at_call 50; (with_reducible refine (H2.out _ T2.out.at_).mono ?_); rintro e v2 ⟨v, rfl, rfl, hp, hg⟩; have T3 := Lib.hid (T2.out.call hp hg); clear hp hg) | (go_at_call 50; (with_reducible refine (H3.out _ T3.out.at_).mono ?_); rintro e v3 ⟨v, rfl, rfl, hp, hg⟩; have T4 := Lib.hid (T3.out.call hp hg); clear hp hg) | (go_at_call 52; (with_reducible refine (H4.out _ T4.out.at_).mono ?_); rintro e v4 ⟨v, rfl, rfl, hp, hg⟩; have hc := T4.out.call hp hg; have e1 := cell6 hc.box 1 rfl; have e2 := cell6 hc.box 2 rfl; have z1 := frozen6 hc.box 1; have z2 := frozen6 hc.box 2; have T5 := Lib.hid (hc.setForeign fk (fn : Int)); clear hc hp hg) | (go_at_call 50; (with_reducible refine (H5.out _ T5.out.at_).mono ?_); rintro e v5 ⟨v, rfl, rfl, hp, hg⟩; have T6 := Lib.hid (T5.out.call hp hg); clear hp hg) | (go_at_call 50; (with_reducible refine (H6.out _ T6.out.at_).mono ?_); rintro e v6 ⟨v, rfl, rfl, hp, hg⟩; have T7 := Lib.hid (T6.out.call hp hg); clear hp hg) | (go_at_call 52; (with_reducible refine (H7.out _ T7.out.at_).mono ?_); rintro e v7 ⟨v, rfl, rfl, hp, hg⟩; have hc := T7.out.call hp hg; have e3 := cell6 hc.box 3 rfl; have e4 := cell6 hc.box 4 rfl; have z3 := frozen6 hc.box 3; have z4 := frozen6 hc.box 4; have T8 := Lib.hid (hc.setDefault dk (dn : Int)); clear hc hp hg) | (go_at_call 50; (with_reducible refine (H8.out _ T8.out.at_).mono ?_); intro e v8 hF; exact hF.elim))
                · have H7 := Lib.hid h7
                  clear h7 hf7
                  show Calls _ _ _ _ (GotP (PoP w.heap.size) s w b 0 (.bad er p))
                  go_enter Tryz.func22, Tryz.ntmps22
                  go_wp2_with (first | (go_at_call 50; (with_reducible refine (H0.out _ T0.out.at_).mono ?_); rintro e v0 ⟨v, rfl, rfl, hp, hg⟩; have T1 := Lib.hid (T0.out.call hp hg); clear hp hg) | (go_at_call 51; (with_reducible refine (H1.out _ T1.out.at_).mono ?_); rintro e v1 ⟨v, rfl, rfl, hp, hg⟩; have hc := T1.out.call hp hg; have e0 := cell6 hc.box 0 rfl; have z0 := frozen6 hc.box 0; have T2 := Lib.hid (hc.setArch a); clear hc hp hg) | (go_at_call 50; (with_reducible refine (H2.out _ T2.out.at_).mono ?_); rintro e v2 ⟨v, rfl, rfl, hp, hg⟩; have T3 := Lib.hid (T2.out.call hp hg); clear hp hg) | (go_at_call 50; (with_reducible refine (H3.out _ T3.out.at_).mono ?_); rintro e v3 ⟨v, rfl, rfl, hp, hg⟩; have T4 := Lib.hid (T3.out.call hp hg); clear hp hg) | (go_at_call 52; (with_reducible refine (H4.out _ T4.out.at_).mono ?_); rintro e v4 ⟨v, rfl, rfl, hp, hg⟩; have hc := T4.out.call hp hg; have e1 := cell6 hc.box 1 rfl; have e2 := cell6 hc.box 2 rfl; have z1 := frozen6 hc.box 1; have z2 := frozen6 hc.box 2; have T5 := Lib.hid (hc.setForeign fk (fn : Int)); clear hc hp hg) | (go_at_call 50; (with_reducible refine (H5.out _ T5.out.at_).mono ?_); rintro e v5 ⟨v, rfl, rfl, hp, hg⟩; have T6 := Lib.hid (T5.out.call hp hg); clear hp hg) | (go_at_call 50; (with_reducible refine (H6.out _ T6.out.at_).mono ?_); rintro e v6 ⟨v, rfl, rfl, hp, hg⟩; have T7 := Lib.hid (T6.out.call hp hg); clear hp hg) | (go_at_call 52; (with_reducible refine (H7.out _ T7.out.at_).mono ?_); rintro e v7 ⟨rfl, hg⟩; have HY := Lib.hid (grown_trans T7.out.gr hg); clear hg))
                  exact ⟨rfl, rfl, HY.out⟩
                · have H7 := Lib.hid h7
                  clear h7 hf7
                  show Calls _ _ _ _ (GotP (PoP w.heap.size) s w b 0 .out)
                  go_enter Tryz.func22, Tryz.ntmps22
                  go_wp2_with (first | (go_at_call 50; (with_reducible refine (H0.out _ T0.out.at_).mono ?_); rintro e v0 ⟨v, rfl, rfl, hp, hg⟩; have T1 := Lib.hid (T0.out.call hp hg); clear hp hg) | (go_at_call 51; (with_reducible refine (H1.out _ T1.out.at_).mono ?_); rintro e v1 ⟨v, rfl, rfl, hp, hg⟩; have hc := T1.out.call hp hg; have e0 := cell6 hc.box 0 rfl; have z0 := frozen6 hc.box 0; have T2 := Lib.hid (hc.setArch a); clear hc hp hg) | (go_at_call 50; (with_reducible refine (H2.out _ T2.out.at_).mono ?_); rintro e v2 ⟨v, rfl, rfl, hp, hg⟩; have T3 := Lib.hid (T2.out.call hp hg); clear hp hg) | (go_at_call 50; (with_reducible refine (H3.out _ T3.out.at_).mono ?_); rintro e v3 ⟨v, rfl, rfl, hp, hg⟩; have T4 := Lib.hid (T3.out.call hp hg); clear hp hg) | (go_at_call 52; (with_reducible refine (H4.out _ T4.out.at_).mono ?_); rintro e v4 ⟨v, rfl, rfl, hp, hg⟩; have hc := T4.out.call hp hg; have e1 := cell6 hc.box 1 rfl; have e2 := cell6 hc.box 2 rfl; have z1 := frozen6 hc.box 1; have z2 := frozen6 hc.box 2; have T5 := Lib.hid (hc.setForeign fk (fn : Int)); clear hc hp hg) | (go_at_call 50; (with_reducible refine (H5.out _ T5.out.at_).mono ?_); rintro e v5 ⟨v, rfl, rfl, hp, hg⟩; have T6 := Lib.hid (T5.out.call hp hg); clear hp hg) | (go_at_call 50; (with_reducible refine (H6.out _ T6.out.at_).mono ?_); rintro e v6 ⟨v, rfl, rfl, hp, hg⟩; have T7 := Lib.hid (T6.out.call hp hg); clear hp hg) | (go_at_call 52; (with_reducible refine (H7.out _ T7.out.at_).mono ?_); intro e v7 hF; exact hF.elim))
              · have H6 := Lib.hid h6
                clear h6 hf6
                show Calls _ _ _ _ (GotP (PoP w.heap.size) s w b 0 (.bad er p))
                go_enter Tryz.func22, Tryz.ntmps22
                go_wp2_with (first | (go_at_call 50; (with_reducible refine (H0.out _ T0.out.at_).mono ?_); rintro e v0 ⟨v, rfl, rfl, hp, hg⟩; have T1 := Lib.hid (T0.out.call hp hg); clear hp hg) | (go_at_call 51; (with_reducible refine (H1.out _ T1.out.at_).mono ?_); rintro e v1 ⟨v, rfl, rfl, hp, hg⟩; have hc := T1.out.call hp hg; have e0 := cell6 hc.box 0 rfl; have z0 := frozen6 hc.box 0; have T2 := Lib.hid (hc.setArch a); clear hc hp hg) | (go_at_call 50; (with_reducible refine (H2.out _ T2.out.at_).mono ?_); rintro e v2 ⟨v, rfl, rfl, hp, hg⟩; have T3 := Lib.hid (T2.out.call hp hg); clear hp hg) | (go_at_call 50; (with_reducible refine (H3.out _ T3.out.at_).mono ?_); rintro e v3 ⟨v, rfl, rfl, hp, hg⟩; have T4 := Lib.hid (T3.out.call hp hg); clear hp hg) | (go_at_call 52; (with_reducible refine (H4.out _ T4.out.at_).mono ?_); rintro e v4 ⟨v, rfl, rfl, hp, hg⟩; have hc := T4.out.call hp hg; have e1 := cell6 hc.box 1 rfl; have e2 := cell6 hc.box 2 rfl; have z1 := frozen6 hc.box 1; have z2 := frozen6 hc.box 2; have T5 := Lib.hid (hc.setForeign fk (fn : Int)); clear hc hp hg) | (go_at_call 50; (with_reducible refine (H5.out _ T5.out.at_).mono ?_); rintro e v5 ⟨v, rfl, rfl, hp, hg⟩; have T6 := Lib.hid (T5.out.call hp hg); clear hp hg) | (go_at_call 50; (with_reducible refine (H6.out _ T6.out.at_).mono ?_); rintro e v6 ⟨rfl, hg⟩; have HY := Lib.hid (grown_trans T6.out.gr hg); clear hg))
                exact ⟨rfl, rfl, HY.out⟩
              · have H6 := Lib.hid h6
                clear h6 hf6
                show Calls _ _ _ _ (GotP (PoP w.heap.size) s w b 0 .out)
                go_enter Tryz.func22, Tryz.ntmps22
                go_wp2_with (first | (go_at_call 50; (with_reducible refine (H0.out _ T0.out.at_).mono ?_); rintro e v0 ⟨v, rfl, rfl, hp, hg⟩; have T1 := Lib.hid (T0.out.call hp hg); clear hp hg) | (go_at_call 51; (with_reducible refine (H1.out _ T1.out.at_).mono ?_); rintro e v1 ⟨v, rfl, rfl, hp, hg⟩; have hc := T1.out.call hp hg; have e0 := cell6 hc.box 0 rfl; have z0 := frozen6 hc.box 0; have T2 := Lib.hid (hc.setArch a); clear hc hp hg) | (go_at_call 50; (with_reducible refine (H2.out _ T2.out.at_).mono ?_); rintro e v2 ⟨v, rfl, rfl, hp, hg⟩; have T3 := Lib.hid (T2.out.call hp hg); clear hp hg) | (go_at_call 50; (with_reducible refine (H3.out _ T3.out.at_).mono ?_); rintro e v3 ⟨v, rfl, rfl, hp, hg⟩; have T4 := Lib.hid (T3.out.call hp hg); clear hp hg) | (go_at_call 52; (with_reducible refine (H4.out _ T4.out.at_).mono ?_); rintro e v4 ⟨v, rfl, rfl, hp, hg⟩; have hc := T4.out.call hp hg; have e1 := cell6 hc.box 1 rfl; have e2 := cell6 hc.box 2 rfl; have z1 := frozen6 hc.box 1; have z2 := frozen6 hc.box 2; have T5 := Lib.hid (hc.setForeign fk (fn : Int)); clear hc hp hg) | (go_at_call 50; (with_reducible refine (H5.out _ T5.out.at_).mono ?_); rintro e v5 ⟨v, rfl, rfl, hp, hg⟩; have T6 := Lib.hid (T5.out.call hp hg); clear hp hg) | (go_at_call 50; (with_reducible refine (H6.out _ T6.out.at_).mono ?_); intro e v6 hF; exact hF.elim))
            · have H5 := Lib.hid h5
              clear h5 hf5
              show Calls _ _ _ _ (GotP (PoP w.heap.size) s w b 0 (.bad er p))
              go_enter Tryz.func22, Tryz.ntmps22
              go_wp2_with (first | (go_at_call 50; (with_reducible refine (H0.out _ T0.out.at_).mono ?_); rintro e v0 ⟨v, rfl, rfl, hp, hg⟩; have T1 := Lib.hid (T0.out.call hp hg); clear hp hg) | (go_at_call 51; (with_reducible refine (H1.out _ T1.out.at_).mono ?_); rintro e v1 ⟨v, rfl, rfl, hp, hg⟩; have hc := T1.out.call hp hg; have e0 := cell6 hc.box 0 rfl; have z0 := frozen6 hc.box 0; have T2 := Lib.hid (hc.setArch a); clear hc hp hg) | (go_at_call 50; (with_reducible refine (H2.out _ T2.out.at_).mono ?_); rintro e v2 ⟨v, rfl, rfl, hp, hg⟩; have T3 := Lib.hid (T2.out.call hp hg); clear hp hg) | (go_at_call 50; (with_reducible refine (H3.out _ T3.out.at_).mono ?_); rintro e v3 ⟨v, rfl, rfl, hp, hg⟩; have T4 := Lib.hid (T3.out.call hp hg); clear hp hg) | (go_at_call 52; (with_reducible refine (H4.out _ T4.out.at_).mono ?_); rintro e v4 ⟨v, rfl, rfl, hp, hg⟩; have hc := T4.out.call hp hg; have e1 := cell6 hc.box 1 rfl; have e2 := cell6 hc.box 2 rfl; have z1 := frozen6 hc.box 1; have z2 := frozen6 hc.box 2; have T5 := Lib.hid (hc.setForeign fk (fn : Int)); clear hc hp hg) | (go_at_call 50; (with_reducible refine (H5.out _ T5.out.at_).mono ?_); rintro e v5 ⟨rfl, hg⟩; have HY := Lib.hid (grown_trans T5.out.gr hg); clear hg))
              exact ⟨rfl, rfl, HY.out⟩
            · have H5 := Lib.hid h5
              clear h5 hf5
              show Calls _ _ _ _ (GotP (PoP w.heap.size) s w b 0 .out)
              go_enter Tryz.func22, Tryz.ntmps22
              go_wp2_with (first | (go_at_call 50; (with_reducible refine (H0.out _ T0.out.at_).mono ?_); rintro e v0 ⟨v, rfl, rfl, hp, hg⟩; have T1 := Lib.hid (T0.out.call hp hg); clear hp hg) | (go_at_call 51; (with_reducible refine (H1.out _ T1.out.at_).mono ?_); rintro e v1 ⟨v, rfl, rfl, hp, hg⟩; have hc := T1.out.call hp hg; have e0 := cell6 hc.box 0 rfl; have z0 := frozen6 hc.box 0; have T2 := Lib.hid (hc.setArch a); clear hc hp hg) | (go_at_call 50; (with_reducible refine (H2.out _ T2.out.at_).mono ?_); rintro e v2 ⟨v, rfl, rfl, hp, hg⟩; have T3 := Lib.hid (T2.out.call hp hg); clear hp hg) | (go_at_call 50; (with_reducible refine (H3.out _ T3.out.at_).mono ?_); rintro e v3 ⟨v, rfl, rfl, hp, hg⟩; have T4 := Lib.hid (T3.out.call hp hg); clear hp hg) | (go_at_call 52; (with_reducible refine (H4.out _ T4.out.at_).mono ?_); rintro e v4 ⟨v, rfl, rfl, hp, hg⟩; have hc := T4.out.call hp hg; have e1 := cell6 hc.box 1 rfl; have e2 := cell6 hc.box 2 rfl; have z1 := frozen6 hc.box 1; have z2 := frozen6 hc.box 2; have T5 := Lib.hid (hc.setForeign fk (fn : Int)); clear hc hp hg) | (go_at_call 50; (with_reducible refine (H5.out _ T5.out.at_).mono ?_); intro e v5 hF; exact hF.elim))
          · have H4 := Lib.hid h4
            clear h4 hf4
            show Calls _ _ _ _ (GotP (PoP w.heap.size) s w b 0 (.bad er p))
            go_enter Tryz.func22, Tryz.ntmps22
            go_wp2_with (first | (go_at_call 50; (with_reducible refine (H0.out _ T0.out.at_).mono ?_); rintro e v0 ⟨v, rfl, rfl, hp, hg⟩; have T1 := Lib.hid (T0.out.call hp hg); clear hp hg) | (go_at_call 51; (with_reducible refine (H1.out _ T1.out.at_).mono ?_); rintro e v1 ⟨v, rfl, rfl, hp, hg⟩; have hc := T1.out.call hp hg; have e0 := cell6 hc.box 0 rfl; have z0 := frozen6 hc.box 0; have T2 := Lib.hid (hc.setArch a); clear hc hp hg) | (go_at_call 50; (with_reducible refine (H2.out _ T2.out.at_).mono ?_); rintro e v2 ⟨v, rfl, rfl, hp, hg⟩; have T3 := Lib.hid (T2.out.call hp hg); clear hp hg) | (go_at_call 50; (with_reducible refine (H3.out _ T3.out.at_).mono ?_); rintro e v3 ⟨v, rfl, rfl, hp, hg⟩; have T4 := Lib.hid (T3.out.call hp hg); clear hp hg) | (go_at_call 52; (with_reducible refine (H4.out _ T4.out.at_).mono ?_); rintro e v4 ⟨rfl, hg⟩; have HY := Lib.hid (grown_trans T4.out.gr hg); clear hg))
            exact ⟨rfl, rfl, HY.out⟩
          · have H4 := Lib.hid h4
            clear h4 hf4
            show Calls _ _ _ _ (GotP (PoP w.heap.size) s w b 0 .out)
            go_enter Tryz.func22, Tryz.ntmps22
            go_wp2_with (first | (go_at_call 50; (with_reducible refine (H0.out _ T0.out.at_).mono ?_); rintro e v0 ⟨v, rfl, rfl, hp, hg⟩; have T1 := Lib.hid (T0.out.call hp hg); clear hp hg) | (go_at_call 51; (with_reducible refine (H1.out _ T1.out.at_).mono ?_); rintro e v1 ⟨v, rfl, rfl, hp, hg⟩; have hc := T1.out.call hp hg; have e0 := cell6 hc.box 0 rfl; have z0 := frozen6 hc.box 0; have T2 := Lib.hid (hc.setArch a); clear hc hp hg) | (go_at_call 50; (with_reducible refine (H2.out _ T2.out.at_).mono ?_); rintro e v2 ⟨v, rfl, rfl, hp, hg⟩; have T3 := Lib.hid (T2.out.call hp hg); clear hp hg) | (go_at_call 50; (with_reducible refine (H3.out _ T3.out.at_).mono ?_); rintro e v3 ⟨v, rfl, rfl, hp, hg⟩; have T4 := Lib.hid (T3.out.call hp hg); clear hp hg) | (go_at_call 52; (with_reducible refine (H4.out _ T4.out.at_).mono ?_); intro e v4 hF; exact hF.elim))
        · have H3 := Lib.hid h3
          clear h3 hf3
          show Calls _ _ _ _ (GotP (PoP w.heap.size) s w b 0 (.bad er p))
          go_enter Tryz.func22, Tryz.ntmps22
          go_wp2_with (first | (go_at_call 50; (with_reducible refine (H0.out _ T0.out.at_).mono ?_); rintro e v0 ⟨v, rfl, rfl, hp, hg⟩; have T1 := Lib.hid (T0.out.call hp hg); clear hp hg) | (go_at_call 51; (with_reducible refine (H1.out _ T1.out.at_).mono ?_); rintro e v1 ⟨v, rfl, rfl, hp, hg⟩; have hc := T1.out.call hp hg; have e0 := cell6 hc.box 0 rfl; have z0 := frozen6 hc.box 0; have T2 := Lib.hid (hc.setArch a); clear hc hp hg) | (go_at_call 50; (with_reducible refine (H2.out _ T2.out.at_).mono ?_); rintro e v2 ⟨v, rfl, rfl, hp, hg⟩; have T3 := Lib.hid (T2.out.call hp hg); clear hp hg) | (go_at_call 50; (with_reducible refine (H3.out _ T3.out.at_).mono ?_); rintro e v3 ⟨rfl, hg⟩; have HY := Lib.hid (grown_trans T3.out.gr hg); clear hg))
          exact ⟨rfl, rfl, HY.out⟩
        · have H3 := Lib.hid h3
          clear h3 hf3
          show Calls _ _ _ _ (GotP (PoP w.heap.size) s w b 0 .out)
          go_enter Tryz.func22, Tryz.ntmps22
          go_wp2_with (first | (go_at_call 50; (with_reducible refine (H0.out _ T0.out.at_).mono ?_); rintro e v0 ⟨v, rfl, rfl, hp, hg⟩; have T1 := Lib.hid (T0.out.call hp hg); clear hp hg) | (go_at_call 51; (with_reducible refine (H1.out _ T1.out.at_).mono ?_); rintro e v1 ⟨v, rfl, rfl, hp, hg⟩; have hc := T1.out.call hp hg; have e0 := cell6 hc.box 0 rfl; have z0 := frozen6 hc.box 0; have T2 := Lib.hid (hc.setArch a); clear hc hp hg) | (go_at_call 50; (with_reducible refine (H2.out _ T2.out.at_).mono ?_); rintro e v2 ⟨v, rfl, rfl, hp, hg⟩; have T3 := Lib.hid (T2.out.call hp hg); clear hp hg) | (go_at_call 50; (with_reducible refine (H3.out _ T3.out.at_).mono ?_); intro e v3 hF; exact hF.elim))
      · have H2 := Lib.hid h2
        clear h2 hf2
        show Calls _ _ _ _ (GotP (PoP w.heap.size) s w b 0 (.bad er p))
        go_enter Tryz.func22, Tryz.ntmps22
        go_wp2_with (first | (go_at_call 50; (with_reducible refine (H0.out _ T0.out.at_).mono ?_); rintro e v0 ⟨v, rfl, rfl, hp, hg⟩; have T1 := Lib.hid (T0.out.call hp hg); clear hp hg) | (go_at_call 51; (with_reducible refine (H1.out _ T1.out.at_).mono ?_); rintro e v1 ⟨v, rfl, rfl, hp, hg⟩; have hc := T1.out.call hp hg; have e0 := cell6 hc.box 0 rfl; have z0 := frozen6 hc.box 0; have T2 := Lib.hid (hc.setArch a); clear hc hp hg) | (go_at_call 50; (with_reducible refine (H2.out _ T2.out.at_).mono ?_); rintro e v2 ⟨rfl, hg⟩; have HY := Lib.hid (grown_trans T2.out.gr hg); clear hg))
        exact ⟨rfl, rfl, HY.out⟩
      · have H2 := Lib.hid h2
        clear h2 hf2
        show Calls _ _ _ _ (GotP (PoP w.heap.size) s w b 0 .out)
        go_enter Tryz.func22, Tryz.ntmps22
        go_wp2_with (first | (go_at_call 50; (with_reducible refine (H0.out _ T0.out.at_).mono ?_); rintro e v0 ⟨v, rfl, rfl, hp, hg⟩; have T1 := Lib.hid (T0.out.call hp hg); clear hp hg) | (go_at_call 51; (with_reducible refine (H1.out _ T1.out.at_).mono ?_); rintro e v1 ⟨v, rfl, rfl, hp, hg⟩; have hc := T1.out.call hp hg; have e0 := cell6 hc.box 0 rfl; have z0 := frozen6 hc.box 0; have T2 := Lib.hid (hc.setArch a); clear hc hp hg) | (go_at_call 50; (with_reducible refine (H2.out _ T2.out.at_).mono ?_); intro e v2 hF; exact hF.elim))
    · have H1 := Lib.hid h1
      clear h1 hf1
      show Calls _ _ _ _ (GotP (PoP w.heap.size) s w b 0 (.bad er p))
      go_enter Tryz.func22, Tryz.ntmps22
      go_wp2_with (first | (go_at_call 50; (with_reducible refine (H0.out _ T0.out.at_).mono ?_); rintro e v0 ⟨v, rfl, rfl, hp, hg⟩; have T1 := Lib.hid (T0.out.call hp hg); clear hp hg) | (go_at_call 51; (with_reducible refine (H1.out _ T1.out.at_).mono ?_); rintro e v1 ⟨rfl, hg⟩; have HY := Lib.hid (grown_trans T1.out.gr hg); clear hg))
      exact ⟨rfl, rfl, HY.out⟩
    · have H1 := Lib.hid h1
      clear h1 hf1
      show Calls _ _ _ _ (GotP (PoP w.heap.size) s w b 0 .out)
      go_enter Tryz.func22, Tryz.ntmps22
      go_wp2_with (first | (go_at_call 50; (with_reducible refine (H0.out _ T0.out.at_).mono ?_); rintro e v0 ⟨v, rfl, rfl, hp, hg⟩; have T1 := Lib.hid (T0.out.call hp hg); clear hp hg) | (go_at_call 51; (with_reducible refine (H1.out _ T1.out.at_).mono ?_); intro e v1 hF; exact hF.elim))
  · have H0 := Lib.hid h0
    clear h0 hf0
    show Calls _ _ _ _ (GotP (PoP w.heap.size) s w b 0 (.bad er p))
    go_enter Tryz.func22, Tryz.ntmps22
    go_wp2_with (first | (go_at_call 50; (with_reducible refine (H0.out _ T0.out.at_).mono ?_); rintro e v0 ⟨rfl, hg⟩; have HY := Lib.hid (grown_trans T0.out.gr hg); clear hg))
    exact ⟨rfl, rfl, HY.out⟩
  · have H0 := Lib.hid h0
    clear h0 hf0
    show Calls _ _ _ _ (GotP (PoP w.heap.size) s w b 0 .out)
    go_enter Tryz.func22, Tryz.ntmps22
    go_wp2_with (first | (go_at_call 50; (with_reducible refine (H0.out _ T0.out.at_).mono ?_); intro e v0 hF; exact hF.elim))
end Go.Proofs.YtgeapkjegemkeaaGreatDoor
namespace Go.Proofs.YtgeapkjegemkeaaGreatDoor
open Go Go.RowKit
set_option linter.unusedSimpArgs false
set_option linter.unusedVariables false

theorem rules_set6 {w W : World} {lo : Nat} {l : List Ru} {Rv : Value} (h : RulesP lo l Rv W) (hlo : w.heap.size < lo) (a b c d e f : Value) :
    RulesP w.heap.size l Rv ((((((W.setCell ⟨w.heap.size, 0, none⟩ a).setCell ⟨w.heap.size, 1, none⟩ b).setCell ⟨w.heap.size, 2, none⟩ c).setCell ⟨w.heap.size, 3, none⟩ d).setCell ⟨w.heap.size, 4, none⟩ e).setCell ⟨w.heap.size, 5, none⟩ f) := by
  refine rules_keep h (by simp [World.setCell]) (by omega) (fun k hk _ => ?_)
  exact (Below.heap_setCell _ ⟨w.heap.size, 5, none⟩ f k (show k ≠ w.heap.size by omega)).trans ((Below.heap_setCell _ ⟨w.heap.size, 4, none⟩ e k (show k ≠ w.heap.size by omega)).trans ((Below.heap_setCell _ ⟨w.heap.size, 3, none⟩ d k (show k ≠ w.heap.size by omega)).trans ((Below.heap_setCell _ ⟨w.heap.size, 2, none⟩ c k (show k ≠ w.heap.size by omega)).trans ((Below.heap_setCell _ ⟨w.heap.size, 1, none⟩ b k (show k ≠ w.heap.size by omega)).trans (Below.heap_setCell _ ⟨w.heap.size, 0, none⟩ a k (show k ≠ w.heap.size by omega))))))
set_option maxRecDepth 100000 in
theorem caught_idleP (p q : Addr) (w : World) :
    CallsD Tryz.prog 48 #[.pointer (some p), .pointer (some q)] .returning w fun e u' w' => e = .returned (.tuple #[]) ∧ u' = .returning ∧ w' = w := by
  have hnil : ∀ w : World, (binOp BinOp.eql 20 .nilIface .nilIface).run Tryz.prog w = .ok (.bool true) w := fun _ => by kernel_rfl
  refine callsD_of_wpS Tryz.func48 rfl fun c₀ cs hu => ?_
  change Code.wpS _ _ _ { tmps := #[.pointer (some p), .pointer (some q), undef, undef, undef, undef, undef, undef, undef, undef, undef, undef, undef, undef, undef], defers := [] } _ _
  apply wpS_seq
  apply wpS_region
  simp [wpOpsS, go_sem, recoverD, hu, Tryz.ntmps48, Exit.thenS]
  refine wpS_of_wp ?_
  go_wp2
  cases c₀
  simp_all [bodyPostS, results, Tryz.results48]
set_option maxRecDepth 100000 in
theorem caught_refusalP (p q : Nat) (er : Int) (at_ : Nat) (w : World) (v0 v1 : Value) (hp : w.cell? ⟨p, 0, none⟩ = some v0) (hq : w.cell? ⟨q, 0, none⟩ = some v1) (zp : w.frozen? ⟨p, 0, none⟩ = false) (zq : w.frozen? ⟨q, 0, none⟩ = false) (hpq : p ≠ q) :
    CallsD Tryz.prog 48 #[.pointer (some ⟨p, 0, none⟩), .pointer (some ⟨q, 0, none⟩)] (.panicking [{ v := .iface 98 (.agg #[.int .i64 er, .int .i64 (at_ : Int)]), recovered := false }]) w fun e u' w' =>
      e = .returned (.tuple #[]) ∧ u' = .panicking [{ v := .iface 98 (.agg #[.int .i64 er, .int .i64 (at_ : Int)]), recovered := true }] ∧ ∃ o n, w' = (((w.alloc o).drewN n).setCell ⟨p, 0, none⟩ (.int .i64 er)).setCell ⟨q, 0, none⟩ (.int .i64 (at_ : Int)) := by
  have hnil : ∀ w : World, (binOp BinOp.eql 20 (.iface 98 (.agg #[.int .i64 er, .int .i64 (at_ : Int)])) .nilIface).run Tryz.prog w = .ok (.bool false) w := fun _ => by kernel_rfl
  have hta : ∀ w : World, (Instr.typeAssert (.iface 98 (.agg #[.int .i64 er, .int .i64 (at_ : Int)])) 20 98 true).run Tryz.prog w = .ok (.tuple #[.agg #[.int .i64 er, .int .i64 (at_ : Int)], .bool true]) w := fun _ => by kernel_rfl
  refine callsD_of_wpS Tryz.func48 rfl fun c₀ cs hu => ?_
  change Code.wpS _ _ _ { tmps := #[.pointer (some ⟨p, 0, none⟩), .pointer (some ⟨q, 0, none⟩), undef, undef, undef, undef, undef, undef, undef, undef, undef, undef, undef, undef, undef], defers := [] } _ _
  apply wpS_seq
  apply wpS_region
  simp [wpOpsS, go_sem, recoverD, hu, Tryz.ntmps48, Exit.thenS]
  refine wpS_of_wp ?_
  have hlp := cell_lt hp
  have hlq := cell_lt hq
  go_wp2
  have HX := Lib.hid (World.alloc_heap_new w (.cells #[.int .i64 er, .int .i64 (at_ : Int)] 98))
  refine wp_region_held_drew (S := fun W' => W'.heap[w.heap.size]? = some (.cells #[.int .i64 er, .int .i64 (at_ : Int)] 98 (0, 0))) (by kernel_rfl) HX.out (fun hHeld => ?_)
  have cp : ((w.alloc (.cells #[.int .i64 er, .int .i64 (at_ : Int)] 98)).drew).cell? ⟨p, 0, none⟩ = some v0 := ((lbox w _).cell (p := ⟨p, 0, none⟩) hlp).trans hp
  have cq : ((w.alloc (.cells #[.int .i64 er, .int .i64 (at_ : Int)] 98)).drew).cell? ⟨q, 0, none⟩ = some v1 := ((lbox w _).cell (p := ⟨q, 0, none⟩) hlq).trans hq
  have yp : ((w.alloc (.cells #[.int .i64 er, .int .i64 (at_ : Int)] 98)).drew).frozen? ⟨p, 0, none⟩ = false := ((lbox w _).frozen (p := ⟨p, 0, none⟩) hlp).trans zp
  have yq : ((w.alloc (.cells #[.int .i64 er, .int .i64 (at_ : Int)] 98)).drew).frozen? ⟨q, 0, none⟩ = false := ((lbox w _).frozen (p := ⟨q, 0, none⟩) hlq).trans zq
  have HY : Hid (((w.alloc (.cells #[.int .i64 er, .int .i64 (at_ : Int)] 98)).drew).heap[w.heap.size]? = some (.cells #[.int .i64 er, .int .i64 (at_ : Int)] 98 (0, 0))) := Lib.hid HX.out
  have HYY : Hid (∃ o n, (w.alloc (.cells #[.int .i64 er, .int .i64 (at_ : Int)] 98)).drew = (w.alloc o).drewN n) := Lib.hid ⟨_, 1, rfl⟩
  have hpw : p ≠ w.heap.size := by omega
  have hqw : q ≠ w.heap.size := by omega
  clear hp hq zp zq HX hnil hta hlp hlq
  generalize (w.alloc (.cells #[.int .i64 er, .int .i64 (at_ : Int)] 98)).drew = Y at cp cq yp yq HY HYY ⊢
  refine wpAnyH_take (i := 0) (v := ?_) rfl (by kernel_rfl) (by kernel_rfl) (by kernel_rfl) (fun _ _ _ h => h) (Or.inl ⟨by rfl, ?_⟩) (by assumption) ?_
  rotate_left
  · intro wS hSw
    (have i0 := cell6 hSw 0 rfl; have i1 := cell6 hSw 1 rfl)
    go_simp
    all_goals with_reducible rfl
  (try simp only [List.getElem_toArray, List.getElem_cons_zero, List.getElem_cons_succ, Act.put, List.setIfInBounds_toArray, List.set_cons_zero, List.set_cons_succ])
  refine wpAnyH_take (i := 1) (v := ?_) rfl (by kernel_rfl) (by kernel_rfl) (by kernel_rfl) (fun _ _ _ h => h) (Or.inl ⟨by rfl, ?_⟩) (by assumption) ?_
  rotate_left
  · intro wS hSw
    (have i0 := cell6 hSw 0 rfl; have i1 := cell6 hSw 1 rfl)
    go_simp
    all_goals with_reducible rfl
  (try simp only [List.getElem_toArray, List.getElem_cons_zero, List.getElem_cons_succ, Act.put, List.setIfInBounds_toArray, List.set_cons_zero, List.set_cons_succ])
  refine wpAnyH_take (i := 2) (v := ?_) rfl (by kernel_rfl) (by kernel_rfl) (by kernel_rfl) (fun _ _ _ h => h) (Or.inl ⟨by rfl, ?_⟩) (by assumption) ?_
  rotate_left
  · intro wS hSw
    (have i0 := cell6 hSw 0 rfl; have i1 := cell6 hSw 1 rfl)
    go_simp
    all_goals with_reducible rfl
  (try simp only [List.getElem_toArray, List.getElem_cons_zero, List.getElem_cons_succ, Act.put, List.setIfInBounds_toArray, List.set_cons_zero, List.set_cons_succ])
  refine wpAnyH_take (i := 3) (v := ?_) rfl (by kernel_rfl) (by kernel_rfl) (by kernel_rfl) (fun _ _ _ h => h) (Or.inl ⟨by rfl, ?_⟩) (by assumption) ?_
  rotate_left
  · intro wS hSw
    (have i0 := cell6 hSw 0 rfl; have i1 := cell6 hSw 1 rfl)
    go_simp
    all_goals with_reducible rfl
  (try simp only [List.getElem_toArray, List.getElem_cons_zero, List.getElem_cons_succ, Act.put, List.setIfInBounds_toArray, List.set_cons_zero, List.set_cons_succ])
  refine held_one (i := 4) (by kernel_rfl) rfl (fun K hK => ?_)
  go_simp
  refine hK.out _ _ (kept_set HY.out (Ne.symm hpw) 0 _) (fun hH2 => ?_)
  clear hK K hHeld
  refine held_one (i := 5) (by kernel_rfl) rfl (fun K hK => ?_)
  go_simp
  refine hK.out _ _ (kept_set (kept_set HY.out (Ne.symm hpw) 0 _) (Ne.symm hqw) 0 _) (fun hH3 => ?_)
  clear hK K hH2
  refine wpAnyH_done (by kernel_rfl) ?_ _
  obtain ⟨o, n, rfl⟩ := HYY.out
  simp only [Exit.inBlock]
  exact ⟨rfl, _, rfl, .tuple #[], results_none rfl _ _ _, rfl, rfl, o, n, rfl⟩
theorem refused_endP (w : World) (s : ByteArray) (w2 : World) (er : Int) (p : Nat) (HB : (read4 w (poO ⟨#[]⟩ 0 0 0 0 (.slice none 0 0)) s).heap[w.heap.size]? = some (poO ⟨#[]⟩ 0 0 0 0 (.slice none 0 0)) ∧ (read4 w (poO ⟨#[]⟩ 0 0 0 0 (.slice none 0 0)) s).heap[w.heap.size + 1]? = some (errO 0) ∧ (read4 w (poO ⟨#[]⟩ 0 0 0 0 (.slice none 0 0)) s).heap[w.heap.size + 2]? = some (intO 0) ∧ Below w.heap.size w (read4 w (poO ⟨#[]⟩ 0 0 0 0 (.slice none 0 0)) s))
    (hg : (read4 w (poO ⟨#[]⟩ 0 0 0 0 (.slice none 0 0)) s).grownBy w2 (some (w.heap.size + 3))) (tm : Array Value) (h4 : tm[4]? = some (.pointer (some ⟨w.heap.size, 0, none⟩))) (h5 : tm[5]? = some (.pointer (some ⟨w.heap.size + 1, 0, none⟩))) (h6 : tm[6]? = some (.pointer (some ⟨w.heap.size + 1 + 1, 0, none⟩))) :
    Leaves Tryz.prog Tryz.f21 tm (ParseP (PoP w.heap.size) (poV ⟨#[]⟩ 0 0 0 0 (.slice none 0 0)) w (.bad er p)) [{ target := .fn (.func 48) #[.pointer (some ⟨w.heap.size + 1, 0, none⟩), .pointer (some ⟨w.heap.size + 1 + 1, 0, none⟩)], args := #[] }] (.panicking [{ v := .iface 98 (.agg #[.int .i64 er, .int .i64 (p : Int)]), recovered := false }]) w2 := by
  have k0 := kept_box HB.1 hg (by omega)
  have k1 : w2.heap[w.heap.size + 1]? = some (errO 0) := kept_box HB.2.1 hg (by omega)
  have k2 : w2.heap[w.heap.size + 1 + 1]? = some (intO 0) := kept_box HB.2.2.1 hg (by omega)
  have hb := below_grow HB.2.2.2 hg (by omega) (Nat.le_refl _)
  refine leaves_cons (f := 48) (args := #[.pointer (some ⟨w.heap.size + 1, 0, none⟩), .pointer (some ⟨w.heap.size + 1 + 1, 0, none⟩)]) (by simp) (by simp [go_sem]) ?_
  refine (caught_refusalP (w.heap.size + 1) (w.heap.size + 1 + 1) er p w2 _ _ (cell6 k1 0 rfl) (cell6 k2 0 rfl) (frozen6 k1 0) (frozen6 k2 0) (by omega)).mono ?_
  rintro e u' w'' ⟨rfl, rfl, o, n, rfl⟩
  have d0 : ((w2.alloc o).drewN n).heap[w.heap.size]? = some (poO ⟨#[]⟩ 0 0 0 0 (.slice none 0 0)) := kept_alloc k0 o
  have d1 : ((w2.alloc o).drewN n).heap[w.heap.size + 1]? = some (errO 0) := kept_alloc k1 o
  have d2 : ((w2.alloc o).drewN n).heap[w.heap.size + 1 + 1]? = some (intO 0) := kept_alloc k2 o
  have hbd : Below w.heap.size w ((w2.alloc o).drewN n) := below_drawn (hb.trans ((lbox w2 o).mono hb.size)) n
  generalize (w2.alloc o).drewN n = V at d0 d1 d2 hbd ⊢
  have g0 := kept_set (kept_set d0 (C := w.heap.size + 1) (by omega) 0 (.int .i64 er)) (C := w.heap.size + 1 + 1) (by omega) 0 (.int .i64 (p : Int))
  have g1 := kept_set (heap_set1 d1 0 (.int .i64 er)) (C := w.heap.size + 1 + 1) (by omega) 0 (.int .i64 (p : Int))
  have g2 := heap_set1 (kept_set d2 (C := w.heap.size + 1) (by omega) 0 (.int .i64 er)) 0 (.int .i64 (p : Int))
  have hbb := (hbd.setCell (p := ⟨w.heap.size + 1, 0, none⟩) (show w.heap.size ≤ w.heap.size + 1 by omega) (.int .i64 er)).setCell (p := ⟨w.heap.size + 1 + 1, 0, none⟩) (show w.heap.size ≤ w.heap.size + 1 + 1 by omega) (.int .i64 (p : Int))
  have v0 := cell6 g0 0 rfl
  have v1 := cell6 g0 1 rfl
  have v2 := cell6 g0 2 rfl
  have v3 := cell6 g0 3 rfl
  have v4 := cell6 g0 4 rfl
  have v5 := cell6 g0 5 rfl
  have ve := cell6 g1 0 rfl
  have va := cell6 g2 0 rfl
  refine ⟨.tuple #[poV ⟨#[]⟩ 0 0 0 0 (.slice none 0 0), .int .i64 er, .int .i64 (p : Int)], by simp [results, Tryz.results21, go_sem, h4, h5, h6, v0, v1, v2, v3, v4, v5, ve, va], rfl, hbb⟩
set_option maxHeartbeats 2000000 in
set_option maxRecDepth 100000 in
theorem pp_readPolicy (w : World) (s : ByteArray) (n : Nat) (hsm : (srcF s).toks.length ≤ 65537) (hn : (srcF s).toks.length < n) :
    Calls Tryz.prog 21 #[.string s, .func (.func 22) #[] #[]] w (ParseP (PoP w.heap.size) (poV ⟨#[]⟩ 0 0 0 0 (.slice none 0 0)) w (readG (srcF s) (policyG (srcF s) n))) := by
  have hmf : ∀ (fn : Fn) (first cap : Array Value) (w : World), (Instr.makeFunc fn first cap).run Tryz.prog w = .ok (.func fn first cap) w := fun _ _ _ _ => rfl
  have hP := read4_at w (poO ⟨#[]⟩ 0 0 0 0 (.slice none 0 0)) s
  have HB := Lib.hid (read4_boxes w (poO ⟨#[]⟩ 0 0 0 0 (.slice none 0 0)) s)
  unfold readG
  rcases nexts_first s with ⟨h1, h2, h3⟩ | ⟨h1, h2, h3, h4⟩
  · rw [if_pos h1]
    have hA : Calls Tryz.prog 49 #[.pointer (some ⟨w.heap.size + 3, 0, none⟩)] (read4 w (poO ⟨#[]⟩ 0 0 0 0 (.slice none 0 0)) s) (OkP (read4 w (poO ⟨#[]⟩ 0 0 0 0 (.slice none 0 0)) s) (w.heap.size + 3) s (.tuple #[]) (tk (srcF s) 0) 0) := by
      generalize tk (srcF s) 0 = y at h2 h3
      obtain ⟨kind, text, num, pos, next, err⟩ := y
      obtain rfl : err = 0 := h3
      exact pp_advance_ok _ _ s noT 0 hP h2
    have hW := fun (W : World) hp => pp_policy W (w.heap.size + 3) s n 0 hsm hn h1 hp
    have HA := Lib.hid hA
    clear hA hP h1 h2 h3 hsm hn
    generalize policyG (srcF s) n 0 = g at hW ⊢
    rcases g with ⟨x, j⟩ | ⟨er, p⟩ | _
    · have HW := Lib.hid hW
      clear hW
      go_enter_defers Tryz.func21, Tryz.ntmps21
      go_wp2_with (first | (go_at_call 49; (with_reducible refine HA.out.mono ?_); rintro e w1 ⟨rfl, hp, hg⟩; have H1 := Lib.hid (And.intro hp hg); clear hp hg))
      refine (HW.out _ H1.out.1).mono ?_
      rintro e w2 ⟨v, rfl, ⟨Rv, rfl, hx⟩, hp2, hg2⟩
      obtain ⟨RA, rn, rc, rfl⟩ := rules_form hx
      have hg := grown_trans H1.out.2 hg2
      have k0 := kept_box HB.out.1 hg (by omega)
      have k1 : w2.heap[w.heap.size + 1]? = some (errO 0) := kept_box HB.out.2.1 hg (by omega)
      have k2 : w2.heap[w.heap.size + 1 + 1]? = some (intO 0) := kept_box HB.out.2.2.1 hg (by omega)
      have HX := Lib.hid (And.intro hx (And.intro (below_grow HB.out.2.2.2 hg (by omega) (Nat.le_refl _)) (And.intro k0 (And.intro k1 (And.intro k2 H1.out.2.size)))))
      have u0 := cell6 k0 0 rfl
      have u1 := cell6 k0 1 rfl
      have u2 := cell6 k0 2 rfl
      have u3 := cell6 k0 3 rfl
      have u4 := cell6 k0 4 rfl
      have u5 := cell6 k0 5 rfl
      have y0 := frozen6 k0 0
      have y1 := frozen6 k0 1
      have y2 := frozen6 k0 2
      have y3 := frozen6 k0 3
      have y4 := frozen6 k0 4
      have y5 := frozen6 k0 5
      have c1 := cell6 k1 0 rfl
      have z1 := frozen6 k1 0
      have c2 := cell6 k2 0 rfl
      have z2 := frozen6 k2 0
      clear hx hp2 hg2 hg k0 k1 k2
      go_wp2
      refine leaves_cons (f := 48) (args := #[.pointer (some ⟨w.heap.size + 1, 0, none⟩), .pointer (some ⟨w.heap.size + 1 + 1, 0, none⟩)]) (by simp) (by simp [go_sem]) ?_
      refine (caught_idleP ⟨w.heap.size + 1, 0, none⟩ ⟨w.heap.size + 1 + 1, 0, none⟩ _).mono ?_
      rintro e u' w'' ⟨rfl, rfl, rfl⟩
      obtain ⟨hx, hb, k0, k1, k2, hsz⟩ := HX.out
      have s4 : (read4 w (poO ⟨#[]⟩ 0 0 0 0 (.slice none 0 0)) s).heap.size = w.heap.size + 4 := by simp
      have g0 := kept_set (kept_set (heap_set1 (heap_set1 (heap_set1 (heap_set1 (heap_set1 (heap_set1 k0 0 (.string x.arch)) 1 (.int .i64 x.foreign_.1)) 2 (.int .u64 (x.foreign_.2 : Int))) 3 (.int .i64 x.default_.1)) 4 (.int .u64 (x.default_.2 : Int))) 5 (.slice RA rn rc)) (C := w.heap.size + 1) (by omega) 0 (.int .i64 0)) (C := w.heap.size + 1 + 1) (by omega) 0 (.int .i64 0)
      have g1 := kept_set (heap_set1 (kept_set (kept_set (kept_set (kept_set (kept_set (kept_set k1 (C := w.heap.size) (by omega) 0 (.string x.arch)) (C := w.heap.size) (by omega) 1 (.int .i64 x.foreign_.1)) (C := w.heap.size) (by omega) 2 (.int .u64 (x.foreign_.2 : Int))) (C := w.heap.size) (by omega) 3 (.int .i64 x.default_.1)) (C := w.heap.size) (by omega) 4 (.int .u64 (x.default_.2 : Int))) (C := w.heap.size) (by omega) 5 (.slice RA rn rc)) 0 (.int .i64 0)) (C := w.heap.size + 1 + 1) (by omega) 0 (.int .i64 0)
      have g2 := heap_set1 (kept_set (kept_set (kept_set (kept_set (kept_set (kept_set (kept_set k2 (C := w.heap.size) (by omega) 0 (.string x.arch)) (C := w.heap.size) (by omega) 1 (.int .i64 x.foreign_.1)) (C := w.heap.size) (by omega) 2 (.int .u64 (x.foreign_.2 : Int))) (C := w.heap.size) (by omega) 3 (.int .i64 x.default_.1)) (C := w.heap.size) (by omega) 4 (.int .u64 (x.default_.2 : Int))) (C := w.heap.size) (by omega) 5 (.slice RA rn rc)) (C := w.heap.size + 1) (by omega) 0 (.int .i64 0)) 0 (.int .i64 0)
      have hxx : RulesP w.heap.size x.rules (.slice RA rn rc) ((((((((w2.setCell ⟨w.heap.size, 0, none⟩ (.string x.arch)).setCell ⟨w.heap.size, 1, none⟩ (.int .i64 x.foreign_.1)).setCell ⟨w.heap.size, 2, none⟩ (.int .u64 (x.foreign_.2 : Int))).setCell ⟨w.heap.size, 3, none⟩ (.int .i64 x.default_.1)).setCell ⟨w.heap.size, 4, none⟩ (.int .u64 (x.default_.2 : Int))).setCell ⟨w.heap.size, 5, none⟩ (.slice RA rn rc)).setCell ⟨w.heap.size + 1, 0, none⟩ (.int .i64 0)).setCell ⟨w.heap.size + 1 + 1, 0, none⟩ (.int .i64 0)) := by
        refine rules_keep hx (by simp [World.setCell]) (by omega) (fun k hk _ => ?_)
        exact (Below.heap_setCell _ ⟨w.heap.size + 1 + 1, 0, none⟩ _ k (show k ≠ w.heap.size + 1 + 1 by omega)).trans ((Below.heap_setCell _ ⟨w.heap.size + 1, 0, none⟩ _ k (show k ≠ w.heap.size + 1 by omega)).trans ((Below.heap_setCell _ ⟨w.heap.size, 5, none⟩ _ k (show k ≠ w.heap.size by omega)).trans ((Below.heap_setCell _ ⟨w.heap.size, 4, none⟩ _ k (show k ≠ w.heap.size by omega)).trans ((Below.heap_setCell _ ⟨w.heap.size, 3, none⟩ _ k (show k ≠ w.heap.size by omega)).trans ((Below.heap_setCell _ ⟨w.heap.size, 2, none⟩ _ k (show k ≠ w.heap.size by omega)).trans ((Below.heap_setCell _ ⟨w.heap.size, 1, none⟩ _ k (show k ≠ w.heap.size by omega)).trans (Below.heap_setCell _ ⟨w.heap.size, 0, none⟩ _ k (show k ≠ w.heap.size by omega))))))))
      have hbb := (((((((hb.setCell (p := ⟨w.heap.size, 0, none⟩) (Nat.le_refl _) (.string x.arch)).setCell (p := ⟨w.heap.size, 1, none⟩) (Nat.le_refl _) (.int .i64 x.foreign_.1)).setCell (p := ⟨w.heap.size, 2, none⟩) (Nat.le_refl _) (.int .u64 (x.foreign_.2 : Int))).setCell (p := ⟨w.heap.size, 3, none⟩) (Nat.le_refl _) (.int .i64 x.default_.1)).setCell (p := ⟨w.heap.size, 4, none⟩) (Nat.le_refl _) (.int .u64 (x.default_.2 : Int))).setCell (p := ⟨w.heap.size, 5, none⟩) (Nat.le_refl _) (.slice RA rn rc)).setCell (p := ⟨w.heap.size + 1, 0, none⟩) (show w.heap.size ≤ w.heap.size + 1 by omega) (.int .i64 0)).setCell (p := ⟨w.heap.size + 1 + 1, 0, none⟩) (show w.heap.size ≤ w.heap.size + 1 + 1 by omega) (.int .i64 0)
      have v0 := cell6 g0 0 rfl
      have v1 := cell6 g0 1 rfl
      have v2 := cell6 g0 2 rfl
      have v3 := cell6 g0 3 rfl
      have v4 := cell6 g0 4 rfl
      have v5 := cell6 g0 5 rfl
      have ve := cell6 g1 0 rfl
      have va := cell6 g2 0 rfl
      refine ⟨.tuple #[poV x.arch x.foreign_.1 (x.foreign_.2 : Int) x.default_.1 (x.default_.2 : Int) (.slice RA rn rc), .int .i64 0, .int .i64 0], by simp [results, Tryz.results21, go_sem, v0, v1, v2, v3, v4, v5, ve, va], _, rfl, ⟨(.slice RA rn rc), rfl, hxx⟩, hbb⟩
    · have HW := Lib.hid hW
      clear hW
      go_enter_defers Tryz.func21, Tryz.ntmps21
      go_wp2_with (first | (go_at_call 49; (with_reducible refine HA.out.mono ?_); rintro e w1 ⟨rfl, hp, hg⟩; have H1 := Lib.hid (And.intro hp hg); clear hp hg))
      refine (HW.out _ H1.out.1).mono ?_
      rintro e w2 ⟨rfl, hg2⟩
      have HX := Lib.hid (grown_trans H1.out.2 hg2)
      clear hg2
      go_wp2
      exact refused_endP w s w2 er p HB.out HX.out _ rfl rfl rfl
    · have HW := Lib.hid hW
      clear hW
      go_enter_defers Tryz.func21, Tryz.ntmps21
      go_wp2_with (first | (go_at_call 49; (with_reducible refine HA.out.mono ?_); rintro e w1 ⟨rfl, hp, hg⟩; have H1 := Lib.hid (And.intro hp hg); clear hp hg))
      refine (HW.out _ H1.out.1).mono ?_
      intro e w2 hF
      exact hF.elim
  · rw [if_neg h1]
    generalize hy : nextF s ((0 : Nat) : Int) = y at h2 h4
    obtain ⟨kind, text, num, pos, next, err⟩ := y
    obtain rfl : err = (srcF s).err := h2
    obtain rfl : next = (srcF s).place := h4
    have HA := Lib.hid (pp_advance_no _ _ s noT 0 hP h3 hy)
    generalize (srcF s).err = er at HA ⊢
    generalize (srcF s).place = p at HA ⊢
    show Calls _ _ _ _ (ParseP (PoP w.heap.size) (poV ⟨#[]⟩ 0 0 0 0 (.slice none 0 0)) w (.bad er p))
    clear hP h1 h3 hy hsm hn
    go_enter_defers Tryz.func21, Tryz.ntmps21
    go_wp2_with (first | (go_at_call 49; (with_reducible refine HA.out.mono ?_); rintro e w1 ⟨rfl, hg⟩; have HX := Lib.hid hg; clear hg))
    exact refused_endP w s w1 er p HB.out HX.out _ rfl rfl rfl
/-- A policy's text as it is read. -/
def policyF (s : ByteArray) : Got Po := readG (srcF s) (policyG (srcF s) ((srcF s).toks.length + 1))
set_option maxHeartbeats 1000000 in
set_option maxRecDepth 100000 in
theorem p_Parse (s : ByteArray) (w : World) : Calls Tryz.prog 7 #[.string s] w (ParseP (PoP w.heap.size) (poV ⟨#[]⟩ 0 0 0 0 (.slice none 0 0)) w (policyF s)) := by
  have hR := pp_readPolicy (w.alloc (poO ⟨#[]⟩ 0 0 0 0 (.slice none 0 0))) s ((srcF s).toks.length + 1) (src_small s) (Nat.lt_succ_self _)
  have HR0 := Lib.hid (World.alloc_heap_new w (poO ⟨#[]⟩ 0 0 0 0 (.slice none 0 0)))
  have s0 : (w.alloc (poO ⟨#[]⟩ 0 0 0 0 (.slice none 0 0))).heap.size = w.heap.size + 1 := by simp
  have hlw : w.heap.size < (w.alloc (poO ⟨#[]⟩ 0 0 0 0 (.slice none 0 0))).heap.size := by omega
  unfold policyF
  generalize readG (srcF s) (policyG (srcF s) ((srcF s).toks.length + 1)) = g at hR ⊢
  rcases g with ⟨x, j⟩ | ⟨er, p⟩ | _
  · have HR := Lib.hid hR
    clear hR
    go_enter Tryz.func7, Tryz.ntmps7
    go_wp2_with (go_at_call 21; (with_reducible refine HR.out.mono ?_); rintro e w1 ⟨v, rfl, ⟨Rv, rfl, hx⟩, hb⟩; obtain ⟨RA, rn, rc, rfl⟩ := rules_form hx; have hr := (hb.block w.heap.size hlw).trans HR0.out; have u0 := cell6 hr 0 rfl; have u1 := cell6 hr 1 rfl; have u2 := cell6 hr 2 rfl; have u3 := cell6 hr 3 rfl; have u4 := cell6 hr 4 rfl; have u5 := cell6 hr 5 rfl; have y0 := frozen6 hr 0; have y1 := frozen6 hr 1; have y2 := frozen6 hr 2; have y3 := frozen6 hr 3; have y4 := frozen6 hr 4; have y5 := frozen6 hr 5; have H1 := Lib.hid (And.intro hx ((lbox w (poO ⟨#[]⟩ 0 0 0 0 (.slice none 0 0))).trans (hb.mono (Nat.le_of_lt hlw)))); clear hx hb hr)
    exact bodyPost_ret (v := .tuple #[poV x.arch x.foreign_.1 (x.foreign_.2 : Int) x.default_.1 (x.default_.2 : Int) (.slice RA rn rc), .int .i64 0, .int .i64 0]) (by simp [results, Tryz.results7, go_sem, u0, u1, u2, u3, u4, u5, World.cell?_setCell_same']) rfl ⟨_, rfl, ⟨(.slice RA rn rc), rfl, rules_set6 H1.out.1 (by omega) _ _ _ _ _ _⟩, (((((H1.out.2.setCell (p := ⟨w.heap.size, 0, none⟩) (Nat.le_refl _) _).setCell (p := ⟨w.heap.size, 1, none⟩) (Nat.le_refl _) _).setCell (p := ⟨w.heap.size, 2, none⟩) (Nat.le_refl _) _).setCell (p := ⟨w.heap.size, 3, none⟩) (Nat.le_refl _) _).setCell (p := ⟨w.heap.size, 4, none⟩) (Nat.le_refl _) _).setCell (p := ⟨w.heap.size, 5, none⟩) (Nat.le_refl _) _⟩
  · have HR := Lib.hid hR
    clear hR
    go_enter Tryz.func7, Tryz.ntmps7
    go_wp2_with (go_at_call 21; (with_reducible refine HR.out.mono ?_); rintro e w1 ⟨rfl, hb⟩; have hr := (hb.block w.heap.size hlw).trans HR0.out; have u0 := cell6 hr 0 rfl; have u1 := cell6 hr 1 rfl; have u2 := cell6 hr 2 rfl; have u3 := cell6 hr 3 rfl; have u4 := cell6 hr 4 rfl; have u5 := cell6 hr 5 rfl; have y0 := frozen6 hr 0; have y1 := frozen6 hr 1; have y2 := frozen6 hr 2; have y3 := frozen6 hr 3; have y4 := frozen6 hr 4; have y5 := frozen6 hr 5; have H1 := Lib.hid ((lbox w (poO ⟨#[]⟩ 0 0 0 0 (.slice none 0 0))).trans (hb.mono (Nat.le_of_lt hlw))); clear hb hr)
    exact bodyPost_ret (v := .tuple #[poV ⟨#[]⟩ 0 0 0 0 (.slice none 0 0), .int .i64 er, .int .i64 (p : Int)]) (by simp [results, Tryz.results7, go_sem, u0, u1, u2, u3, u4, u5, World.cell?_setCell_same']) rfl ⟨rfl, (((((H1.out.setCell (p := ⟨w.heap.size, 0, none⟩) (Nat.le_refl _) _).setCell (p := ⟨w.heap.size, 1, none⟩) (Nat.le_refl _) _).setCell (p := ⟨w.heap.size, 2, none⟩) (Nat.le_refl _) _).setCell (p := ⟨w.heap.size, 3, none⟩) (Nat.le_refl _) _).setCell (p := ⟨w.heap.size, 4, none⟩) (Nat.le_refl _) _).setCell (p := ⟨w.heap.size, 5, none⟩) (Nat.le_refl _) _⟩
  · have HR := Lib.hid hR
    clear hR
    go_enter Tryz.func7, Tryz.ntmps7
    go_wp2_with (go_at_call 21; (with_reducible refine HR.out.mono ?_); intro e w1 hF; exact hF.elim)
end Go.Proofs.YtgeapkjegemkeaaGreatDoor
