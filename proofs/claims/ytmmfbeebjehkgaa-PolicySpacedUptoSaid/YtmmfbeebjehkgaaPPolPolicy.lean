/-
  The program's policy: its contract by values and places. Conditions: those that it names.
-/
import Derived.Test.YtmmfbeebjehkgaaPPolRules
namespace Go.Proofs.Ytmmfbeebjehkgaa
open Go Go.RowKit
set_option linter.unusedSimpArgs false
set_option linter.unusedVariables false

abbrev poO (a : ByteArray) (fk fn dk dn : Int) (R : Value) : Obj := .cells #[.string a, .int .i64 fk, .int .u64 fn, .int .i64 dk, .int .u64 dn, R] 29
abbrev poV (a : ByteArray) (fk fn dk dn : Int) (R : Value) : Value := .agg #[.string a, .int .i64 fk, .int .u64 fn, .int .i64 dk, .int .u64 dn, R]
/-- A policy as a value. -/
def PoP (lo : Nat) (p : Po) (v : Value) (W : World) : Prop := ∃ R, v = poV p.arch p.foreign_.1 (p.foreign_.2 : Int) p.default_.1 (p.default_.2 : Int) R ∧ RulesP lo p.rules R W
theorem rules_keep {lo lo' : Nat} {l : List Ru} {v : Value} {W W' : World} (h : RulesP lo l v W) (hs : W.heap.size ≤ W'.heap.size) (hlo : lo' ≤ lo) (hk : ∀ k, lo ≤ k → k < W.heap.size → W'.heap[k]? = W.heap[k]?) : RulesP lo' l v W' := by
  rcases h with h | ⟨tb, cap, h1, h2, h3, h4⟩
  · exact .inl h
  · exact .inr ⟨tb, cap, h1, by omega, by omega, RuRow.keep hs (fun k hk => by omega) hk h2 h3 h4⟩
theorem po_keep {lo lo' : Nat} {p : Po} {v : Value} {W W' : World} (h : PoP lo p v W) (hs : W.heap.size ≤ W'.heap.size) (hlo : lo' ≤ lo) (hk : ∀ k, lo ≤ k → k < W.heap.size → W'.heap[k]? = W.heap[k]?) : PoP lo' p v W' := by
  obtain ⟨R, h1, h2⟩ := h
  exact ⟨R, h1, rules_keep h2 hs hlo hk⟩
/-- A policy under way. -/
structure PoAt (w W : World) (b : Nat) (s : ByteArray) (i : Nat) (a : ByteArray) (fk fn dk dn : Int) : Prop where
  at_ : PAt W b s (tk (srcF s) i) 0
  gr : w.grownBy W (some b)
  box : W.heap[w.heap.size + 1]? = some (poO a fk fn dk dn (.slice none 0 0))
  res : W.heap[w.heap.size]? = some (poO ⟨#[]⟩ 0 0 0 0 (.slice none 0 0))
  bw : b < w.heap.size
namespace PoAt
variable {w W : World} {b : Nat} {s : ByteArray} {i : Nat} {a : ByteArray} {fk fn dk dn : Int}
theorem call {W' : World} {j : Nat} (h : PoAt w W b s i a fk fn dk dn) (hp : PAt W' b s (tk (srcF s) j) 0) (hg : W.grownBy W' (some b)) : PoAt w W' b s j a fk fn dk dn := by
  have := h.bw
  exact ⟨hp, grown_trans h.gr hg, kept_box h.box hg (by omega), kept_box h.res hg (by omega), h.bw⟩
theorem setArch (h : PoAt w W b s i a fk fn dk dn) (a' : ByteArray) : PoAt w (W.setCell ⟨w.heap.size + 1, 0, none⟩ (.string a')) b s i a' fk fn dk dn := by
  have := h.bw
  exact ⟨row_new h.at_ (by omega) 0 _, grown_new h.gr (by omega) 0 _, heap_set1 h.box 0 _, kept_set h.res (by omega) 0 _, h.bw⟩
theorem setForeign (h : PoAt w W b s i a fk fn dk dn) (k n : Int) : PoAt w ((W.setCell ⟨w.heap.size + 1, 1, none⟩ (.int .i64 k)).setCell ⟨w.heap.size + 1, 2, none⟩ (.int .u64 n)) b s i a k n dk dn := by
  have := h.bw
  exact ⟨row_new (row_new h.at_ (by omega) 1 _) (by omega) 2 _, grown_new (grown_new h.gr (by omega) 1 _) (by omega) 2 _, heap_set1 (heap_set1 h.box 1 _) 2 _, kept_set (kept_set h.res (by omega) 1 _) (by omega) 2 _, h.bw⟩
theorem setDefault (h : PoAt w W b s i a fk fn dk dn) (k n : Int) : PoAt w ((W.setCell ⟨w.heap.size + 1, 3, none⟩ (.int .i64 k)).setCell ⟨w.heap.size + 1, 4, none⟩ (.int .u64 n)) b s i a fk fn k n := by
  have := h.bw
  exact ⟨row_new (row_new h.at_ (by omega) 3 _) (by omega) 4 _, grown_new (grown_new h.gr (by omega) 3 _) (by omega) 4 _, heap_set1 (heap_set1 h.box 3 _) 4 _, kept_set (kept_set h.res (by omega) 3 _) (by omega) 4 _, h.bw⟩
end PoAt

theorem rules_form {lo : Nat} {l : List Ru} {v : Value} {W : World} (h : RulesP lo l v W) : ∃ A n c, v = .slice A n c := by
  rcases h with ⟨_, rfl⟩ | ⟨tb, cap, rfl, _⟩
  · exact ⟨_, _, _, rfl⟩
  · exact ⟨_, _, _, rfl⟩
theorem po_end {w W : World} {lo : Nat} {l : List Ru} {Rv : Value} (h : RulesP lo l Rv W) (hlo : w.heap.size + 1 < lo) (a b c d e f : Value) :
    RulesP w.heap.size l Rv (((((((W.setCell ⟨w.heap.size + 1, 5, none⟩ Rv).setCell ⟨w.heap.size, 0, none⟩ a).setCell ⟨w.heap.size, 1, none⟩ b).setCell ⟨w.heap.size, 2, none⟩ c).setCell ⟨w.heap.size, 3, none⟩ d).setCell ⟨w.heap.size, 4, none⟩ e).setCell ⟨w.heap.size, 5, none⟩ f) := by
  refine rules_keep h (by simp [World.setCell]) (by omega) (fun k hk _ => ?_)
  refine (Below.heap_setCell _ ⟨w.heap.size, 5, none⟩ f k (show k ≠ w.heap.size by omega)).trans ((Below.heap_setCell _ ⟨w.heap.size, 4, none⟩ e k (show k ≠ w.heap.size by omega)).trans ((Below.heap_setCell _ ⟨w.heap.size, 3, none⟩ d k (show k ≠ w.heap.size by omega)).trans ((Below.heap_setCell _ ⟨w.heap.size, 2, none⟩ c k (show k ≠ w.heap.size by omega)).trans ((Below.heap_setCell _ ⟨w.heap.size, 1, none⟩ b k (show k ≠ w.heap.size by omega)).trans ((Below.heap_setCell _ ⟨w.heap.size, 0, none⟩ a k (show k ≠ w.heap.size by omega)).trans (Below.heap_setCell _ ⟨w.heap.size + 1, 5, none⟩ Rv k (show k ≠ w.heap.size + 1 by omega)))))))
set_option maxHeartbeats 8000000 in
set_option maxRecDepth 100000 in
theorem pp_policy (w : World) (b : Nat) (s : ByteArray) (n x0 : Nat) (hsm : (srcF s).toks.length ≤ 65537) (hn : (srcF s).toks.length < n) (hi : x0 < (srcF s).toks.length) (h : PAt w b s (tk (srcF s) x0) 0) :
    Calls Try.prog 14 #[.pointer (some ⟨b, 0, none⟩)] w (GotP (PoP w.heap.size) s w b 0 (policyG (srcF s) n x0)) := by
  have hlt := h.lt
  have e1 := World.alloc_heap_new (w.alloc (poO ⟨#[]⟩ 0 0 0 0 (.slice none 0 0))) (poO ⟨#[]⟩ 0 0 0 0 (.slice none 0 0))
  rw [show (w.alloc (poO ⟨#[]⟩ 0 0 0 0 (.slice none 0 0))).heap.size = w.heap.size + 1 by simp] at e1
  have T0 : Hid (PoAt w ((w.alloc (poO ⟨#[]⟩ 0 0 0 0 (.slice none 0 0))).alloc (poO ⟨#[]⟩ 0 0 0 0 (.slice none 0 0))) b s x0 ⟨#[]⟩ 0 0 0 0) := Lib.hid ⟨words_alloc (words_alloc h _) _, grown_of_below (below_two w _ _) (some b), e1, kept_alloc (World.alloc_heap_new w _) _, hlt⟩
  have hDem := Lib.hid (fun (W : World) (j : Nat) (hj : j < (srcF s).toks.length) (hp : PAt W b s (tk (srcF s) j) 0) (t : ByteArray) (ht : kindOf t ≠ 1) => pp_demand W b s j 0 hj hp t ht)
  have hNam := Lib.hid (fun (W : World) (j : Nat) (hj : j < (srcF s).toks.length) (hp : PAt W b s (tk (srcF s) j) 0) => pp_name W b s j 0 hj hp)
  have hVer := Lib.hid (fun (W : World) (j : Nat) (hj : j < (srcF s).toks.length) (hp : PAt W b s (tk (srcF s) j) 0) => pp_verdict W b s j 0 hj hp)
  have hRul := Lib.hid (fun (W : World) (j : Nat) (hj : j < (srcF s).toks.length) (hp : PAt W b s (tk (srcF s) j) 0) => pp_rules W b s n j hsm hn hj hp)
  have hl0 := hi
  clear h e1 hi
  show Calls _ _ _ _ (GotP (PoP w.heap.size) s w b 0 ((demandG (srcF s) ⟨#[97, 114, 99, 104]⟩ x0).andThen fun _ x1 => (nameG (srcF s) x1).andThen fun a x2 => (demandG (srcF s) ⟨#[59]⟩ x2).andThen fun _ x3 => (demandG (srcF s) ⟨#[102, 111, 114, 101, 105, 103, 110]⟩ x3).andThen fun _ x4 => (verdG (srcF s) x4).andThen fun f x5 => (demandG (srcF s) ⟨#[59]⟩ x5).andThen fun _ x6 => (demandG (srcF s) ⟨#[100, 101, 102, 97, 117, 108, 116]⟩ x6).andThen fun _ x7 => (verdG (srcF s) x7).andThen fun v x8 => (demandG (srcF s) ⟨#[59]⟩ x8).andThen fun _ x9 => (rulesG (srcF s) n n [] x9).andThen fun l x10 => .ok ⟨a, f, v, l⟩ x10))
  have h0 := fun (W : World) hp => hDem.out W x0 hl0 hp ⟨#[97, 114, 99, 104]⟩ (by decide)
  have hf0 := fwd_demand (S := srcF s) ⟨#[97, 114, 99, 104]⟩ x0
  generalize demandG (srcF s) ⟨#[97, 114, 99, 104]⟩ x0 = g0 at h0 hf0 ⊢
  rcases g0 with ⟨u0, x1⟩ | ⟨er, p⟩ | _
  · have H0 := Lib.hid h0
    have hl1 := (hf0 u0 x1 rfl).2
    clear h0 hf0
    show Calls _ _ _ _ (GotP (PoP w.heap.size) s w b 0 ((nameG (srcF s) x1).andThen fun a x2 => (demandG (srcF s) ⟨#[59]⟩ x2).andThen fun _ x3 => (demandG (srcF s) ⟨#[102, 111, 114, 101, 105, 103, 110]⟩ x3).andThen fun _ x4 => (verdG (srcF s) x4).andThen fun f x5 => (demandG (srcF s) ⟨#[59]⟩ x5).andThen fun _ x6 => (demandG (srcF s) ⟨#[100, 101, 102, 97, 117, 108, 116]⟩ x6).andThen fun _ x7 => (verdG (srcF s) x7).andThen fun v x8 => (demandG (srcF s) ⟨#[59]⟩ x8).andThen fun _ x9 => (rulesG (srcF s) n n [] x9).andThen fun l x10 => .ok ⟨a, f, v, l⟩ x10))
    have h1 := fun (W : World) hp => hNam.out W x1 hl1 hp
    have hf1 := fwd_name (S := srcF s) x1
    generalize nameG (srcF s) x1 = g1 at h1 hf1 ⊢
    rcases g1 with ⟨a, x2⟩ | ⟨er, p⟩ | _
    · have H1 := Lib.hid h1
      have hl2 := (hf1 a x2 rfl).2
      clear h1 hf1
      show Calls _ _ _ _ (GotP (PoP w.heap.size) s w b 0 ((demandG (srcF s) ⟨#[59]⟩ x2).andThen fun _ x3 => (demandG (srcF s) ⟨#[102, 111, 114, 101, 105, 103, 110]⟩ x3).andThen fun _ x4 => (verdG (srcF s) x4).andThen fun f x5 => (demandG (srcF s) ⟨#[59]⟩ x5).andThen fun _ x6 => (demandG (srcF s) ⟨#[100, 101, 102, 97, 117, 108, 116]⟩ x6).andThen fun _ x7 => (verdG (srcF s) x7).andThen fun v x8 => (demandG (srcF s) ⟨#[59]⟩ x8).andThen fun _ x9 => (rulesG (srcF s) n n [] x9).andThen fun l x10 => .ok ⟨a, f, v, l⟩ x10))
      have h2 := fun (W : World) hp => hDem.out W x2 hl2 hp ⟨#[59]⟩ (by decide)
      have hf2 := fwd_demand (S := srcF s) ⟨#[59]⟩ x2
      generalize demandG (srcF s) ⟨#[59]⟩ x2 = g2 at h2 hf2 ⊢
      rcases g2 with ⟨u2, x3⟩ | ⟨er, p⟩ | _
      · have H2 := Lib.hid h2
        have hl3 := (hf2 u2 x3 rfl).2
        clear h2 hf2
        show Calls _ _ _ _ (GotP (PoP w.heap.size) s w b 0 ((demandG (srcF s) ⟨#[102, 111, 114, 101, 105, 103, 110]⟩ x3).andThen fun _ x4 => (verdG (srcF s) x4).andThen fun f x5 => (demandG (srcF s) ⟨#[59]⟩ x5).andThen fun _ x6 => (demandG (srcF s) ⟨#[100, 101, 102, 97, 117, 108, 116]⟩ x6).andThen fun _ x7 => (verdG (srcF s) x7).andThen fun v x8 => (demandG (srcF s) ⟨#[59]⟩ x8).andThen fun _ x9 => (rulesG (srcF s) n n [] x9).andThen fun l x10 => .ok ⟨a, f, v, l⟩ x10))
        have h3 := fun (W : World) hp => hDem.out W x3 hl3 hp ⟨#[102, 111, 114, 101, 105, 103, 110]⟩ (by decide)
        have hf3 := fwd_demand (S := srcF s) ⟨#[102, 111, 114, 101, 105, 103, 110]⟩ x3
        generalize demandG (srcF s) ⟨#[102, 111, 114, 101, 105, 103, 110]⟩ x3 = g3 at h3 hf3 ⊢
        rcases g3 with ⟨u3, x4⟩ | ⟨er, p⟩ | _
        · have H3 := Lib.hid h3
          have hl4 := (hf3 u3 x4 rfl).2
          clear h3 hf3
          show Calls _ _ _ _ (GotP (PoP w.heap.size) s w b 0 ((verdG (srcF s) x4).andThen fun f x5 => (demandG (srcF s) ⟨#[59]⟩ x5).andThen fun _ x6 => (demandG (srcF s) ⟨#[100, 101, 102, 97, 117, 108, 116]⟩ x6).andThen fun _ x7 => (verdG (srcF s) x7).andThen fun v x8 => (demandG (srcF s) ⟨#[59]⟩ x8).andThen fun _ x9 => (rulesG (srcF s) n n [] x9).andThen fun l x10 => .ok ⟨a, f, v, l⟩ x10))
          have h4 := fun (W : World) hp => hVer.out W x4 hl4 hp
          have hf4 := fwd_verd (S := srcF s) x4
          generalize verdG (srcF s) x4 = g4 at h4 hf4 ⊢
          rcases g4 with ⟨⟨fk, fn⟩, x5⟩ | ⟨er, p⟩ | _
          · have H4 := Lib.hid h4
            have hl5 := (hf4 (fk, fn) x5 rfl).2
            clear h4 hf4
            show Calls _ _ _ _ (GotP (PoP w.heap.size) s w b 0 ((demandG (srcF s) ⟨#[59]⟩ x5).andThen fun _ x6 => (demandG (srcF s) ⟨#[100, 101, 102, 97, 117, 108, 116]⟩ x6).andThen fun _ x7 => (verdG (srcF s) x7).andThen fun v x8 => (demandG (srcF s) ⟨#[59]⟩ x8).andThen fun _ x9 => (rulesG (srcF s) n n [] x9).andThen fun l x10 => .ok ⟨a, (fk, fn), v, l⟩ x10))
            have h5 := fun (W : World) hp => hDem.out W x5 hl5 hp ⟨#[59]⟩ (by decide)
            have hf5 := fwd_demand (S := srcF s) ⟨#[59]⟩ x5
            generalize demandG (srcF s) ⟨#[59]⟩ x5 = g5 at h5 hf5 ⊢
            rcases g5 with ⟨u5, x6⟩ | ⟨er, p⟩ | _
            · have H5 := Lib.hid h5
              have hl6 := (hf5 u5 x6 rfl).2
              clear h5 hf5
              show Calls _ _ _ _ (GotP (PoP w.heap.size) s w b 0 ((demandG (srcF s) ⟨#[100, 101, 102, 97, 117, 108, 116]⟩ x6).andThen fun _ x7 => (verdG (srcF s) x7).andThen fun v x8 => (demandG (srcF s) ⟨#[59]⟩ x8).andThen fun _ x9 => (rulesG (srcF s) n n [] x9).andThen fun l x10 => .ok ⟨a, (fk, fn), v, l⟩ x10))
              have h6 := fun (W : World) hp => hDem.out W x6 hl6 hp ⟨#[100, 101, 102, 97, 117, 108, 116]⟩ (by decide)
              have hf6 := fwd_demand (S := srcF s) ⟨#[100, 101, 102, 97, 117, 108, 116]⟩ x6
              generalize demandG (srcF s) ⟨#[100, 101, 102, 97, 117, 108, 116]⟩ x6 = g6 at h6 hf6 ⊢
              rcases g6 with ⟨u6, x7⟩ | ⟨er, p⟩ | _
              · have H6 := Lib.hid h6
                have hl7 := (hf6 u6 x7 rfl).2
                clear h6 hf6
                show Calls _ _ _ _ (GotP (PoP w.heap.size) s w b 0 ((verdG (srcF s) x7).andThen fun v x8 => (demandG (srcF s) ⟨#[59]⟩ x8).andThen fun _ x9 => (rulesG (srcF s) n n [] x9).andThen fun l x10 => .ok ⟨a, (fk, fn), v, l⟩ x10))
                have h7 := fun (W : World) hp => hVer.out W x7 hl7 hp
                have hf7 := fwd_verd (S := srcF s) x7
                generalize verdG (srcF s) x7 = g7 at h7 hf7 ⊢
                rcases g7 with ⟨⟨dk, dn⟩, x8⟩ | ⟨er, p⟩ | _
                · have H7 := Lib.hid h7
                  have hl8 := (hf7 (dk, dn) x8 rfl).2
                  clear h7 hf7
                  show Calls _ _ _ _ (GotP (PoP w.heap.size) s w b 0 ((demandG (srcF s) ⟨#[59]⟩ x8).andThen fun _ x9 => (rulesG (srcF s) n n [] x9).andThen fun l x10 => .ok ⟨a, (fk, fn), (dk, dn), l⟩ x10))
                  have h8 := fun (W : World) hp => hDem.out W x8 hl8 hp ⟨#[59]⟩ (by decide)
                  have hf8 := fwd_demand (S := srcF s) ⟨#[59]⟩ x8
                  generalize demandG (srcF s) ⟨#[59]⟩ x8 = g8 at h8 hf8 ⊢
                  rcases g8 with ⟨u8, x9⟩ | ⟨er, p⟩ | _
                  · have H8 := Lib.hid h8
                    have hl9 := (hf8 u8 x9 rfl).2
                    clear h8 hf8
                    show Calls _ _ _ _ (GotP (PoP w.heap.size) s w b 0 ((rulesG (srcF s) n n [] x9).andThen fun l x10 => .ok ⟨a, (fk, fn), (dk, dn), l⟩ x10))
                    have h9 := fun (W : World) hp => hRul.out W x9 hl9 hp
                    generalize rulesG (srcF s) n n [] x9 = g9 at h9 ⊢
                    rcases g9 with ⟨l, x10⟩ | ⟨er, p⟩ | _
                    · have H9 := Lib.hid h9
                      clear h9
                      show Calls _ _ _ _ (GotP (PoP w.heap.size) s w b 0 (.ok ⟨a, (fk, fn), (dk, dn), l⟩ x10))
                      go_enter Try.func14, Try.ntmps14
                      go_wp2_with (first | (go_at_call 29; (with_reducible refine (H0.out _ T0.out.at_).mono ?_); rintro e v0 ⟨v, rfl, rfl, hp, hg⟩; have T1 := Lib.hid (T0.out.call hp hg); clear hp hg) | (go_at_call 30; (with_reducible refine (H1.out _ T1.out.at_).mono ?_); rintro e v1 ⟨v, rfl, rfl, hp, hg⟩; have hc := T1.out.call hp hg; have e0 := cell6 hc.box 0 rfl; have z0 := frozen6 hc.box 0; have T2 := Lib.hid (hc.setArch a); clear hc hp hg) | (go_at_call 29; (with_reducible refine (H2.out _ T2.out.at_).mono ?_); rintro e v2 ⟨v, rfl, rfl, hp, hg⟩; have T3 := Lib.hid (T2.out.call hp hg); clear hp hg) | (go_at_call 29; (with_reducible refine (H3.out _ T3.out.at_).mono ?_); rintro e v3 ⟨v, rfl, rfl, hp, hg⟩; have T4 := Lib.hid (T3.out.call hp hg); clear hp hg) | (go_at_call 31; (with_reducible refine (H4.out _ T4.out.at_).mono ?_); rintro e v4 ⟨v, rfl, rfl, hp, hg⟩; have hc := T4.out.call hp hg; have e1 := cell6 hc.box 1 rfl; have e2 := cell6 hc.box 2 rfl; have z1 := frozen6 hc.box 1; have z2 := frozen6 hc.box 2; have T5 := Lib.hid (hc.setForeign fk (fn : Int)); clear hc hp hg) | (go_at_call 29; (with_reducible refine (H5.out _ T5.out.at_).mono ?_); rintro e v5 ⟨v, rfl, rfl, hp, hg⟩; have T6 := Lib.hid (T5.out.call hp hg); clear hp hg) | (go_at_call 29; (with_reducible refine (H6.out _ T6.out.at_).mono ?_); rintro e v6 ⟨v, rfl, rfl, hp, hg⟩; have T7 := Lib.hid (T6.out.call hp hg); clear hp hg) | (go_at_call 31; (with_reducible refine (H7.out _ T7.out.at_).mono ?_); rintro e v7 ⟨v, rfl, rfl, hp, hg⟩; have hc := T7.out.call hp hg; have e3 := cell6 hc.box 3 rfl; have e4 := cell6 hc.box 4 rfl; have z3 := frozen6 hc.box 3; have z4 := frozen6 hc.box 4; have T8 := Lib.hid (hc.setDefault dk (dn : Int)); clear hc hp hg) | (go_at_call 29; (with_reducible refine (H8.out _ T8.out.at_).mono ?_); rintro e v8 ⟨v, rfl, rfl, hp, hg⟩; have T9 := Lib.hid (T8.out.call hp hg); clear hp hg) | (go_at_call 32; (with_reducible refine (H9.out _ T9.out.at_).mono ?_); rintro e v9 ⟨Rv, rfl, hr, hp, hg⟩; obtain ⟨RA, rn, rc, rfl⟩ := rules_form hr; have hc := T9.out.call hp hg; have hE := heap_set1 hc.box 5 (.slice RA rn rc); have hR := kept_set hc.res (show w.heap.size ≠ w.heap.size + 1 by omega) 5 (.slice RA rn rc); have e5 := cell6 hc.box 5 rfl; have z5 := frozen6 hc.box 5; have p0 := cell6 hE 0 rfl; have p1 := cell6 hE 1 rfl; have p2 := cell6 hE 2 rfl; have p3 := cell6 hE 3 rfl; have p4 := cell6 hE 4 rfl; have p5 := cell6 hE 5 rfl; have u0 := cell6 hR 0 rfl; have u1 := cell6 hR 1 rfl; have u2 := cell6 hR 2 rfl; have u3 := cell6 hR 3 rfl; have u4 := cell6 hR 4 rfl; have u5 := cell6 hR 5 rfl; have y0 := frozen6 hR 0; have y1 := frozen6 hR 1; have y2 := frozen6 hR 2; have y3 := frozen6 hR 3; have y4 := frozen6 hR 4; have y5 := frozen6 hR 5; have HX := Lib.hid (And.intro hc (And.intro hr (grown_size T9.out.gr))); clear hc hp hg hE hR hr))
                      exact bodyPost_ret (v := poV a fk (fn : Int) dk (dn : Int) (.slice RA rn rc)) (by simp [results, Try.results14, go_sem, u0, u1, u2, u3, u4, u5, World.cell?_setCell_same']) rfl ⟨_, rfl, ⟨.slice RA rn rc, rfl, po_end HX.out.2.1 (by have := HX.out.2.2; have := (Array.getElem?_eq_some_iff.1 T9.out.box).1; omega) _ _ _ _ _ _⟩, pset6 (row_new HX.out.1.at_ (by omega) 5 _) (by omega) _ _ _ _ _ _, gset6 (grown_new HX.out.1.gr (by omega) 5 _) (Nat.le_refl _) _ _ _ _ _ _⟩
                    · have H9 := Lib.hid h9
                      clear h9
                      show Calls _ _ _ _ (GotP (PoP w.heap.size) s w b 0 (.bad er p))
                      go_enter Try.func14, Try.ntmps14
                      go_wp2_with (first | (go_at_call 29; (with_reducible refine (H0.out _ T0.out.at_).mono ?_); rintro e v0 ⟨v, rfl, rfl, hp, hg⟩; have T1 := Lib.hid (T0.out.call hp hg); clear hp hg) | (go_at_call 30; (with_reducible refine (H1.out _ T1.out.at_).mono ?_); rintro e v1 ⟨v, rfl, rfl, hp, hg⟩; have hc := T1.out.call hp hg; have e0 := cell6 hc.box 0 rfl; have z0 := frozen6 hc.box 0; have T2 := Lib.hid (hc.setArch a); clear hc hp hg) | (go_at_call 29; (with_reducible refine (H2.out _ T2.out.at_).mono ?_); rintro e v2 ⟨v, rfl, rfl, hp, hg⟩; have T3 := Lib.hid (T2.out.call hp hg); clear hp hg) | (go_at_call 29; (with_reducible refine (H3.out _ T3.out.at_).mono ?_); rintro e v3 ⟨v, rfl, rfl, hp, hg⟩; have T4 := Lib.hid (T3.out.call hp hg); clear hp hg) | (go_at_call 31; (with_reducible refine (H4.out _ T4.out.at_).mono ?_); rintro e v4 ⟨v, rfl, rfl, hp, hg⟩; have hc := T4.out.call hp hg; have e1 := cell6 hc.box 1 rfl; have e2 := cell6 hc.box 2 rfl; have z1 := frozen6 hc.box 1; have z2 := frozen6 hc.box 2; have T5 := Lib.hid (hc.setForeign fk (fn : Int)); clear hc hp hg) | (go_at_call 29; (with_reducible refine (H5.out _ T5.out.at_).mono ?_); rintro e v5 ⟨v, rfl, rfl, hp, hg⟩; have T6 := Lib.hid (T5.out.call hp hg); clear hp hg) | (go_at_call 29; (with_reducible refine (H6.out _ T6.out.at_).mono ?_); rintro e v6 ⟨v, rfl, rfl, hp, hg⟩; have T7 := Lib.hid (T6.out.call hp hg); clear hp hg) | (go_at_call 31; (with_reducible refine (H7.out _ T7.out.at_).mono ?_); rintro e v7 ⟨v, rfl, rfl, hp, hg⟩; have hc := T7.out.call hp hg; have e3 := cell6 hc.box 3 rfl; have e4 := cell6 hc.box 4 rfl; have z3 := frozen6 hc.box 3; have z4 := frozen6 hc.box 4; have T8 := Lib.hid (hc.setDefault dk (dn : Int)); clear hc hp hg) | (go_at_call 29; (with_reducible refine (H8.out _ T8.out.at_).mono ?_); rintro e v8 ⟨v, rfl, rfl, hp, hg⟩; have T9 := Lib.hid (T8.out.call hp hg); clear hp hg) | (go_at_call 32; (with_reducible refine (H9.out _ T9.out.at_).mono ?_); rintro e v9 ⟨rfl, hg⟩; have HY := Lib.hid (grown_trans T9.out.gr hg); clear hg))
                      exact ⟨rfl, rfl, HY.out⟩
                    · have H9 := Lib.hid h9
                      clear h9
                      show Calls _ _ _ _ (GotP (PoP w.heap.size) s w b 0 .out)
                      go_enter Try.func14, Try.ntmps14
                      go_wp2_with (first | (go_at_call 29; (with_reducible refine (H0.out _ T0.out.at_).mono ?_); rintro e v0 ⟨v, rfl, rfl, hp, hg⟩; have T1 := Lib.hid (T0.out.call hp hg); clear hp hg) | (go_at_call 30; (with_reducible refine (H1.out _ T1.out.at_).mono ?_); rintro e v1 ⟨v, rfl, rfl, hp, hg⟩; have hc := T1.out.call hp hg; have e0 := cell6 hc.box 0 rfl; have z0 := frozen6 hc.box 0; have T2 := Lib.hid (hc.setArch a); clear hc hp hg) | (go_at_call 29; (with_reducible refine (H2.out _ T2.out.at_).mono ?_); rintro e v2 ⟨v, rfl, rfl, hp, hg⟩; have T3 := Lib.hid (T2.out.call hp hg); clear hp hg) | (go_at_call 29; (with_reducible refine (H3.out _ T3.out.at_).mono ?_); rintro e v3 ⟨v, rfl, rfl, hp, hg⟩; have T4 := Lib.hid (T3.out.call hp hg); clear hp hg) | (go_at_call 31; (with_reducible refine (H4.out _ T4.out.at_).mono ?_); rintro e v4 ⟨v, rfl, rfl, hp, hg⟩; have hc := T4.out.call hp hg; have e1 := cell6 hc.box 1 rfl; have e2 := cell6 hc.box 2 rfl; have z1 := frozen6 hc.box 1; have z2 := frozen6 hc.box 2; have T5 := Lib.hid (hc.setForeign fk (fn : Int)); clear hc hp hg) | (go_at_call 29; (with_reducible refine (H5.out _ T5.out.at_).mono ?_); rintro e v5 ⟨v, rfl, rfl, hp, hg⟩; have T6 := Lib.hid (T5.out.call hp hg); clear hp hg) | (go_at_call 29; (with_reducible refine (H6.out _ T6.out.at_).mono ?_); rintro e v6 ⟨v, rfl, rfl, hp, hg⟩; have T7 := Lib.hid (T6.out.call hp hg); clear hp hg) | (go_at_call 31; (with_reducible refine (H7.out _ T7.out.at_).mono ?_); rintro e v7 ⟨v, rfl, rfl, hp, hg⟩; have hc := T7.out.call hp hg; have e3 := cell6 hc.box 3 rfl; have e4 := cell6 hc.box 4 rfl; have z3 := frozen6 hc.box 3; have z4 := frozen6 hc.box 4; have T8 := Lib.hid (hc.setDefault dk (dn : Int)); clear hc hp hg) | (go_at_call 29; (with_reducible refine (H8.out _ T8.out.at_).mono ?_); rintro e v8 ⟨v, rfl, rfl, hp, hg⟩; have T9 := Lib.hid (T8.out.call hp hg); clear hp hg) | (go_at_call 32; (with_reducible refine (H9.out _ T9.out.at_).mono ?_); intro e v9 hF; exact hF.elim))
                  · have H8 := Lib.hid h8
                    clear h8 hf8
                    show Calls _ _ _ _ (GotP (PoP w.heap.size) s w b 0 (.bad er p))
                    go_enter Try.func14, Try.ntmps14
                    go_wp2_with (first | (go_at_call 29; (with_reducible refine (H0.out _ T0.out.at_).mono ?_); rintro e v0 ⟨v, rfl, rfl, hp, hg⟩; have T1 := Lib.hid (T0.out.call hp hg); clear hp hg) | (go_at_call 30; (with_reducible refine (H1.out _ T1.out.at_).mono ?_); rintro e v1 ⟨v, rfl, rfl, hp, hg⟩; have hc := T1.out.call hp hg; have e0 := cell6 hc.box 0 rfl; have z0 := frozen6 hc.box 0; have T2 := Lib.hid (hc.setArch a); clear hc hp hg) | (go_at_call 29; (with_reducible refine (H2.out _ T2.out.at_).mono ?_); rintro e v2 ⟨v, rfl, rfl, hp, hg⟩; have T3 := Lib.hid (T2.out.call hp hg); clear hp hg) | (go_at_call 29; (with_reducible refine (H3.out _ T3.out.at_).mono ?_); rintro e v3 ⟨v, rfl, rfl, hp, hg⟩; have T4 := Lib.hid (T3.out.call hp hg); clear hp hg) | (go_at_call 31; (with_reducible refine (H4.out _ T4.out.at_).mono ?_); rintro e v4 ⟨v, rfl, rfl, hp, hg⟩; have hc := T4.out.call hp hg; have e1 := cell6 hc.box 1 rfl; have e2 := cell6 hc.box 2 rfl; have z1 := frozen6 hc.box 1; have z2 := frozen6 hc.box 2; have T5 := Lib.hid (hc.setForeign fk (fn : Int)); clear hc hp hg) | (go_at_call 29; (with_reducible refine (H5.out _ T5.out.at_).mono ?_); rintro e v5 ⟨v, rfl, rfl, hp, hg⟩; have T6 := Lib.hid (T5.out.call hp hg); clear hp hg) | (go_at_call 29; (with_reducible refine (H6.out _ T6.out.at_).mono ?_); rintro e v6 ⟨v, rfl, rfl, hp, hg⟩; have T7 := Lib.hid (T6.out.call hp hg); clear hp hg) | (go_at_call 31; (with_reducible refine (H7.out _ T7.out.at_).mono ?_); rintro e v7 ⟨v, rfl, rfl, hp, hg⟩; have hc := T7.out.call hp hg; have e3 := cell6 hc.box 3 rfl; have e4 := cell6 hc.box 4 rfl; have z3 := frozen6 hc.box 3; have z4 := frozen6 hc.box 4; have T8 := Lib.hid (hc.setDefault dk (dn : Int)); clear hc hp hg) | (go_at_call 29; (with_reducible refine (H8.out _ T8.out.at_).mono ?_); rintro e v8 ⟨rfl, hg⟩; have HY := Lib.hid (grown_trans T8.out.gr hg); clear hg))
                    exact ⟨rfl, rfl, HY.out⟩
                  · have H8 := Lib.hid h8
                    clear h8 hf8
                    show Calls _ _ _ _ (GotP (PoP w.heap.size) s w b 0 .out)
                    go_enter Try.func14, Try.ntmps14
                    go_wp2_with (first | (go_at_call 29; (with_reducible refine (H0.out _ T0.out.at_).mono ?_); rintro e v0 ⟨v, rfl, rfl, hp, hg⟩; have T1 := Lib.hid (T0.out.call hp hg); clear hp hg) | (go_at_call 30; (with_reducible refine (H1.out _ T1.out.at_).mono ?_); rintro e v1 ⟨v, rfl, rfl, hp, hg⟩; have hc := T1.out.call hp hg; have e0 := cell6 hc.box 0 rfl; have z0 := frozen6 hc.box 0; have T2 := Lib.hid (hc.setArch a); clear hc hp hg) | (go_at_call 29; (with_reducible refine (H2.out _ T2.out.at_).mono ?_); rintro e v2 ⟨v, rfl, rfl, hp, hg⟩; have T3 := Lib.hid (T2.out.call hp hg); clear hp hg) | (go_at_call 29; (with_reducible refine (H3.out _ T3.out.at_).mono ?_); rintro e v3 ⟨v, rfl, rfl, hp, hg⟩; have T4 := Lib.hid (T3.out.call hp hg); clear hp hg) | (go_at_call 31; (with_reducible refine (H4.out _ T4.out.at_).mono ?_); rintro e v4 ⟨v, rfl, rfl, hp, hg⟩; have hc := T4.out.call hp hg; have e1 := cell6 hc.box 1 rfl; have e2 := cell6 hc.box 2 rfl; have z1 := frozen6 hc.box 1; have z2 := frozen6 hc.box 2; have T5 := Lib.hid (hc.setForeign fk (fn : Int)); clear hc hp hg) | (go_at_call 29; (with_reducible refine (H5.out _ T5.out.at_).mono ?_); rintro e v5 ⟨v, rfl, rfl, hp, hg⟩; have T6 := Lib.hid (T5.out.call hp hg); clear hp hg) | (go_at_call 29; (with_reducible refine (H6.out _ T6.out.at_).mono ?_); rintro e v6 ⟨v, rfl, rfl, hp, hg⟩; have T7 := Lib.hid (T6.out.call hp hg); clear hp hg) | (go_at_call 31; (with_reducible refine (H7.out _ T7.out.at_).mono ?_); rintro e v7 ⟨v, rfl, rfl, hp, hg⟩; have hc := T7.out.call hp hg; have e3 := cell6 hc.box 3 rfl; have e4 := cell6 hc.box 4 rfl; have z3 := frozen6 hc.box 3; have z4 := frozen6 hc.box 4; have T8 := Lib.hid (hc.setDefault dk (dn : Int)); clear hc hp hg) | (go_at_call 29; (with_reducible refine (H8.out _ T8.out.at_).mono ?_); intro e v8 hF; exact hF.elim))
                · have H7 := Lib.hid h7
                  clear h7 hf7
                  show Calls _ _ _ _ (GotP (PoP w.heap.size) s w b 0 (.bad er p))
                  go_enter Try.func14, Try.ntmps14
                  go_wp2_with (first | (go_at_call 29; (with_reducible refine (H0.out _ T0.out.at_).mono ?_); rintro e v0 ⟨v, rfl, rfl, hp, hg⟩; have T1 := Lib.hid (T0.out.call hp hg); clear hp hg) | (go_at_call 30; (with_reducible refine (H1.out _ T1.out.at_).mono ?_); rintro e v1 ⟨v, rfl, rfl, hp, hg⟩; have hc := T1.out.call hp hg; have e0 := cell6 hc.box 0 rfl; have z0 := frozen6 hc.box 0; have T2 := Lib.hid (hc.setArch a); clear hc hp hg) | (go_at_call 29; (with_reducible refine (H2.out _ T2.out.at_).mono ?_); rintro e v2 ⟨v, rfl, rfl, hp, hg⟩; have T3 := Lib.hid (T2.out.call hp hg); clear hp hg) | (go_at_call 29; (with_reducible refine (H3.out _ T3.out.at_).mono ?_); rintro e v3 ⟨v, rfl, rfl, hp, hg⟩; have T4 := Lib.hid (T3.out.call hp hg); clear hp hg) | (go_at_call 31; (with_reducible refine (H4.out _ T4.out.at_).mono ?_); rintro e v4 ⟨v, rfl, rfl, hp, hg⟩; have hc := T4.out.call hp hg; have e1 := cell6 hc.box 1 rfl; have e2 := cell6 hc.box 2 rfl; have z1 := frozen6 hc.box 1; have z2 := frozen6 hc.box 2; have T5 := Lib.hid (hc.setForeign fk (fn : Int)); clear hc hp hg) | (go_at_call 29; (with_reducible refine (H5.out _ T5.out.at_).mono ?_); rintro e v5 ⟨v, rfl, rfl, hp, hg⟩; have T6 := Lib.hid (T5.out.call hp hg); clear hp hg) | (go_at_call 29; (with_reducible refine (H6.out _ T6.out.at_).mono ?_); rintro e v6 ⟨v, rfl, rfl, hp, hg⟩; have T7 := Lib.hid (T6.out.call hp hg); clear hp hg) | (go_at_call 31; (with_reducible refine (H7.out _ T7.out.at_).mono ?_); rintro e v7 ⟨rfl, hg⟩; have HY := Lib.hid (grown_trans T7.out.gr hg); clear hg))
                  exact ⟨rfl, rfl, HY.out⟩
                · have H7 := Lib.hid h7
                  clear h7 hf7
                  show Calls _ _ _ _ (GotP (PoP w.heap.size) s w b 0 .out)
                  go_enter Try.func14, Try.ntmps14
                  go_wp2_with (first | (go_at_call 29; (with_reducible refine (H0.out _ T0.out.at_).mono ?_); rintro e v0 ⟨v, rfl, rfl, hp, hg⟩; have T1 := Lib.hid (T0.out.call hp hg); clear hp hg) | (go_at_call 30; (with_reducible refine (H1.out _ T1.out.at_).mono ?_); rintro e v1 ⟨v, rfl, rfl, hp, hg⟩; have hc := T1.out.call hp hg; have e0 := cell6 hc.box 0 rfl; have z0 := frozen6 hc.box 0; have T2 := Lib.hid (hc.setArch a); clear hc hp hg) | (go_at_call 29; (with_reducible refine (H2.out _ T2.out.at_).mono ?_); rintro e v2 ⟨v, rfl, rfl, hp, hg⟩; have T3 := Lib.hid (T2.out.call hp hg); clear hp hg) | (go_at_call 29; (with_reducible refine (H3.out _ T3.out.at_).mono ?_); rintro e v3 ⟨v, rfl, rfl, hp, hg⟩; have T4 := Lib.hid (T3.out.call hp hg); clear hp hg) | (go_at_call 31; (with_reducible refine (H4.out _ T4.out.at_).mono ?_); rintro e v4 ⟨v, rfl, rfl, hp, hg⟩; have hc := T4.out.call hp hg; have e1 := cell6 hc.box 1 rfl; have e2 := cell6 hc.box 2 rfl; have z1 := frozen6 hc.box 1; have z2 := frozen6 hc.box 2; have T5 := Lib.hid (hc.setForeign fk (fn : Int)); clear hc hp hg) | (go_at_call 29; (with_reducible refine (H5.out _ T5.out.at_).mono ?_); rintro e v5 ⟨v, rfl, rfl, hp, hg⟩; have T6 := Lib.hid (T5.out.call hp hg); clear hp hg) | (go_at_call 29; (with_reducible refine (H6.out _ T6.out.at_).mono ?_); rintro e v6 ⟨v, rfl, rfl, hp, hg⟩; have T7 := Lib.hid (T6.out.call hp hg); clear hp hg) | (go_at_call 31; (with_reducible refine (H7.out _ T7.out.at_).mono ?_); intro e v7 hF; exact hF.elim))
              · have H6 := Lib.hid h6
                clear h6 hf6
                show Calls _ _ _ _ (GotP (PoP w.heap.size) s w b 0 (.bad er p))
                go_enter Try.func14, Try.ntmps14
                go_wp2_with (first | (go_at_call 29; (with_reducible refine (H0.out _ T0.out.at_).mono ?_); rintro e v0 ⟨v, rfl, rfl, hp, hg⟩; have T1 := Lib.hid (T0.out.call hp hg); clear hp hg) | (go_at_call 30; (with_reducible refine (H1.out _ T1.out.at_).mono ?_); rintro e v1 ⟨v, rfl, rfl, hp, hg⟩; have hc := T1.out.call hp hg; have e0 := cell6 hc.box 0 rfl; have z0 := frozen6 hc.box 0; have T2 := Lib.hid (hc.setArch a); clear hc hp hg) | (go_at_call 29; (with_reducible refine (H2.out _ T2.out.at_).mono ?_); rintro e v2 ⟨v, rfl, rfl, hp, hg⟩; have T3 := Lib.hid (T2.out.call hp hg); clear hp hg) | (go_at_call 29; (with_reducible refine (H3.out _ T3.out.at_).mono ?_); rintro e v3 ⟨v, rfl, rfl, hp, hg⟩; have T4 := Lib.hid (T3.out.call hp hg); clear hp hg) | (go_at_call 31; (with_reducible refine (H4.out _ T4.out.at_).mono ?_); rintro e v4 ⟨v, rfl, rfl, hp, hg⟩; have hc := T4.out.call hp hg; have e1 := cell6 hc.box 1 rfl; have e2 := cell6 hc.box 2 rfl; have z1 := frozen6 hc.box 1; have z2 := frozen6 hc.box 2; have T5 := Lib.hid (hc.setForeign fk (fn : Int)); clear hc hp hg) | (go_at_call 29; (with_reducible refine (H5.out _ T5.out.at_).mono ?_); rintro e v5 ⟨v, rfl, rfl, hp, hg⟩; have T6 := Lib.hid (T5.out.call hp hg); clear hp hg) | (go_at_call 29; (with_reducible refine (H6.out _ T6.out.at_).mono ?_); rintro e v6 ⟨rfl, hg⟩; have HY := Lib.hid (grown_trans T6.out.gr hg); clear hg))
                exact ⟨rfl, rfl, HY.out⟩
              · have H6 := Lib.hid h6
                clear h6 hf6
                show Calls _ _ _ _ (GotP (PoP w.heap.size) s w b 0 .out)
                go_enter Try.func14, Try.ntmps14
                go_wp2_with (first | (go_at_call 29; (with_reducible refine (H0.out _ T0.out.at_).mono ?_); rintro e v0 ⟨v, rfl, rfl, hp, hg⟩; have T1 := Lib.hid (T0.out.call hp hg); clear hp hg) | (go_at_call 30; (with_reducible refine (H1.out _ T1.out.at_).mono ?_); rintro e v1 ⟨v, rfl, rfl, hp, hg⟩; have hc := T1.out.call hp hg; have e0 := cell6 hc.box 0 rfl; have z0 := frozen6 hc.box 0; have T2 := Lib.hid (hc.setArch a); clear hc hp hg) | (go_at_call 29; (with_reducible refine (H2.out _ T2.out.at_).mono ?_); rintro e v2 ⟨v, rfl, rfl, hp, hg⟩; have T3 := Lib.hid (T2.out.call hp hg); clear hp hg) | (go_at_call 29; (with_reducible refine (H3.out _ T3.out.at_).mono ?_); rintro e v3 ⟨v, rfl, rfl, hp, hg⟩; have T4 := Lib.hid (T3.out.call hp hg); clear hp hg) | (go_at_call 31; (with_reducible refine (H4.out _ T4.out.at_).mono ?_); rintro e v4 ⟨v, rfl, rfl, hp, hg⟩; have hc := T4.out.call hp hg; have e1 := cell6 hc.box 1 rfl; have e2 := cell6 hc.box 2 rfl; have z1 := frozen6 hc.box 1; have z2 := frozen6 hc.box 2; have T5 := Lib.hid (hc.setForeign fk (fn : Int)); clear hc hp hg) | (go_at_call 29; (with_reducible refine (H5.out _ T5.out.at_).mono ?_); rintro e v5 ⟨v, rfl, rfl, hp, hg⟩; have T6 := Lib.hid (T5.out.call hp hg); clear hp hg) | (go_at_call 29; (with_reducible refine (H6.out _ T6.out.at_).mono ?_); intro e v6 hF; exact hF.elim))
            · have H5 := Lib.hid h5
              clear h5 hf5
              show Calls _ _ _ _ (GotP (PoP w.heap.size) s w b 0 (.bad er p))
              go_enter Try.func14, Try.ntmps14
              go_wp2_with (first | (go_at_call 29; (with_reducible refine (H0.out _ T0.out.at_).mono ?_); rintro e v0 ⟨v, rfl, rfl, hp, hg⟩; have T1 := Lib.hid (T0.out.call hp hg); clear hp hg) | (go_at_call 30; (with_reducible refine (H1.out _ T1.out.at_).mono ?_); rintro e v1 ⟨v, rfl, rfl, hp, hg⟩; have hc := T1.out.call hp hg; have e0 := cell6 hc.box 0 rfl; have z0 := frozen6 hc.box 0; have T2 := Lib.hid (hc.setArch a); clear hc hp hg) | (go_at_call 29; (with_reducible refine (H2.out _ T2.out.at_).mono ?_); rintro e v2 ⟨v, rfl, rfl, hp, hg⟩; have T3 := Lib.hid (T2.out.call hp hg); clear hp hg) | (go_at_call 29; (with_reducible refine (H3.out _ T3.out.at_).mono ?_); rintro e v3 ⟨v, rfl, rfl, hp, hg⟩; have T4 := Lib.hid (T3.out.call hp hg); clear hp hg) | (go_at_call 31; (with_reducible refine (H4.out _ T4.out.at_).mono ?_); rintro e v4 ⟨v, rfl, rfl, hp, hg⟩; have hc := T4.out.call hp hg; have e1 := cell6 hc.box 1 rfl; have e2 := cell6 hc.box 2 rfl; have z1 := frozen6 hc.box 1; have z2 := frozen6 hc.box 2; have T5 := Lib.hid (hc.setForeign fk (fn : Int)); clear hc hp hg) | (go_at_call 29; (with_reducible refine (H5.out _ T5.out.at_).mono ?_); rintro e v5 ⟨rfl, hg⟩; have HY := Lib.hid (grown_trans T5.out.gr hg); clear hg))
              exact ⟨rfl, rfl, HY.out⟩
            · have H5 := Lib.hid h5
              clear h5 hf5
              show Calls _ _ _ _ (GotP (PoP w.heap.size) s w b 0 .out)
              go_enter Try.func14, Try.ntmps14
              go_wp2_with (first | (go_at_call 29; (with_reducible refine (H0.out _ T0.out.at_).mono ?_); rintro e v0 ⟨v, rfl, rfl, hp, hg⟩; have T1 := Lib.hid (T0.out.call hp hg); clear hp hg) | (go_at_call 30; (with_reducible refine (H1.out _ T1.out.at_).mono ?_); rintro e v1 ⟨v, rfl, rfl, hp, hg⟩; have hc := T1.out.call hp hg; have e0 := cell6 hc.box 0 rfl; have z0 := frozen6 hc.box 0; have T2 := Lib.hid (hc.setArch a); clear hc hp hg) | (go_at_call 29; (with_reducible refine (H2.out _ T2.out.at_).mono ?_); rintro e v2 ⟨v, rfl, rfl, hp, hg⟩; have T3 := Lib.hid (T2.out.call hp hg); clear hp hg) | (go_at_call 29; (with_reducible refine (H3.out _ T3.out.at_).mono ?_); rintro e v3 ⟨v, rfl, rfl, hp, hg⟩; have T4 := Lib.hid (T3.out.call hp hg); clear hp hg) | (go_at_call 31; (with_reducible refine (H4.out _ T4.out.at_).mono ?_); rintro e v4 ⟨v, rfl, rfl, hp, hg⟩; have hc := T4.out.call hp hg; have e1 := cell6 hc.box 1 rfl; have e2 := cell6 hc.box 2 rfl; have z1 := frozen6 hc.box 1; have z2 := frozen6 hc.box 2; have T5 := Lib.hid (hc.setForeign fk (fn : Int)); clear hc hp hg) | (go_at_call 29; (with_reducible refine (H5.out _ T5.out.at_).mono ?_); intro e v5 hF; exact hF.elim))
          · have H4 := Lib.hid h4
            clear h4 hf4
            show Calls _ _ _ _ (GotP (PoP w.heap.size) s w b 0 (.bad er p))
            go_enter Try.func14, Try.ntmps14
            go_wp2_with (first | (go_at_call 29; (with_reducible refine (H0.out _ T0.out.at_).mono ?_); rintro e v0 ⟨v, rfl, rfl, hp, hg⟩; have T1 := Lib.hid (T0.out.call hp hg); clear hp hg) | (go_at_call 30; (with_reducible refine (H1.out _ T1.out.at_).mono ?_); rintro e v1 ⟨v, rfl, rfl, hp, hg⟩; have hc := T1.out.call hp hg; have e0 := cell6 hc.box 0 rfl; have z0 := frozen6 hc.box 0; have T2 := Lib.hid (hc.setArch a); clear hc hp hg) | (go_at_call 29; (with_reducible refine (H2.out _ T2.out.at_).mono ?_); rintro e v2 ⟨v, rfl, rfl, hp, hg⟩; have T3 := Lib.hid (T2.out.call hp hg); clear hp hg) | (go_at_call 29; (with_reducible refine (H3.out _ T3.out.at_).mono ?_); rintro e v3 ⟨v, rfl, rfl, hp, hg⟩; have T4 := Lib.hid (T3.out.call hp hg); clear hp hg) | (go_at_call 31; (with_reducible refine (H4.out _ T4.out.at_).mono ?_); rintro e v4 ⟨rfl, hg⟩; have HY := Lib.hid (grown_trans T4.out.gr hg); clear hg))
            exact ⟨rfl, rfl, HY.out⟩
          · have H4 := Lib.hid h4
            clear h4 hf4
            show Calls _ _ _ _ (GotP (PoP w.heap.size) s w b 0 .out)
            go_enter Try.func14, Try.ntmps14
            go_wp2_with (first | (go_at_call 29; (with_reducible refine (H0.out _ T0.out.at_).mono ?_); rintro e v0 ⟨v, rfl, rfl, hp, hg⟩; have T1 := Lib.hid (T0.out.call hp hg); clear hp hg) | (go_at_call 30; (with_reducible refine (H1.out _ T1.out.at_).mono ?_); rintro e v1 ⟨v, rfl, rfl, hp, hg⟩; have hc := T1.out.call hp hg; have e0 := cell6 hc.box 0 rfl; have z0 := frozen6 hc.box 0; have T2 := Lib.hid (hc.setArch a); clear hc hp hg) | (go_at_call 29; (with_reducible refine (H2.out _ T2.out.at_).mono ?_); rintro e v2 ⟨v, rfl, rfl, hp, hg⟩; have T3 := Lib.hid (T2.out.call hp hg); clear hp hg) | (go_at_call 29; (with_reducible refine (H3.out _ T3.out.at_).mono ?_); rintro e v3 ⟨v, rfl, rfl, hp, hg⟩; have T4 := Lib.hid (T3.out.call hp hg); clear hp hg) | (go_at_call 31; (with_reducible refine (H4.out _ T4.out.at_).mono ?_); intro e v4 hF; exact hF.elim))
        · have H3 := Lib.hid h3
          clear h3 hf3
          show Calls _ _ _ _ (GotP (PoP w.heap.size) s w b 0 (.bad er p))
          go_enter Try.func14, Try.ntmps14
          go_wp2_with (first | (go_at_call 29; (with_reducible refine (H0.out _ T0.out.at_).mono ?_); rintro e v0 ⟨v, rfl, rfl, hp, hg⟩; have T1 := Lib.hid (T0.out.call hp hg); clear hp hg) | (go_at_call 30; (with_reducible refine (H1.out _ T1.out.at_).mono ?_); rintro e v1 ⟨v, rfl, rfl, hp, hg⟩; have hc := T1.out.call hp hg; have e0 := cell6 hc.box 0 rfl; have z0 := frozen6 hc.box 0; have T2 := Lib.hid (hc.setArch a); clear hc hp hg) | (go_at_call 29; (with_reducible refine (H2.out _ T2.out.at_).mono ?_); rintro e v2 ⟨v, rfl, rfl, hp, hg⟩; have T3 := Lib.hid (T2.out.call hp hg); clear hp hg) | (go_at_call 29; (with_reducible refine (H3.out _ T3.out.at_).mono ?_); rintro e v3 ⟨rfl, hg⟩; have HY := Lib.hid (grown_trans T3.out.gr hg); clear hg))
          exact ⟨rfl, rfl, HY.out⟩
        · have H3 := Lib.hid h3
          clear h3 hf3
          show Calls _ _ _ _ (GotP (PoP w.heap.size) s w b 0 .out)
          go_enter Try.func14, Try.ntmps14
          go_wp2_with (first | (go_at_call 29; (with_reducible refine (H0.out _ T0.out.at_).mono ?_); rintro e v0 ⟨v, rfl, rfl, hp, hg⟩; have T1 := Lib.hid (T0.out.call hp hg); clear hp hg) | (go_at_call 30; (with_reducible refine (H1.out _ T1.out.at_).mono ?_); rintro e v1 ⟨v, rfl, rfl, hp, hg⟩; have hc := T1.out.call hp hg; have e0 := cell6 hc.box 0 rfl; have z0 := frozen6 hc.box 0; have T2 := Lib.hid (hc.setArch a); clear hc hp hg) | (go_at_call 29; (with_reducible refine (H2.out _ T2.out.at_).mono ?_); rintro e v2 ⟨v, rfl, rfl, hp, hg⟩; have T3 := Lib.hid (T2.out.call hp hg); clear hp hg) | (go_at_call 29; (with_reducible refine (H3.out _ T3.out.at_).mono ?_); intro e v3 hF; exact hF.elim))
      · have H2 := Lib.hid h2
        clear h2 hf2
        show Calls _ _ _ _ (GotP (PoP w.heap.size) s w b 0 (.bad er p))
        go_enter Try.func14, Try.ntmps14
        go_wp2_with (first | (go_at_call 29; (with_reducible refine (H0.out _ T0.out.at_).mono ?_); rintro e v0 ⟨v, rfl, rfl, hp, hg⟩; have T1 := Lib.hid (T0.out.call hp hg); clear hp hg) | (go_at_call 30; (with_reducible refine (H1.out _ T1.out.at_).mono ?_); rintro e v1 ⟨v, rfl, rfl, hp, hg⟩; have hc := T1.out.call hp hg; have e0 := cell6 hc.box 0 rfl; have z0 := frozen6 hc.box 0; have T2 := Lib.hid (hc.setArch a); clear hc hp hg) | (go_at_call 29; (with_reducible refine (H2.out _ T2.out.at_).mono ?_); rintro e v2 ⟨rfl, hg⟩; have HY := Lib.hid (grown_trans T2.out.gr hg); clear hg))
        exact ⟨rfl, rfl, HY.out⟩
      · have H2 := Lib.hid h2
        clear h2 hf2
        show Calls _ _ _ _ (GotP (PoP w.heap.size) s w b 0 .out)
        go_enter Try.func14, Try.ntmps14
        go_wp2_with (first | (go_at_call 29; (with_reducible refine (H0.out _ T0.out.at_).mono ?_); rintro e v0 ⟨v, rfl, rfl, hp, hg⟩; have T1 := Lib.hid (T0.out.call hp hg); clear hp hg) | (go_at_call 30; (with_reducible refine (H1.out _ T1.out.at_).mono ?_); rintro e v1 ⟨v, rfl, rfl, hp, hg⟩; have hc := T1.out.call hp hg; have e0 := cell6 hc.box 0 rfl; have z0 := frozen6 hc.box 0; have T2 := Lib.hid (hc.setArch a); clear hc hp hg) | (go_at_call 29; (with_reducible refine (H2.out _ T2.out.at_).mono ?_); intro e v2 hF; exact hF.elim))
    · have H1 := Lib.hid h1
      clear h1 hf1
      show Calls _ _ _ _ (GotP (PoP w.heap.size) s w b 0 (.bad er p))
      go_enter Try.func14, Try.ntmps14
      go_wp2_with (first | (go_at_call 29; (with_reducible refine (H0.out _ T0.out.at_).mono ?_); rintro e v0 ⟨v, rfl, rfl, hp, hg⟩; have T1 := Lib.hid (T0.out.call hp hg); clear hp hg) | (go_at_call 30; (with_reducible refine (H1.out _ T1.out.at_).mono ?_); rintro e v1 ⟨rfl, hg⟩; have HY := Lib.hid (grown_trans T1.out.gr hg); clear hg))
      exact ⟨rfl, rfl, HY.out⟩
    · have H1 := Lib.hid h1
      clear h1 hf1
      show Calls _ _ _ _ (GotP (PoP w.heap.size) s w b 0 .out)
      go_enter Try.func14, Try.ntmps14
      go_wp2_with (first | (go_at_call 29; (with_reducible refine (H0.out _ T0.out.at_).mono ?_); rintro e v0 ⟨v, rfl, rfl, hp, hg⟩; have T1 := Lib.hid (T0.out.call hp hg); clear hp hg) | (go_at_call 30; (with_reducible refine (H1.out _ T1.out.at_).mono ?_); intro e v1 hF; exact hF.elim))
  · have H0 := Lib.hid h0
    clear h0 hf0
    show Calls _ _ _ _ (GotP (PoP w.heap.size) s w b 0 (.bad er p))
    go_enter Try.func14, Try.ntmps14
    go_wp2_with (first | (go_at_call 29; (with_reducible refine (H0.out _ T0.out.at_).mono ?_); rintro e v0 ⟨rfl, hg⟩; have HY := Lib.hid (grown_trans T0.out.gr hg); clear hg))
    exact ⟨rfl, rfl, HY.out⟩
  · have H0 := Lib.hid h0
    clear h0 hf0
    show Calls _ _ _ _ (GotP (PoP w.heap.size) s w b 0 .out)
    go_enter Try.func14, Try.ntmps14
    go_wp2_with (first | (go_at_call 29; (with_reducible refine (H0.out _ T0.out.at_).mono ?_); intro e v0 hF; exact hF.elim))
end Go.Proofs.Ytmmfbeebjehkgaa
