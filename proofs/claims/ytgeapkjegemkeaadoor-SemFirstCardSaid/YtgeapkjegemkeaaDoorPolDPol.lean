/-
  The document's Parse: its walks. Conditions: those that each names.
-/
import Derived.Test.YtgeapkjegemkeaaDoorPolDRule
import Derived.Test.YtgeapkjegemkeaaDoorGPolDE
import Derived.Test.YtgeapkjegemkeaaDoorPDefs
namespace Go.Proofs.YtgeapkjegemkeaaDoor
open Go Go.RowKit
set_option linter.unusedSimpArgs false
set_option linter.unusedVariables false

/-- A rule, whatever its parts. -/
theorem rd6_ruleS {S : Src} {n : Nat} {w : World} {b : Nat} {A : Option Addr} {cap : Nat} {r : Rd} (hJ : J S r) (hd : r.deep = 0) (h : RdAt w b A cap S r) {x : Ru} {r' : Rd} (hx : ruleS S n r = some (x, r')) :
    Calls Tryd.prog 33 #[.pointer (some ⟨b, 0, none⟩)] w fun e w' => ∃ v, e = .returned v ∧ RuP w.heap.size x v w' ∧ RdAt w' b A cap S r' ∧ w.grownBy w' (some b) := by
  unfold ruleS at hx
  cases hc : callsS S n [] r with
  | none => rw [hc] at hx; cases hx
  | some c =>
    obtain ⟨cs, rc⟩ := c
    rw [hc] at hx
    cases hw : whenS S n rc with
    | none => simp only [Option.bind_some, hw] at hx; cases hx
    | some y =>
      obtain ⟨yx, ry⟩ := y
      simp only [Option.bind_some, hw] at hx
      injection hx with hx
      injection hx with e1 e2
      subst e1
      subst e2
      obtain ⟨vk, vn, hv⟩ : ∃ vk vn, verdT S (ry.wantR S 2 bDo) = (vk, vn) := ⟨_, _, rfl⟩
      rw [hv]
      exact rd6_rule n w b A cap r hJ hd h cs rc yx ry hc hw vk vn hv
/-- A policy under way: its box E, the reader b ahead of it, the result's box. -/
structure PoD (w W : World) (b : Nat) (A : Option Addr) (cap : Nat) (S : Src) (r : Rd) (E : Nat) (a : ByteArray) (fk fn dk dn : Int) (l : List Ru) (v : Value) (xs : List Value) : Prop where
  rd : RdAt W b A cap S r
  bel : Below w.heap.size w W
  wb : w.heap.size < b
  bE : b < E
  box : W.heap[E]? = some (poO a fk fn dk dn v)
  res : W.heap[w.heap.size]? = some (poO ⟨#[]⟩ 0 0 0 0 (.slice none 0 0))
  own : W.ownsRow (E + 1) 46 9 v l.length xs
  chunks : ChunksR W (fun k => E + 1 ≤ k ∧ some k ≠ v.ownBlock) l xs
section
variable {w W W1 wd : World} {b : Nat} {A : Option Addr} {cap : Nat} {S : Src} {r r1 : Rd} {E : Nat} {a : ByteArray} {fk fn dk dn : Int} {l : List Ru} {v v' : Value} {xs : List Value} {x : Ru} {O : Obj} {tb capc : Nat} {Ax : Option Addr} {cx : Nat}
theorem PoD.size (h : PoD w W b A cap S r E a fk fn dk dn l v xs) : E < W.heap.size := (Array.getElem?_eq_some_iff.1 h.box).1
theorem PoD.call (h : PoD w W b A cap S r E a fk fn dk dn l v xs) (hp : RdAt W1 b A cap S r1) (hg : W.grownBy W1 (some b)) : PoD w W1 b A cap S r1 E a fk fn dk dn l v xs := by
  have h1 := h.wb; have h2 := h.bE; have h3 := h.size
  have h4 := h.bel.size
  refine ⟨hp, below_grow h.bel hg (by omega) (by omega), h1, h2, kept_box h.box hg (by omega), kept_box h.res hg (by omega), h.own.kept (row := some b) hg ?_, h.chunks.keep hg.size (fun _ hk => hk) (fun k hk _ => hg.block k (by assumption) (fun e => by injection e with e; have := hk.1; omega))⟩
  rcases hv : v.ownBlock with _ | c
  · exact .inl rfl
  · exact .inr (fun e => by injection e with e; have := (h.own.lt c hv).1; omega)
theorem PoD.alloc (h : PoD w W b A cap S r E a fk fn dk dn l v xs) (O : Obj) : PoD w (W.alloc O) b A cap S r E a fk fn dk dn l v xs :=
  h.call (h.rd.below (lbox W O)) (grown_of_below (lbox W O) (some b))
theorem PoD.drawn (h : PoD w W b A cap S r E a fk fn dk dn l v xs) (n : Nat) : PoD w (W.drewN n) b A cap S r E a fk fn dk dn l v xs :=
  ⟨h.rd.keep6 (Nat.le_refl _) (fun _ _ => rfl), below_drawn h.bel n, h.wb, h.bE, h.box, h.res, h.own, ChunksR.keep (w := W) (w' := W.drewN n) (show W.heap.size ≤ (W.drewN n).heap.size from Nat.le_refl _) (fun _ hk => hk) (fun _ _ _ => rfl) h.chunks⟩
/-- Nothing but a cell of the policy is turned. -/
theorem PoD.setAny (h : PoD w W b A cap S r E a fk fn dk dn l v xs) (i : Nat) (u : Value) : RdAt (W.setCell ⟨E, i, none⟩ u) b A cap S r ∧ Below w.heap.size w (W.setCell ⟨E, i, none⟩ u) ∧ (W.setCell ⟨E, i, none⟩ u).heap[w.heap.size]? = some (poO ⟨#[]⟩ 0 0 0 0 (.slice none 0 0)) ∧ (W.setCell ⟨E, i, none⟩ u).ownsRow (E + 1) 46 9 v l.length xs ∧ ChunksR (W.setCell ⟨E, i, none⟩ u) (fun k => E + 1 ≤ k ∧ some k ≠ v.ownBlock) l xs := by
  have h1 := h.wb; have h2 := h.bE
  refine ⟨h.rd.new h2 i u, h.bel.setCell (p := ⟨E, i, none⟩) (show w.heap.size ≤ E by omega) u, kept_set h.res (by omega) i u, h.own.kept (row := some E) (grown_set (World.grownBy.refl W _) i u) ?_, h.chunks.keep (by simp [World.setCell]) (fun _ hk => hk) (fun k hk _ => Below.heap_setCell W ⟨E, i, none⟩ u k (show k ≠ E by have := hk.1; omega))⟩
  rcases hv : v.ownBlock with _ | c
  · exact .inl rfl
  · exact .inr (fun e => by injection e with e; have := (h.own.lt c hv).1; omega)
theorem PoD.setArch (h : PoD w W b A cap S r E a fk fn dk dn l v xs) (a' : ByteArray) : PoD w (W.setCell ⟨E, 0, none⟩ (.string a')) b A cap S r E a' fk fn dk dn l v xs :=
  have k := h.setAny 0 (.string a')
  ⟨k.1, k.2.1, h.wb, h.bE, heap_set1 h.box 0 _, k.2.2.1, k.2.2.2.1, k.2.2.2.2⟩
theorem PoD.set1 (h : PoD w W b A cap S r E a fk fn dk dn l v xs) (i : Int) : PoD w (W.setCell ⟨E, 1, none⟩ (.int .i64 i)) b A cap S r E a i fn dk dn l v xs :=
  have k := h.setAny 1 (.int .i64 i)
  ⟨k.1, k.2.1, h.wb, h.bE, heap_set1 h.box 1 _, k.2.2.1, k.2.2.2.1, k.2.2.2.2⟩
theorem PoD.set2 (h : PoD w W b A cap S r E a fk fn dk dn l v xs) (i : Int) : PoD w (W.setCell ⟨E, 2, none⟩ (.int .u64 i)) b A cap S r E a fk i dk dn l v xs :=
  have k := h.setAny 2 (.int .u64 i)
  ⟨k.1, k.2.1, h.wb, h.bE, heap_set1 h.box 2 _, k.2.2.1, k.2.2.2.1, k.2.2.2.2⟩
theorem PoD.set3 (h : PoD w W b A cap S r E a fk fn dk dn l v xs) (i : Int) : PoD w (W.setCell ⟨E, 3, none⟩ (.int .i64 i)) b A cap S r E a fk fn i dn l v xs :=
  have k := h.setAny 3 (.int .i64 i)
  ⟨k.1, k.2.1, h.wb, h.bE, heap_set1 h.box 3 _, k.2.2.1, k.2.2.2.1, k.2.2.2.2⟩
theorem PoD.set4 (h : PoD w W b A cap S r E a fk fn dk dn l v xs) (i : Int) : PoD w (W.setCell ⟨E, 4, none⟩ (.int .u64 i)) b A cap S r E a fk fn dk i l v xs :=
  have k := h.setAny 4 (.int .u64 i)
  ⟨k.1, k.2.1, h.wb, h.bE, heap_set1 h.box 4 _, k.2.2.1, k.2.2.2.1, k.2.2.2.2⟩
/-- One rule more. -/
theorem PoD.turn (h : PoD w W b A cap S r E a fk fn dk dn l v xs) (hx : RuIn W (fun k => E + 1 ≤ k ∧ some k ≠ v.ownBlock) x tb Ax cx)
    (ho : wd.ownsRow (E + 1) 46 9 v' (l.length + 1) (xs ++ ruC x tb capc Ax cx)) (hg : (W.alloc O).grownBy wd v.ownBlock) (hv : v'.ownBlock = v.ownBlock ∨ v'.ownBlock = some (W.alloc O).heap.size) :
    PoD w (wd.setCell ⟨E, 5, none⟩ v') b A cap S r E a fk fn dk dn (l ++ [x]) v' (xs ++ ruC x tb capc Ax cx) ∧ wd.heap[E]? = some (poO a fk fn dk dn v) := by
  have hsz : (W.alloc O).heap.size = W.heap.size + 1 := by simp
  have hvl : ∀ c, v.ownBlock = some c → E + 1 ≤ c ∧ c < W.heap.size := fun c e => h.own.lt c e
  have h1 := h.wb; have h2 := h.bE; have h3 := h.size
  have size3 := hg.size
  have keep : ∀ c, c < E + 1 → wd.heap[c]? = W.heap[c]? := fun c hc => (hg.block c (by omega) (fun e => by have := hvl c e.symm; omega)).trans (Below.heap_alloc W O c (by omega))
  have keep2 : ∀ c, c < W.heap.size → some c ≠ v.ownBlock → wd.heap[c]? = W.heap[c]? := fun c hc hne => (hg.block c (by omega) hne).trans (Below.heap_alloc W O c hc)
  have hbx : wd.heap[E]? = some (poO a fk fn dk dn v) := (keep _ (by omega)).trans h.box
  have hG : ∀ k, (E + 1 ≤ k ∧ some k ≠ v.ownBlock) ∧ k < W.heap.size → E + 1 ≤ k ∧ some k ≠ v'.ownBlock := fun k hk => ⟨hk.1.1, fun e => by
    rcases hv with hv | hv
    · exact hk.1.2 (e.trans hv)
    · rw [hv, hsz] at e; injection e with e; have := hk.2; omega⟩
  have hK : ∀ k, ((E + 1 ≤ k ∧ some k ≠ v.ownBlock) ∧ k < W.heap.size) → k < W.heap.size → (wd.setCell ⟨E, 5, none⟩ v').heap[k]? = W.heap[k]? := fun k hk hl =>
    (Below.heap_setCell wd ⟨E, 5, none⟩ v' k (show k ≠ E by have := hk.1.1; omega)).trans (keep2 k hl hk.1.2)
  have hs5 : (wd.setCell ⟨E, 5, none⟩ v').heap.size = wd.heap.size := by simp [World.setCell]
  have hbel : Below w.heap.size w wd := ⟨hg.os.trans h.bel.os, hg.tape.trans h.bel.tape, hg.output.trans h.bel.output, by have := h.bel.size; omega, fun c hc => (keep c (by omega)).trans (h.bel.block c hc)⟩
  refine ⟨⟨(h.rd.keep6 (by omega) (fun c hc => keep c (by omega))).new h2 5 _, hbel.setCell (p := ⟨E, 5, none⟩) (show w.heap.size ≤ E by omega) _, h1, h2, heap_set1 hbx 5 _, kept_set ((keep _ (by omega)).trans h.res) (by omega) 5 _, ?_, ?_⟩, hbx⟩
  · rw [List.length_append]
    refine World.ownsRow.kept (row := some E) ho (grown_set (World.grownBy.refl wd _) 5 _) ?_
    rcases hv with hv | hv
    · rw [hv]
      rcases hq : v.ownBlock with _ | c
      · exact .inl rfl
      · exact .inr (fun e => by injection e with e; have := (hvl c hq).1; omega)
    · rw [hv]; exact .inr (fun e => by injection e with e; omega)
  · exact ((chunksR_lt h.chunks).keep (by omega) hG hK).snoc ((ru_lt hx).keep (by omega) hG hK)
/-- Its rules. -/
theorem PoD.rules (h : PoD w W b A cap S r E a fk fn dk dn l v xs) : RulesP (E + 1) l v W := by
  rcases h.own.2 with ⟨hv, h0⟩ | ⟨tb, cap, cur, hv, hlo, hh, _, _, hs, ht⟩
  · exact .inl ⟨List.length_eq_zero_iff.1 h0, hv⟩
  · subst hv
    refine .inr ⟨tb, cap, rfl, hlo, (Array.getElem?_eq_some_iff.1 hh).1, ?_⟩
    refine (h.chunks.keep (Nat.le_refl _) (fun k hk => hk.1) (fun _ _ _ => rfl)).row (fun j u hj => ?_)
    rw [Nat.zero_add, World.ownsRow.cellAt h.own j (by rw [← h.own.1]; exact (List.getElem?_eq_some_iff.1 hj).1)]
    exact hj
/-- At the start. -/
theorem PoD.first (hp : RdAt W b A cap S r) (hb : Below w.heap.size w W) (hr : W.heap[w.heap.size]? = some (poO ⟨#[]⟩ 0 0 0 0 (.slice none 0 0))) (hwb : w.heap.size < b) :
    PoD w (W.alloc (poO ⟨#[]⟩ 0 0 0 0 (.slice none 0 0))) b A cap S r W.heap.size ⟨#[]⟩ 0 0 0 0 [] (.slice none 0 0) [] :=
  ⟨hp.below (lbox W _), hb.trans ((lbox W _).mono hb.size), hwb, hp.row.lt, World.alloc_heap_new W _, kept_alloc hr _, World.ownsRow_nil _ _ _ _, rfl⟩
end
set_option maxHeartbeats 8000000 in
set_option maxRecDepth 100000 in
theorem rd6_Parse_ok (s : ByteArray) (w : World) (hm : s.size ≤ maxLen) (n : Nat) (lr : List Ru) (re : Rd) (h1 : rulesS (srcF s) n n [] (q9 (srcF s) ⟨0, 0, 0, 0⟩) = some (lr, re)) (hok : (re.kindR (srcF s) 1).err = 0) (j : Nat)
    (a : ByteArray) (fk dk : Int) (fv dv : Nat) (ha : ((q1 (srcF s) ⟨0, 0, 0, 0⟩).kindT (srcF s) 2).text = a) (hf : verdT (srcF s) (q4 (srcF s) ⟨0, 0, 0, 0⟩) = (fk, fv)) (hd : verdT (srcF s) (q7 (srcF s) ⟨0, 0, 0, 0⟩) = (dk, dv)) :
    Calls Tryd.prog 16 #[.string s] w (ParseP (PoP w.heap.size) (poV ⟨#[]⟩ 0 0 0 0 (.slice none 0 0)) w (.ok ⟨a, (fk, fv), (dk, dv), lr⟩ j)) := by
  have hsm := src_small s
  have s0 : (w.alloc (poO ⟨#[]⟩ 0 0 0 0 (.slice none 0 0))).heap.size = w.heap.size + 1 := by simp
  have HD : Hid (Calls Tryd.prog 26 #[.string s] (w.alloc (poO ⟨#[]⟩ 0 0 0 0 (.slice none 0 0))) (fun e w' => ∃ b A cap, e = .returned (.pointer (some ⟨b, 0, none⟩)) ∧ RdAt w' b A cap (srcF s) ⟨0, 0, 0, 0⟩ ∧ Below (w.heap.size + 1) (w.alloc (poO ⟨#[]⟩ 0 0 0 0 (.slice none 0 0))) w' ∧ w.heap.size + 1 ≤ b)) := Lib.hid (by
    have h := rd6_reader s (w.alloc (poO ⟨#[]⟩ 0 0 0 0 (.slice none 0 0))) hm hsm
    unfold ReaderP at h
    rw [s0] at h
    exact h)
  have h00 : J (srcF s) ⟨0, 0, 0, 0⟩ := ⟨Nat.zero_le _, fun _ => Nat.zero_le _⟩
  obtain ⟨S, hS⟩ : ∃ S, S = srcF s := ⟨_, rfl⟩
  rw [← hS] at h1 hok ha hf hd hsm HD h00
  try rw [← hS]
  clear hS
  obtain ⟨g1, g2, g3, g4, g5, g6, g7, g8, g9⟩ := goes_head (S := S) h00
  have k5 := goes_kind g4.j 2 (by decide)
  have k8 := goes_kind g7.j 2 (by decide)
  have l1 := g1.j.le; have l2 := g2.j.le; have l3 := g3.j.le; have l4 := g4.j.le; have l5 := g5.j.le; have l6 := g6.j.le; have l7 := g7.j.le; have l8 := g8.j.le; have l9 := g9.j.le
  have l5k := k5.j.le; have l8k := k8.j.le
  have C1 : Hid (∀ W b A cap, RdAt W b A cap S ⟨0, 0, 0, 0⟩ → Calls Tryd.prog 27 #[.pointer (some ⟨b, 0, none⟩), .int .i64 2, .string ⟨#[97, 114, 99, 104]⟩] W (RdP W b A cap S (.tuple #[]) (q1 S ⟨0, 0, 0, 0⟩))) := Lib.hid (fun W b A cap hW => rd6_want W b A cap S _ hW 2 ⟨#[97, 114, 99, 104]⟩ (Nat.zero_le _))
  have C2 : Hid (∀ W b A cap, RdAt W b A cap S (q1 S ⟨0, 0, 0, 0⟩) → Calls Tryd.prog 28 #[.pointer (some ⟨b, 0, none⟩), .int .i64 2] W (RdP W b A cap S (.agg #[.int .i64 ((q1 S ⟨0, 0, 0, 0⟩).kindT S 2).kind, .string a, .int .u64 (((q1 S ⟨0, 0, 0, 0⟩).kindT S 2).num : Int), .int .i64 (((q1 S ⟨0, 0, 0, 0⟩).kindT S 2).pos : Int)]) (q2 S ⟨0, 0, 0, 0⟩))) := Lib.hid (fun W b A cap hW => by rw [← ha]; exact rd6_kind W b A cap S _ hW 2 (by omega))
  have C3 : Hid (∀ W b A cap, RdAt W b A cap S (q2 S ⟨0, 0, 0, 0⟩) → Calls Tryd.prog 27 #[.pointer (some ⟨b, 0, none⟩), .int .i64 4, .string ⟨#[59]⟩] W (RdP W b A cap S (.tuple #[]) (q3 S ⟨0, 0, 0, 0⟩))) := Lib.hid (fun W b A cap hW => rd6_want W b A cap S _ hW 4 ⟨#[59]⟩ (by omega))
  have C4 : Hid (∀ W b A cap, RdAt W b A cap S (q3 S ⟨0, 0, 0, 0⟩) → Calls Tryd.prog 27 #[.pointer (some ⟨b, 0, none⟩), .int .i64 2, .string ⟨#[102, 111, 114, 101, 105, 103, 110]⟩] W (RdP W b A cap S (.tuple #[]) (q4 S ⟨0, 0, 0, 0⟩))) := Lib.hid (fun W b A cap hW => rd6_want W b A cap S _ hW 2 ⟨#[102, 111, 114, 101, 105, 103, 110]⟩ (by omega))
  have C5 : Hid (∀ W b A cap, RdAt W b A cap S (q4 S ⟨0, 0, 0, 0⟩) → Calls Tryd.prog 29 #[.pointer (some ⟨b, 0, none⟩)] W (RdP W b A cap S (.agg #[.int .i64 fk, .int .u64 (fv : Int)]) (q5 S ⟨0, 0, 0, 0⟩))) := Lib.hid (fun W b A cap hW => by have := rd6_verdict W b A cap S _ hW (by omega) (by omega); rw [hf] at this; exact this)
  have C6 : Hid (∀ W b A cap, RdAt W b A cap S (q5 S ⟨0, 0, 0, 0⟩) → Calls Tryd.prog 27 #[.pointer (some ⟨b, 0, none⟩), .int .i64 4, .string ⟨#[59]⟩] W (RdP W b A cap S (.tuple #[]) (q6 S ⟨0, 0, 0, 0⟩))) := Lib.hid (fun W b A cap hW => rd6_want W b A cap S _ hW 4 ⟨#[59]⟩ (by omega))
  have C7 : Hid (∀ W b A cap, RdAt W b A cap S (q6 S ⟨0, 0, 0, 0⟩) → Calls Tryd.prog 27 #[.pointer (some ⟨b, 0, none⟩), .int .i64 2, .string ⟨#[100, 101, 102, 97, 117, 108, 116]⟩] W (RdP W b A cap S (.tuple #[]) (q7 S ⟨0, 0, 0, 0⟩))) := Lib.hid (fun W b A cap hW => rd6_want W b A cap S _ hW 2 ⟨#[100, 101, 102, 97, 117, 108, 116]⟩ (by omega))
  have C8 : Hid (∀ W b A cap, RdAt W b A cap S (q7 S ⟨0, 0, 0, 0⟩) → Calls Tryd.prog 29 #[.pointer (some ⟨b, 0, none⟩)] W (RdP W b A cap S (.agg #[.int .i64 dk, .int .u64 (dv : Int)]) (q8 S ⟨0, 0, 0, 0⟩))) := Lib.hid (fun W b A cap hW => by have := rd6_verdict W b A cap S _ hW (by omega) (by omega); rw [hd] at this; exact this)
  have C9 : Hid (∀ W b A cap, RdAt W b A cap S (q8 S ⟨0, 0, 0, 0⟩) → Calls Tryd.prog 27 #[.pointer (some ⟨b, 0, none⟩), .int .i64 4, .string ⟨#[59]⟩] W (RdP W b A cap S (.tuple #[]) (q9 S ⟨0, 0, 0, 0⟩))) := Lib.hid (fun W b A cap hW => rd6_want W b A cap S _ hW 4 ⟨#[59]⟩ (by omega))
  have gE := goes_rules (S := S) n [] _ _ g9.j h1
  have HK := Lib.hid (fun W b A cap hp => rd6_kind W b A cap S re hp 1 (by have := gE.j.le; simp only at this; omega))
  have HO := Lib.hid hok
  have HJ := Lib.hid (And.intro g9.j (And.intro (show (q9 S ⟨0, 0, 0, 0⟩).deep = 0 from g9.deep) h1))
  clear ha hf hd h1 hok g1 g2 g3 g4 g5 g6 g7 g8 g9 k5 k8 l1 l2 l3 l4 l5 l6 l7 l8 l9 l5k l8k gE h00
  generalize q9 S ⟨0, 0, 0, 0⟩ = r9 at C9 HJ
  generalize q8 S ⟨0, 0, 0, 0⟩ = r8 at C8 C9
  generalize q7 S ⟨0, 0, 0, 0⟩ = r7 at C7 C8
  generalize q6 S ⟨0, 0, 0, 0⟩ = r6 at C6 C7
  generalize q5 S ⟨0, 0, 0, 0⟩ = r5 at C5 C6
  generalize q4 S ⟨0, 0, 0, 0⟩ = r4 at C4 C5
  generalize q3 S ⟨0, 0, 0, 0⟩ = r3 at C3 C4
  generalize q2 S ⟨0, 0, 0, 0⟩ = r2' at C2 C3
  generalize (q1 S ⟨0, 0, 0, 0⟩).kindT S 2 = t2 at C2
  generalize q1 S ⟨0, 0, 0, 0⟩ = r1' at C1 C2
  generalize re.kindR S 1 = r2 at HK HO ⊢
  generalize re.kindT S 1 = tq at HK
  have HR0 := Lib.hid (World.alloc_heap_new w (poO ⟨#[]⟩ 0 0 0 0 (.slice none 0 0)))
  have hfld : ∀ (k : Int) (t : ByteArray) (n p : Int) (w : World), (Instr.field 88 (.agg #[.int .i64 k, .string t, .int .u64 n, .int .i64 p]) 1).run Tryd.prog w = .ok (.string t) w := fun _ _ _ _ _ => rfl
  obtain ⟨i8, hi8, hz8, hs8, hb8⟩ := info_parts6 info_ru
  go_enter Tryd.func16, Tryd.ntmps16
  go_wp2_with (first
    | (go_at_call 26; (with_reducible refine HD.out.mono ?_); rintro e wr0 ⟨b, A, cap, rfl, hp, hb, hlo⟩; have I0 := Lib.hid (PoD.first (w := w) hp ((lbox w (poO ⟨#[]⟩ 0 0 0 0 (.slice none 0 0))).trans (hb.mono (Nat.le_succ _))) ((hb.block w.heap.size (Nat.lt_succ_self _)).trans HR0.out) hlo); clear hp hb hlo)
    | (go_at_call 27; (with_reducible refine (C1.out _ _ _ _ I0.out.rd).mono ?_); rintro e w01 ⟨rfl, hr, hg⟩; have I1 := Lib.hid (I0.out.call hr hg); clear hr hg I0)
    | (go_at_call 28; (with_reducible refine (C2.out _ _ _ _ I1.out.rd).mono ?_); rintro e w02 ⟨rfl, hr, hg⟩; have I2' := Lib.hid (I1.out.call hr hg); have e0 := cell6 I2'.out.box 0 rfl; have z0 := frozen6 I2'.out.box 0; have hl2 := I2'.out.size; have I2 := Lib.hid (I2'.out.setArch a); clear hr hg I1)
    | (go_at_call 27; (with_reducible refine (C3.out _ _ _ _ I2.out.rd).mono ?_); rintro e w03 ⟨rfl, hr, hg⟩; have I3 := Lib.hid (I2.out.call hr hg); clear hr hg I2 I2' e0 z0 hl2)
    | (go_at_call 27; (with_reducible refine (C4.out _ _ _ _ I3.out.rd).mono ?_); rintro e w04 ⟨rfl, hr, hg⟩; have I4 := Lib.hid (I3.out.call hr hg); clear hr hg I3)
    | (go_at_call 29; (with_reducible refine (C5.out _ _ _ _ I4.out.rd).mono ?_); rintro e w05 ⟨rfl, hr, hg⟩; have I5' := Lib.hid (I4.out.call hr hg); have e1 := cell6 I5'.out.box 1 rfl; have z1 := frozen6 I5'.out.box 1; have e2 := cell6 I5'.out.box 2 rfl; have z2 := frozen6 I5'.out.box 2; have hl5 := I5'.out.size; have I5 := Lib.hid ((I5'.out.set1 fk).set2 (fv : Int)); clear hr hg I4)
    | (go_at_call 27; (with_reducible refine (C6.out _ _ _ _ I5.out.rd).mono ?_); rintro e w06 ⟨rfl, hr, hg⟩; have I6 := Lib.hid (I5.out.call hr hg); clear hr hg I5 I5' e1 z1 e2 z2 hl5)
    | (go_at_call 27; (with_reducible refine (C7.out _ _ _ _ I6.out.rd).mono ?_); rintro e w07 ⟨rfl, hr, hg⟩; have I7 := Lib.hid (I6.out.call hr hg); clear hr hg I6)
    | (go_at_call 29; (with_reducible refine (C8.out _ _ _ _ I7.out.rd).mono ?_); rintro e w08 ⟨rfl, hr, hg⟩; have I8' := Lib.hid (I7.out.call hr hg); have e3 := cell6 I8'.out.box 3 rfl; have z3 := frozen6 I8'.out.box 3; have e4 := cell6 I8'.out.box 4 rfl; have z4 := frozen6 I8'.out.box 4; have hl8 := I8'.out.size; have I8 := Lib.hid ((I8'.out.set3 dk).set4 (dv : Int)); clear hr hg I7)
    | (go_at_call 27; (with_reducible refine (C9.out _ _ _ _ I8.out.rd).mono ?_); rintro e w09 ⟨rfl, hr, hg⟩; have I9 := Lib.hid (I8.out.call hr hg); clear hr hg I8 I8' e3 z3 e4 z4 hl8))
  obtain ⟨E, hEE⟩ : ∃ E, E = wr0.heap.size := ⟨_, rfl⟩
  rw [← hEE] at I9 ⊢
  clear hEE
  have HKb := Lib.hid (fun W hp => HK.out W b A cap hp)
  clear C1 C2 C3 C4 C5 C6 C7 C8 C9 HD HK
  have HK := HKb
  obtain ⟨fn, hfn⟩ : ∃ fn : Int, fn = (fv : Int) := ⟨_, rfl⟩
  obtain ⟨dn, hdn⟩ : ∃ dn : Int, dn = (dv : Int) := ⟨_, rfl⟩
  rw [← hfn, ← hdn] at I9
  have HFN := Lib.hid (And.intro hfn hdn)
  clear hfn hdn
  go_loopw [7, 8] (fun _ _ wr => ∃ l v xs m rr, rulesS S n m l rr = some (lr, re) ∧ Goes S r9 rr ∧ l.length ≤ 512 ∧ PoD w wr b A cap S rr E a fk fn dk dn l v xs) (fun _ _ wr => 513 - cellLen wr ⟨E, 5, none⟩)
  case atStart => exact ⟨_, _, _, _, _, HJ.out.2.2, .refl HJ.out.1, Nat.zero_le _, I9.out⟩
  case round =>
    obtain ⟨l, v, xs, m, rr, hrest, hgo, hll, hT⟩ := hrel
    obtain ⟨m, rfl⟩ : ∃ m', m = m' + 1 := ⟨m - 1, by
      rcases m with _ | m
      · cases hrest
      · rfl⟩
    obtain ⟨Av, nv, cv, rfl⟩ := own_form hT.own
    have hnv : nv = l.length := own_len hT.own
    have HT := Lib.hid hT
    have HCL : Hid (cellLen wr ⟨E, 5, none⟩ = l.length) := Lib.hid (by
      have h0 : wr.cell? ⟨E, 5, none⟩ = some (.slice Av nv cv) := cell6 HT.out.box 5 rfl
      unfold cellLen
      rw [h0]
      exact own_len HT.out.own)
    have hdeep : rr.deep = 0 := hgo.deep.trans HJ.out.2.1
    have c5 : wr.cell? ⟨b, 5, none⟩ = some (.int .i64 rr.err) := World.rowIs.cell HT.out.rd.row (i := 5) (by decide)
    have gA := goes_peek hgo.j
    have gB := goes_is gA.j 2 (by decide) bOn
    have hjl := hgo.j.le
    have hjl2 := gA.j.le
    have HPk := Lib.hid (fun W hW => rd6_peek W b A cap S rr hW)
    have hIs : ∀ W, RdAt W b A cap S (rr.peekR S) → Calls Tryd.prog 31 #[.pointer (some ⟨b, 0, none⟩), .int .i64 2, .string ⟨#[111, 110]⟩] W (RdP W b A cap S (.bool ((rr.peekR S).isB S 2 bOn)) ((rr.peekR S).isR S 2 bOn)) := fun W hW => rd6_is W b A cap S _ hW 2 ⟨#[111, 110]⟩ (by omega)
    have hFa := fun W hW => rd6_fails W b A cap S ((rr.peekR S).isR S 2 bOn) hW 63 (rr.peekT S).pos
    have hRu := fun (x : Ru) (r' : Rd) (hx : ruleS S n ((rr.peekR S).isR S 2 bOn) = some (x, r')) W hW => rd6_ruleS (w := W) (b := b) (A := A) (cap := cap) gB.j (by rw [gB.deep, gA.deep]; exact hdeep) hW hx
    unfold rulesS at hrest
    clear I9 hT
    by_cases he : rr.err = 0
    · have heb : (rr.err == 0) = true := beq_iff_eq.2 he
      rw [if_neg (fun g => g he)] at hrest
      clear he
      have hTE : ∀ k, (Array.size wr.heap) = k → E < k := fun k hk => by subst hk; exact HT.out.size
      generalize hqq : rr.peekT S = q at HPk hFa hrest
      generalize hrp : rr.peekR S = rp at HPk hIs hFa hRu hrest gA gB
      clear hqq hrp
      by_cases hb : rp.isB S 2 bOn = true
      · rw [if_pos hb] at hrest
        rw [hb] at hIs
        by_cases h5 : l.length = 512
        · rw [if_pos h5] at hrest
          injection hrest with hrest
          injection hrest with e1 e2
          subst e1
          subst e2
          have h5b : ((nv : Int) == 512) = true := by rw [hnv, h5]; rfl
          have h5c : (nv == 512) = true := by rw [hnv, h5]; rfl
          have HIs := Lib.hid hIs
          have HFa := Lib.hid hFa
          clear h5 hb hIs hFa hRu hgo hll hjl hjl2 hdeep hnv
          generalize rp.isR S 2 bOn = ri at HIs HFa HK gB
          clear gA gB
          go_wp2_with (first
            | (go_at_call 30; (with_reducible refine (HPk.out _ HT.out.rd).mono ?_); rintro e w1 ⟨rfl, hr1, hg1⟩; have HN := Lib.hid (HT.out.call hr1 hg1); have HTB : Hid ((w1.alloc (tkO q)).heap[w1.heap.size]? = some (tkO q)) := Lib.hid (World.alloc_heap_new w1 (tkO q)); have H1 : Hid (PoD w (w1.alloc (tkO q)) b A cap S rp E a fk fn dk dn l (.slice Av nv cv) xs) := Lib.hid (HN.out.alloc (tkO q)); have H1b : Hid (b < w1.heap.size) := Lib.hid hr1.row.lt; clear hr1 hg1 HN)
            | (go_at_call 31; (with_reducible refine (HIs.out _ H1.out.rd).mono ?_); rintro e w3 ⟨rfl, hr3, hg3⟩; have H3 : Hid (PoD w w3 b A cap S ri E a fk fn dk dn l (.slice Av nv cv) xs ∧ w3.heap[w1.heap.size]? = some (tkO q)) := Lib.hid ⟨H1.out.call hr3 hg3, kept_box HTB.out hg3 (by have h1 := H1b.out; omega)⟩; have f5 := cell6 H3.out.1.box 5 rfl; have p3 := cell6 H3.out.2 3 rfl; clear hr3 hg3 H1 HTB)
            | (go_at_call 32; (with_reducible refine (HFa.out _ H3.out.1.rd).mono ?_); rintro e w4 ⟨rfl, hr4, hg4⟩; have H4 := Lib.hid (H3.out.1.call hr4 hg4); clear hr4 hg4)
            | (go_at_call 28; (with_reducible refine (HK.out _ H4.out.rd).mono ?_); rintro e w5 ⟨rfl, hr5, hg5⟩; have H5 := Lib.hid (H4.out.call hr5 hg5); have c5 : w5.cell? ⟨b, 5, none⟩ = some (.int .i64 0) := (World.rowIs.cell H5.out.rd.row (i := 5) (by decide)).trans (by show some (Value.int .i64 r2.err) = _; rw [HO.out]); have c6 : w5.cell? ⟨b, 6, none⟩ = some (.int .i64 (r2.bad : Int)) := World.rowIs.cell H5.out.rd.row (i := 6) (by decide); have hE5 := H5.out.box; have hR5 := H5.out.res; have hlw : w.heap.size < w5.heap.size := (Array.getElem?_eq_some_iff.1 hR5).1; have m0 := cell6 hE5 0 rfl; have m1 := cell6 hE5 1 rfl; have m2 := cell6 hE5 2 rfl; have m3 := cell6 hE5 3 rfl; have m4 := cell6 hE5 4 rfl; have m5 := cell6 hE5 5 rfl; have u0 := cell6 hR5 0 rfl; have u1 := cell6 hR5 1 rfl; have u2 := cell6 hR5 2 rfl; have u3 := cell6 hR5 3 rfl; have u4 := cell6 hR5 4 rfl; have u5 := cell6 hR5 5 rfl; have y0 := frozen6 hR5 0; have y1 := frozen6 hR5 1; have y2 := frozen6 hR5 2; have y3 := frozen6 hR5 3; have y4 := frozen6 hR5 4; have y5 := frozen6 hR5 5; clear hr5 hg5 hE5 hR5))
          exact bodyPost_ret (v := .tuple #[poV a fk fn dk dn (.slice Av nv cv), .int .i64 0, .int .i64 0]) (by simp [results, Tryd.results16, go_sem, u0, u1, u2, u3, u4, u5, World.cell?_setCell_same']) rfl ⟨_, rfl, ⟨.slice Av nv cv, by rw [HFN.out.1, HFN.out.2], rules_set6 H5.out.rules (by have h1 := H5.out.wb; have h2 := H5.out.bE; omega) _ _ _ _ _ _⟩, (((((H5.out.bel.setCell (p := ⟨w.heap.size, 0, none⟩) (Nat.le_refl _) _).setCell (p := ⟨w.heap.size, 1, none⟩) (Nat.le_refl _) _).setCell (p := ⟨w.heap.size, 2, none⟩) (Nat.le_refl _) _).setCell (p := ⟨w.heap.size, 3, none⟩) (Nat.le_refl _) _).setCell (p := ⟨w.heap.size, 4, none⟩) (Nat.le_refl _) _).setCell (p := ⟨w.heap.size, 5, none⟩) (Nat.le_refl _) _⟩
        · rw [if_neg h5] at hrest
          have h5b : ((nv : Int) == 512) = false := beq_false_of_ne (by omega)
          have h5c : (nv == 512) = false := beq_false_of_ne (by omega)
          cases hxr : ruleS S n (rp.isR S 2 bOn) with
          | none => rw [hxr] at hrest; cases hrest
          | some y =>
            obtain ⟨xr, r4⟩ := y
            rw [hxr] at hrest
            have gR := goes_rule gB.j hxr
            have HRS : Hid (rulesS S n m (l ++ [xr]) r4 = some (lr, re)) := Lib.hid hrest
            have HJ2 : Hid (Goes S r9 r4) := Lib.hid (((hgo.trans gA).trans gB).trans gR)
            have HLL : Hid ((l ++ [xr]).length ≤ 512) := Lib.hid (by rw [List.length_append]; simp only [List.length_cons, List.length_nil]; omega)
            have HRu := Lib.hid (hRu xr r4 hxr)
            have HIs := Lib.hid hIs
            clear hrest hb hIs hFa hRu hgo hjl hjl2 hdeep gR hxr HK hnv
            generalize rp.isR S 2 bOn = ri at HIs HRu gB
            clear gA gB
            go_wp2_with (first
              | (go_at_call 30; (with_reducible refine (HPk.out _ HT.out.rd).mono ?_); rintro e w1 ⟨rfl, hr1, hg1⟩; have HN := Lib.hid (HT.out.call hr1 hg1); have HTB : Hid ((w1.alloc (tkO q)).heap[w1.heap.size]? = some (tkO q)) := Lib.hid (World.alloc_heap_new w1 (tkO q)); have H1 : Hid (PoD w (w1.alloc (tkO q)) b A cap S rp E a fk fn dk dn l (.slice Av nv cv) xs) := Lib.hid (HN.out.alloc (tkO q)); have H1b : Hid (b < w1.heap.size) := Lib.hid hr1.row.lt; clear hr1 hg1 HN)
              | (go_at_call 31; (with_reducible refine (HIs.out _ H1.out.rd).mono ?_); rintro e w3 ⟨rfl, hr3, hg3⟩; have H3 : Hid (PoD w w3 b A cap S ri E a fk fn dk dn l (.slice Av nv cv) xs ∧ w3.heap[w1.heap.size]? = some (tkO q)) := Lib.hid ⟨H1.out.call hr3 hg3, kept_box HTB.out hg3 (by have h1 := H1b.out; omega)⟩; have f5 := cell6 H3.out.1.box 5 rfl; have p3 := cell6 H3.out.2 3 rfl; clear hr3 hg3 H1 HTB))
            refine wp_region_held_drew (S := fun _ => True) (by kernel_rfl) trivial (fun _ => ?_)
            have HY : Hid (PoD w w3.drew b A cap S ri E a fk fn dk dn l (.slice Av nv cv) xs) := Lib.hid (H3.out.1.drawn 1)
            clear H3
            generalize w3.drew = Y at HY ⊢
            have hby : Y.cell? ⟨E, 5, none⟩ = some (.slice Av nv cv) := cell6 HY.out.box 5 rfl
            refine wpAnyH_take (i := 0) (v := ?_) rfl (by kernel_rfl) (by kernel_rfl) (by kernel_rfl) (fun _ _ _ h => h) (Or.inl ⟨by rfl, ?_⟩) (by assumption) ?_
            rotate_left
            · intro wS hSw
              (skip)
              go_simp
              all_goals with_reducible rfl
            (try simp only [List.getElem_toArray, List.getElem_cons_zero, List.getElem_cons_succ, Act.put, List.setIfInBounds_toArray, List.set_cons_zero, List.set_cons_succ])
            refine wpAnyH_take (i := 2) (v := ?_) rfl (by kernel_rfl) (by kernel_rfl) (by kernel_rfl) (fun _ _ _ h => h) (Or.inl ⟨by rfl, ?_⟩) (by assumption) ?_
            rotate_left
            · intro wS hSw
              (skip)
              go_simp
              all_goals with_reducible rfl
            (try simp only [List.getElem_toArray, List.getElem_cons_zero, List.getElem_cons_succ, Act.put, List.setIfInBounds_toArray, List.set_cons_zero, List.set_cons_succ])
            refine wpAnyH_ready (rs := [1, 3]) (by kernel_rfl) (by simp) (AllReadyH.cons rfl (fun K hK => ?_) (AllReadyH.cons rfl (fun K hK => ?_) AllReadyH.nil))
            · go_simp
              refine hK.out _ _ trivial (fun _ => ?_)
              clear hK K
              (try simp only [Act.put, List.setIfInBounds_toArray, List.set_cons_zero, List.set_cons_succ, List.getElem_toArray, List.getElem_cons_zero, List.getElem_cons_succ])
              refine held_one (i := 3) (by kernel_rfl) rfl (fun K hK => ?_)
              go_simp
              go_at_call 33
              refine (HRu.out _ HY.out.rd).mono ?_
              rintro e w4 ⟨rv, rfl, ⟨tb, capc, Ax, cx, rfl, hxr⟩, hr4, hg4⟩
              have HZ := Lib.hid (HY.out.call hr4 hg4)
              have HXR : Hid (RuIn w4 (fun k => E + 1 ≤ k ∧ some k ≠ (Value.slice Av nv cv).ownBlock) xr tb Ax cx) := Lib.hid (hxr.keep (Nat.le_refl _) (fun k hk => ⟨by have := HY.out.size; omega, fun e => by have := (HY.out.own.lt k e.symm).2; omega⟩) (fun _ _ _ => rfl))
              have hbz : w4.cell? ⟨E, 5, none⟩ = some (.slice Av nv cv) := cell6 HZ.out.box 5 rfl
              refine hK.out _ _ trivial (fun _ => ?_)
              clear hK K hr4 hg4 hxr
              (try simp only [Act.put, List.setIfInBounds_toArray, List.set_cons_zero, List.set_cons_succ, List.getElem_toArray, List.getElem_cons_zero, List.getElem_cons_succ])
              refine held_one (i := 4) (by kernel_rfl) rfl (fun K hK => ?_)
              go_simp
              refine hK.out _ _ trivial (fun _ => ?_)
              clear hK K
              (try simp only [Act.put, List.setIfInBounds_toArray, List.set_cons_zero, List.set_cons_succ, List.getElem_toArray, List.getElem_cons_zero, List.getElem_cons_succ])
              refine held_one (i := 5) (by kernel_rfl) rfl (fun K hK => ?_)
              rw [if_pos (by kernel_rfl)]
              refine oper_append6 (.tmp 53) (.tmp 56) 26 rfl (E + 1) 46 i8 (.agg #[.slice none 0 0, .int .i64 0, .slice none 0 0, .int .i64 0, .int .u64 0, .int .i64 0, .int .u64 0, .int .i64 0, .int .u64 0]) 9 104 Tryd.underlying26 hi8 hz8 hs8 hb8 rfl (by decide) (.slice Av nv cv) l.length xs rfl (own_below HZ.out.own (lbox w4 _)) ⟨w4.heap.size, 0, none⟩ 1 1 (ruC xr tb capc Ax cx) rfl rfl (ru_cells _ _ rfl _ _ _ _ _) ru_one (by unfold maxLen; omega) (by omega) (by have := HZ.out.size; simp; omega) ?_
              intro v' wd ho hg hv
              obtain ⟨A', n', c', rfl⟩ := own_form ho
              have HW := Lib.hid (HZ.out.turn HXR.out ho hg hv)
              refine hK.out _ _ trivial (fun _ => ?_)
              clear hK K ho hg hv
              (try simp only [Act.put, List.setIfInBounds_toArray, List.set_cons_zero, List.set_cons_succ, List.getElem_toArray, List.getElem_cons_zero, List.getElem_cons_succ])
              have hbE := HW.out.2
              have hlE : E < wd.heap.size := (Array.getElem?_eq_some_iff.1 hbE).1
              have q0 := cell6 hbE 5 rfl
              have q0f := frozen6 hbE 5
              refine wpAnyH_take (i := 6) (v := ?_) rfl (by kernel_rfl) (by kernel_rfl) (by kernel_rfl) (fun _ _ _ h => h) (Or.inl ⟨by rfl, ?_⟩) (by assumption) ?_
              rotate_left
              · intro wS hSw
                (skip)
                go_simp
                all_goals with_reducible rfl
              (try simp only [List.getElem_toArray, List.getElem_cons_zero, List.getElem_cons_succ, Act.put, List.setIfInBounds_toArray, List.set_cons_zero, List.set_cons_succ])
              refine held_one (i := 7) (by kernel_rfl) rfl (fun K hK => ?_)
              go_simp
              refine hK.out _ _ trivial (fun _ => ?_)
              clear hK K hbE hlE q0 q0f
              refine wpAnyH_done (by kernel_rfl) ?_ _
              have HX := Lib.hid HW.out.1
              clear HW
              generalize wd.setCell ⟨E, 5, none⟩ (.slice A' n' c') = wx at HX ⊢
              go_wp2
              exact ⟨⟨_, _, _, _, _, HRS.out, HJ2.out, HLL.out, HX.out⟩, by
                have h0 : wx.cell? ⟨E, 5, none⟩ = some (.slice A' n' c') := cell6 HX.out.box 5 rfl
                have h1 := own_len HX.out.own
                have h2 := HLL.out
                rw [HCL.out]
                unfold cellLen
                rw [h0]
                simp only [h1]
                rw [List.length_append] at h2 ⊢
                simp only [List.length_cons, List.length_nil] at h2 ⊢
                omega⟩
            · go_simp
              go_at_call 33
              refine (HRu.out _ HY.out.rd).mono ?_
              rintro e w4 ⟨rv, rfl, ⟨tb, capc, Ax, cx, rfl, hxr⟩, hr4, hg4⟩
              have HZ := Lib.hid (HY.out.call hr4 hg4)
              have HXR : Hid (RuIn w4 (fun k => E + 1 ≤ k ∧ some k ≠ (Value.slice Av nv cv).ownBlock) xr tb Ax cx) := Lib.hid (hxr.keep (Nat.le_refl _) (fun k hk => ⟨by have := HY.out.size; omega, fun e => by have := (HY.out.own.lt k e.symm).2; omega⟩) (fun _ _ _ => rfl))
              have hbz : w4.cell? ⟨E, 5, none⟩ = some (.slice Av nv cv) := cell6 HZ.out.box 5 rfl
              refine hK.out _ _ trivial (fun _ => ?_)
              clear hK K hr4 hg4 hxr
              (try simp only [Act.put, List.setIfInBounds_toArray, List.set_cons_zero, List.set_cons_succ, List.getElem_toArray, List.getElem_cons_zero, List.getElem_cons_succ])
              refine wpAnyH_ready (rs := [1, 4]) (by kernel_rfl) (by simp) (AllReadyH.cons rfl (fun K hK => ?_) (AllReadyH.cons rfl (fun K hK => ?_) AllReadyH.nil))
              · go_simp
                refine hK.out _ _ trivial (fun _ => ?_)
                clear hK K
                (try simp only [Act.put, List.setIfInBounds_toArray, List.set_cons_zero, List.set_cons_succ, List.getElem_toArray, List.getElem_cons_zero, List.getElem_cons_succ])
                refine held_one (i := 4) (by kernel_rfl) rfl (fun K hK => ?_)
                go_simp
                refine hK.out _ _ trivial (fun _ => ?_)
                clear hK K
                (try simp only [Act.put, List.setIfInBounds_toArray, List.set_cons_zero, List.set_cons_succ, List.getElem_toArray, List.getElem_cons_zero, List.getElem_cons_succ])
                refine held_one (i := 5) (by kernel_rfl) rfl (fun K hK => ?_)
                rw [if_pos (by kernel_rfl)]
                refine oper_append6 (.tmp 53) (.tmp 56) 26 rfl (E + 1) 46 i8 (.agg #[.slice none 0 0, .int .i64 0, .slice none 0 0, .int .i64 0, .int .u64 0, .int .i64 0, .int .u64 0, .int .i64 0, .int .u64 0]) 9 104 Tryd.underlying26 hi8 hz8 hs8 hb8 rfl (by decide) (.slice Av nv cv) l.length xs rfl (own_below HZ.out.own (lbox w4 _)) ⟨w4.heap.size, 0, none⟩ 1 1 (ruC xr tb capc Ax cx) rfl rfl (ru_cells _ _ rfl _ _ _ _ _) ru_one (by unfold maxLen; omega) (by omega) (by have := HZ.out.size; simp; omega) ?_
                intro v' wd ho hg hv
                obtain ⟨A', n', c', rfl⟩ := own_form ho
                have HW := Lib.hid (HZ.out.turn HXR.out ho hg hv)
                refine hK.out _ _ trivial (fun _ => ?_)
                clear hK K ho hg hv
                (try simp only [Act.put, List.setIfInBounds_toArray, List.set_cons_zero, List.set_cons_succ, List.getElem_toArray, List.getElem_cons_zero, List.getElem_cons_succ])
                have hbE := HW.out.2
                have hlE : E < wd.heap.size := (Array.getElem?_eq_some_iff.1 hbE).1
                have q0 := cell6 hbE 5 rfl
                have q0f := frozen6 hbE 5
                refine wpAnyH_take (i := 6) (v := ?_) rfl (by kernel_rfl) (by kernel_rfl) (by kernel_rfl) (fun _ _ _ h => h) (Or.inl ⟨by rfl, ?_⟩) (by assumption) ?_
                rotate_left
                · intro wS hSw
                  (skip)
                  go_simp
                  all_goals with_reducible rfl
                (try simp only [List.getElem_toArray, List.getElem_cons_zero, List.getElem_cons_succ, Act.put, List.setIfInBounds_toArray, List.set_cons_zero, List.set_cons_succ])
                refine held_one (i := 7) (by kernel_rfl) rfl (fun K hK => ?_)
                go_simp
                refine hK.out _ _ trivial (fun _ => ?_)
                clear hK K hbE hlE q0 q0f
                refine wpAnyH_done (by kernel_rfl) ?_ _
                have HX := Lib.hid HW.out.1
                clear HW
                generalize wd.setCell ⟨E, 5, none⟩ (.slice A' n' c') = wx at HX ⊢
                go_wp2
                exact ⟨⟨_, _, _, _, _, HRS.out, HJ2.out, HLL.out, HX.out⟩, by
                  have h0 : wx.cell? ⟨E, 5, none⟩ = some (.slice A' n' c') := cell6 HX.out.box 5 rfl
                  have h1 := own_len HX.out.own
                  have h2 := HLL.out
                  rw [HCL.out]
                  unfold cellLen
                  rw [h0]
                  simp only [h1]
                  rw [List.length_append] at h2 ⊢
                  simp only [List.length_cons, List.length_nil] at h2 ⊢
                  omega⟩
              · go_simp
                refine hK.out _ _ trivial (fun _ => ?_)
                clear hK K
                (try simp only [Act.put, List.setIfInBounds_toArray, List.set_cons_zero, List.set_cons_succ, List.getElem_toArray, List.getElem_cons_zero, List.getElem_cons_succ])
                have hba : ∀ o, (w4.alloc o).cell? ⟨E, 5, none⟩ = some (.slice Av nv cv) := fun o => cell6 (kept_alloc HZ.out.box o) 5 rfl
                refine held_one (i := 1) (by kernel_rfl) rfl (fun K hK => ?_)
                go_simp
                refine hK.out _ _ trivial (fun _ => ?_)
                clear hK K
                (try simp only [Act.put, List.setIfInBounds_toArray, List.set_cons_zero, List.set_cons_succ, List.getElem_toArray, List.getElem_cons_zero, List.getElem_cons_succ])
                refine held_one (i := 5) (by kernel_rfl) rfl (fun K hK => ?_)
                rw [if_pos (by kernel_rfl)]
                refine oper_append6 (.tmp 53) (.tmp 56) 26 rfl (E + 1) 46 i8 (.agg #[.slice none 0 0, .int .i64 0, .slice none 0 0, .int .i64 0, .int .u64 0, .int .i64 0, .int .u64 0, .int .i64 0, .int .u64 0]) 9 104 Tryd.underlying26 hi8 hz8 hs8 hb8 rfl (by decide) (.slice Av nv cv) l.length xs rfl (own_below HZ.out.own (lbox w4 _)) ⟨w4.heap.size, 0, none⟩ 1 1 (ruC xr tb capc Ax cx) rfl rfl (ru_cells _ _ rfl _ _ _ _ _) ru_one (by unfold maxLen; omega) (by omega) (by have := HZ.out.size; simp; omega) ?_
                intro v' wd ho hg hv
                obtain ⟨A', n', c', rfl⟩ := own_form ho
                have HW := Lib.hid (HZ.out.turn HXR.out ho hg hv)
                refine hK.out _ _ trivial (fun _ => ?_)
                clear hK K ho hg hv
                (try simp only [Act.put, List.setIfInBounds_toArray, List.set_cons_zero, List.set_cons_succ, List.getElem_toArray, List.getElem_cons_zero, List.getElem_cons_succ])
                have hbE := HW.out.2
                have hlE : E < wd.heap.size := (Array.getElem?_eq_some_iff.1 hbE).1
                have q0 := cell6 hbE 5 rfl
                have q0f := frozen6 hbE 5
                refine wpAnyH_take (i := 6) (v := ?_) rfl (by kernel_rfl) (by kernel_rfl) (by kernel_rfl) (fun _ _ _ h => h) (Or.inl ⟨by rfl, ?_⟩) (by assumption) ?_
                rotate_left
                · intro wS hSw
                  (skip)
                  go_simp
                  all_goals with_reducible rfl
                (try simp only [List.getElem_toArray, List.getElem_cons_zero, List.getElem_cons_succ, Act.put, List.setIfInBounds_toArray, List.set_cons_zero, List.set_cons_succ])
                refine held_one (i := 7) (by kernel_rfl) rfl (fun K hK => ?_)
                go_simp
                refine hK.out _ _ trivial (fun _ => ?_)
                clear hK K hbE hlE q0 q0f
                refine wpAnyH_done (by kernel_rfl) ?_ _
                have HX := Lib.hid HW.out.1
                clear HW
                generalize wd.setCell ⟨E, 5, none⟩ (.slice A' n' c') = wx at HX ⊢
                go_wp2
                exact ⟨⟨_, _, _, _, _, HRS.out, HJ2.out, HLL.out, HX.out⟩, by
                  have h0 : wx.cell? ⟨E, 5, none⟩ = some (.slice A' n' c') := cell6 HX.out.box 5 rfl
                  have h1 := own_len HX.out.own
                  have h2 := HLL.out
                  rw [HCL.out]
                  unfold cellLen
                  rw [h0]
                  simp only [h1]
                  rw [List.length_append] at h2 ⊢
                  simp only [List.length_cons, List.length_nil] at h2 ⊢
                  omega⟩
      · have hbf : rp.isB S 2 bOn = false := by cases hq : rp.isB S 2 bOn with
          | true => exact absurd hq hb
          | false => rfl
        rw [if_neg hb] at hrest
        rw [hbf] at hIs
        injection hrest with hrest
        injection hrest with e1 e2
        subst e1
        subst e2
        have HIs := Lib.hid hIs
        clear hb hbf hIs hFa hRu hgo hll hjl hjl2 hdeep hnv
        generalize rp.isR S 2 bOn = ri at HIs HK gB
        clear gA gB
        go_wp2_with (first
          | (go_at_call 30; (with_reducible refine (HPk.out _ HT.out.rd).mono ?_); rintro e w1 ⟨rfl, hr1, hg1⟩; have HN := Lib.hid (HT.out.call hr1 hg1); have HTB : Hid ((w1.alloc (tkO q)).heap[w1.heap.size]? = some (tkO q)) := Lib.hid (World.alloc_heap_new w1 (tkO q)); have H1 : Hid (PoD w (w1.alloc (tkO q)) b A cap S rp E a fk fn dk dn l (.slice Av nv cv) xs) := Lib.hid (HN.out.alloc (tkO q)); have H1b : Hid (b < w1.heap.size) := Lib.hid hr1.row.lt; clear hr1 hg1 HN)
          | (go_at_call 31; (with_reducible refine (HIs.out _ H1.out.rd).mono ?_); rintro e w3 ⟨rfl, hr3, hg3⟩; have H3 : Hid (PoD w w3 b A cap S ri E a fk fn dk dn l (.slice Av nv cv) xs ∧ w3.heap[w1.heap.size]? = some (tkO q)) := Lib.hid ⟨H1.out.call hr3 hg3, kept_box HTB.out hg3 (by have h1 := H1b.out; omega)⟩; have f5 := cell6 H3.out.1.box 5 rfl; have p3 := cell6 H3.out.2 3 rfl; clear hr3 hg3 H1 HTB)
          | (go_at_call 28; (with_reducible refine (HK.out _ H3.out.1.rd).mono ?_); rintro e w5 ⟨rfl, hr5, hg5⟩; have H5 := Lib.hid (H3.out.1.call hr5 hg5); have c5 : w5.cell? ⟨b, 5, none⟩ = some (.int .i64 0) := (World.rowIs.cell H5.out.rd.row (i := 5) (by decide)).trans (by show some (Value.int .i64 r2.err) = _; rw [HO.out]); have c6 : w5.cell? ⟨b, 6, none⟩ = some (.int .i64 (r2.bad : Int)) := World.rowIs.cell H5.out.rd.row (i := 6) (by decide); have hE5 := H5.out.box; have hR5 := H5.out.res; have hlw : w.heap.size < w5.heap.size := (Array.getElem?_eq_some_iff.1 hR5).1; have m0 := cell6 hE5 0 rfl; have m1 := cell6 hE5 1 rfl; have m2 := cell6 hE5 2 rfl; have m3 := cell6 hE5 3 rfl; have m4 := cell6 hE5 4 rfl; have m5 := cell6 hE5 5 rfl; have u0 := cell6 hR5 0 rfl; have u1 := cell6 hR5 1 rfl; have u2 := cell6 hR5 2 rfl; have u3 := cell6 hR5 3 rfl; have u4 := cell6 hR5 4 rfl; have u5 := cell6 hR5 5 rfl; have y0 := frozen6 hR5 0; have y1 := frozen6 hR5 1; have y2 := frozen6 hR5 2; have y3 := frozen6 hR5 3; have y4 := frozen6 hR5 4; have y5 := frozen6 hR5 5; clear hr5 hg5 hE5 hR5))
        exact bodyPost_ret (v := .tuple #[poV a fk fn dk dn (.slice Av nv cv), .int .i64 0, .int .i64 0]) (by simp [results, Tryd.results16, go_sem, u0, u1, u2, u3, u4, u5, World.cell?_setCell_same']) rfl ⟨_, rfl, ⟨.slice Av nv cv, by rw [HFN.out.1, HFN.out.2], rules_set6 H5.out.rules (by have h1 := H5.out.wb; have h2 := H5.out.bE; omega) _ _ _ _ _ _⟩, (((((H5.out.bel.setCell (p := ⟨w.heap.size, 0, none⟩) (Nat.le_refl _) _).setCell (p := ⟨w.heap.size, 1, none⟩) (Nat.le_refl _) _).setCell (p := ⟨w.heap.size, 2, none⟩) (Nat.le_refl _) _).setCell (p := ⟨w.heap.size, 3, none⟩) (Nat.le_refl _) _).setCell (p := ⟨w.heap.size, 4, none⟩) (Nat.le_refl _) _).setCell (p := ⟨w.heap.size, 5, none⟩) (Nat.le_refl _) _⟩
    · have heb : (rr.err == 0) = false := beq_false_of_ne he
      rw [if_pos he] at hrest
      injection hrest with hrest
      injection hrest with e1 e2
      subst e1
      subst e2
      clear he hIs hFa hRu hgo hll hjl hjl2 hdeep gA gB HPk hnv
      go_wp2_with (first
        | (go_at_call 28; (with_reducible refine (HK.out _ HT.out.rd).mono ?_); rintro e w5 ⟨rfl, hr5, hg5⟩; have H5 := Lib.hid (HT.out.call hr5 hg5); have c5 : w5.cell? ⟨b, 5, none⟩ = some (.int .i64 0) := (World.rowIs.cell H5.out.rd.row (i := 5) (by decide)).trans (by show some (Value.int .i64 r2.err) = _; rw [HO.out]); have c6 : w5.cell? ⟨b, 6, none⟩ = some (.int .i64 (r2.bad : Int)) := World.rowIs.cell H5.out.rd.row (i := 6) (by decide); have hE5 := H5.out.box; have hR5 := H5.out.res; have hlw : w.heap.size < w5.heap.size := (Array.getElem?_eq_some_iff.1 hR5).1; have m0 := cell6 hE5 0 rfl; have m1 := cell6 hE5 1 rfl; have m2 := cell6 hE5 2 rfl; have m3 := cell6 hE5 3 rfl; have m4 := cell6 hE5 4 rfl; have m5 := cell6 hE5 5 rfl; have u0 := cell6 hR5 0 rfl; have u1 := cell6 hR5 1 rfl; have u2 := cell6 hR5 2 rfl; have u3 := cell6 hR5 3 rfl; have u4 := cell6 hR5 4 rfl; have u5 := cell6 hR5 5 rfl; have y0 := frozen6 hR5 0; have y1 := frozen6 hR5 1; have y2 := frozen6 hR5 2; have y3 := frozen6 hR5 3; have y4 := frozen6 hR5 4; have y5 := frozen6 hR5 5; clear hr5 hg5 hE5 hR5))
      exact bodyPost_ret (v := .tuple #[poV a fk fn dk dn (.slice Av nv cv), .int .i64 0, .int .i64 0]) (by simp [results, Tryd.results16, go_sem, u0, u1, u2, u3, u4, u5, World.cell?_setCell_same']) rfl ⟨_, rfl, ⟨.slice Av nv cv, by rw [HFN.out.1, HFN.out.2], rules_set6 H5.out.rules (by have h1 := H5.out.wb; have h2 := H5.out.bE; omega) _ _ _ _ _ _⟩, (((((H5.out.bel.setCell (p := ⟨w.heap.size, 0, none⟩) (Nat.le_refl _) _).setCell (p := ⟨w.heap.size, 1, none⟩) (Nat.le_refl _) _).setCell (p := ⟨w.heap.size, 2, none⟩) (Nat.le_refl _) _).setCell (p := ⟨w.heap.size, 3, none⟩) (Nat.le_refl _) _).setCell (p := ⟨w.heap.size, 4, none⟩) (Nat.le_refl _) _).setCell (p := ⟨w.heap.size, 5, none⟩) (Nat.le_refl _) _⟩
set_option maxHeartbeats 8000000 in
set_option maxRecDepth 100000 in
theorem rd6_Parse_bad (s : ByteArray) (w : World) (hm : s.size ≤ maxLen) (n : Nat) (lr : List Ru) (re : Rd) (h1 : rulesS (srcF s) n n [] (q9 (srcF s) ⟨0, 0, 0, 0⟩) = some (lr, re)) (hok : (re.kindR (srcF s) 1).err ≠ 0)
    (a : ByteArray) (fk dk : Int) (fv dv : Nat) (ha : ((q1 (srcF s) ⟨0, 0, 0, 0⟩).kindT (srcF s) 2).text = a) (hf : verdT (srcF s) (q4 (srcF s) ⟨0, 0, 0, 0⟩) = (fk, fv)) (hd : verdT (srcF s) (q7 (srcF s) ⟨0, 0, 0, 0⟩) = (dk, dv)) :
    Calls Tryd.prog 16 #[.string s] w (ParseP (PoP w.heap.size) (poV ⟨#[]⟩ 0 0 0 0 (.slice none 0 0)) w (.bad (re.kindR (srcF s) 1).err (re.kindR (srcF s) 1).bad)) := by
  have hsm := src_small s
  have s0 : (w.alloc (poO ⟨#[]⟩ 0 0 0 0 (.slice none 0 0))).heap.size = w.heap.size + 1 := by simp
  have HD : Hid (Calls Tryd.prog 26 #[.string s] (w.alloc (poO ⟨#[]⟩ 0 0 0 0 (.slice none 0 0))) (fun e w' => ∃ b A cap, e = .returned (.pointer (some ⟨b, 0, none⟩)) ∧ RdAt w' b A cap (srcF s) ⟨0, 0, 0, 0⟩ ∧ Below (w.heap.size + 1) (w.alloc (poO ⟨#[]⟩ 0 0 0 0 (.slice none 0 0))) w' ∧ w.heap.size + 1 ≤ b)) := Lib.hid (by
    have h := rd6_reader s (w.alloc (poO ⟨#[]⟩ 0 0 0 0 (.slice none 0 0))) hm hsm
    unfold ReaderP at h
    rw [s0] at h
    exact h)
  have h00 : J (srcF s) ⟨0, 0, 0, 0⟩ := ⟨Nat.zero_le _, fun _ => Nat.zero_le _⟩
  obtain ⟨S, hS⟩ : ∃ S, S = srcF s := ⟨_, rfl⟩
  rw [← hS] at h1 hok ha hf hd hsm HD h00
  try rw [← hS]
  clear hS
  obtain ⟨g1, g2, g3, g4, g5, g6, g7, g8, g9⟩ := goes_head (S := S) h00
  have k5 := goes_kind g4.j 2 (by decide)
  have k8 := goes_kind g7.j 2 (by decide)
  have l1 := g1.j.le; have l2 := g2.j.le; have l3 := g3.j.le; have l4 := g4.j.le; have l5 := g5.j.le; have l6 := g6.j.le; have l7 := g7.j.le; have l8 := g8.j.le; have l9 := g9.j.le
  have l5k := k5.j.le; have l8k := k8.j.le
  have C1 : Hid (∀ W b A cap, RdAt W b A cap S ⟨0, 0, 0, 0⟩ → Calls Tryd.prog 27 #[.pointer (some ⟨b, 0, none⟩), .int .i64 2, .string ⟨#[97, 114, 99, 104]⟩] W (RdP W b A cap S (.tuple #[]) (q1 S ⟨0, 0, 0, 0⟩))) := Lib.hid (fun W b A cap hW => rd6_want W b A cap S _ hW 2 ⟨#[97, 114, 99, 104]⟩ (Nat.zero_le _))
  have C2 : Hid (∀ W b A cap, RdAt W b A cap S (q1 S ⟨0, 0, 0, 0⟩) → Calls Tryd.prog 28 #[.pointer (some ⟨b, 0, none⟩), .int .i64 2] W (RdP W b A cap S (.agg #[.int .i64 ((q1 S ⟨0, 0, 0, 0⟩).kindT S 2).kind, .string a, .int .u64 (((q1 S ⟨0, 0, 0, 0⟩).kindT S 2).num : Int), .int .i64 (((q1 S ⟨0, 0, 0, 0⟩).kindT S 2).pos : Int)]) (q2 S ⟨0, 0, 0, 0⟩))) := Lib.hid (fun W b A cap hW => by rw [← ha]; exact rd6_kind W b A cap S _ hW 2 (by omega))
  have C3 : Hid (∀ W b A cap, RdAt W b A cap S (q2 S ⟨0, 0, 0, 0⟩) → Calls Tryd.prog 27 #[.pointer (some ⟨b, 0, none⟩), .int .i64 4, .string ⟨#[59]⟩] W (RdP W b A cap S (.tuple #[]) (q3 S ⟨0, 0, 0, 0⟩))) := Lib.hid (fun W b A cap hW => rd6_want W b A cap S _ hW 4 ⟨#[59]⟩ (by omega))
  have C4 : Hid (∀ W b A cap, RdAt W b A cap S (q3 S ⟨0, 0, 0, 0⟩) → Calls Tryd.prog 27 #[.pointer (some ⟨b, 0, none⟩), .int .i64 2, .string ⟨#[102, 111, 114, 101, 105, 103, 110]⟩] W (RdP W b A cap S (.tuple #[]) (q4 S ⟨0, 0, 0, 0⟩))) := Lib.hid (fun W b A cap hW => rd6_want W b A cap S _ hW 2 ⟨#[102, 111, 114, 101, 105, 103, 110]⟩ (by omega))
  have C5 : Hid (∀ W b A cap, RdAt W b A cap S (q4 S ⟨0, 0, 0, 0⟩) → Calls Tryd.prog 29 #[.pointer (some ⟨b, 0, none⟩)] W (RdP W b A cap S (.agg #[.int .i64 fk, .int .u64 (fv : Int)]) (q5 S ⟨0, 0, 0, 0⟩))) := Lib.hid (fun W b A cap hW => by have := rd6_verdict W b A cap S _ hW (by omega) (by omega); rw [hf] at this; exact this)
  have C6 : Hid (∀ W b A cap, RdAt W b A cap S (q5 S ⟨0, 0, 0, 0⟩) → Calls Tryd.prog 27 #[.pointer (some ⟨b, 0, none⟩), .int .i64 4, .string ⟨#[59]⟩] W (RdP W b A cap S (.tuple #[]) (q6 S ⟨0, 0, 0, 0⟩))) := Lib.hid (fun W b A cap hW => rd6_want W b A cap S _ hW 4 ⟨#[59]⟩ (by omega))
  have C7 : Hid (∀ W b A cap, RdAt W b A cap S (q6 S ⟨0, 0, 0, 0⟩) → Calls Tryd.prog 27 #[.pointer (some ⟨b, 0, none⟩), .int .i64 2, .string ⟨#[100, 101, 102, 97, 117, 108, 116]⟩] W (RdP W b A cap S (.tuple #[]) (q7 S ⟨0, 0, 0, 0⟩))) := Lib.hid (fun W b A cap hW => rd6_want W b A cap S _ hW 2 ⟨#[100, 101, 102, 97, 117, 108, 116]⟩ (by omega))
  have C8 : Hid (∀ W b A cap, RdAt W b A cap S (q7 S ⟨0, 0, 0, 0⟩) → Calls Tryd.prog 29 #[.pointer (some ⟨b, 0, none⟩)] W (RdP W b A cap S (.agg #[.int .i64 dk, .int .u64 (dv : Int)]) (q8 S ⟨0, 0, 0, 0⟩))) := Lib.hid (fun W b A cap hW => by have := rd6_verdict W b A cap S _ hW (by omega) (by omega); rw [hd] at this; exact this)
  have C9 : Hid (∀ W b A cap, RdAt W b A cap S (q8 S ⟨0, 0, 0, 0⟩) → Calls Tryd.prog 27 #[.pointer (some ⟨b, 0, none⟩), .int .i64 4, .string ⟨#[59]⟩] W (RdP W b A cap S (.tuple #[]) (q9 S ⟨0, 0, 0, 0⟩))) := Lib.hid (fun W b A cap hW => rd6_want W b A cap S _ hW 4 ⟨#[59]⟩ (by omega))
  have gE := goes_rules (S := S) n [] _ _ g9.j h1
  have HK := Lib.hid (fun W b A cap hp => rd6_kind W b A cap S re hp 1 (by have := gE.j.le; simp only at this; omega))
  have HO := Lib.hid hok
  have HJ := Lib.hid (And.intro g9.j (And.intro (show (q9 S ⟨0, 0, 0, 0⟩).deep = 0 from g9.deep) h1))
  clear ha hf hd h1 hok g1 g2 g3 g4 g5 g6 g7 g8 g9 k5 k8 l1 l2 l3 l4 l5 l6 l7 l8 l9 l5k l8k gE h00
  generalize q9 S ⟨0, 0, 0, 0⟩ = r9 at C9 HJ
  generalize q8 S ⟨0, 0, 0, 0⟩ = r8 at C8 C9
  generalize q7 S ⟨0, 0, 0, 0⟩ = r7 at C7 C8
  generalize q6 S ⟨0, 0, 0, 0⟩ = r6 at C6 C7
  generalize q5 S ⟨0, 0, 0, 0⟩ = r5 at C5 C6
  generalize q4 S ⟨0, 0, 0, 0⟩ = r4 at C4 C5
  generalize q3 S ⟨0, 0, 0, 0⟩ = r3 at C3 C4
  generalize q2 S ⟨0, 0, 0, 0⟩ = r2' at C2 C3
  generalize (q1 S ⟨0, 0, 0, 0⟩).kindT S 2 = t2 at C2
  generalize q1 S ⟨0, 0, 0, 0⟩ = r1' at C1 C2
  generalize re.kindR S 1 = r2 at HK HO ⊢
  generalize re.kindT S 1 = tq at HK
  have hne : (r2.err != 0) = true := by simpa using HO.out
  have HR0 := Lib.hid (World.alloc_heap_new w (poO ⟨#[]⟩ 0 0 0 0 (.slice none 0 0)))
  have hfld : ∀ (k : Int) (t : ByteArray) (n p : Int) (w : World), (Instr.field 88 (.agg #[.int .i64 k, .string t, .int .u64 n, .int .i64 p]) 1).run Tryd.prog w = .ok (.string t) w := fun _ _ _ _ _ => rfl
  obtain ⟨i8, hi8, hz8, hs8, hb8⟩ := info_parts6 info_ru
  go_enter Tryd.func16, Tryd.ntmps16
  go_wp2_with (first
    | (go_at_call 26; (with_reducible refine HD.out.mono ?_); rintro e wr0 ⟨b, A, cap, rfl, hp, hb, hlo⟩; have I0 := Lib.hid (PoD.first (w := w) hp ((lbox w (poO ⟨#[]⟩ 0 0 0 0 (.slice none 0 0))).trans (hb.mono (Nat.le_succ _))) ((hb.block w.heap.size (Nat.lt_succ_self _)).trans HR0.out) hlo); clear hp hb hlo)
    | (go_at_call 27; (with_reducible refine (C1.out _ _ _ _ I0.out.rd).mono ?_); rintro e w01 ⟨rfl, hr, hg⟩; have I1 := Lib.hid (I0.out.call hr hg); clear hr hg I0)
    | (go_at_call 28; (with_reducible refine (C2.out _ _ _ _ I1.out.rd).mono ?_); rintro e w02 ⟨rfl, hr, hg⟩; have I2' := Lib.hid (I1.out.call hr hg); have e0 := cell6 I2'.out.box 0 rfl; have z0 := frozen6 I2'.out.box 0; have hl2 := I2'.out.size; have I2 := Lib.hid (I2'.out.setArch a); clear hr hg I1)
    | (go_at_call 27; (with_reducible refine (C3.out _ _ _ _ I2.out.rd).mono ?_); rintro e w03 ⟨rfl, hr, hg⟩; have I3 := Lib.hid (I2.out.call hr hg); clear hr hg I2 I2' e0 z0 hl2)
    | (go_at_call 27; (with_reducible refine (C4.out _ _ _ _ I3.out.rd).mono ?_); rintro e w04 ⟨rfl, hr, hg⟩; have I4 := Lib.hid (I3.out.call hr hg); clear hr hg I3)
    | (go_at_call 29; (with_reducible refine (C5.out _ _ _ _ I4.out.rd).mono ?_); rintro e w05 ⟨rfl, hr, hg⟩; have I5' := Lib.hid (I4.out.call hr hg); have e1 := cell6 I5'.out.box 1 rfl; have z1 := frozen6 I5'.out.box 1; have e2 := cell6 I5'.out.box 2 rfl; have z2 := frozen6 I5'.out.box 2; have hl5 := I5'.out.size; have I5 := Lib.hid ((I5'.out.set1 fk).set2 (fv : Int)); clear hr hg I4)
    | (go_at_call 27; (with_reducible refine (C6.out _ _ _ _ I5.out.rd).mono ?_); rintro e w06 ⟨rfl, hr, hg⟩; have I6 := Lib.hid (I5.out.call hr hg); clear hr hg I5 I5' e1 z1 e2 z2 hl5)
    | (go_at_call 27; (with_reducible refine (C7.out _ _ _ _ I6.out.rd).mono ?_); rintro e w07 ⟨rfl, hr, hg⟩; have I7 := Lib.hid (I6.out.call hr hg); clear hr hg I6)
    | (go_at_call 29; (with_reducible refine (C8.out _ _ _ _ I7.out.rd).mono ?_); rintro e w08 ⟨rfl, hr, hg⟩; have I8' := Lib.hid (I7.out.call hr hg); have e3 := cell6 I8'.out.box 3 rfl; have z3 := frozen6 I8'.out.box 3; have e4 := cell6 I8'.out.box 4 rfl; have z4 := frozen6 I8'.out.box 4; have hl8 := I8'.out.size; have I8 := Lib.hid ((I8'.out.set3 dk).set4 (dv : Int)); clear hr hg I7)
    | (go_at_call 27; (with_reducible refine (C9.out _ _ _ _ I8.out.rd).mono ?_); rintro e w09 ⟨rfl, hr, hg⟩; have I9 := Lib.hid (I8.out.call hr hg); clear hr hg I8 I8' e3 z3 e4 z4 hl8))
  obtain ⟨E, hEE⟩ : ∃ E, E = wr0.heap.size := ⟨_, rfl⟩
  rw [← hEE] at I9 ⊢
  clear hEE
  have HKb := Lib.hid (fun W hp => HK.out W b A cap hp)
  clear C1 C2 C3 C4 C5 C6 C7 C8 C9 HD HK
  have HK := HKb
  obtain ⟨fn, hfn⟩ : ∃ fn : Int, fn = (fv : Int) := ⟨_, rfl⟩
  obtain ⟨dn, hdn⟩ : ∃ dn : Int, dn = (dv : Int) := ⟨_, rfl⟩
  rw [← hfn, ← hdn] at I9
  have HFN := Lib.hid (And.intro hfn hdn)
  clear hfn hdn
  go_loopw [7, 8] (fun _ _ wr => ∃ l v xs m rr, rulesS S n m l rr = some (lr, re) ∧ Goes S r9 rr ∧ l.length ≤ 512 ∧ PoD w wr b A cap S rr E a fk fn dk dn l v xs) (fun _ _ wr => 513 - cellLen wr ⟨E, 5, none⟩)
  case atStart => exact ⟨_, _, _, _, _, HJ.out.2.2, .refl HJ.out.1, Nat.zero_le _, I9.out⟩
  case round =>
    obtain ⟨l, v, xs, m, rr, hrest, hgo, hll, hT⟩ := hrel
    obtain ⟨m, rfl⟩ : ∃ m', m = m' + 1 := ⟨m - 1, by
      rcases m with _ | m
      · cases hrest
      · rfl⟩
    obtain ⟨Av, nv, cv, rfl⟩ := own_form hT.own
    have hnv : nv = l.length := own_len hT.own
    have HT := Lib.hid hT
    have HCL : Hid (cellLen wr ⟨E, 5, none⟩ = l.length) := Lib.hid (by
      have h0 : wr.cell? ⟨E, 5, none⟩ = some (.slice Av nv cv) := cell6 HT.out.box 5 rfl
      unfold cellLen
      rw [h0]
      exact own_len HT.out.own)
    have hdeep : rr.deep = 0 := hgo.deep.trans HJ.out.2.1
    have c5 : wr.cell? ⟨b, 5, none⟩ = some (.int .i64 rr.err) := World.rowIs.cell HT.out.rd.row (i := 5) (by decide)
    have gA := goes_peek hgo.j
    have gB := goes_is gA.j 2 (by decide) bOn
    have hjl := hgo.j.le
    have hjl2 := gA.j.le
    have HPk := Lib.hid (fun W hW => rd6_peek W b A cap S rr hW)
    have hIs : ∀ W, RdAt W b A cap S (rr.peekR S) → Calls Tryd.prog 31 #[.pointer (some ⟨b, 0, none⟩), .int .i64 2, .string ⟨#[111, 110]⟩] W (RdP W b A cap S (.bool ((rr.peekR S).isB S 2 bOn)) ((rr.peekR S).isR S 2 bOn)) := fun W hW => rd6_is W b A cap S _ hW 2 ⟨#[111, 110]⟩ (by omega)
    have hFa := fun W hW => rd6_fails W b A cap S ((rr.peekR S).isR S 2 bOn) hW 63 (rr.peekT S).pos
    have hRu := fun (x : Ru) (r' : Rd) (hx : ruleS S n ((rr.peekR S).isR S 2 bOn) = some (x, r')) W hW => rd6_ruleS (w := W) (b := b) (A := A) (cap := cap) gB.j (by rw [gB.deep, gA.deep]; exact hdeep) hW hx
    unfold rulesS at hrest
    clear I9 hT
    by_cases he : rr.err = 0
    · have heb : (rr.err == 0) = true := beq_iff_eq.2 he
      rw [if_neg (fun g => g he)] at hrest
      clear he
      have hTE : ∀ k, (Array.size wr.heap) = k → E < k := fun k hk => by subst hk; exact HT.out.size
      generalize hqq : rr.peekT S = q at HPk hFa hrest
      generalize hrp : rr.peekR S = rp at HPk hIs hFa hRu hrest gA gB
      clear hqq hrp
      by_cases hb : rp.isB S 2 bOn = true
      · rw [if_pos hb] at hrest
        rw [hb] at hIs
        by_cases h5 : l.length = 512
        · rw [if_pos h5] at hrest
          injection hrest with hrest
          injection hrest with e1 e2
          subst e1
          subst e2
          have h5b : ((nv : Int) == 512) = true := by rw [hnv, h5]; rfl
          have h5c : (nv == 512) = true := by rw [hnv, h5]; rfl
          have HIs := Lib.hid hIs
          have HFa := Lib.hid hFa
          clear h5 hb hIs hFa hRu hgo hll hjl hjl2 hdeep hnv
          generalize rp.isR S 2 bOn = ri at HIs HFa HK gB
          clear gA gB
          go_wp2_with (first
            | (go_at_call 30; (with_reducible refine (HPk.out _ HT.out.rd).mono ?_); rintro e w1 ⟨rfl, hr1, hg1⟩; have HN := Lib.hid (HT.out.call hr1 hg1); have HTB : Hid ((w1.alloc (tkO q)).heap[w1.heap.size]? = some (tkO q)) := Lib.hid (World.alloc_heap_new w1 (tkO q)); have H1 : Hid (PoD w (w1.alloc (tkO q)) b A cap S rp E a fk fn dk dn l (.slice Av nv cv) xs) := Lib.hid (HN.out.alloc (tkO q)); have H1b : Hid (b < w1.heap.size) := Lib.hid hr1.row.lt; clear hr1 hg1 HN)
            | (go_at_call 31; (with_reducible refine (HIs.out _ H1.out.rd).mono ?_); rintro e w3 ⟨rfl, hr3, hg3⟩; have H3 : Hid (PoD w w3 b A cap S ri E a fk fn dk dn l (.slice Av nv cv) xs ∧ w3.heap[w1.heap.size]? = some (tkO q)) := Lib.hid ⟨H1.out.call hr3 hg3, kept_box HTB.out hg3 (by have h1 := H1b.out; omega)⟩; have f5 := cell6 H3.out.1.box 5 rfl; have p3 := cell6 H3.out.2 3 rfl; clear hr3 hg3 H1 HTB)
            | (go_at_call 32; (with_reducible refine (HFa.out _ H3.out.1.rd).mono ?_); rintro e w4 ⟨rfl, hr4, hg4⟩; have H4 := Lib.hid (H3.out.1.call hr4 hg4); clear hr4 hg4)
            | (go_at_call 28; (with_reducible refine (HK.out _ H4.out.rd).mono ?_); rintro e w5 ⟨rfl, hr5, hg5⟩; have H5 := Lib.hid (H4.out.call hr5 hg5); have c5 : w5.cell? ⟨b, 5, none⟩ = some (.int .i64 r2.err) := World.rowIs.cell H5.out.rd.row (i := 5) (by decide); have c6 : w5.cell? ⟨b, 6, none⟩ = some (.int .i64 (r2.bad : Int)) := World.rowIs.cell H5.out.rd.row (i := 6) (by decide); have hE5 := H5.out.box; have hR5 := H5.out.res; have hlw : w.heap.size < w5.heap.size := (Array.getElem?_eq_some_iff.1 hR5).1; have m0 := cell6 hE5 0 rfl; have m1 := cell6 hE5 1 rfl; have m2 := cell6 hE5 2 rfl; have m3 := cell6 hE5 3 rfl; have m4 := cell6 hE5 4 rfl; have m5 := cell6 hE5 5 rfl; have u0 := cell6 hR5 0 rfl; have u1 := cell6 hR5 1 rfl; have u2 := cell6 hR5 2 rfl; have u3 := cell6 hR5 3 rfl; have u4 := cell6 hR5 4 rfl; have u5 := cell6 hR5 5 rfl; have y0 := frozen6 hR5 0; have y1 := frozen6 hR5 1; have y2 := frozen6 hR5 2; have y3 := frozen6 hR5 3; have y4 := frozen6 hR5 4; have y5 := frozen6 hR5 5; clear hr5 hg5 hE5 hR5))
          refine wp_region_held_drew (S := fun W' => W'.rowIs b 93 7 (rdV A cap S r2)) (by kernel_rfl) H5.out.rd.row (fun hHeld => ?_)
          have H6 : Hid (w5.drew.rowIs b 93 7 (rdV A cap S r2) ∧ w5.drew.heap[w.heap.size]? = some (poO ⟨#[]⟩ 0 0 0 0 (.slice none 0 0)) ∧ Below w.heap.size w w5.drew) := Lib.hid ⟨H5.out.rd.row, H5.out.res, below_drawn H5.out.bel 1⟩
          have hlY : w.heap.size < w5.drew.heap.size := hlw
          have hbR : b ≠ w.heap.size := by have := H5.out.wb; omega
          clear c5 c6 u0 u1 u2 u3 u4 u5 y0 y1 y2 y3 y4 y5 m0 m1 m2 m3 m4 m5 hlw H5
          generalize w5.drew = Y at H6 hlY ⊢
          have h6 : Y.rowIs b 93 7 (rdV A cap S r2) := H6.out.1
          have u0 := cell6 H6.out.2.1 0 rfl
          have u1 := cell6 H6.out.2.1 1 rfl
          have u2 := cell6 H6.out.2.1 2 rfl
          have u3 := cell6 H6.out.2.1 3 rfl
          have u4 := cell6 H6.out.2.1 4 rfl
          have u5 := cell6 H6.out.2.1 5 rfl
          have y0 := frozen6 H6.out.2.1 0
          have y1 := frozen6 H6.out.2.1 1
          have y2 := frozen6 H6.out.2.1 2
          have y3 := frozen6 H6.out.2.1 3
          have y4 := frozen6 H6.out.2.1 4
          have y5 := frozen6 H6.out.2.1 5
          refine wpAnyH_take (i := 0) (v := ?_) rfl (by kernel_rfl) (by kernel_rfl) (by kernel_rfl) (fun _ _ _ h => h) (Or.inl ⟨by rfl, ?_⟩) (by assumption) ?_
          rotate_left
          · intro wS hSw
            (have i5 : wS.cell? ⟨b, 5, none⟩ = some (.int .i64 r2.err) := World.rowIs.cell hSw (i := 5) (by decide); have i6 : wS.cell? ⟨b, 6, none⟩ = some (.int .i64 (r2.bad : Int)) := World.rowIs.cell hSw (i := 6) (by decide))
            go_simp
            all_goals with_reducible rfl
          (try simp only [List.getElem_toArray, List.getElem_cons_zero, List.getElem_cons_succ, Act.put, List.setIfInBounds_toArray, List.set_cons_zero, List.set_cons_succ])
          refine wpAnyH_take (i := 1) (v := ?_) rfl (by kernel_rfl) (by kernel_rfl) (by kernel_rfl) (fun _ _ _ h => h) (Or.inl ⟨by rfl, ?_⟩) (by assumption) ?_
          rotate_left
          · intro wS hSw
            (have i5 : wS.cell? ⟨b, 5, none⟩ = some (.int .i64 r2.err) := World.rowIs.cell hSw (i := 5) (by decide); have i6 : wS.cell? ⟨b, 6, none⟩ = some (.int .i64 (r2.bad : Int)) := World.rowIs.cell hSw (i := 6) (by decide))
            go_simp
            all_goals with_reducible rfl
          (try simp only [List.getElem_toArray, List.getElem_cons_zero, List.getElem_cons_succ, Act.put, List.setIfInBounds_toArray, List.set_cons_zero, List.set_cons_succ])
          refine wpAnyH_take (i := 2) (v := ?_) rfl (by kernel_rfl) (by kernel_rfl) (by kernel_rfl) (fun _ _ _ h => h) (Or.inl ⟨by rfl, ?_⟩) (by assumption) ?_
          rotate_left
          · intro wS hSw
            (have i5 : wS.cell? ⟨b, 5, none⟩ = some (.int .i64 r2.err) := World.rowIs.cell hSw (i := 5) (by decide); have i6 : wS.cell? ⟨b, 6, none⟩ = some (.int .i64 (r2.bad : Int)) := World.rowIs.cell hSw (i := 6) (by decide))
            go_simp
            all_goals with_reducible rfl
          (try simp only [List.getElem_toArray, List.getElem_cons_zero, List.getElem_cons_succ, Act.put, List.setIfInBounds_toArray, List.set_cons_zero, List.set_cons_succ])
          refine wpAnyH_take (i := 3) (v := ?_) rfl (by kernel_rfl) (by kernel_rfl) (by kernel_rfl) (fun _ _ _ h => h) (Or.inl ⟨by rfl, ?_⟩) (by assumption) ?_
          rotate_left
          · intro wS hSw
            (have i5 : wS.cell? ⟨b, 5, none⟩ = some (.int .i64 r2.err) := World.rowIs.cell hSw (i := 5) (by decide); have i6 : wS.cell? ⟨b, 6, none⟩ = some (.int .i64 (r2.bad : Int)) := World.rowIs.cell hSw (i := 6) (by decide))
            go_simp
            all_goals with_reducible rfl
          (try simp only [List.getElem_toArray, List.getElem_cons_zero, List.getElem_cons_succ, Act.put, List.setIfInBounds_toArray, List.set_cons_zero, List.set_cons_succ])
          refine wpAnyH_take (i := 4) (v := ?_) rfl (by kernel_rfl) (by kernel_rfl) (by kernel_rfl) (fun _ _ _ h => h) (Or.inl ⟨by rfl, ?_⟩) (by assumption) ?_
          rotate_left
          · intro wS hSw
            (have i5 : wS.cell? ⟨b, 5, none⟩ = some (.int .i64 r2.err) := World.rowIs.cell hSw (i := 5) (by decide); have i6 : wS.cell? ⟨b, 6, none⟩ = some (.int .i64 (r2.bad : Int)) := World.rowIs.cell hSw (i := 6) (by decide))
            go_simp
            all_goals with_reducible rfl
          (try simp only [List.getElem_toArray, List.getElem_cons_zero, List.getElem_cons_succ, Act.put, List.setIfInBounds_toArray, List.set_cons_zero, List.set_cons_succ])
          refine wpAnyH_take (i := 5) (v := ?_) rfl (by kernel_rfl) (by kernel_rfl) (by kernel_rfl) (fun _ _ _ h => h) (Or.inl ⟨by rfl, ?_⟩) (by assumption) ?_
          rotate_left
          · intro wS hSw
            (have i5 : wS.cell? ⟨b, 5, none⟩ = some (.int .i64 r2.err) := World.rowIs.cell hSw (i := 5) (by decide); have i6 : wS.cell? ⟨b, 6, none⟩ = some (.int .i64 (r2.bad : Int)) := World.rowIs.cell hSw (i := 6) (by decide))
            go_simp
            all_goals with_reducible rfl
          (try simp only [List.getElem_toArray, List.getElem_cons_zero, List.getElem_cons_succ, Act.put, List.setIfInBounds_toArray, List.set_cons_zero, List.set_cons_succ])
          refine wpAnyH_take (i := 6) (v := ?_) rfl (by kernel_rfl) (by kernel_rfl) (by kernel_rfl) (fun _ _ _ h => h) (Or.inl ⟨by rfl, ?_⟩) (by assumption) ?_
          rotate_left
          · intro wS hSw
            (have i5 : wS.cell? ⟨b, 5, none⟩ = some (.int .i64 r2.err) := World.rowIs.cell hSw (i := 5) (by decide); have i6 : wS.cell? ⟨b, 6, none⟩ = some (.int .i64 (r2.bad : Int)) := World.rowIs.cell hSw (i := 6) (by decide))
            go_simp
            all_goals with_reducible rfl
          (try simp only [List.getElem_toArray, List.getElem_cons_zero, List.getElem_cons_succ, Act.put, List.setIfInBounds_toArray, List.set_cons_zero, List.set_cons_succ])
          refine wpAnyH_take (i := 7) (v := ?_) rfl (by kernel_rfl) (by kernel_rfl) (by kernel_rfl) (fun _ _ _ h => h) (Or.inl ⟨by rfl, ?_⟩) (by assumption) ?_
          rotate_left
          · intro wS hSw
            (have i5 : wS.cell? ⟨b, 5, none⟩ = some (.int .i64 r2.err) := World.rowIs.cell hSw (i := 5) (by decide); have i6 : wS.cell? ⟨b, 6, none⟩ = some (.int .i64 (r2.bad : Int)) := World.rowIs.cell hSw (i := 6) (by decide))
            go_simp
            all_goals with_reducible rfl
          (try simp only [List.getElem_toArray, List.getElem_cons_zero, List.getElem_cons_succ, Act.put, List.setIfInBounds_toArray, List.set_cons_zero, List.set_cons_succ])
          refine wpAnyH_take (i := 8) (v := ?_) rfl (by kernel_rfl) (by kernel_rfl) (by kernel_rfl) (fun _ _ _ h => h) (Or.inl ⟨by rfl, ?_⟩) (by assumption) ?_
          rotate_left
          · intro wS hSw
            (have i5 : wS.cell? ⟨b, 5, none⟩ = some (.int .i64 r2.err) := World.rowIs.cell hSw (i := 5) (by decide); have i6 : wS.cell? ⟨b, 6, none⟩ = some (.int .i64 (r2.bad : Int)) := World.rowIs.cell hSw (i := 6) (by decide))
            go_simp
            all_goals with_reducible rfl
          (try simp only [List.getElem_toArray, List.getElem_cons_zero, List.getElem_cons_succ, Act.put, List.setIfInBounds_toArray, List.set_cons_zero, List.set_cons_succ])
          refine held_one (i := 9) (by kernel_rfl) rfl (fun K hK => ?_)
          go_simp
          refine hK.out _ _ (row_new (row_new (row_new (row_new (row_new (row_new h6 hbR 0 _) hbR 1 _) hbR 2 _) hbR 3 _) hbR 4 _) hbR 5 _) (fun hH2 => ?_)
          clear hK K hHeld
          refine wpAnyH_take (i := 10) (v := ?_) rfl (by kernel_rfl) (by kernel_rfl) (by kernel_rfl) (fun _ _ _ h => h) (Or.inl ⟨by rfl, ?_⟩) (by assumption) ?_
          rotate_left
          · intro wS hSw
            (skip)
            go_simp
            all_goals with_reducible rfl
          (try simp only [List.getElem_toArray, List.getElem_cons_zero, List.getElem_cons_succ, Act.put, List.setIfInBounds_toArray, List.set_cons_zero, List.set_cons_succ])
          refine wpAnyH_take (i := 11) (v := ?_) rfl (by kernel_rfl) (by kernel_rfl) (by kernel_rfl) (fun _ _ _ h => h) (Or.inl ⟨by rfl, ?_⟩) (by assumption) ?_
          rotate_left
          · intro wS hSw
            (skip)
            go_simp
            all_goals with_reducible rfl
          (try simp only [List.getElem_toArray, List.getElem_cons_zero, List.getElem_cons_succ, Act.put, List.setIfInBounds_toArray, List.set_cons_zero, List.set_cons_succ])
          refine wpAnyH_done (by kernel_rfl) ?_ _
          go_wp2
          exact bodyPost_ret (v := .tuple #[poV ⟨#[]⟩ 0 0 0 0 (.slice none 0 0), .int .i64 r2.err, .int .i64 (r2.bad : Int)]) (by simp [results, Tryd.results16, go_sem, u0, u1, u2, u3, u4, u5, World.cell?_setCell_same']) rfl ⟨rfl, (((((H6.out.2.2.setCell (p := ⟨w.heap.size, 0, none⟩) (Nat.le_refl _) _).setCell (p := ⟨w.heap.size, 1, none⟩) (Nat.le_refl _) _).setCell (p := ⟨w.heap.size, 2, none⟩) (Nat.le_refl _) _).setCell (p := ⟨w.heap.size, 3, none⟩) (Nat.le_refl _) _).setCell (p := ⟨w.heap.size, 4, none⟩) (Nat.le_refl _) _).setCell (p := ⟨w.heap.size, 5, none⟩) (Nat.le_refl _) _⟩
        · rw [if_neg h5] at hrest
          have h5b : ((nv : Int) == 512) = false := beq_false_of_ne (by omega)
          have h5c : (nv == 512) = false := beq_false_of_ne (by omega)
          cases hxr : ruleS S n (rp.isR S 2 bOn) with
          | none => rw [hxr] at hrest; cases hrest
          | some y =>
            obtain ⟨xr, r4⟩ := y
            rw [hxr] at hrest
            have gR := goes_rule gB.j hxr
            have HRS : Hid (rulesS S n m (l ++ [xr]) r4 = some (lr, re)) := Lib.hid hrest
            have HJ2 : Hid (Goes S r9 r4) := Lib.hid (((hgo.trans gA).trans gB).trans gR)
            have HLL : Hid ((l ++ [xr]).length ≤ 512) := Lib.hid (by rw [List.length_append]; simp only [List.length_cons, List.length_nil]; omega)
            have HRu := Lib.hid (hRu xr r4 hxr)
            have HIs := Lib.hid hIs
            clear hrest hb hIs hFa hRu hgo hjl hjl2 hdeep gR hxr HK hnv
            generalize rp.isR S 2 bOn = ri at HIs HRu gB
            clear gA gB
            go_wp2_with (first
              | (go_at_call 30; (with_reducible refine (HPk.out _ HT.out.rd).mono ?_); rintro e w1 ⟨rfl, hr1, hg1⟩; have HN := Lib.hid (HT.out.call hr1 hg1); have HTB : Hid ((w1.alloc (tkO q)).heap[w1.heap.size]? = some (tkO q)) := Lib.hid (World.alloc_heap_new w1 (tkO q)); have H1 : Hid (PoD w (w1.alloc (tkO q)) b A cap S rp E a fk fn dk dn l (.slice Av nv cv) xs) := Lib.hid (HN.out.alloc (tkO q)); have H1b : Hid (b < w1.heap.size) := Lib.hid hr1.row.lt; clear hr1 hg1 HN)
              | (go_at_call 31; (with_reducible refine (HIs.out _ H1.out.rd).mono ?_); rintro e w3 ⟨rfl, hr3, hg3⟩; have H3 : Hid (PoD w w3 b A cap S ri E a fk fn dk dn l (.slice Av nv cv) xs ∧ w3.heap[w1.heap.size]? = some (tkO q)) := Lib.hid ⟨H1.out.call hr3 hg3, kept_box HTB.out hg3 (by have h1 := H1b.out; omega)⟩; have f5 := cell6 H3.out.1.box 5 rfl; have p3 := cell6 H3.out.2 3 rfl; clear hr3 hg3 H1 HTB))
            refine wp_region_held_drew (S := fun _ => True) (by kernel_rfl) trivial (fun _ => ?_)
            have HY : Hid (PoD w w3.drew b A cap S ri E a fk fn dk dn l (.slice Av nv cv) xs) := Lib.hid (H3.out.1.drawn 1)
            clear H3
            generalize w3.drew = Y at HY ⊢
            have hby : Y.cell? ⟨E, 5, none⟩ = some (.slice Av nv cv) := cell6 HY.out.box 5 rfl
            refine wpAnyH_take (i := 0) (v := ?_) rfl (by kernel_rfl) (by kernel_rfl) (by kernel_rfl) (fun _ _ _ h => h) (Or.inl ⟨by rfl, ?_⟩) (by assumption) ?_
            rotate_left
            · intro wS hSw
              (skip)
              go_simp
              all_goals with_reducible rfl
            (try simp only [List.getElem_toArray, List.getElem_cons_zero, List.getElem_cons_succ, Act.put, List.setIfInBounds_toArray, List.set_cons_zero, List.set_cons_succ])
            refine wpAnyH_take (i := 2) (v := ?_) rfl (by kernel_rfl) (by kernel_rfl) (by kernel_rfl) (fun _ _ _ h => h) (Or.inl ⟨by rfl, ?_⟩) (by assumption) ?_
            rotate_left
            · intro wS hSw
              (skip)
              go_simp
              all_goals with_reducible rfl
            (try simp only [List.getElem_toArray, List.getElem_cons_zero, List.getElem_cons_succ, Act.put, List.setIfInBounds_toArray, List.set_cons_zero, List.set_cons_succ])
            refine wpAnyH_ready (rs := [1, 3]) (by kernel_rfl) (by simp) (AllReadyH.cons rfl (fun K hK => ?_) (AllReadyH.cons rfl (fun K hK => ?_) AllReadyH.nil))
            · go_simp
              refine hK.out _ _ trivial (fun _ => ?_)
              clear hK K
              (try simp only [Act.put, List.setIfInBounds_toArray, List.set_cons_zero, List.set_cons_succ, List.getElem_toArray, List.getElem_cons_zero, List.getElem_cons_succ])
              refine held_one (i := 3) (by kernel_rfl) rfl (fun K hK => ?_)
              go_simp
              go_at_call 33
              refine (HRu.out _ HY.out.rd).mono ?_
              rintro e w4 ⟨rv, rfl, ⟨tb, capc, Ax, cx, rfl, hxr⟩, hr4, hg4⟩
              have HZ := Lib.hid (HY.out.call hr4 hg4)
              have HXR : Hid (RuIn w4 (fun k => E + 1 ≤ k ∧ some k ≠ (Value.slice Av nv cv).ownBlock) xr tb Ax cx) := Lib.hid (hxr.keep (Nat.le_refl _) (fun k hk => ⟨by have := HY.out.size; omega, fun e => by have := (HY.out.own.lt k e.symm).2; omega⟩) (fun _ _ _ => rfl))
              have hbz : w4.cell? ⟨E, 5, none⟩ = some (.slice Av nv cv) := cell6 HZ.out.box 5 rfl
              refine hK.out _ _ trivial (fun _ => ?_)
              clear hK K hr4 hg4 hxr
              (try simp only [Act.put, List.setIfInBounds_toArray, List.set_cons_zero, List.set_cons_succ, List.getElem_toArray, List.getElem_cons_zero, List.getElem_cons_succ])
              refine held_one (i := 4) (by kernel_rfl) rfl (fun K hK => ?_)
              go_simp
              refine hK.out _ _ trivial (fun _ => ?_)
              clear hK K
              (try simp only [Act.put, List.setIfInBounds_toArray, List.set_cons_zero, List.set_cons_succ, List.getElem_toArray, List.getElem_cons_zero, List.getElem_cons_succ])
              refine held_one (i := 5) (by kernel_rfl) rfl (fun K hK => ?_)
              rw [if_pos (by kernel_rfl)]
              refine oper_append6 (.tmp 53) (.tmp 56) 26 rfl (E + 1) 46 i8 (.agg #[.slice none 0 0, .int .i64 0, .slice none 0 0, .int .i64 0, .int .u64 0, .int .i64 0, .int .u64 0, .int .i64 0, .int .u64 0]) 9 104 Tryd.underlying26 hi8 hz8 hs8 hb8 rfl (by decide) (.slice Av nv cv) l.length xs rfl (own_below HZ.out.own (lbox w4 _)) ⟨w4.heap.size, 0, none⟩ 1 1 (ruC xr tb capc Ax cx) rfl rfl (ru_cells _ _ rfl _ _ _ _ _) ru_one (by unfold maxLen; omega) (by omega) (by have := HZ.out.size; simp; omega) ?_
              intro v' wd ho hg hv
              obtain ⟨A', n', c', rfl⟩ := own_form ho
              have HW := Lib.hid (HZ.out.turn HXR.out ho hg hv)
              refine hK.out _ _ trivial (fun _ => ?_)
              clear hK K ho hg hv
              (try simp only [Act.put, List.setIfInBounds_toArray, List.set_cons_zero, List.set_cons_succ, List.getElem_toArray, List.getElem_cons_zero, List.getElem_cons_succ])
              have hbE := HW.out.2
              have hlE : E < wd.heap.size := (Array.getElem?_eq_some_iff.1 hbE).1
              have q0 := cell6 hbE 5 rfl
              have q0f := frozen6 hbE 5
              refine wpAnyH_take (i := 6) (v := ?_) rfl (by kernel_rfl) (by kernel_rfl) (by kernel_rfl) (fun _ _ _ h => h) (Or.inl ⟨by rfl, ?_⟩) (by assumption) ?_
              rotate_left
              · intro wS hSw
                (skip)
                go_simp
                all_goals with_reducible rfl
              (try simp only [List.getElem_toArray, List.getElem_cons_zero, List.getElem_cons_succ, Act.put, List.setIfInBounds_toArray, List.set_cons_zero, List.set_cons_succ])
              refine held_one (i := 7) (by kernel_rfl) rfl (fun K hK => ?_)
              go_simp
              refine hK.out _ _ trivial (fun _ => ?_)
              clear hK K hbE hlE q0 q0f
              refine wpAnyH_done (by kernel_rfl) ?_ _
              have HX := Lib.hid HW.out.1
              clear HW
              generalize wd.setCell ⟨E, 5, none⟩ (.slice A' n' c') = wx at HX ⊢
              go_wp2
              exact ⟨⟨_, _, _, _, _, HRS.out, HJ2.out, HLL.out, HX.out⟩, by
                have h0 : wx.cell? ⟨E, 5, none⟩ = some (.slice A' n' c') := cell6 HX.out.box 5 rfl
                have h1 := own_len HX.out.own
                have h2 := HLL.out
                rw [HCL.out]
                unfold cellLen
                rw [h0]
                simp only [h1]
                rw [List.length_append] at h2 ⊢
                simp only [List.length_cons, List.length_nil] at h2 ⊢
                omega⟩
            · go_simp
              go_at_call 33
              refine (HRu.out _ HY.out.rd).mono ?_
              rintro e w4 ⟨rv, rfl, ⟨tb, capc, Ax, cx, rfl, hxr⟩, hr4, hg4⟩
              have HZ := Lib.hid (HY.out.call hr4 hg4)
              have HXR : Hid (RuIn w4 (fun k => E + 1 ≤ k ∧ some k ≠ (Value.slice Av nv cv).ownBlock) xr tb Ax cx) := Lib.hid (hxr.keep (Nat.le_refl _) (fun k hk => ⟨by have := HY.out.size; omega, fun e => by have := (HY.out.own.lt k e.symm).2; omega⟩) (fun _ _ _ => rfl))
              have hbz : w4.cell? ⟨E, 5, none⟩ = some (.slice Av nv cv) := cell6 HZ.out.box 5 rfl
              refine hK.out _ _ trivial (fun _ => ?_)
              clear hK K hr4 hg4 hxr
              (try simp only [Act.put, List.setIfInBounds_toArray, List.set_cons_zero, List.set_cons_succ, List.getElem_toArray, List.getElem_cons_zero, List.getElem_cons_succ])
              refine wpAnyH_ready (rs := [1, 4]) (by kernel_rfl) (by simp) (AllReadyH.cons rfl (fun K hK => ?_) (AllReadyH.cons rfl (fun K hK => ?_) AllReadyH.nil))
              · go_simp
                refine hK.out _ _ trivial (fun _ => ?_)
                clear hK K
                (try simp only [Act.put, List.setIfInBounds_toArray, List.set_cons_zero, List.set_cons_succ, List.getElem_toArray, List.getElem_cons_zero, List.getElem_cons_succ])
                refine held_one (i := 4) (by kernel_rfl) rfl (fun K hK => ?_)
                go_simp
                refine hK.out _ _ trivial (fun _ => ?_)
                clear hK K
                (try simp only [Act.put, List.setIfInBounds_toArray, List.set_cons_zero, List.set_cons_succ, List.getElem_toArray, List.getElem_cons_zero, List.getElem_cons_succ])
                refine held_one (i := 5) (by kernel_rfl) rfl (fun K hK => ?_)
                rw [if_pos (by kernel_rfl)]
                refine oper_append6 (.tmp 53) (.tmp 56) 26 rfl (E + 1) 46 i8 (.agg #[.slice none 0 0, .int .i64 0, .slice none 0 0, .int .i64 0, .int .u64 0, .int .i64 0, .int .u64 0, .int .i64 0, .int .u64 0]) 9 104 Tryd.underlying26 hi8 hz8 hs8 hb8 rfl (by decide) (.slice Av nv cv) l.length xs rfl (own_below HZ.out.own (lbox w4 _)) ⟨w4.heap.size, 0, none⟩ 1 1 (ruC xr tb capc Ax cx) rfl rfl (ru_cells _ _ rfl _ _ _ _ _) ru_one (by unfold maxLen; omega) (by omega) (by have := HZ.out.size; simp; omega) ?_
                intro v' wd ho hg hv
                obtain ⟨A', n', c', rfl⟩ := own_form ho
                have HW := Lib.hid (HZ.out.turn HXR.out ho hg hv)
                refine hK.out _ _ trivial (fun _ => ?_)
                clear hK K ho hg hv
                (try simp only [Act.put, List.setIfInBounds_toArray, List.set_cons_zero, List.set_cons_succ, List.getElem_toArray, List.getElem_cons_zero, List.getElem_cons_succ])
                have hbE := HW.out.2
                have hlE : E < wd.heap.size := (Array.getElem?_eq_some_iff.1 hbE).1
                have q0 := cell6 hbE 5 rfl
                have q0f := frozen6 hbE 5
                refine wpAnyH_take (i := 6) (v := ?_) rfl (by kernel_rfl) (by kernel_rfl) (by kernel_rfl) (fun _ _ _ h => h) (Or.inl ⟨by rfl, ?_⟩) (by assumption) ?_
                rotate_left
                · intro wS hSw
                  (skip)
                  go_simp
                  all_goals with_reducible rfl
                (try simp only [List.getElem_toArray, List.getElem_cons_zero, List.getElem_cons_succ, Act.put, List.setIfInBounds_toArray, List.set_cons_zero, List.set_cons_succ])
                refine held_one (i := 7) (by kernel_rfl) rfl (fun K hK => ?_)
                go_simp
                refine hK.out _ _ trivial (fun _ => ?_)
                clear hK K hbE hlE q0 q0f
                refine wpAnyH_done (by kernel_rfl) ?_ _
                have HX := Lib.hid HW.out.1
                clear HW
                generalize wd.setCell ⟨E, 5, none⟩ (.slice A' n' c') = wx at HX ⊢
                go_wp2
                exact ⟨⟨_, _, _, _, _, HRS.out, HJ2.out, HLL.out, HX.out⟩, by
                  have h0 : wx.cell? ⟨E, 5, none⟩ = some (.slice A' n' c') := cell6 HX.out.box 5 rfl
                  have h1 := own_len HX.out.own
                  have h2 := HLL.out
                  rw [HCL.out]
                  unfold cellLen
                  rw [h0]
                  simp only [h1]
                  rw [List.length_append] at h2 ⊢
                  simp only [List.length_cons, List.length_nil] at h2 ⊢
                  omega⟩
              · go_simp
                refine hK.out _ _ trivial (fun _ => ?_)
                clear hK K
                (try simp only [Act.put, List.setIfInBounds_toArray, List.set_cons_zero, List.set_cons_succ, List.getElem_toArray, List.getElem_cons_zero, List.getElem_cons_succ])
                have hba : ∀ o, (w4.alloc o).cell? ⟨E, 5, none⟩ = some (.slice Av nv cv) := fun o => cell6 (kept_alloc HZ.out.box o) 5 rfl
                refine held_one (i := 1) (by kernel_rfl) rfl (fun K hK => ?_)
                go_simp
                refine hK.out _ _ trivial (fun _ => ?_)
                clear hK K
                (try simp only [Act.put, List.setIfInBounds_toArray, List.set_cons_zero, List.set_cons_succ, List.getElem_toArray, List.getElem_cons_zero, List.getElem_cons_succ])
                refine held_one (i := 5) (by kernel_rfl) rfl (fun K hK => ?_)
                rw [if_pos (by kernel_rfl)]
                refine oper_append6 (.tmp 53) (.tmp 56) 26 rfl (E + 1) 46 i8 (.agg #[.slice none 0 0, .int .i64 0, .slice none 0 0, .int .i64 0, .int .u64 0, .int .i64 0, .int .u64 0, .int .i64 0, .int .u64 0]) 9 104 Tryd.underlying26 hi8 hz8 hs8 hb8 rfl (by decide) (.slice Av nv cv) l.length xs rfl (own_below HZ.out.own (lbox w4 _)) ⟨w4.heap.size, 0, none⟩ 1 1 (ruC xr tb capc Ax cx) rfl rfl (ru_cells _ _ rfl _ _ _ _ _) ru_one (by unfold maxLen; omega) (by omega) (by have := HZ.out.size; simp; omega) ?_
                intro v' wd ho hg hv
                obtain ⟨A', n', c', rfl⟩ := own_form ho
                have HW := Lib.hid (HZ.out.turn HXR.out ho hg hv)
                refine hK.out _ _ trivial (fun _ => ?_)
                clear hK K ho hg hv
                (try simp only [Act.put, List.setIfInBounds_toArray, List.set_cons_zero, List.set_cons_succ, List.getElem_toArray, List.getElem_cons_zero, List.getElem_cons_succ])
                have hbE := HW.out.2
                have hlE : E < wd.heap.size := (Array.getElem?_eq_some_iff.1 hbE).1
                have q0 := cell6 hbE 5 rfl
                have q0f := frozen6 hbE 5
                refine wpAnyH_take (i := 6) (v := ?_) rfl (by kernel_rfl) (by kernel_rfl) (by kernel_rfl) (fun _ _ _ h => h) (Or.inl ⟨by rfl, ?_⟩) (by assumption) ?_
                rotate_left
                · intro wS hSw
                  (skip)
                  go_simp
                  all_goals with_reducible rfl
                (try simp only [List.getElem_toArray, List.getElem_cons_zero, List.getElem_cons_succ, Act.put, List.setIfInBounds_toArray, List.set_cons_zero, List.set_cons_succ])
                refine held_one (i := 7) (by kernel_rfl) rfl (fun K hK => ?_)
                go_simp
                refine hK.out _ _ trivial (fun _ => ?_)
                clear hK K hbE hlE q0 q0f
                refine wpAnyH_done (by kernel_rfl) ?_ _
                have HX := Lib.hid HW.out.1
                clear HW
                generalize wd.setCell ⟨E, 5, none⟩ (.slice A' n' c') = wx at HX ⊢
                go_wp2
                exact ⟨⟨_, _, _, _, _, HRS.out, HJ2.out, HLL.out, HX.out⟩, by
                  have h0 : wx.cell? ⟨E, 5, none⟩ = some (.slice A' n' c') := cell6 HX.out.box 5 rfl
                  have h1 := own_len HX.out.own
                  have h2 := HLL.out
                  rw [HCL.out]
                  unfold cellLen
                  rw [h0]
                  simp only [h1]
                  rw [List.length_append] at h2 ⊢
                  simp only [List.length_cons, List.length_nil] at h2 ⊢
                  omega⟩
      · have hbf : rp.isB S 2 bOn = false := by cases hq : rp.isB S 2 bOn with
          | true => exact absurd hq hb
          | false => rfl
        rw [if_neg hb] at hrest
        rw [hbf] at hIs
        injection hrest with hrest
        injection hrest with e1 e2
        subst e1
        subst e2
        have HIs := Lib.hid hIs
        clear hb hbf hIs hFa hRu hgo hll hjl hjl2 hdeep hnv
        generalize rp.isR S 2 bOn = ri at HIs HK gB
        clear gA gB
        go_wp2_with (first
          | (go_at_call 30; (with_reducible refine (HPk.out _ HT.out.rd).mono ?_); rintro e w1 ⟨rfl, hr1, hg1⟩; have HN := Lib.hid (HT.out.call hr1 hg1); have HTB : Hid ((w1.alloc (tkO q)).heap[w1.heap.size]? = some (tkO q)) := Lib.hid (World.alloc_heap_new w1 (tkO q)); have H1 : Hid (PoD w (w1.alloc (tkO q)) b A cap S rp E a fk fn dk dn l (.slice Av nv cv) xs) := Lib.hid (HN.out.alloc (tkO q)); have H1b : Hid (b < w1.heap.size) := Lib.hid hr1.row.lt; clear hr1 hg1 HN)
          | (go_at_call 31; (with_reducible refine (HIs.out _ H1.out.rd).mono ?_); rintro e w3 ⟨rfl, hr3, hg3⟩; have H3 : Hid (PoD w w3 b A cap S ri E a fk fn dk dn l (.slice Av nv cv) xs ∧ w3.heap[w1.heap.size]? = some (tkO q)) := Lib.hid ⟨H1.out.call hr3 hg3, kept_box HTB.out hg3 (by have h1 := H1b.out; omega)⟩; have f5 := cell6 H3.out.1.box 5 rfl; have p3 := cell6 H3.out.2 3 rfl; clear hr3 hg3 H1 HTB)
          | (go_at_call 28; (with_reducible refine (HK.out _ H3.out.1.rd).mono ?_); rintro e w5 ⟨rfl, hr5, hg5⟩; have H5 := Lib.hid (H3.out.1.call hr5 hg5); have c5 : w5.cell? ⟨b, 5, none⟩ = some (.int .i64 r2.err) := World.rowIs.cell H5.out.rd.row (i := 5) (by decide); have c6 : w5.cell? ⟨b, 6, none⟩ = some (.int .i64 (r2.bad : Int)) := World.rowIs.cell H5.out.rd.row (i := 6) (by decide); have hE5 := H5.out.box; have hR5 := H5.out.res; have hlw : w.heap.size < w5.heap.size := (Array.getElem?_eq_some_iff.1 hR5).1; have m0 := cell6 hE5 0 rfl; have m1 := cell6 hE5 1 rfl; have m2 := cell6 hE5 2 rfl; have m3 := cell6 hE5 3 rfl; have m4 := cell6 hE5 4 rfl; have m5 := cell6 hE5 5 rfl; have u0 := cell6 hR5 0 rfl; have u1 := cell6 hR5 1 rfl; have u2 := cell6 hR5 2 rfl; have u3 := cell6 hR5 3 rfl; have u4 := cell6 hR5 4 rfl; have u5 := cell6 hR5 5 rfl; have y0 := frozen6 hR5 0; have y1 := frozen6 hR5 1; have y2 := frozen6 hR5 2; have y3 := frozen6 hR5 3; have y4 := frozen6 hR5 4; have y5 := frozen6 hR5 5; clear hr5 hg5 hE5 hR5))
        refine wp_region_held_drew (S := fun W' => W'.rowIs b 93 7 (rdV A cap S r2)) (by kernel_rfl) H5.out.rd.row (fun hHeld => ?_)
        have H6 : Hid (w5.drew.rowIs b 93 7 (rdV A cap S r2) ∧ w5.drew.heap[w.heap.size]? = some (poO ⟨#[]⟩ 0 0 0 0 (.slice none 0 0)) ∧ Below w.heap.size w w5.drew) := Lib.hid ⟨H5.out.rd.row, H5.out.res, below_drawn H5.out.bel 1⟩
        have hlY : w.heap.size < w5.drew.heap.size := hlw
        have hbR : b ≠ w.heap.size := by have := H5.out.wb; omega
        clear c5 c6 u0 u1 u2 u3 u4 u5 y0 y1 y2 y3 y4 y5 m0 m1 m2 m3 m4 m5 hlw H5
        generalize w5.drew = Y at H6 hlY ⊢
        have h6 : Y.rowIs b 93 7 (rdV A cap S r2) := H6.out.1
        have u0 := cell6 H6.out.2.1 0 rfl
        have u1 := cell6 H6.out.2.1 1 rfl
        have u2 := cell6 H6.out.2.1 2 rfl
        have u3 := cell6 H6.out.2.1 3 rfl
        have u4 := cell6 H6.out.2.1 4 rfl
        have u5 := cell6 H6.out.2.1 5 rfl
        have y0 := frozen6 H6.out.2.1 0
        have y1 := frozen6 H6.out.2.1 1
        have y2 := frozen6 H6.out.2.1 2
        have y3 := frozen6 H6.out.2.1 3
        have y4 := frozen6 H6.out.2.1 4
        have y5 := frozen6 H6.out.2.1 5
        refine wpAnyH_take (i := 0) (v := ?_) rfl (by kernel_rfl) (by kernel_rfl) (by kernel_rfl) (fun _ _ _ h => h) (Or.inl ⟨by rfl, ?_⟩) (by assumption) ?_
        rotate_left
        · intro wS hSw
          (have i5 : wS.cell? ⟨b, 5, none⟩ = some (.int .i64 r2.err) := World.rowIs.cell hSw (i := 5) (by decide); have i6 : wS.cell? ⟨b, 6, none⟩ = some (.int .i64 (r2.bad : Int)) := World.rowIs.cell hSw (i := 6) (by decide))
          go_simp
          all_goals with_reducible rfl
        (try simp only [List.getElem_toArray, List.getElem_cons_zero, List.getElem_cons_succ, Act.put, List.setIfInBounds_toArray, List.set_cons_zero, List.set_cons_succ])
        refine wpAnyH_take (i := 1) (v := ?_) rfl (by kernel_rfl) (by kernel_rfl) (by kernel_rfl) (fun _ _ _ h => h) (Or.inl ⟨by rfl, ?_⟩) (by assumption) ?_
        rotate_left
        · intro wS hSw
          (have i5 : wS.cell? ⟨b, 5, none⟩ = some (.int .i64 r2.err) := World.rowIs.cell hSw (i := 5) (by decide); have i6 : wS.cell? ⟨b, 6, none⟩ = some (.int .i64 (r2.bad : Int)) := World.rowIs.cell hSw (i := 6) (by decide))
          go_simp
          all_goals with_reducible rfl
        (try simp only [List.getElem_toArray, List.getElem_cons_zero, List.getElem_cons_succ, Act.put, List.setIfInBounds_toArray, List.set_cons_zero, List.set_cons_succ])
        refine wpAnyH_take (i := 2) (v := ?_) rfl (by kernel_rfl) (by kernel_rfl) (by kernel_rfl) (fun _ _ _ h => h) (Or.inl ⟨by rfl, ?_⟩) (by assumption) ?_
        rotate_left
        · intro wS hSw
          (have i5 : wS.cell? ⟨b, 5, none⟩ = some (.int .i64 r2.err) := World.rowIs.cell hSw (i := 5) (by decide); have i6 : wS.cell? ⟨b, 6, none⟩ = some (.int .i64 (r2.bad : Int)) := World.rowIs.cell hSw (i := 6) (by decide))
          go_simp
          all_goals with_reducible rfl
        (try simp only [List.getElem_toArray, List.getElem_cons_zero, List.getElem_cons_succ, Act.put, List.setIfInBounds_toArray, List.set_cons_zero, List.set_cons_succ])
        refine wpAnyH_take (i := 3) (v := ?_) rfl (by kernel_rfl) (by kernel_rfl) (by kernel_rfl) (fun _ _ _ h => h) (Or.inl ⟨by rfl, ?_⟩) (by assumption) ?_
        rotate_left
        · intro wS hSw
          (have i5 : wS.cell? ⟨b, 5, none⟩ = some (.int .i64 r2.err) := World.rowIs.cell hSw (i := 5) (by decide); have i6 : wS.cell? ⟨b, 6, none⟩ = some (.int .i64 (r2.bad : Int)) := World.rowIs.cell hSw (i := 6) (by decide))
          go_simp
          all_goals with_reducible rfl
        (try simp only [List.getElem_toArray, List.getElem_cons_zero, List.getElem_cons_succ, Act.put, List.setIfInBounds_toArray, List.set_cons_zero, List.set_cons_succ])
        refine wpAnyH_take (i := 4) (v := ?_) rfl (by kernel_rfl) (by kernel_rfl) (by kernel_rfl) (fun _ _ _ h => h) (Or.inl ⟨by rfl, ?_⟩) (by assumption) ?_
        rotate_left
        · intro wS hSw
          (have i5 : wS.cell? ⟨b, 5, none⟩ = some (.int .i64 r2.err) := World.rowIs.cell hSw (i := 5) (by decide); have i6 : wS.cell? ⟨b, 6, none⟩ = some (.int .i64 (r2.bad : Int)) := World.rowIs.cell hSw (i := 6) (by decide))
          go_simp
          all_goals with_reducible rfl
        (try simp only [List.getElem_toArray, List.getElem_cons_zero, List.getElem_cons_succ, Act.put, List.setIfInBounds_toArray, List.set_cons_zero, List.set_cons_succ])
        refine wpAnyH_take (i := 5) (v := ?_) rfl (by kernel_rfl) (by kernel_rfl) (by kernel_rfl) (fun _ _ _ h => h) (Or.inl ⟨by rfl, ?_⟩) (by assumption) ?_
        rotate_left
        · intro wS hSw
          (have i5 : wS.cell? ⟨b, 5, none⟩ = some (.int .i64 r2.err) := World.rowIs.cell hSw (i := 5) (by decide); have i6 : wS.cell? ⟨b, 6, none⟩ = some (.int .i64 (r2.bad : Int)) := World.rowIs.cell hSw (i := 6) (by decide))
          go_simp
          all_goals with_reducible rfl
        (try simp only [List.getElem_toArray, List.getElem_cons_zero, List.getElem_cons_succ, Act.put, List.setIfInBounds_toArray, List.set_cons_zero, List.set_cons_succ])
        refine wpAnyH_take (i := 6) (v := ?_) rfl (by kernel_rfl) (by kernel_rfl) (by kernel_rfl) (fun _ _ _ h => h) (Or.inl ⟨by rfl, ?_⟩) (by assumption) ?_
        rotate_left
        · intro wS hSw
          (have i5 : wS.cell? ⟨b, 5, none⟩ = some (.int .i64 r2.err) := World.rowIs.cell hSw (i := 5) (by decide); have i6 : wS.cell? ⟨b, 6, none⟩ = some (.int .i64 (r2.bad : Int)) := World.rowIs.cell hSw (i := 6) (by decide))
          go_simp
          all_goals with_reducible rfl
        (try simp only [List.getElem_toArray, List.getElem_cons_zero, List.getElem_cons_succ, Act.put, List.setIfInBounds_toArray, List.set_cons_zero, List.set_cons_succ])
        refine wpAnyH_take (i := 7) (v := ?_) rfl (by kernel_rfl) (by kernel_rfl) (by kernel_rfl) (fun _ _ _ h => h) (Or.inl ⟨by rfl, ?_⟩) (by assumption) ?_
        rotate_left
        · intro wS hSw
          (have i5 : wS.cell? ⟨b, 5, none⟩ = some (.int .i64 r2.err) := World.rowIs.cell hSw (i := 5) (by decide); have i6 : wS.cell? ⟨b, 6, none⟩ = some (.int .i64 (r2.bad : Int)) := World.rowIs.cell hSw (i := 6) (by decide))
          go_simp
          all_goals with_reducible rfl
        (try simp only [List.getElem_toArray, List.getElem_cons_zero, List.getElem_cons_succ, Act.put, List.setIfInBounds_toArray, List.set_cons_zero, List.set_cons_succ])
        refine wpAnyH_take (i := 8) (v := ?_) rfl (by kernel_rfl) (by kernel_rfl) (by kernel_rfl) (fun _ _ _ h => h) (Or.inl ⟨by rfl, ?_⟩) (by assumption) ?_
        rotate_left
        · intro wS hSw
          (have i5 : wS.cell? ⟨b, 5, none⟩ = some (.int .i64 r2.err) := World.rowIs.cell hSw (i := 5) (by decide); have i6 : wS.cell? ⟨b, 6, none⟩ = some (.int .i64 (r2.bad : Int)) := World.rowIs.cell hSw (i := 6) (by decide))
          go_simp
          all_goals with_reducible rfl
        (try simp only [List.getElem_toArray, List.getElem_cons_zero, List.getElem_cons_succ, Act.put, List.setIfInBounds_toArray, List.set_cons_zero, List.set_cons_succ])
        refine held_one (i := 9) (by kernel_rfl) rfl (fun K hK => ?_)
        go_simp
        refine hK.out _ _ (row_new (row_new (row_new (row_new (row_new (row_new h6 hbR 0 _) hbR 1 _) hbR 2 _) hbR 3 _) hbR 4 _) hbR 5 _) (fun hH2 => ?_)
        clear hK K hHeld
        refine wpAnyH_take (i := 10) (v := ?_) rfl (by kernel_rfl) (by kernel_rfl) (by kernel_rfl) (fun _ _ _ h => h) (Or.inl ⟨by rfl, ?_⟩) (by assumption) ?_
        rotate_left
        · intro wS hSw
          (skip)
          go_simp
          all_goals with_reducible rfl
        (try simp only [List.getElem_toArray, List.getElem_cons_zero, List.getElem_cons_succ, Act.put, List.setIfInBounds_toArray, List.set_cons_zero, List.set_cons_succ])
        refine wpAnyH_take (i := 11) (v := ?_) rfl (by kernel_rfl) (by kernel_rfl) (by kernel_rfl) (fun _ _ _ h => h) (Or.inl ⟨by rfl, ?_⟩) (by assumption) ?_
        rotate_left
        · intro wS hSw
          (skip)
          go_simp
          all_goals with_reducible rfl
        (try simp only [List.getElem_toArray, List.getElem_cons_zero, List.getElem_cons_succ, Act.put, List.setIfInBounds_toArray, List.set_cons_zero, List.set_cons_succ])
        refine wpAnyH_done (by kernel_rfl) ?_ _
        go_wp2
        exact bodyPost_ret (v := .tuple #[poV ⟨#[]⟩ 0 0 0 0 (.slice none 0 0), .int .i64 r2.err, .int .i64 (r2.bad : Int)]) (by simp [results, Tryd.results16, go_sem, u0, u1, u2, u3, u4, u5, World.cell?_setCell_same']) rfl ⟨rfl, (((((H6.out.2.2.setCell (p := ⟨w.heap.size, 0, none⟩) (Nat.le_refl _) _).setCell (p := ⟨w.heap.size, 1, none⟩) (Nat.le_refl _) _).setCell (p := ⟨w.heap.size, 2, none⟩) (Nat.le_refl _) _).setCell (p := ⟨w.heap.size, 3, none⟩) (Nat.le_refl _) _).setCell (p := ⟨w.heap.size, 4, none⟩) (Nat.le_refl _) _).setCell (p := ⟨w.heap.size, 5, none⟩) (Nat.le_refl _) _⟩
    · have heb : (rr.err == 0) = false := beq_false_of_ne he
      rw [if_pos he] at hrest
      injection hrest with hrest
      injection hrest with e1 e2
      subst e1
      subst e2
      clear he hIs hFa hRu hgo hll hjl hjl2 hdeep gA gB HPk hnv
      go_wp2_with (first
        | (go_at_call 28; (with_reducible refine (HK.out _ HT.out.rd).mono ?_); rintro e w5 ⟨rfl, hr5, hg5⟩; have H5 := Lib.hid (HT.out.call hr5 hg5); have c5 : w5.cell? ⟨b, 5, none⟩ = some (.int .i64 r2.err) := World.rowIs.cell H5.out.rd.row (i := 5) (by decide); have c6 : w5.cell? ⟨b, 6, none⟩ = some (.int .i64 (r2.bad : Int)) := World.rowIs.cell H5.out.rd.row (i := 6) (by decide); have hE5 := H5.out.box; have hR5 := H5.out.res; have hlw : w.heap.size < w5.heap.size := (Array.getElem?_eq_some_iff.1 hR5).1; have m0 := cell6 hE5 0 rfl; have m1 := cell6 hE5 1 rfl; have m2 := cell6 hE5 2 rfl; have m3 := cell6 hE5 3 rfl; have m4 := cell6 hE5 4 rfl; have m5 := cell6 hE5 5 rfl; have u0 := cell6 hR5 0 rfl; have u1 := cell6 hR5 1 rfl; have u2 := cell6 hR5 2 rfl; have u3 := cell6 hR5 3 rfl; have u4 := cell6 hR5 4 rfl; have u5 := cell6 hR5 5 rfl; have y0 := frozen6 hR5 0; have y1 := frozen6 hR5 1; have y2 := frozen6 hR5 2; have y3 := frozen6 hR5 3; have y4 := frozen6 hR5 4; have y5 := frozen6 hR5 5; clear hr5 hg5 hE5 hR5))
      refine wp_region_held_drew (S := fun W' => W'.rowIs b 93 7 (rdV A cap S r2)) (by kernel_rfl) H5.out.rd.row (fun hHeld => ?_)
      have H6 : Hid (w5.drew.rowIs b 93 7 (rdV A cap S r2) ∧ w5.drew.heap[w.heap.size]? = some (poO ⟨#[]⟩ 0 0 0 0 (.slice none 0 0)) ∧ Below w.heap.size w w5.drew) := Lib.hid ⟨H5.out.rd.row, H5.out.res, below_drawn H5.out.bel 1⟩
      have hlY : w.heap.size < w5.drew.heap.size := hlw
      have hbR : b ≠ w.heap.size := by have := H5.out.wb; omega
      clear c5 c6 u0 u1 u2 u3 u4 u5 y0 y1 y2 y3 y4 y5 m0 m1 m2 m3 m4 m5 hlw H5
      generalize w5.drew = Y at H6 hlY ⊢
      have h6 : Y.rowIs b 93 7 (rdV A cap S r2) := H6.out.1
      have u0 := cell6 H6.out.2.1 0 rfl
      have u1 := cell6 H6.out.2.1 1 rfl
      have u2 := cell6 H6.out.2.1 2 rfl
      have u3 := cell6 H6.out.2.1 3 rfl
      have u4 := cell6 H6.out.2.1 4 rfl
      have u5 := cell6 H6.out.2.1 5 rfl
      have y0 := frozen6 H6.out.2.1 0
      have y1 := frozen6 H6.out.2.1 1
      have y2 := frozen6 H6.out.2.1 2
      have y3 := frozen6 H6.out.2.1 3
      have y4 := frozen6 H6.out.2.1 4
      have y5 := frozen6 H6.out.2.1 5
      refine wpAnyH_take (i := 0) (v := ?_) rfl (by kernel_rfl) (by kernel_rfl) (by kernel_rfl) (fun _ _ _ h => h) (Or.inl ⟨by rfl, ?_⟩) (by assumption) ?_
      rotate_left
      · intro wS hSw
        (have i5 : wS.cell? ⟨b, 5, none⟩ = some (.int .i64 r2.err) := World.rowIs.cell hSw (i := 5) (by decide); have i6 : wS.cell? ⟨b, 6, none⟩ = some (.int .i64 (r2.bad : Int)) := World.rowIs.cell hSw (i := 6) (by decide))
        go_simp
        all_goals with_reducible rfl
      (try simp only [List.getElem_toArray, List.getElem_cons_zero, List.getElem_cons_succ, Act.put, List.setIfInBounds_toArray, List.set_cons_zero, List.set_cons_succ])
      refine wpAnyH_take (i := 1) (v := ?_) rfl (by kernel_rfl) (by kernel_rfl) (by kernel_rfl) (fun _ _ _ h => h) (Or.inl ⟨by rfl, ?_⟩) (by assumption) ?_
      rotate_left
      · intro wS hSw
        (have i5 : wS.cell? ⟨b, 5, none⟩ = some (.int .i64 r2.err) := World.rowIs.cell hSw (i := 5) (by decide); have i6 : wS.cell? ⟨b, 6, none⟩ = some (.int .i64 (r2.bad : Int)) := World.rowIs.cell hSw (i := 6) (by decide))
        go_simp
        all_goals with_reducible rfl
      (try simp only [List.getElem_toArray, List.getElem_cons_zero, List.getElem_cons_succ, Act.put, List.setIfInBounds_toArray, List.set_cons_zero, List.set_cons_succ])
      refine wpAnyH_take (i := 2) (v := ?_) rfl (by kernel_rfl) (by kernel_rfl) (by kernel_rfl) (fun _ _ _ h => h) (Or.inl ⟨by rfl, ?_⟩) (by assumption) ?_
      rotate_left
      · intro wS hSw
        (have i5 : wS.cell? ⟨b, 5, none⟩ = some (.int .i64 r2.err) := World.rowIs.cell hSw (i := 5) (by decide); have i6 : wS.cell? ⟨b, 6, none⟩ = some (.int .i64 (r2.bad : Int)) := World.rowIs.cell hSw (i := 6) (by decide))
        go_simp
        all_goals with_reducible rfl
      (try simp only [List.getElem_toArray, List.getElem_cons_zero, List.getElem_cons_succ, Act.put, List.setIfInBounds_toArray, List.set_cons_zero, List.set_cons_succ])
      refine wpAnyH_take (i := 3) (v := ?_) rfl (by kernel_rfl) (by kernel_rfl) (by kernel_rfl) (fun _ _ _ h => h) (Or.inl ⟨by rfl, ?_⟩) (by assumption) ?_
      rotate_left
      · intro wS hSw
        (have i5 : wS.cell? ⟨b, 5, none⟩ = some (.int .i64 r2.err) := World.rowIs.cell hSw (i := 5) (by decide); have i6 : wS.cell? ⟨b, 6, none⟩ = some (.int .i64 (r2.bad : Int)) := World.rowIs.cell hSw (i := 6) (by decide))
        go_simp
        all_goals with_reducible rfl
      (try simp only [List.getElem_toArray, List.getElem_cons_zero, List.getElem_cons_succ, Act.put, List.setIfInBounds_toArray, List.set_cons_zero, List.set_cons_succ])
      refine wpAnyH_take (i := 4) (v := ?_) rfl (by kernel_rfl) (by kernel_rfl) (by kernel_rfl) (fun _ _ _ h => h) (Or.inl ⟨by rfl, ?_⟩) (by assumption) ?_
      rotate_left
      · intro wS hSw
        (have i5 : wS.cell? ⟨b, 5, none⟩ = some (.int .i64 r2.err) := World.rowIs.cell hSw (i := 5) (by decide); have i6 : wS.cell? ⟨b, 6, none⟩ = some (.int .i64 (r2.bad : Int)) := World.rowIs.cell hSw (i := 6) (by decide))
        go_simp
        all_goals with_reducible rfl
      (try simp only [List.getElem_toArray, List.getElem_cons_zero, List.getElem_cons_succ, Act.put, List.setIfInBounds_toArray, List.set_cons_zero, List.set_cons_succ])
      refine wpAnyH_take (i := 5) (v := ?_) rfl (by kernel_rfl) (by kernel_rfl) (by kernel_rfl) (fun _ _ _ h => h) (Or.inl ⟨by rfl, ?_⟩) (by assumption) ?_
      rotate_left
      · intro wS hSw
        (have i5 : wS.cell? ⟨b, 5, none⟩ = some (.int .i64 r2.err) := World.rowIs.cell hSw (i := 5) (by decide); have i6 : wS.cell? ⟨b, 6, none⟩ = some (.int .i64 (r2.bad : Int)) := World.rowIs.cell hSw (i := 6) (by decide))
        go_simp
        all_goals with_reducible rfl
      (try simp only [List.getElem_toArray, List.getElem_cons_zero, List.getElem_cons_succ, Act.put, List.setIfInBounds_toArray, List.set_cons_zero, List.set_cons_succ])
      refine wpAnyH_take (i := 6) (v := ?_) rfl (by kernel_rfl) (by kernel_rfl) (by kernel_rfl) (fun _ _ _ h => h) (Or.inl ⟨by rfl, ?_⟩) (by assumption) ?_
      rotate_left
      · intro wS hSw
        (have i5 : wS.cell? ⟨b, 5, none⟩ = some (.int .i64 r2.err) := World.rowIs.cell hSw (i := 5) (by decide); have i6 : wS.cell? ⟨b, 6, none⟩ = some (.int .i64 (r2.bad : Int)) := World.rowIs.cell hSw (i := 6) (by decide))
        go_simp
        all_goals with_reducible rfl
      (try simp only [List.getElem_toArray, List.getElem_cons_zero, List.getElem_cons_succ, Act.put, List.setIfInBounds_toArray, List.set_cons_zero, List.set_cons_succ])
      refine wpAnyH_take (i := 7) (v := ?_) rfl (by kernel_rfl) (by kernel_rfl) (by kernel_rfl) (fun _ _ _ h => h) (Or.inl ⟨by rfl, ?_⟩) (by assumption) ?_
      rotate_left
      · intro wS hSw
        (have i5 : wS.cell? ⟨b, 5, none⟩ = some (.int .i64 r2.err) := World.rowIs.cell hSw (i := 5) (by decide); have i6 : wS.cell? ⟨b, 6, none⟩ = some (.int .i64 (r2.bad : Int)) := World.rowIs.cell hSw (i := 6) (by decide))
        go_simp
        all_goals with_reducible rfl
      (try simp only [List.getElem_toArray, List.getElem_cons_zero, List.getElem_cons_succ, Act.put, List.setIfInBounds_toArray, List.set_cons_zero, List.set_cons_succ])
      refine wpAnyH_take (i := 8) (v := ?_) rfl (by kernel_rfl) (by kernel_rfl) (by kernel_rfl) (fun _ _ _ h => h) (Or.inl ⟨by rfl, ?_⟩) (by assumption) ?_
      rotate_left
      · intro wS hSw
        (have i5 : wS.cell? ⟨b, 5, none⟩ = some (.int .i64 r2.err) := World.rowIs.cell hSw (i := 5) (by decide); have i6 : wS.cell? ⟨b, 6, none⟩ = some (.int .i64 (r2.bad : Int)) := World.rowIs.cell hSw (i := 6) (by decide))
        go_simp
        all_goals with_reducible rfl
      (try simp only [List.getElem_toArray, List.getElem_cons_zero, List.getElem_cons_succ, Act.put, List.setIfInBounds_toArray, List.set_cons_zero, List.set_cons_succ])
      refine held_one (i := 9) (by kernel_rfl) rfl (fun K hK => ?_)
      go_simp
      refine hK.out _ _ (row_new (row_new (row_new (row_new (row_new (row_new h6 hbR 0 _) hbR 1 _) hbR 2 _) hbR 3 _) hbR 4 _) hbR 5 _) (fun hH2 => ?_)
      clear hK K hHeld
      refine wpAnyH_take (i := 10) (v := ?_) rfl (by kernel_rfl) (by kernel_rfl) (by kernel_rfl) (fun _ _ _ h => h) (Or.inl ⟨by rfl, ?_⟩) (by assumption) ?_
      rotate_left
      · intro wS hSw
        (skip)
        go_simp
        all_goals with_reducible rfl
      (try simp only [List.getElem_toArray, List.getElem_cons_zero, List.getElem_cons_succ, Act.put, List.setIfInBounds_toArray, List.set_cons_zero, List.set_cons_succ])
      refine wpAnyH_take (i := 11) (v := ?_) rfl (by kernel_rfl) (by kernel_rfl) (by kernel_rfl) (fun _ _ _ h => h) (Or.inl ⟨by rfl, ?_⟩) (by assumption) ?_
      rotate_left
      · intro wS hSw
        (skip)
        go_simp
        all_goals with_reducible rfl
      (try simp only [List.getElem_toArray, List.getElem_cons_zero, List.getElem_cons_succ, Act.put, List.setIfInBounds_toArray, List.set_cons_zero, List.set_cons_succ])
      refine wpAnyH_done (by kernel_rfl) ?_ _
      go_wp2
      exact bodyPost_ret (v := .tuple #[poV ⟨#[]⟩ 0 0 0 0 (.slice none 0 0), .int .i64 r2.err, .int .i64 (r2.bad : Int)]) (by simp [results, Tryd.results16, go_sem, u0, u1, u2, u3, u4, u5, World.cell?_setCell_same']) rfl ⟨rfl, (((((H6.out.2.2.setCell (p := ⟨w.heap.size, 0, none⟩) (Nat.le_refl _) _).setCell (p := ⟨w.heap.size, 1, none⟩) (Nat.le_refl _) _).setCell (p := ⟨w.heap.size, 2, none⟩) (Nat.le_refl _) _).setCell (p := ⟨w.heap.size, 3, none⟩) (Nat.le_refl _) _).setCell (p := ⟨w.heap.size, 4, none⟩) (Nat.le_refl _) _).setCell (p := ⟨w.heap.size, 5, none⟩) (Nat.le_refl _) _⟩
end Go.Proofs.YtgeapkjegemkeaaDoor
