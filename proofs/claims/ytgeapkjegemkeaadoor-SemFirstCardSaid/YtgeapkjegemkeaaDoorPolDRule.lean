/-
  The document's rule: its contract. Conditions: those that it names.
-/
import Derived.Test.YtgeapkjegemkeaaDoorGPolDE
import Derived.Test.YtgeapkjegemkeaaDoorPDefs
import Derived.Test.YtgeapkjegemkeaaDoorOperAppend
namespace Go.Proofs.YtgeapkjegemkeaaDoor
open Go Go.RowKit
set_option linter.unusedSimpArgs false
set_option linter.unusedVariables false

theorem RdAt.keep6 {w1 wd : World} {b : Nat} {A : Option Addr} {cap : Nat} {S : Src} {r : Rd} (h : RdAt w1 b A cap S r) (hs : w1.heap.size ≤ wd.heap.size) (hk : ∀ c, c ≤ b → wd.heap[c]? = w1.heap[c]?) : RdAt wd b A cap S r := by
  refine ⟨World.rowIs.of_block h.row (hk b (Nat.le_refl _)), fun hn => ?_, h.low, h.size⟩
  obtain ⟨tb, o, rfl, hl, hc⟩ := h.toks hn
  obtain ⟨tb', o', e, hl'⟩ := h.low hn
  injection e with e; injection e with e1 _ _; subst e1
  have hkb := hk tb (by omega)
  have cell : ∀ j u, w1.cell? ⟨tb, j, none⟩ = some u → wd.cell? ⟨tb, j, none⟩ = some u := fun j u hu => (World.cell?_of_block (a := ⟨tb, j, none⟩) hkb).trans hu
  refine ⟨tb, o, rfl, by omega, fun i hi => ?_⟩
  obtain ⟨c0, c1, c2, c3⟩ := hc i hi
  exact ⟨cell _ _ c0, cell _ _ c1, cell _ _ c2, cell _ _ c3⟩
/-- A rule whose calls are being read. -/
structure CallsD (w W : World) (b : Nat) (A : Option Addr) (cap : Nat) (S : Src) (r : Rd) (l : List (ByteArray × Nat)) (v : Value) : Prop where
  rd : RdAt W b A cap S r
  gr : w.grownBy W (some b)
  bw : b < w.heap.size
  box : W.heap[w.heap.size + 1]? = some (ruO v 1 (.slice none 0 0) 0 0 0 0 0 0)
  res : W.heap[w.heap.size]? = some (ruO (.slice none 0 0) 0 (.slice none 0 0) 0 0 0 0 0 0)
  own : W.ownsRow (w.heap.size + 2) 100 2 v l.length (callsC l)
section
variable {w W W1 wd : World} {b : Nat} {A : Option Addr} {cap : Nat} {S : Src} {r r1 : Rd} {l : List (ByteArray × Nat)} {v v' : Value} {x : ByteArray × Nat} {O : Obj}
theorem CallsD.size (h : CallsD w W b A cap S r l v) : w.heap.size + 2 ≤ W.heap.size := (Array.getElem?_eq_some_iff.1 h.box).1
theorem CallsD.call (h : CallsD w W b A cap S r l v) (hp : RdAt W1 b A cap S r1) (hg : W.grownBy W1 (some b)) : CallsD w W1 b A cap S r1 l v := by
  have hbw := h.bw
  refine ⟨hp, grown_trans h.gr hg, hbw, kept_box h.box hg (by omega), kept_box h.res hg (by omega), h.own.kept (row := some b) hg ?_⟩
  rcases hv : v.ownBlock with _ | c
  · exact .inl rfl
  · exact .inr (fun e => by injection e with e; have := (h.own.lt c hv).1; omega)
theorem CallsD.drawn (h : CallsD w W b A cap S r l v) (n : Nat) : CallsD w (W.drewN n) b A cap S r l v :=
  ⟨h.rd.keep6 (Nat.le_refl _) (fun _ _ => rfl), grown_drawn h.gr n, h.bw, h.box, h.res, h.own⟩
theorem CallsD.turn (h : CallsD w W b A cap S r l v) (ho : wd.ownsRow (w.heap.size + 2) 100 2 v' (l.length + 1) (callsC l ++ callC x)) (hg : (W.alloc O).grownBy wd v.ownBlock) (hv : v'.ownBlock = v.ownBlock ∨ v'.ownBlock = some (W.alloc O).heap.size) :
    CallsD w (wd.setCell ⟨w.heap.size + 1, 0, none⟩ v') b A cap S r (l ++ [x]) v' ∧ wd.heap[w.heap.size + 1]? = some (ruO v 1 (.slice none 0 0) 0 0 0 0 0 0) := by
  have hsz : (W.alloc O).heap.size = W.heap.size + 1 := by simp
  have hvl : ∀ c, v.ownBlock = some c → w.heap.size + 2 ≤ c ∧ c < W.heap.size := fun c e => h.own.lt c e
  have hbw := h.bw
  have hs := h.size
  have size3 := hg.size
  have keep : ∀ c, c < w.heap.size + 2 → wd.heap[c]? = W.heap[c]? := fun c hc => (hg.block c (by omega) (fun e => by have := hvl c e.symm; omega)).trans (Below.heap_alloc W O c (by omega))
  have keep2 : ∀ c, c < W.heap.size → some c ≠ v.ownBlock → wd.heap[c]? = W.heap[c]? := fun c hc hne => (hg.block c (by omega) hne).trans (Below.heap_alloc W O c hc)
  have hbx : wd.heap[w.heap.size + 1]? = some (ruO v 1 (.slice none 0 0) 0 0 0 0 0 0) := (keep _ (by omega)).trans h.box
  refine ⟨⟨?_, ?_, hbw, heap_set1 hbx 0 _, kept_set ((keep _ (by omega)).trans h.res) (by omega) 0 _, ?_⟩, hbx⟩
  · exact (h.rd.keep6 (by omega) (fun c hc => keep c (by omega))).new (by omega) 0 _
  · refine grown_new ⟨hg.os.trans h.gr.os, hg.tape.trans h.gr.tape, hg.output.trans h.gr.output, by have := h.gr.size; omega, fun c hc hne => (keep c (by omega)).trans (h.gr.block c hc hne)⟩ (by omega) 0 _
  · rw [List.length_append, callsC_snoc]
    refine World.ownsRow.kept (row := some (w.heap.size + 1)) ho (grown_set (World.grownBy.refl wd _) 0 _) ?_
    rcases hv with hv | hv
    · rw [hv]
      rcases hq : v.ownBlock with _ | c
      · exact .inl rfl
      · exact .inr (fun e => by injection e with e; have := (hvl c hq).1; omega)
    · rw [hv]; exact .inr (fun e => by injection e with e; omega)
end
/-- A rule with its calls. -/
structure RuleD (w W : World) (b : Nat) (A : Option Addr) (cap : Nat) (S : Src) (r : Rd) (tb capc : Nat) (cs : List (ByteArray × Nat)) (x : Ex) (Ax : Option Addr) (cx : Nat) (k n : Int) : Prop where
  rd : RdAt W b A cap S r
  gr : w.grownBy W (some b)
  bw : b < w.heap.size
  box : W.heap[w.heap.size + 1]? = some (ruO (.slice (some ⟨tb, 0, none⟩) cs.length capc) x.op (.slice Ax x.args.length cx) x.field (x.mask : Int) x.rel (x.value : Int) k n)
  res : W.heap[w.heap.size]? = some (ruO (.slice none 0 0) 0 (.slice none 0 0) 0 0 0 0 0 0)
  lo : w.heap.size + 2 ≤ tb
  lt : tb < W.heap.size
  calls : ∀ j u, (callsC cs)[j]? = some u → W.cell? ⟨tb, j, none⟩ = some u
  ex : ExIn W (fun k => w.heap.size + 2 ≤ k) x Ax cx
theorem CallsD.done {w W : World} {b : Nat} {A : Option Addr} {cap : Nat} {S : Src} {r : Rd} {l : List (ByteArray × Nat)} {v : Value} (h : CallsD w W b A cap S r l v) (hp : 0 < l.length) : ∃ tb capc, v = .slice (some ⟨tb, 0, none⟩) l.length capc ∧ RuleD w W b A cap S r tb capc l (.plain 1) none 0 0 0 := by
  have hb := h.box
  rcases h.own.2 with ⟨_, h0⟩ | ⟨tb, cap', cur, hv, hlo, hh, _, _, hs, ht⟩
  · omega
  · subst hv
    refine ⟨tb, cap', rfl, h.rd, h.gr, h.bw, hb, h.res, hlo, (Array.getElem?_eq_some_iff.1 hh).1, fun j u hj => ?_, .inl ⟨rfl, rfl, rfl⟩⟩
    rw [World.ownsRow.cellAt h.own j (by rw [← h.own.1]; exact (List.getElem?_eq_some_iff.1 hj).1)]
    exact hj
namespace RuleD
variable {w W W' : World} {b : Nat} {A : Option Addr} {cap : Nat} {S : Src} {r r' : Rd} {tb capc : Nat} {cs : List (ByteArray × Nat)} {x : Ex} {Ax : Option Addr} {cx : Nat} {k n : Int}
theorem size (h : RuleD w W b A cap S r tb capc cs x Ax cx k n) : w.heap.size + 2 ≤ W.heap.size := (Array.getElem?_eq_some_iff.1 h.box).1
theorem call (h : RuleD w W b A cap S r tb capc cs x Ax cx k n) (hp : RdAt W' b A cap S r') (hg : W.grownBy W' (some b)) : RuleD w W' b A cap S r' tb capc cs x Ax cx k n := by
  have := h.bw; have := h.lo; have := h.lt; have := hg.size
  exact ⟨hp, grown_trans h.gr hg, h.bw, kept_box h.box hg (by omega), kept_box h.res hg (by omega), h.lo, by omega, fun j u hj => (World.cell?_of_block (a := ⟨tb, j, none⟩) (hg.block tb h.lt (fun e => by injection e with e; omega))).trans (h.calls j u hj), h.ex.keep hg.size (fun _ hk => hk) (fun c hc hl => hg.block c hl (fun e => by injection e with e; omega))⟩
theorem setEx {x' : Ex} {A' : Option Addr} {c' : Nat} (h : RuleD w W b A cap S r tb capc cs x Ax cx k n) (hx : ExIn W (fun k => w.heap.size + 2 ≤ k) x' A' c') :
    RuleD w ((((((W.setCell ⟨w.heap.size + 1, 1, none⟩ (.int .i64 x'.op)).setCell ⟨w.heap.size + 1, 2, none⟩ (.slice A' x'.args.length c')).setCell ⟨w.heap.size + 1, 3, none⟩ (.int .i64 x'.field)).setCell ⟨w.heap.size + 1, 4, none⟩ (.int .u64 (x'.mask : Int))).setCell ⟨w.heap.size + 1, 5, none⟩ (.int .i64 x'.rel)).setCell ⟨w.heap.size + 1, 6, none⟩ (.int .u64 (x'.value : Int))) b A cap S r tb capc cs x' A' c' k n := by
  have := h.bw; have := h.lo; have := h.lt
  refine ⟨(((((h.rd.new (by omega) 1 _).new (by omega) 2 _).new (by omega) 3 _).new (by omega) 4 _).new (by omega) 5 _).new (by omega) 6 _,
    grown_new (grown_new (grown_new (grown_new (grown_new (grown_new h.gr (by omega) 1 _) (by omega) 2 _) (by omega) 3 _) (by omega) 4 _) (by omega) 5 _) (by omega) 6 _, h.bw,
    heap_set1 (heap_set1 (heap_set1 (heap_set1 (heap_set1 (heap_set1 h.box 1 _) 2 _) 3 _) 4 _) 5 _) 6 _,
    kept_set (kept_set (kept_set (kept_set (kept_set (kept_set h.res (by omega) 1 _) (by omega) 2 _) (by omega) 3 _) (by omega) 4 _) (by omega) 5 _) (by omega) 6 _, h.lo, by simpa [World.setCell] using h.lt, fun j u hj => ?_, ?_⟩
  · have ne : ∀ c, (⟨w.heap.size + 1, c, none⟩ : Addr) ≠ ⟨tb, j, none⟩ := fun c e => by injection e with e _; omega
    exact (World.cell?_setCell_other (h := ne 6) ..).trans ((World.cell?_setCell_other (h := ne 5) ..).trans ((World.cell?_setCell_other (h := ne 4) ..).trans ((World.cell?_setCell_other (h := ne 3) ..).trans ((World.cell?_setCell_other (h := ne 2) ..).trans ((World.cell?_setCell_other (h := ne 1) ..).trans (h.calls j u hj))))))
  · exact ex_set (ex_set (ex_set (ex_set (ex_set (ex_set hx (fun k hk => by omega) 1 _) (fun k hk => by omega) 2 _) (fun k hk => by omega) 3 _) (fun k hk => by omega) 4 _) (fun k hk => by omega) 5 _) (fun k hk => by omega) 6 _
theorem setVerd {k' n' : Int} (h : RuleD w W b A cap S r tb capc cs x Ax cx k n) :
    RuleD w ((W.setCell ⟨w.heap.size + 1, 7, none⟩ (.int .i64 k')).setCell ⟨w.heap.size + 1, 8, none⟩ (.int .u64 n')) b A cap S r tb capc cs x Ax cx k' n' := by
  have := h.bw; have := h.lo; have := h.lt
  refine ⟨(h.rd.new (by omega) 7 _).new (by omega) 8 _, grown_new (grown_new h.gr (by omega) 7 _) (by omega) 8 _, h.bw, heap_set1 (heap_set1 h.box 7 _) 8 _, kept_set (kept_set h.res (by omega) 7 _) (by omega) 8 _, h.lo, by simpa [World.setCell] using h.lt, fun j u hj => ?_, ?_⟩
  · have ne : ∀ c, (⟨w.heap.size + 1, c, none⟩ : Addr) ≠ ⟨tb, j, none⟩ := fun c e => by injection e with e _; omega
    exact (World.cell?_setCell_other (h := ne 8) ..).trans ((World.cell?_setCell_other (h := ne 7) ..).trans (h.calls j u hj))
  · exact ex_set (ex_set h.ex (fun k hk => by omega) 7 _) (fun k hk => by omega) 8 _
theorem done {v7 : Nat} (h : RuleD w W b A cap S r tb capc cs x Ax cx k (v7 : Int)) :
    RuP w.heap.size ⟨cs, x, (k, v7)⟩ (ruV ⟨cs, x, (k, v7)⟩ tb capc Ax cx) (((((((((W.setCell ⟨w.heap.size, 0, none⟩ (.slice (some ⟨tb, 0, none⟩) cs.length capc)).setCell ⟨w.heap.size, 1, none⟩ (.int .i64 x.op)).setCell ⟨w.heap.size, 2, none⟩ (.slice Ax x.args.length cx)).setCell ⟨w.heap.size, 3, none⟩ (.int .i64 x.field)).setCell ⟨w.heap.size, 4, none⟩ (.int .u64 (x.mask : Int))).setCell ⟨w.heap.size, 5, none⟩ (.int .i64 x.rel)).setCell ⟨w.heap.size, 6, none⟩ (.int .u64 (x.value : Int))).setCell ⟨w.heap.size, 7, none⟩ (.int .i64 k)).setCell ⟨w.heap.size, 8, none⟩ (.int .u64 (v7 : Int))) ∧
    RdAt (((((((((W.setCell ⟨w.heap.size, 0, none⟩ (.slice (some ⟨tb, 0, none⟩) cs.length capc)).setCell ⟨w.heap.size, 1, none⟩ (.int .i64 x.op)).setCell ⟨w.heap.size, 2, none⟩ (.slice Ax x.args.length cx)).setCell ⟨w.heap.size, 3, none⟩ (.int .i64 x.field)).setCell ⟨w.heap.size, 4, none⟩ (.int .u64 (x.mask : Int))).setCell ⟨w.heap.size, 5, none⟩ (.int .i64 x.rel)).setCell ⟨w.heap.size, 6, none⟩ (.int .u64 (x.value : Int))).setCell ⟨w.heap.size, 7, none⟩ (.int .i64 k)).setCell ⟨w.heap.size, 8, none⟩ (.int .u64 (v7 : Int))) b A cap S r ∧
    w.grownBy (((((((((W.setCell ⟨w.heap.size, 0, none⟩ (.slice (some ⟨tb, 0, none⟩) cs.length capc)).setCell ⟨w.heap.size, 1, none⟩ (.int .i64 x.op)).setCell ⟨w.heap.size, 2, none⟩ (.slice Ax x.args.length cx)).setCell ⟨w.heap.size, 3, none⟩ (.int .i64 x.field)).setCell ⟨w.heap.size, 4, none⟩ (.int .u64 (x.mask : Int))).setCell ⟨w.heap.size, 5, none⟩ (.int .i64 x.rel)).setCell ⟨w.heap.size, 6, none⟩ (.int .u64 (x.value : Int))).setCell ⟨w.heap.size, 7, none⟩ (.int .i64 k)).setCell ⟨w.heap.size, 8, none⟩ (.int .u64 (v7 : Int))) (some b) := by
  have := h.bw; have := h.lo; have := h.lt; have := h.size
  have hr : RuIn W (fun k => w.heap.size + 1 ≤ k) ⟨cs, x, (k, v7)⟩ tb Ax cx := ⟨⟨by omega, h.lt, h.calls⟩, h.ex.keep (Nat.le_refl _) (fun k hk => by omega) (fun _ _ _ => rfl)⟩
  have rset : ∀ {V : World} (j : Nat) (v : Value), RuIn V (fun k => w.heap.size + 1 ≤ k) ⟨cs, x, (k, v7)⟩ tb Ax cx → RuIn (V.setCell ⟨w.heap.size, j, none⟩ v) (fun k => w.heap.size + 1 ≤ k) ⟨cs, x, (k, v7)⟩ tb Ax cx := fun {V} j v hV =>
    hV.keep (by simp [World.setCell]) (fun _ hk => hk) (fun c hc _ => Below.heap_setCell V ⟨w.heap.size, j, none⟩ v c (show c ≠ w.heap.size by omega))
  refine ⟨⟨tb, capc, Ax, cx, rfl, (rset 8 _ (rset 7 _ (rset 6 _ (rset 5 _ (rset 4 _ (rset 3 _ (rset 2 _ (rset 1 _ (rset 0 _ hr))))))))).keep (Nat.le_refl _) (fun k hk => by omega) (fun _ _ _ => rfl)⟩, ?_, ?_⟩
  · exact ((((((((h.rd.new (by omega) 0 _).new (by omega) 1 _).new (by omega) 2 _).new (by omega) 3 _).new (by omega) 4 _).new (by omega) 5 _).new (by omega) 6 _).new (by omega) 7 _).new (by omega) 8 _
  · exact grown_new (grown_new (grown_new (gset6 h.gr (Nat.le_refl _) _ _ _ _ _ _) (Nat.le_refl _) 6 _) (Nat.le_refl _) 7 _) (Nat.le_refl _) 8 _
end RuleD
theorem own_form {W : World} {base : Nat} {e : TypeId} {sz : Nat} {v : Value} {n : Nat} {xs : List Value} (h : W.ownsRow base e sz v n xs) : ∃ A m c, v = .slice A m c := by
  rcases h.2 with ⟨hv, _⟩ | ⟨tb, cap, cur, hv, _⟩
  · exact ⟨_, _, _, hv⟩
  · exact ⟨_, _, _, hv⟩
def cellLen (W : World) (a : Addr) : Nat := match W.cell? a with
  | some v => sliceLen v
  | none => 0
set_option maxHeartbeats 8000000 in
set_option maxRecDepth 100000 in
/-- Its calls have been read, the walk behind them. -/
theorem rd6_rule {S : Src} (n : Nat) (w : World) (b : Nat) (A : Option Addr) (cap : Nat) (r : Rd) (hJ : J S r) (hd : r.deep = 0) (h : RdAt w b A cap S r) (cs : List (ByteArray × Nat)) (rc : Rd) (yx : Ex) (ry : Rd)
    (h1 : callsS S n [] r = some (cs, rc)) (h2 : whenS S n rc = some (yx, ry)) (vk : Int) (vn : Nat) (hv : verdT S (ry.wantR S 2 bDo) = (vk, vn)) :
    Calls Tryd.prog 33 #[.pointer (some ⟨b, 0, none⟩)] w fun e w' => ∃ v, e = .returned v ∧ RuP w.heap.size ⟨cs, yx, (vk, vn)⟩ v w' ∧ RdAt w' b A cap S ((verdR S (ry.wantR S 2 bDo)).wantR S 4 bSemi) ∧ w.grownBy w' (some b) := by
  have hlt := h.row.lt
  have hsz := h.size
  have gC := goes_calls n [] r _ hJ h1
  have gW := goes_when gC.j h2
  have gD := goes_want gW.j 2 (by decide) bDo
  have gV := goes_verd gD.j
  have gK := goes_kind gD.j 2 (by decide)
  have hle1 := gW.j.le
  have hle2 := gD.j.le
  have hle3 := gV.j.le
  have hle4 := gK.j.le
  simp only at hle1 hle2 hle3 hle4
  have HDo : Hid (∀ W, RdAt W b A cap S ry → Calls Tryd.prog 27 #[.pointer (some ⟨b, 0, none⟩), .int .i64 2, .string ⟨#[100, 111]⟩] W (RdP W b A cap S (.tuple #[]) (ry.wantR S 2 bDo))) := Lib.hid (fun W hW => rd6_want W b A cap S ry hW 2 ⟨#[100, 111]⟩ (by omega))
  have hV := fun W hW => rd6_verdict W b A cap S (ry.wantR S 2 bDo) hW (by omega) (by omega)
  rw [hv] at hV
  have HV := Lib.hid (show ∀ W, RdAt W b A cap S (ry.wantR S 2 bDo) → Calls Tryd.prog 29 #[.pointer (some ⟨b, 0, none⟩)] W (RdP W b A cap S (.agg #[.int .i64 vk, .int .u64 (vn : Int)]) (verdR S (ry.wantR S 2 bDo))) from hV)
  have HSe : Hid (∀ W, RdAt W b A cap S (verdR S (ry.wantR S 2 bDo)) → Calls Tryd.prog 27 #[.pointer (some ⟨b, 0, none⟩), .int .i64 4, .string ⟨#[59]⟩] W (RdP W b A cap S (.tuple #[]) ((verdR S (ry.wantR S 2 bDo)).wantR S 4 bSemi))) := Lib.hid (fun W hW => rd6_want W b A cap S (verdR S (ry.wantR S 2 bDo)) hW 4 ⟨#[59]⟩ (by omega))
  have hIw : ∀ W, RdAt W b A cap S rc → Calls Tryd.prog 31 #[.pointer (some ⟨b, 0, none⟩), .int .i64 2, .string ⟨#[119, 104, 101, 110]⟩] W (RdP W b A cap S (.bool (rc.isB S 2 bWhen)) (rc.isR S 2 bWhen)) := fun W hW => rd6_is W b A cap S rc hW 2 ⟨#[119, 104, 101, 110]⟩ (by have := gC.j.le; simp only at this; omega)
  have hE := fun (y : Ex × Rd) (W : World) (hj : J S (rc.isR S 2 bWhen)) (hdd : (rc.isR S 2 bWhen).deep = 0) hW (hy : exprN S n (rc.isR S 2 bWhen) = some y) => rd6_exprN (S := S) n W b A cap (rc.isR S 2 bWhen) y hj (by omega) (by omega) hW hy
  have gI := goes_is gC.j 2 (by decide) bWhen
  have hdc : (rc.isR S 2 bWhen).deep = 0 := by rw [gI.deep, gC.deep]; exact hd
  have HCall := Lib.hid (fun (q : Rd) (hq : J S q) W hW => rd6_call W b A cap S q hW (by have := hq.le; omega))
  have HIsC : Hid (∀ (q : Rd) (hq : J S q) W, RdAt W b A cap S q → Calls Tryd.prog 31 #[.pointer (some ⟨b, 0, none⟩), .int .i64 4, .string ⟨#[44]⟩] W (RdP W b A cap S (.bool (q.isB S 4 bComma)) (q.isR S 4 bComma))) := Lib.hid (fun (q : Rd) (hq : J S q) W hW => rd6_is W b A cap S q hW 4 ⟨#[44]⟩ (by have := hq.le; omega))
  have HW2 := Lib.hid h2
  unfold whenS at h2
  clear hV hv hle1 hle2 hle3 hle4 gK
  generalize (verdR S (ry.wantR S 2 bDo)).wantR S 4 bSemi = rz at HSe ⊢
  generalize verdR S (ry.wantR S 2 bDo) = rv at HSe HV
  generalize ry.wantR S 2 bDo = rd at HDo HV
  clear gD gV gW
  have HWh : Hid ((rc.isB S 2 bWhen = true ∧ ∀ W, RdAt W b A cap S (rc.isR S 2 bWhen) → Calls Tryd.prog 43 #[.pointer (some ⟨b, 0, none⟩)] W (ExR W b A cap S (yx, ry))) ∨ (rc.isB S 2 bWhen = false ∧ yx = .plain 1 ∧ ry = rc.isR S 2 bWhen)) := Lib.hid (by
    by_cases hb : rc.isB S 2 bWhen = true
    · rw [if_pos hb] at h2
      exact .inl ⟨hb, fun W hW => hE _ W gI.j hdc hW h2⟩
    · rw [if_neg hb] at h2
      injection h2 with h2; injection h2 with e1 e2
      exact .inr ⟨by cases hq : rc.isB S 2 bWhen with
        | true => exact absurd hq hb
        | false => rfl, e1.symm, e2.symm⟩)
  have HIw := Lib.hid hIw
  clear h2 hE gI hdc hIw HW2
  have HR0 := Lib.hid (World.alloc_heap_new w (ruO (.slice none 0 0) 0 (.slice none 0 0) 0 0 0 0 0 0))
  have HI : Hid (CallsD w ((w.alloc (ruO (.slice none 0 0) 0 (.slice none 0 0) 0 0 0 0 0 0)).alloc (ruO (.slice none 0 0) 1 (.slice none 0 0) 0 0 0 0 0 0)) b A cap S r [] (.slice none 0 0)) := Lib.hid
    ⟨(h.below (lbox w _)).below (lbox _ _), grown_trans (grown_of_below (lbox w _) (some b)) (grown_of_below (lbox _ _) (some b)), hlt, (by
      have := World.alloc_heap_new (w.alloc (ruO (.slice none 0 0) 0 (.slice none 0 0) 0 0 0 0 0 0)) (ruO (.slice none 0 0) 1 (.slice none 0 0) 0 0 0 0 0 0)
      simpa using this), kept_alloc HR0.out _, World.ownsRow_nil _ _ _ _⟩
  have HJ := Lib.hid (And.intro hJ h1)
  clear h hJ h1 HR0
  obtain ⟨i8, hi8, hz8, hs8, hb8⟩ := info_parts6 info_call
  go_enter Tryd.func33, Tryd.ntmps33
  go_wp2
  go_loopw [4] (fun _ wr => ∃ l v m rr, callsS S m l rr = some (cs, rc) ∧ Goes S r rr ∧ l.length ≤ rr.at_ ∧ CallsD w wr b A cap S rr l v) (fun _ wr => S.toks.length + 3 - cellLen wr ⟨w.heap.size + 1, 0, none⟩)
  case atStart => exact ⟨_, _, _, _, HJ.out.2, .refl HJ.out.1, Nat.zero_le _, HI.out⟩
  case round =>
    obtain ⟨l, v, m, rr, hrest, hgo, hll, hT⟩ := hrel
    obtain ⟨m, rfl⟩ : ∃ m', m = m' + 1 := ⟨m - 1, by
      rcases m with _ | m
      · cases hrest
      · rfl⟩
    have HT := Lib.hid hT
    have HCL : Hid (cellLen wr ⟨w.heap.size + 1, 0, none⟩ = l.length) := Lib.hid (by
      have h0 : wr.cell? ⟨w.heap.size + 1, 0, none⟩ = some v := cell6 HT.out.box 0 rfl
      unfold cellLen
      rw [h0]
      exact own_len HT.out.own)
    have gA := goes_call hgo.j
    have gB := goes_is gA.j 4 (by decide) bComma
    have hjl := hgo.j.le
    have HC := Lib.hid (HCall.out rr hgo.j)
    have hIs := HIsC.out (callR S rr) gA.j
    have hln : l.length ≤ 70000 := by omega
    unfold callsS at hrest
    clear HI HJ hT
    by_cases hb : (callR S rr).isB S 4 bComma = true
    · rw [if_pos hb] at hrest
      have hon := is_on (S := S) (k := 4) (by decide) hb
      have HRS := Lib.hid hrest
      have HJ2 := Lib.hid ((hgo.trans gA).trans gB)
      have HJ2 : Hid (Goes S r ((callR S rr).isR S 4 bComma) ∧ J S ((callR S rr).isR S 4 bComma)) := Lib.hid ⟨HJ2.out, HJ2.out.j⟩
      have HLL : Hid ((l ++ [callT S rr]).length ≤ ((callR S rr).isR S 4 bComma).at_) := Lib.hid (by rw [List.length_append]; simp only [List.length_cons, List.length_nil]; have := gA.at_; omega)
      rw [hb] at hIs
      have HIs := Lib.hid hIs
      clear hrest hb hon hgo gA gB hIs hll hjl
      generalize (callR S rr).isR S 4 bComma = ri at HIs HRS HJ2 HLL
      generalize callR S rr = ra at HC HIs
      go_wp2
      refine wp_region_held_drew (S := fun _ => True) (by kernel_rfl) trivial (fun _ => ?_)
      have HY : Hid (CallsD w wr.drew b A cap S rr l v) := Lib.hid (HT.out.drawn 1)
      clear HT
      generalize wr.drew = Y at HY ⊢
      have hby : Y.cell? ⟨w.heap.size + 1, 0, none⟩ = some v := cell6 HY.out.box 0 rfl
      refine wpAnyH_take (i := 0) (v := ?_) rfl (by kernel_rfl) (by kernel_rfl) (by kernel_rfl) (fun _ _ _ h => h) (Or.inl ⟨by rfl, ?_⟩) (by assumption) ?_
      rotate_left
      · intro wS hSw
        (skip)
        go_simp
        all_goals with_reducible rfl
      (try simp only [List.getElem_toArray, List.getElem_cons_zero, List.getElem_cons_succ, Act.put, List.setIfInBounds_toArray, List.set_cons_zero, List.set_cons_succ])
      refine wpAnyH_take (i := 2) (v := ?_) rfl (by kernel_rfl) (by kernel_rfl) (by kernel_rfl) (fun _ _ _ h => h) (Or.inl ⟨by rfl, ?_⟩) (by assumption) ?_
      rotate_left
      · intro wS hSw
        (skip)
        go_simp
        all_goals with_reducible rfl
      (try simp only [List.getElem_toArray, List.getElem_cons_zero, List.getElem_cons_succ, Act.put, List.setIfInBounds_toArray, List.set_cons_zero, List.set_cons_succ])
      refine wpAnyH_ready (rs := [1, 3]) (by kernel_rfl) (by simp) (AllReadyH.cons rfl (fun K hK => ?_) (AllReadyH.cons rfl (fun K hK => ?_) AllReadyH.nil))
      · go_simp
        refine hK.out _ _ trivial (fun _ => ?_)
        clear hK K
        (try simp only [Act.put, List.setIfInBounds_toArray, List.set_cons_zero, List.set_cons_succ, List.getElem_toArray, List.getElem_cons_zero, List.getElem_cons_succ])
        refine held_one (i := 3) (by kernel_rfl) rfl (fun K hK => ?_)
        go_simp
        go_at_call 42
        refine (HC.out _ HY.out.rd).mono ?_
        rintro e w1 ⟨rfl, hr1, hg1⟩
        have HZ := Lib.hid (HY.out.call hr1 hg1)
        have hbz : w1.cell? ⟨w.heap.size + 1, 0, none⟩ = some v := cell6 HZ.out.box 0 rfl
        refine hK.out _ _ trivial (fun _ => ?_)
        clear hK K hr1 hg1
        (try simp only [Act.put, List.setIfInBounds_toArray, List.set_cons_zero, List.set_cons_succ, List.getElem_toArray, List.getElem_cons_zero, List.getElem_cons_succ])
        refine held_one (i := 4) (by kernel_rfl) rfl (fun K hK => ?_)
        go_simp
        refine hK.out _ _ trivial (fun _ => ?_)
        clear hK K
        (try simp only [Act.put, List.setIfInBounds_toArray, List.set_cons_zero, List.set_cons_succ, List.getElem_toArray, List.getElem_cons_zero, List.getElem_cons_succ])
        refine held_one (i := 5) (by kernel_rfl) rfl (fun K hK => ?_)
        rw [if_pos (by kernel_rfl)]
        refine oper_append6 (.tmp 9) (.tmp 12) 39 rfl (w.heap.size + 2) 100 i8 (.agg #[.string ⟨#[]⟩, .int .u64 0]) 2 24 Tryd.underlying39 hi8 hz8 hs8 hb8 rfl (by decide) v l.length (callsC l) rfl (own_below HZ.out.own (lbox w1 _)) ⟨w1.heap.size, 0, none⟩ 1 1 (callC (callT S rr)) rfl rfl (call_cells _ _ rfl _) call_one (by unfold maxLen; omega) (by omega) (by have := HZ.out.size; simp; omega) ?_
        intro v' wd ho hg hv
        obtain ⟨A', n', c', rfl⟩ := own_form ho
        have HW := Lib.hid (HZ.out.turn (x := callT S rr) ho hg hv)
        refine hK.out _ _ trivial (fun _ => ?_)
        clear hK K ho hg hv
        (try simp only [Act.put, List.setIfInBounds_toArray, List.set_cons_zero, List.set_cons_succ, List.getElem_toArray, List.getElem_cons_zero, List.getElem_cons_succ])
        have hbE := HW.out.2
        have hlE : w.heap.size + 1 < wd.heap.size := (Array.getElem?_eq_some_iff.1 hbE).1
        have q0 := cell6 hbE 0 rfl
        have q0f := frozen6 hbE 0
        refine wpAnyH_take (i := 6) (v := ?_) rfl (by kernel_rfl) (by kernel_rfl) (by kernel_rfl) (fun _ _ _ h => h) (Or.inl ⟨by rfl, ?_⟩) (by assumption) ?_
        rotate_left
        · intro wS hSw
          (skip)
          go_simp
          all_goals with_reducible rfl
        (try simp only [List.getElem_toArray, List.getElem_cons_zero, List.getElem_cons_succ, Act.put, List.setIfInBounds_toArray, List.set_cons_zero, List.set_cons_succ])
        refine held_one (i := 7) (by kernel_rfl) rfl (fun K hK => ?_)
        go_simp
        refine hK.out _ _ trivial (fun _ => ?_)
        clear hK K hbE hlE q0 q0f
        refine wpAnyH_done (by kernel_rfl) ?_ _
        have HX := Lib.hid HW.out.1
        clear HW
        generalize wd.setCell ⟨w.heap.size + 1, 0, none⟩ (.slice A' n' c') = wx at HX ⊢
        go_wp2_with (go_at_call 31; (with_reducible refine (HIs.out _ HX.out.rd).mono ?_); rintro e w2 ⟨rfl, hr2, hg2⟩; have HN := Lib.hid (HX.out.call hr2 hg2); clear hr2 hg2)
        exact ⟨⟨_, _, _, _, HRS.out, HJ2.out.1, HLL.out, HN.out⟩, by
          have h0 : w2.cell? ⟨w.heap.size + 1, 0, none⟩ = some (.slice A' n' c') := cell6 HN.out.box 0 rfl
          have h1 := own_len HN.out.own
          have h2 := HLL.out
          have h3 := HJ2.out.2.le
          rw [HCL.out]
          unfold cellLen
          rw [h0]
          simp only [h1]
          rw [List.length_append] at h2 ⊢
          simp only [List.length_cons, List.length_nil] at h2 ⊢
          omega⟩
      · go_simp
        go_at_call 42
        refine (HC.out _ HY.out.rd).mono ?_
        rintro e w1 ⟨rfl, hr1, hg1⟩
        have HZ := Lib.hid (HY.out.call hr1 hg1)
        have hbz : w1.cell? ⟨w.heap.size + 1, 0, none⟩ = some v := cell6 HZ.out.box 0 rfl
        refine hK.out _ _ trivial (fun _ => ?_)
        clear hK K hr1 hg1
        (try simp only [Act.put, List.setIfInBounds_toArray, List.set_cons_zero, List.set_cons_succ, List.getElem_toArray, List.getElem_cons_zero, List.getElem_cons_succ])
        refine wpAnyH_ready (rs := [1, 4]) (by kernel_rfl) (by simp) (AllReadyH.cons rfl (fun K hK => ?_) (AllReadyH.cons rfl (fun K hK => ?_) AllReadyH.nil))
        · go_simp
          refine hK.out _ _ trivial (fun _ => ?_)
          clear hK K
          (try simp only [Act.put, List.setIfInBounds_toArray, List.set_cons_zero, List.set_cons_succ, List.getElem_toArray, List.getElem_cons_zero, List.getElem_cons_succ])
          refine held_one (i := 4) (by kernel_rfl) rfl (fun K hK => ?_)
          go_simp
          refine hK.out _ _ trivial (fun _ => ?_)
          clear hK K
          (try simp only [Act.put, List.setIfInBounds_toArray, List.set_cons_zero, List.set_cons_succ, List.getElem_toArray, List.getElem_cons_zero, List.getElem_cons_succ])
          refine held_one (i := 5) (by kernel_rfl) rfl (fun K hK => ?_)
          rw [if_pos (by kernel_rfl)]
          refine oper_append6 (.tmp 9) (.tmp 12) 39 rfl (w.heap.size + 2) 100 i8 (.agg #[.string ⟨#[]⟩, .int .u64 0]) 2 24 Tryd.underlying39 hi8 hz8 hs8 hb8 rfl (by decide) v l.length (callsC l) rfl (own_below HZ.out.own (lbox w1 _)) ⟨w1.heap.size, 0, none⟩ 1 1 (callC (callT S rr)) rfl rfl (call_cells _ _ rfl _) call_one (by unfold maxLen; omega) (by omega) (by have := HZ.out.size; simp; omega) ?_
          intro v' wd ho hg hv
          obtain ⟨A', n', c', rfl⟩ := own_form ho
          have HW := Lib.hid (HZ.out.turn (x := callT S rr) ho hg hv)
          refine hK.out _ _ trivial (fun _ => ?_)
          clear hK K ho hg hv
          (try simp only [Act.put, List.setIfInBounds_toArray, List.set_cons_zero, List.set_cons_succ, List.getElem_toArray, List.getElem_cons_zero, List.getElem_cons_succ])
          have hbE := HW.out.2
          have hlE : w.heap.size + 1 < wd.heap.size := (Array.getElem?_eq_some_iff.1 hbE).1
          have q0 := cell6 hbE 0 rfl
          have q0f := frozen6 hbE 0
          refine wpAnyH_take (i := 6) (v := ?_) rfl (by kernel_rfl) (by kernel_rfl) (by kernel_rfl) (fun _ _ _ h => h) (Or.inl ⟨by rfl, ?_⟩) (by assumption) ?_
          rotate_left
          · intro wS hSw
            (skip)
            go_simp
            all_goals with_reducible rfl
          (try simp only [List.getElem_toArray, List.getElem_cons_zero, List.getElem_cons_succ, Act.put, List.setIfInBounds_toArray, List.set_cons_zero, List.set_cons_succ])
          refine held_one (i := 7) (by kernel_rfl) rfl (fun K hK => ?_)
          go_simp
          refine hK.out _ _ trivial (fun _ => ?_)
          clear hK K hbE hlE q0 q0f
          refine wpAnyH_done (by kernel_rfl) ?_ _
          have HX := Lib.hid HW.out.1
          clear HW
          generalize wd.setCell ⟨w.heap.size + 1, 0, none⟩ (.slice A' n' c') = wx at HX ⊢
          go_wp2_with (go_at_call 31; (with_reducible refine (HIs.out _ HX.out.rd).mono ?_); rintro e w2 ⟨rfl, hr2, hg2⟩; have HN := Lib.hid (HX.out.call hr2 hg2); clear hr2 hg2)
          exact ⟨⟨_, _, _, _, HRS.out, HJ2.out.1, HLL.out, HN.out⟩, by
            have h0 : w2.cell? ⟨w.heap.size + 1, 0, none⟩ = some (.slice A' n' c') := cell6 HN.out.box 0 rfl
            have h1 := own_len HN.out.own
            have h2 := HLL.out
            have h3 := HJ2.out.2.le
            rw [HCL.out]
            unfold cellLen
            rw [h0]
            simp only [h1]
            rw [List.length_append] at h2 ⊢
            simp only [List.length_cons, List.length_nil] at h2 ⊢
            omega⟩
        · go_simp
          refine hK.out _ _ trivial (fun _ => ?_)
          clear hK K
          (try simp only [Act.put, List.setIfInBounds_toArray, List.set_cons_zero, List.set_cons_succ, List.getElem_toArray, List.getElem_cons_zero, List.getElem_cons_succ])
          have hba : ∀ o, (w1.alloc o).cell? ⟨w.heap.size + 1, 0, none⟩ = some v := fun o => cell6 (kept_alloc HZ.out.box o) 0 rfl
          refine held_one (i := 1) (by kernel_rfl) rfl (fun K hK => ?_)
          go_simp
          refine hK.out _ _ trivial (fun _ => ?_)
          clear hK K
          (try simp only [Act.put, List.setIfInBounds_toArray, List.set_cons_zero, List.set_cons_succ, List.getElem_toArray, List.getElem_cons_zero, List.getElem_cons_succ])
          refine held_one (i := 5) (by kernel_rfl) rfl (fun K hK => ?_)
          rw [if_pos (by kernel_rfl)]
          refine oper_append6 (.tmp 9) (.tmp 12) 39 rfl (w.heap.size + 2) 100 i8 (.agg #[.string ⟨#[]⟩, .int .u64 0]) 2 24 Tryd.underlying39 hi8 hz8 hs8 hb8 rfl (by decide) v l.length (callsC l) rfl (own_below HZ.out.own (lbox w1 _)) ⟨w1.heap.size, 0, none⟩ 1 1 (callC (callT S rr)) rfl rfl (call_cells _ _ rfl _) call_one (by unfold maxLen; omega) (by omega) (by have := HZ.out.size; simp; omega) ?_
          intro v' wd ho hg hv
          obtain ⟨A', n', c', rfl⟩ := own_form ho
          have HW := Lib.hid (HZ.out.turn (x := callT S rr) ho hg hv)
          refine hK.out _ _ trivial (fun _ => ?_)
          clear hK K ho hg hv
          (try simp only [Act.put, List.setIfInBounds_toArray, List.set_cons_zero, List.set_cons_succ, List.getElem_toArray, List.getElem_cons_zero, List.getElem_cons_succ])
          have hbE := HW.out.2
          have hlE : w.heap.size + 1 < wd.heap.size := (Array.getElem?_eq_some_iff.1 hbE).1
          have q0 := cell6 hbE 0 rfl
          have q0f := frozen6 hbE 0
          refine wpAnyH_take (i := 6) (v := ?_) rfl (by kernel_rfl) (by kernel_rfl) (by kernel_rfl) (fun _ _ _ h => h) (Or.inl ⟨by rfl, ?_⟩) (by assumption) ?_
          rotate_left
          · intro wS hSw
            (skip)
            go_simp
            all_goals with_reducible rfl
          (try simp only [List.getElem_toArray, List.getElem_cons_zero, List.getElem_cons_succ, Act.put, List.setIfInBounds_toArray, List.set_cons_zero, List.set_cons_succ])
          refine held_one (i := 7) (by kernel_rfl) rfl (fun K hK => ?_)
          go_simp
          refine hK.out _ _ trivial (fun _ => ?_)
          clear hK K hbE hlE q0 q0f
          refine wpAnyH_done (by kernel_rfl) ?_ _
          have HX := Lib.hid HW.out.1
          clear HW
          generalize wd.setCell ⟨w.heap.size + 1, 0, none⟩ (.slice A' n' c') = wx at HX ⊢
          go_wp2_with (go_at_call 31; (with_reducible refine (HIs.out _ HX.out.rd).mono ?_); rintro e w2 ⟨rfl, hr2, hg2⟩; have HN := Lib.hid (HX.out.call hr2 hg2); clear hr2 hg2)
          exact ⟨⟨_, _, _, _, HRS.out, HJ2.out.1, HLL.out, HN.out⟩, by
            have h0 : w2.cell? ⟨w.heap.size + 1, 0, none⟩ = some (.slice A' n' c') := cell6 HN.out.box 0 rfl
            have h1 := own_len HN.out.own
            have h2 := HLL.out
            have h3 := HJ2.out.2.le
            rw [HCL.out]
            unfold cellLen
            rw [h0]
            simp only [h1]
            rw [List.length_append] at h2 ⊢
            simp only [List.length_cons, List.length_nil] at h2 ⊢
            omega⟩
    · have hbf : (callR S rr).isB S 4 bComma = false := by cases hq : (callR S rr).isB S 4 bComma with
        | true => exact absurd hq hb
        | false => rfl
      rw [if_neg hb] at hrest
      injection hrest with hrest
      injection hrest with e1 e2
      have HP : Hid (0 < cs.length) := Lib.hid (by rw [← e1]; simp)
      have E1 := Lib.hid e1
      clear e1
      subst e2
      rw [hbf] at hIs
      have HIs := Lib.hid hIs
      clear hb hbf hgo gA gB hIs hll hjl
      generalize (callR S rr).isR S 4 bComma = rc at HIs HIw HWh
      generalize callR S rr = ra at HC HIs
      rcases HWh.out with ⟨hw, hE⟩ | ⟨hw, rfl, rfl⟩
      · rw [hw] at HIw
        have HE := Lib.hid hE
        clear hE hw HWh
        go_wp2
        refine wp_region_held_drew (S := fun _ => True) (by kernel_rfl) trivial (fun _ => ?_)
        have HY : Hid (CallsD w wr.drew b A cap S rr l v) := Lib.hid (HT.out.drawn 1)
        clear HT
        generalize wr.drew = Y at HY ⊢
        have hby : Y.cell? ⟨w.heap.size + 1, 0, none⟩ = some v := cell6 HY.out.box 0 rfl
        refine wpAnyH_take (i := 0) (v := ?_) rfl (by kernel_rfl) (by kernel_rfl) (by kernel_rfl) (fun _ _ _ h => h) (Or.inl ⟨by rfl, ?_⟩) (by assumption) ?_
        rotate_left
        · intro wS hSw
          (skip)
          go_simp
          all_goals with_reducible rfl
        (try simp only [List.getElem_toArray, List.getElem_cons_zero, List.getElem_cons_succ, Act.put, List.setIfInBounds_toArray, List.set_cons_zero, List.set_cons_succ])
        refine wpAnyH_take (i := 2) (v := ?_) rfl (by kernel_rfl) (by kernel_rfl) (by kernel_rfl) (fun _ _ _ h => h) (Or.inl ⟨by rfl, ?_⟩) (by assumption) ?_
        rotate_left
        · intro wS hSw
          (skip)
          go_simp
          all_goals with_reducible rfl
        (try simp only [List.getElem_toArray, List.getElem_cons_zero, List.getElem_cons_succ, Act.put, List.setIfInBounds_toArray, List.set_cons_zero, List.set_cons_succ])
        refine wpAnyH_ready (rs := [1, 3]) (by kernel_rfl) (by simp) (AllReadyH.cons rfl (fun K hK => ?_) (AllReadyH.cons rfl (fun K hK => ?_) AllReadyH.nil))
        · go_simp
          refine hK.out _ _ trivial (fun _ => ?_)
          clear hK K
          (try simp only [Act.put, List.setIfInBounds_toArray, List.set_cons_zero, List.set_cons_succ, List.getElem_toArray, List.getElem_cons_zero, List.getElem_cons_succ])
          refine held_one (i := 3) (by kernel_rfl) rfl (fun K hK => ?_)
          go_simp
          go_at_call 42
          refine (HC.out _ HY.out.rd).mono ?_
          rintro e w1 ⟨rfl, hr1, hg1⟩
          have HZ := Lib.hid (HY.out.call hr1 hg1)
          have hbz : w1.cell? ⟨w.heap.size + 1, 0, none⟩ = some v := cell6 HZ.out.box 0 rfl
          refine hK.out _ _ trivial (fun _ => ?_)
          clear hK K hr1 hg1
          (try simp only [Act.put, List.setIfInBounds_toArray, List.set_cons_zero, List.set_cons_succ, List.getElem_toArray, List.getElem_cons_zero, List.getElem_cons_succ])
          refine held_one (i := 4) (by kernel_rfl) rfl (fun K hK => ?_)
          go_simp
          refine hK.out _ _ trivial (fun _ => ?_)
          clear hK K
          (try simp only [Act.put, List.setIfInBounds_toArray, List.set_cons_zero, List.set_cons_succ, List.getElem_toArray, List.getElem_cons_zero, List.getElem_cons_succ])
          refine held_one (i := 5) (by kernel_rfl) rfl (fun K hK => ?_)
          rw [if_pos (by kernel_rfl)]
          refine oper_append6 (.tmp 9) (.tmp 12) 39 rfl (w.heap.size + 2) 100 i8 (.agg #[.string ⟨#[]⟩, .int .u64 0]) 2 24 Tryd.underlying39 hi8 hz8 hs8 hb8 rfl (by decide) v l.length (callsC l) rfl (own_below HZ.out.own (lbox w1 _)) ⟨w1.heap.size, 0, none⟩ 1 1 (callC (callT S rr)) rfl rfl (call_cells _ _ rfl _) call_one (by unfold maxLen; omega) (by omega) (by have := HZ.out.size; simp; omega) ?_
          intro v' wd ho hg hv
          obtain ⟨A', n', c', rfl⟩ := own_form ho
          have HW := Lib.hid (HZ.out.turn (x := callT S rr) ho hg hv)
          refine hK.out _ _ trivial (fun _ => ?_)
          clear hK K ho hg hv
          (try simp only [Act.put, List.setIfInBounds_toArray, List.set_cons_zero, List.set_cons_succ, List.getElem_toArray, List.getElem_cons_zero, List.getElem_cons_succ])
          have hbE := HW.out.2
          have hlE : w.heap.size + 1 < wd.heap.size := (Array.getElem?_eq_some_iff.1 hbE).1
          have q0 := cell6 hbE 0 rfl
          have q0f := frozen6 hbE 0
          refine wpAnyH_take (i := 6) (v := ?_) rfl (by kernel_rfl) (by kernel_rfl) (by kernel_rfl) (fun _ _ _ h => h) (Or.inl ⟨by rfl, ?_⟩) (by assumption) ?_
          rotate_left
          · intro wS hSw
            (skip)
            go_simp
            all_goals with_reducible rfl
          (try simp only [List.getElem_toArray, List.getElem_cons_zero, List.getElem_cons_succ, Act.put, List.setIfInBounds_toArray, List.set_cons_zero, List.set_cons_succ])
          refine held_one (i := 7) (by kernel_rfl) rfl (fun K hK => ?_)
          go_simp
          refine hK.out _ _ trivial (fun _ => ?_)
          clear hK K hbE hlE q0 q0f
          refine wpAnyH_done (by kernel_rfl) ?_ _
          have HX1 := HW.out.1
          rw [E1.out] at HX1
          have HX := Lib.hid HX1
          clear HX1
          clear HW
          generalize wd.setCell ⟨w.heap.size + 1, 0, none⟩ (.slice A' n' c') = wx at HX ⊢
          go_wp2_with (first
            | (go_at_call 31; (with_reducible refine (HIs.out _ HX.out.rd).mono ?_); rintro e w2 ⟨rfl, hr2, hg2⟩; have HN := Lib.hid (HX.out.call hr2 hg2); obtain ⟨tb, capc, hvv, hRD⟩ := HN.out.done HP.out; have HVV := Lib.hid hvv; have H1 := Lib.hid hRD; clear hr2 hg2 hvv hRD HX)
            | (go_at_call 31; (with_reducible refine (HIw.out _ H1.out.rd).mono ?_); rintro e w4 ⟨rfl, hr4, hg4⟩; have H2 := Lib.hid (H1.out.call hr4 hg4); clear hr4 hg4)
            | (go_at_call 43; (with_reducible refine (HE.out _ H2.out.rd).mono ?_); rintro e w3 ⟨Ax, cx, rfl, hx3, hr3, hg3⟩; have H3 := Lib.hid (H2.out.call hr3 hg3); have HX3 : Hid (ExIn w3 (fun k => w.heap.size + 2 ≤ k) yx Ax cx) := Lib.hid (hx3.keep (Nat.le_refl _) (fun k hk => by have := H2.out.size; omega) (fun _ _ _ => rfl)); have hE3 := H3.out.box; have hl3 : w.heap.size + 1 < w3.heap.size := (Array.getElem?_eq_some_iff.1 hE3).1; have e1 := cell6 hE3 1 rfl; have e2 := cell6 hE3 2 rfl; have e3 := cell6 hE3 3 rfl; have e4 := cell6 hE3 4 rfl; have e5 := cell6 hE3 5 rfl; have e6 := cell6 hE3 6 rfl; have g1 := frozen6 hE3 1; have g2 := frozen6 hE3 2; have g3 := frozen6 hE3 3; have g4 := frozen6 hE3 4; have g5 := frozen6 hE3 5; have g6 := frozen6 hE3 6; have H4 := Lib.hid (H3.out.setEx HX3.out); clear hx3 hr3 hg3 hE3)
            | (go_at_call 27; (with_reducible refine (HDo.out _ H4.out.rd).mono ?_); rintro e w5 ⟨rfl, hr5, hg5⟩; have H5 := Lib.hid (H4.out.call hr5 hg5); clear hr5 hg5)
            | (go_at_call 29; (with_reducible refine (HV.out _ H5.out.rd).mono ?_); rintro e w6 ⟨rfl, hr6, hg6⟩; have H6 := Lib.hid (H5.out.call hr6 hg6); have hE6 := H6.out.box; have hl6 : w.heap.size + 1 < w6.heap.size := (Array.getElem?_eq_some_iff.1 hE6).1; have e7 := cell6 hE6 7 rfl; have e8 := cell6 hE6 8 rfl; have g7 := frozen6 hE6 7; have g8 := frozen6 hE6 8; have H7 := Lib.hid (H6.out.setVerd (k' := vk) (n' := (vn : Int))); clear hr6 hg6 hE6)
            | (go_at_call 27; (with_reducible refine (HSe.out _ H7.out.rd).mono ?_); rintro e w8 ⟨rfl, hr8, hg8⟩; have H8 := Lib.hid (H7.out.call hr8 hg8); have hE8 := H8.out.box; have hR8 := H8.out.res; have hlR : w.heap.size < w8.heap.size := (Array.getElem?_eq_some_iff.1 hR8).1; have i0 := cell6 hE8 0 rfl; have i1 := cell6 hE8 1 rfl; have i2 := cell6 hE8 2 rfl; have i3 := cell6 hE8 3 rfl; have i4 := cell6 hE8 4 rfl; have i5 := cell6 hE8 5 rfl; have i6 := cell6 hE8 6 rfl; have i7 := cell6 hE8 7 rfl; have i8 := cell6 hE8 8 rfl; have u0 := cell6 hR8 0 rfl; have u1 := cell6 hR8 1 rfl; have u2 := cell6 hR8 2 rfl; have u3 := cell6 hR8 3 rfl; have u4 := cell6 hR8 4 rfl; have u5 := cell6 hR8 5 rfl; have u6 := cell6 hR8 6 rfl; have u7 := cell6 hR8 7 rfl; have u8 := cell6 hR8 8 rfl; have y0 := frozen6 hR8 0; have y1 := frozen6 hR8 1; have y2 := frozen6 hR8 2; have y3 := frozen6 hR8 3; have y4 := frozen6 hR8 4; have y5 := frozen6 hR8 5; have y6 := frozen6 hR8 6; have y7 := frozen6 hR8 7; have y8 := frozen6 hR8 8; clear hr8 hg8 hE8 hR8))
          exact bodyPost_ret (v := ruV ⟨cs, yx, (vk, vn)⟩ tb capc Ax cx) (by simp [results, Tryd.results33, go_sem, u0, u1, u2, u3, u4, u5, u6, u7, u8, World.cell?_setCell_same']) rfl ⟨_, rfl, H8.out.done⟩
        · go_simp
          go_at_call 42
          refine (HC.out _ HY.out.rd).mono ?_
          rintro e w1 ⟨rfl, hr1, hg1⟩
          have HZ := Lib.hid (HY.out.call hr1 hg1)
          have hbz : w1.cell? ⟨w.heap.size + 1, 0, none⟩ = some v := cell6 HZ.out.box 0 rfl
          refine hK.out _ _ trivial (fun _ => ?_)
          clear hK K hr1 hg1
          (try simp only [Act.put, List.setIfInBounds_toArray, List.set_cons_zero, List.set_cons_succ, List.getElem_toArray, List.getElem_cons_zero, List.getElem_cons_succ])
          refine wpAnyH_ready (rs := [1, 4]) (by kernel_rfl) (by simp) (AllReadyH.cons rfl (fun K hK => ?_) (AllReadyH.cons rfl (fun K hK => ?_) AllReadyH.nil))
          · go_simp
            refine hK.out _ _ trivial (fun _ => ?_)
            clear hK K
            (try simp only [Act.put, List.setIfInBounds_toArray, List.set_cons_zero, List.set_cons_succ, List.getElem_toArray, List.getElem_cons_zero, List.getElem_cons_succ])
            refine held_one (i := 4) (by kernel_rfl) rfl (fun K hK => ?_)
            go_simp
            refine hK.out _ _ trivial (fun _ => ?_)
            clear hK K
            (try simp only [Act.put, List.setIfInBounds_toArray, List.set_cons_zero, List.set_cons_succ, List.getElem_toArray, List.getElem_cons_zero, List.getElem_cons_succ])
            refine held_one (i := 5) (by kernel_rfl) rfl (fun K hK => ?_)
            rw [if_pos (by kernel_rfl)]
            refine oper_append6 (.tmp 9) (.tmp 12) 39 rfl (w.heap.size + 2) 100 i8 (.agg #[.string ⟨#[]⟩, .int .u64 0]) 2 24 Tryd.underlying39 hi8 hz8 hs8 hb8 rfl (by decide) v l.length (callsC l) rfl (own_below HZ.out.own (lbox w1 _)) ⟨w1.heap.size, 0, none⟩ 1 1 (callC (callT S rr)) rfl rfl (call_cells _ _ rfl _) call_one (by unfold maxLen; omega) (by omega) (by have := HZ.out.size; simp; omega) ?_
            intro v' wd ho hg hv
            obtain ⟨A', n', c', rfl⟩ := own_form ho
            have HW := Lib.hid (HZ.out.turn (x := callT S rr) ho hg hv)
            refine hK.out _ _ trivial (fun _ => ?_)
            clear hK K ho hg hv
            (try simp only [Act.put, List.setIfInBounds_toArray, List.set_cons_zero, List.set_cons_succ, List.getElem_toArray, List.getElem_cons_zero, List.getElem_cons_succ])
            have hbE := HW.out.2
            have hlE : w.heap.size + 1 < wd.heap.size := (Array.getElem?_eq_some_iff.1 hbE).1
            have q0 := cell6 hbE 0 rfl
            have q0f := frozen6 hbE 0
            refine wpAnyH_take (i := 6) (v := ?_) rfl (by kernel_rfl) (by kernel_rfl) (by kernel_rfl) (fun _ _ _ h => h) (Or.inl ⟨by rfl, ?_⟩) (by assumption) ?_
            rotate_left
            · intro wS hSw
              (skip)
              go_simp
              all_goals with_reducible rfl
            (try simp only [List.getElem_toArray, List.getElem_cons_zero, List.getElem_cons_succ, Act.put, List.setIfInBounds_toArray, List.set_cons_zero, List.set_cons_succ])
            refine held_one (i := 7) (by kernel_rfl) rfl (fun K hK => ?_)
            go_simp
            refine hK.out _ _ trivial (fun _ => ?_)
            clear hK K hbE hlE q0 q0f
            refine wpAnyH_done (by kernel_rfl) ?_ _
            have HX1 := HW.out.1
            rw [E1.out] at HX1
            have HX := Lib.hid HX1
            clear HX1
            clear HW
            generalize wd.setCell ⟨w.heap.size + 1, 0, none⟩ (.slice A' n' c') = wx at HX ⊢
            go_wp2_with (first
              | (go_at_call 31; (with_reducible refine (HIs.out _ HX.out.rd).mono ?_); rintro e w2 ⟨rfl, hr2, hg2⟩; have HN := Lib.hid (HX.out.call hr2 hg2); obtain ⟨tb, capc, hvv, hRD⟩ := HN.out.done HP.out; have HVV := Lib.hid hvv; have H1 := Lib.hid hRD; clear hr2 hg2 hvv hRD HX)
              | (go_at_call 31; (with_reducible refine (HIw.out _ H1.out.rd).mono ?_); rintro e w4 ⟨rfl, hr4, hg4⟩; have H2 := Lib.hid (H1.out.call hr4 hg4); clear hr4 hg4)
              | (go_at_call 43; (with_reducible refine (HE.out _ H2.out.rd).mono ?_); rintro e w3 ⟨Ax, cx, rfl, hx3, hr3, hg3⟩; have H3 := Lib.hid (H2.out.call hr3 hg3); have HX3 : Hid (ExIn w3 (fun k => w.heap.size + 2 ≤ k) yx Ax cx) := Lib.hid (hx3.keep (Nat.le_refl _) (fun k hk => by have := H2.out.size; omega) (fun _ _ _ => rfl)); have hE3 := H3.out.box; have hl3 : w.heap.size + 1 < w3.heap.size := (Array.getElem?_eq_some_iff.1 hE3).1; have e1 := cell6 hE3 1 rfl; have e2 := cell6 hE3 2 rfl; have e3 := cell6 hE3 3 rfl; have e4 := cell6 hE3 4 rfl; have e5 := cell6 hE3 5 rfl; have e6 := cell6 hE3 6 rfl; have g1 := frozen6 hE3 1; have g2 := frozen6 hE3 2; have g3 := frozen6 hE3 3; have g4 := frozen6 hE3 4; have g5 := frozen6 hE3 5; have g6 := frozen6 hE3 6; have H4 := Lib.hid (H3.out.setEx HX3.out); clear hx3 hr3 hg3 hE3)
              | (go_at_call 27; (with_reducible refine (HDo.out _ H4.out.rd).mono ?_); rintro e w5 ⟨rfl, hr5, hg5⟩; have H5 := Lib.hid (H4.out.call hr5 hg5); clear hr5 hg5)
              | (go_at_call 29; (with_reducible refine (HV.out _ H5.out.rd).mono ?_); rintro e w6 ⟨rfl, hr6, hg6⟩; have H6 := Lib.hid (H5.out.call hr6 hg6); have hE6 := H6.out.box; have hl6 : w.heap.size + 1 < w6.heap.size := (Array.getElem?_eq_some_iff.1 hE6).1; have e7 := cell6 hE6 7 rfl; have e8 := cell6 hE6 8 rfl; have g7 := frozen6 hE6 7; have g8 := frozen6 hE6 8; have H7 := Lib.hid (H6.out.setVerd (k' := vk) (n' := (vn : Int))); clear hr6 hg6 hE6)
              | (go_at_call 27; (with_reducible refine (HSe.out _ H7.out.rd).mono ?_); rintro e w8 ⟨rfl, hr8, hg8⟩; have H8 := Lib.hid (H7.out.call hr8 hg8); have hE8 := H8.out.box; have hR8 := H8.out.res; have hlR : w.heap.size < w8.heap.size := (Array.getElem?_eq_some_iff.1 hR8).1; have i0 := cell6 hE8 0 rfl; have i1 := cell6 hE8 1 rfl; have i2 := cell6 hE8 2 rfl; have i3 := cell6 hE8 3 rfl; have i4 := cell6 hE8 4 rfl; have i5 := cell6 hE8 5 rfl; have i6 := cell6 hE8 6 rfl; have i7 := cell6 hE8 7 rfl; have i8 := cell6 hE8 8 rfl; have u0 := cell6 hR8 0 rfl; have u1 := cell6 hR8 1 rfl; have u2 := cell6 hR8 2 rfl; have u3 := cell6 hR8 3 rfl; have u4 := cell6 hR8 4 rfl; have u5 := cell6 hR8 5 rfl; have u6 := cell6 hR8 6 rfl; have u7 := cell6 hR8 7 rfl; have u8 := cell6 hR8 8 rfl; have y0 := frozen6 hR8 0; have y1 := frozen6 hR8 1; have y2 := frozen6 hR8 2; have y3 := frozen6 hR8 3; have y4 := frozen6 hR8 4; have y5 := frozen6 hR8 5; have y6 := frozen6 hR8 6; have y7 := frozen6 hR8 7; have y8 := frozen6 hR8 8; clear hr8 hg8 hE8 hR8))
            exact bodyPost_ret (v := ruV ⟨cs, yx, (vk, vn)⟩ tb capc Ax cx) (by simp [results, Tryd.results33, go_sem, u0, u1, u2, u3, u4, u5, u6, u7, u8, World.cell?_setCell_same']) rfl ⟨_, rfl, H8.out.done⟩
          · go_simp
            refine hK.out _ _ trivial (fun _ => ?_)
            clear hK K
            (try simp only [Act.put, List.setIfInBounds_toArray, List.set_cons_zero, List.set_cons_succ, List.getElem_toArray, List.getElem_cons_zero, List.getElem_cons_succ])
            have hba : ∀ o, (w1.alloc o).cell? ⟨w.heap.size + 1, 0, none⟩ = some v := fun o => cell6 (kept_alloc HZ.out.box o) 0 rfl
            refine held_one (i := 1) (by kernel_rfl) rfl (fun K hK => ?_)
            go_simp
            refine hK.out _ _ trivial (fun _ => ?_)
            clear hK K
            (try simp only [Act.put, List.setIfInBounds_toArray, List.set_cons_zero, List.set_cons_succ, List.getElem_toArray, List.getElem_cons_zero, List.getElem_cons_succ])
            refine held_one (i := 5) (by kernel_rfl) rfl (fun K hK => ?_)
            rw [if_pos (by kernel_rfl)]
            refine oper_append6 (.tmp 9) (.tmp 12) 39 rfl (w.heap.size + 2) 100 i8 (.agg #[.string ⟨#[]⟩, .int .u64 0]) 2 24 Tryd.underlying39 hi8 hz8 hs8 hb8 rfl (by decide) v l.length (callsC l) rfl (own_below HZ.out.own (lbox w1 _)) ⟨w1.heap.size, 0, none⟩ 1 1 (callC (callT S rr)) rfl rfl (call_cells _ _ rfl _) call_one (by unfold maxLen; omega) (by omega) (by have := HZ.out.size; simp; omega) ?_
            intro v' wd ho hg hv
            obtain ⟨A', n', c', rfl⟩ := own_form ho
            have HW := Lib.hid (HZ.out.turn (x := callT S rr) ho hg hv)
            refine hK.out _ _ trivial (fun _ => ?_)
            clear hK K ho hg hv
            (try simp only [Act.put, List.setIfInBounds_toArray, List.set_cons_zero, List.set_cons_succ, List.getElem_toArray, List.getElem_cons_zero, List.getElem_cons_succ])
            have hbE := HW.out.2
            have hlE : w.heap.size + 1 < wd.heap.size := (Array.getElem?_eq_some_iff.1 hbE).1
            have q0 := cell6 hbE 0 rfl
            have q0f := frozen6 hbE 0
            refine wpAnyH_take (i := 6) (v := ?_) rfl (by kernel_rfl) (by kernel_rfl) (by kernel_rfl) (fun _ _ _ h => h) (Or.inl ⟨by rfl, ?_⟩) (by assumption) ?_
            rotate_left
            · intro wS hSw
              (skip)
              go_simp
              all_goals with_reducible rfl
            (try simp only [List.getElem_toArray, List.getElem_cons_zero, List.getElem_cons_succ, Act.put, List.setIfInBounds_toArray, List.set_cons_zero, List.set_cons_succ])
            refine held_one (i := 7) (by kernel_rfl) rfl (fun K hK => ?_)
            go_simp
            refine hK.out _ _ trivial (fun _ => ?_)
            clear hK K hbE hlE q0 q0f
            refine wpAnyH_done (by kernel_rfl) ?_ _
            have HX1 := HW.out.1
            rw [E1.out] at HX1
            have HX := Lib.hid HX1
            clear HX1
            clear HW
            generalize wd.setCell ⟨w.heap.size + 1, 0, none⟩ (.slice A' n' c') = wx at HX ⊢
            go_wp2_with (first
              | (go_at_call 31; (with_reducible refine (HIs.out _ HX.out.rd).mono ?_); rintro e w2 ⟨rfl, hr2, hg2⟩; have HN := Lib.hid (HX.out.call hr2 hg2); obtain ⟨tb, capc, hvv, hRD⟩ := HN.out.done HP.out; have HVV := Lib.hid hvv; have H1 := Lib.hid hRD; clear hr2 hg2 hvv hRD HX)
              | (go_at_call 31; (with_reducible refine (HIw.out _ H1.out.rd).mono ?_); rintro e w4 ⟨rfl, hr4, hg4⟩; have H2 := Lib.hid (H1.out.call hr4 hg4); clear hr4 hg4)
              | (go_at_call 43; (with_reducible refine (HE.out _ H2.out.rd).mono ?_); rintro e w3 ⟨Ax, cx, rfl, hx3, hr3, hg3⟩; have H3 := Lib.hid (H2.out.call hr3 hg3); have HX3 : Hid (ExIn w3 (fun k => w.heap.size + 2 ≤ k) yx Ax cx) := Lib.hid (hx3.keep (Nat.le_refl _) (fun k hk => by have := H2.out.size; omega) (fun _ _ _ => rfl)); have hE3 := H3.out.box; have hl3 : w.heap.size + 1 < w3.heap.size := (Array.getElem?_eq_some_iff.1 hE3).1; have e1 := cell6 hE3 1 rfl; have e2 := cell6 hE3 2 rfl; have e3 := cell6 hE3 3 rfl; have e4 := cell6 hE3 4 rfl; have e5 := cell6 hE3 5 rfl; have e6 := cell6 hE3 6 rfl; have g1 := frozen6 hE3 1; have g2 := frozen6 hE3 2; have g3 := frozen6 hE3 3; have g4 := frozen6 hE3 4; have g5 := frozen6 hE3 5; have g6 := frozen6 hE3 6; have H4 := Lib.hid (H3.out.setEx HX3.out); clear hx3 hr3 hg3 hE3)
              | (go_at_call 27; (with_reducible refine (HDo.out _ H4.out.rd).mono ?_); rintro e w5 ⟨rfl, hr5, hg5⟩; have H5 := Lib.hid (H4.out.call hr5 hg5); clear hr5 hg5)
              | (go_at_call 29; (with_reducible refine (HV.out _ H5.out.rd).mono ?_); rintro e w6 ⟨rfl, hr6, hg6⟩; have H6 := Lib.hid (H5.out.call hr6 hg6); have hE6 := H6.out.box; have hl6 : w.heap.size + 1 < w6.heap.size := (Array.getElem?_eq_some_iff.1 hE6).1; have e7 := cell6 hE6 7 rfl; have e8 := cell6 hE6 8 rfl; have g7 := frozen6 hE6 7; have g8 := frozen6 hE6 8; have H7 := Lib.hid (H6.out.setVerd (k' := vk) (n' := (vn : Int))); clear hr6 hg6 hE6)
              | (go_at_call 27; (with_reducible refine (HSe.out _ H7.out.rd).mono ?_); rintro e w8 ⟨rfl, hr8, hg8⟩; have H8 := Lib.hid (H7.out.call hr8 hg8); have hE8 := H8.out.box; have hR8 := H8.out.res; have hlR : w.heap.size < w8.heap.size := (Array.getElem?_eq_some_iff.1 hR8).1; have i0 := cell6 hE8 0 rfl; have i1 := cell6 hE8 1 rfl; have i2 := cell6 hE8 2 rfl; have i3 := cell6 hE8 3 rfl; have i4 := cell6 hE8 4 rfl; have i5 := cell6 hE8 5 rfl; have i6 := cell6 hE8 6 rfl; have i7 := cell6 hE8 7 rfl; have i8 := cell6 hE8 8 rfl; have u0 := cell6 hR8 0 rfl; have u1 := cell6 hR8 1 rfl; have u2 := cell6 hR8 2 rfl; have u3 := cell6 hR8 3 rfl; have u4 := cell6 hR8 4 rfl; have u5 := cell6 hR8 5 rfl; have u6 := cell6 hR8 6 rfl; have u7 := cell6 hR8 7 rfl; have u8 := cell6 hR8 8 rfl; have y0 := frozen6 hR8 0; have y1 := frozen6 hR8 1; have y2 := frozen6 hR8 2; have y3 := frozen6 hR8 3; have y4 := frozen6 hR8 4; have y5 := frozen6 hR8 5; have y6 := frozen6 hR8 6; have y7 := frozen6 hR8 7; have y8 := frozen6 hR8 8; clear hr8 hg8 hE8 hR8))
            exact bodyPost_ret (v := ruV ⟨cs, yx, (vk, vn)⟩ tb capc Ax cx) (by simp [results, Tryd.results33, go_sem, u0, u1, u2, u3, u4, u5, u6, u7, u8, World.cell?_setCell_same']) rfl ⟨_, rfl, H8.out.done⟩
      · rw [hw] at HIw
        clear hw HWh
        go_wp2
        refine wp_region_held_drew (S := fun _ => True) (by kernel_rfl) trivial (fun _ => ?_)
        have HY : Hid (CallsD w wr.drew b A cap S rr l v) := Lib.hid (HT.out.drawn 1)
        clear HT
        generalize wr.drew = Y at HY ⊢
        have hby : Y.cell? ⟨w.heap.size + 1, 0, none⟩ = some v := cell6 HY.out.box 0 rfl
        refine wpAnyH_take (i := 0) (v := ?_) rfl (by kernel_rfl) (by kernel_rfl) (by kernel_rfl) (fun _ _ _ h => h) (Or.inl ⟨by rfl, ?_⟩) (by assumption) ?_
        rotate_left
        · intro wS hSw
          (skip)
          go_simp
          all_goals with_reducible rfl
        (try simp only [List.getElem_toArray, List.getElem_cons_zero, List.getElem_cons_succ, Act.put, List.setIfInBounds_toArray, List.set_cons_zero, List.set_cons_succ])
        refine wpAnyH_take (i := 2) (v := ?_) rfl (by kernel_rfl) (by kernel_rfl) (by kernel_rfl) (fun _ _ _ h => h) (Or.inl ⟨by rfl, ?_⟩) (by assumption) ?_
        rotate_left
        · intro wS hSw
          (skip)
          go_simp
          all_goals with_reducible rfl
        (try simp only [List.getElem_toArray, List.getElem_cons_zero, List.getElem_cons_succ, Act.put, List.setIfInBounds_toArray, List.set_cons_zero, List.set_cons_succ])
        refine wpAnyH_ready (rs := [1, 3]) (by kernel_rfl) (by simp) (AllReadyH.cons rfl (fun K hK => ?_) (AllReadyH.cons rfl (fun K hK => ?_) AllReadyH.nil))
        · go_simp
          refine hK.out _ _ trivial (fun _ => ?_)
          clear hK K
          (try simp only [Act.put, List.setIfInBounds_toArray, List.set_cons_zero, List.set_cons_succ, List.getElem_toArray, List.getElem_cons_zero, List.getElem_cons_succ])
          refine held_one (i := 3) (by kernel_rfl) rfl (fun K hK => ?_)
          go_simp
          go_at_call 42
          refine (HC.out _ HY.out.rd).mono ?_
          rintro e w1 ⟨rfl, hr1, hg1⟩
          have HZ := Lib.hid (HY.out.call hr1 hg1)
          have hbz : w1.cell? ⟨w.heap.size + 1, 0, none⟩ = some v := cell6 HZ.out.box 0 rfl
          refine hK.out _ _ trivial (fun _ => ?_)
          clear hK K hr1 hg1
          (try simp only [Act.put, List.setIfInBounds_toArray, List.set_cons_zero, List.set_cons_succ, List.getElem_toArray, List.getElem_cons_zero, List.getElem_cons_succ])
          refine held_one (i := 4) (by kernel_rfl) rfl (fun K hK => ?_)
          go_simp
          refine hK.out _ _ trivial (fun _ => ?_)
          clear hK K
          (try simp only [Act.put, List.setIfInBounds_toArray, List.set_cons_zero, List.set_cons_succ, List.getElem_toArray, List.getElem_cons_zero, List.getElem_cons_succ])
          refine held_one (i := 5) (by kernel_rfl) rfl (fun K hK => ?_)
          rw [if_pos (by kernel_rfl)]
          refine oper_append6 (.tmp 9) (.tmp 12) 39 rfl (w.heap.size + 2) 100 i8 (.agg #[.string ⟨#[]⟩, .int .u64 0]) 2 24 Tryd.underlying39 hi8 hz8 hs8 hb8 rfl (by decide) v l.length (callsC l) rfl (own_below HZ.out.own (lbox w1 _)) ⟨w1.heap.size, 0, none⟩ 1 1 (callC (callT S rr)) rfl rfl (call_cells _ _ rfl _) call_one (by unfold maxLen; omega) (by omega) (by have := HZ.out.size; simp; omega) ?_
          intro v' wd ho hg hv
          obtain ⟨A', n', c', rfl⟩ := own_form ho
          have HW := Lib.hid (HZ.out.turn (x := callT S rr) ho hg hv)
          refine hK.out _ _ trivial (fun _ => ?_)
          clear hK K ho hg hv
          (try simp only [Act.put, List.setIfInBounds_toArray, List.set_cons_zero, List.set_cons_succ, List.getElem_toArray, List.getElem_cons_zero, List.getElem_cons_succ])
          have hbE := HW.out.2
          have hlE : w.heap.size + 1 < wd.heap.size := (Array.getElem?_eq_some_iff.1 hbE).1
          have q0 := cell6 hbE 0 rfl
          have q0f := frozen6 hbE 0
          refine wpAnyH_take (i := 6) (v := ?_) rfl (by kernel_rfl) (by kernel_rfl) (by kernel_rfl) (fun _ _ _ h => h) (Or.inl ⟨by rfl, ?_⟩) (by assumption) ?_
          rotate_left
          · intro wS hSw
            (skip)
            go_simp
            all_goals with_reducible rfl
          (try simp only [List.getElem_toArray, List.getElem_cons_zero, List.getElem_cons_succ, Act.put, List.setIfInBounds_toArray, List.set_cons_zero, List.set_cons_succ])
          refine held_one (i := 7) (by kernel_rfl) rfl (fun K hK => ?_)
          go_simp
          refine hK.out _ _ trivial (fun _ => ?_)
          clear hK K hbE hlE q0 q0f
          refine wpAnyH_done (by kernel_rfl) ?_ _
          have HX1 := HW.out.1
          rw [E1.out] at HX1
          have HX := Lib.hid HX1
          clear HX1
          clear HW
          generalize wd.setCell ⟨w.heap.size + 1, 0, none⟩ (.slice A' n' c') = wx at HX ⊢
          go_wp2_with (first
            | (go_at_call 31; (with_reducible refine (HIs.out _ HX.out.rd).mono ?_); rintro e w2 ⟨rfl, hr2, hg2⟩; have HN := Lib.hid (HX.out.call hr2 hg2); obtain ⟨tb, capc, hvv, hRD⟩ := HN.out.done HP.out; have HVV := Lib.hid hvv; have H1 := Lib.hid hRD; clear hr2 hg2 hvv hRD HX)
            | (go_at_call 31; (with_reducible refine (HIw.out _ H1.out.rd).mono ?_); rintro e w4 ⟨rfl, hr4, hg4⟩; have H2 := Lib.hid (H1.out.call hr4 hg4); clear hr4 hg4)
            | (go_at_call 27; (with_reducible refine (HDo.out _ H2.out.rd).mono ?_); rintro e w5 ⟨rfl, hr5, hg5⟩; have H5 := Lib.hid (H2.out.call hr5 hg5); clear hr5 hg5)
            | (go_at_call 29; (with_reducible refine (HV.out _ H5.out.rd).mono ?_); rintro e w6 ⟨rfl, hr6, hg6⟩; have H6 := Lib.hid (H5.out.call hr6 hg6); have hE6 := H6.out.box; have hl6 : w.heap.size + 1 < w6.heap.size := (Array.getElem?_eq_some_iff.1 hE6).1; have e7 := cell6 hE6 7 rfl; have e8 := cell6 hE6 8 rfl; have g7 := frozen6 hE6 7; have g8 := frozen6 hE6 8; have H7 := Lib.hid (H6.out.setVerd (k' := vk) (n' := (vn : Int))); clear hr6 hg6 hE6)
            | (go_at_call 27; (with_reducible refine (HSe.out _ H7.out.rd).mono ?_); rintro e w8 ⟨rfl, hr8, hg8⟩; have H8 := Lib.hid (H7.out.call hr8 hg8); have hE8 := H8.out.box; have hR8 := H8.out.res; have hlR : w.heap.size < w8.heap.size := (Array.getElem?_eq_some_iff.1 hR8).1; have i0 := cell6 hE8 0 rfl; have i1 := cell6 hE8 1 rfl; have i2 := cell6 hE8 2 rfl; have i3 := cell6 hE8 3 rfl; have i4 := cell6 hE8 4 rfl; have i5 := cell6 hE8 5 rfl; have i6 := cell6 hE8 6 rfl; have i7 := cell6 hE8 7 rfl; have i8 := cell6 hE8 8 rfl; have u0 := cell6 hR8 0 rfl; have u1 := cell6 hR8 1 rfl; have u2 := cell6 hR8 2 rfl; have u3 := cell6 hR8 3 rfl; have u4 := cell6 hR8 4 rfl; have u5 := cell6 hR8 5 rfl; have u6 := cell6 hR8 6 rfl; have u7 := cell6 hR8 7 rfl; have u8 := cell6 hR8 8 rfl; have y0 := frozen6 hR8 0; have y1 := frozen6 hR8 1; have y2 := frozen6 hR8 2; have y3 := frozen6 hR8 3; have y4 := frozen6 hR8 4; have y5 := frozen6 hR8 5; have y6 := frozen6 hR8 6; have y7 := frozen6 hR8 7; have y8 := frozen6 hR8 8; clear hr8 hg8 hE8 hR8))
          exact bodyPost_ret (v := ruV ⟨cs, .plain 1, (vk, vn)⟩ tb capc none 0) (by simp [results, Tryd.results33, go_sem, u0, u1, u2, u3, u4, u5, u6, u7, u8, World.cell?_setCell_same']) rfl ⟨_, rfl, H8.out.done⟩
        · go_simp
          go_at_call 42
          refine (HC.out _ HY.out.rd).mono ?_
          rintro e w1 ⟨rfl, hr1, hg1⟩
          have HZ := Lib.hid (HY.out.call hr1 hg1)
          have hbz : w1.cell? ⟨w.heap.size + 1, 0, none⟩ = some v := cell6 HZ.out.box 0 rfl
          refine hK.out _ _ trivial (fun _ => ?_)
          clear hK K hr1 hg1
          (try simp only [Act.put, List.setIfInBounds_toArray, List.set_cons_zero, List.set_cons_succ, List.getElem_toArray, List.getElem_cons_zero, List.getElem_cons_succ])
          refine wpAnyH_ready (rs := [1, 4]) (by kernel_rfl) (by simp) (AllReadyH.cons rfl (fun K hK => ?_) (AllReadyH.cons rfl (fun K hK => ?_) AllReadyH.nil))
          · go_simp
            refine hK.out _ _ trivial (fun _ => ?_)
            clear hK K
            (try simp only [Act.put, List.setIfInBounds_toArray, List.set_cons_zero, List.set_cons_succ, List.getElem_toArray, List.getElem_cons_zero, List.getElem_cons_succ])
            refine held_one (i := 4) (by kernel_rfl) rfl (fun K hK => ?_)
            go_simp
            refine hK.out _ _ trivial (fun _ => ?_)
            clear hK K
            (try simp only [Act.put, List.setIfInBounds_toArray, List.set_cons_zero, List.set_cons_succ, List.getElem_toArray, List.getElem_cons_zero, List.getElem_cons_succ])
            refine held_one (i := 5) (by kernel_rfl) rfl (fun K hK => ?_)
            rw [if_pos (by kernel_rfl)]
            refine oper_append6 (.tmp 9) (.tmp 12) 39 rfl (w.heap.size + 2) 100 i8 (.agg #[.string ⟨#[]⟩, .int .u64 0]) 2 24 Tryd.underlying39 hi8 hz8 hs8 hb8 rfl (by decide) v l.length (callsC l) rfl (own_below HZ.out.own (lbox w1 _)) ⟨w1.heap.size, 0, none⟩ 1 1 (callC (callT S rr)) rfl rfl (call_cells _ _ rfl _) call_one (by unfold maxLen; omega) (by omega) (by have := HZ.out.size; simp; omega) ?_
            intro v' wd ho hg hv
            obtain ⟨A', n', c', rfl⟩ := own_form ho
            have HW := Lib.hid (HZ.out.turn (x := callT S rr) ho hg hv)
            refine hK.out _ _ trivial (fun _ => ?_)
            clear hK K ho hg hv
            (try simp only [Act.put, List.setIfInBounds_toArray, List.set_cons_zero, List.set_cons_succ, List.getElem_toArray, List.getElem_cons_zero, List.getElem_cons_succ])
            have hbE := HW.out.2
            have hlE : w.heap.size + 1 < wd.heap.size := (Array.getElem?_eq_some_iff.1 hbE).1
            have q0 := cell6 hbE 0 rfl
            have q0f := frozen6 hbE 0
            refine wpAnyH_take (i := 6) (v := ?_) rfl (by kernel_rfl) (by kernel_rfl) (by kernel_rfl) (fun _ _ _ h => h) (Or.inl ⟨by rfl, ?_⟩) (by assumption) ?_
            rotate_left
            · intro wS hSw
              (skip)
              go_simp
              all_goals with_reducible rfl
            (try simp only [List.getElem_toArray, List.getElem_cons_zero, List.getElem_cons_succ, Act.put, List.setIfInBounds_toArray, List.set_cons_zero, List.set_cons_succ])
            refine held_one (i := 7) (by kernel_rfl) rfl (fun K hK => ?_)
            go_simp
            refine hK.out _ _ trivial (fun _ => ?_)
            clear hK K hbE hlE q0 q0f
            refine wpAnyH_done (by kernel_rfl) ?_ _
            have HX1 := HW.out.1
            rw [E1.out] at HX1
            have HX := Lib.hid HX1
            clear HX1
            clear HW
            generalize wd.setCell ⟨w.heap.size + 1, 0, none⟩ (.slice A' n' c') = wx at HX ⊢
            go_wp2_with (first
              | (go_at_call 31; (with_reducible refine (HIs.out _ HX.out.rd).mono ?_); rintro e w2 ⟨rfl, hr2, hg2⟩; have HN := Lib.hid (HX.out.call hr2 hg2); obtain ⟨tb, capc, hvv, hRD⟩ := HN.out.done HP.out; have HVV := Lib.hid hvv; have H1 := Lib.hid hRD; clear hr2 hg2 hvv hRD HX)
              | (go_at_call 31; (with_reducible refine (HIw.out _ H1.out.rd).mono ?_); rintro e w4 ⟨rfl, hr4, hg4⟩; have H2 := Lib.hid (H1.out.call hr4 hg4); clear hr4 hg4)
              | (go_at_call 27; (with_reducible refine (HDo.out _ H2.out.rd).mono ?_); rintro e w5 ⟨rfl, hr5, hg5⟩; have H5 := Lib.hid (H2.out.call hr5 hg5); clear hr5 hg5)
              | (go_at_call 29; (with_reducible refine (HV.out _ H5.out.rd).mono ?_); rintro e w6 ⟨rfl, hr6, hg6⟩; have H6 := Lib.hid (H5.out.call hr6 hg6); have hE6 := H6.out.box; have hl6 : w.heap.size + 1 < w6.heap.size := (Array.getElem?_eq_some_iff.1 hE6).1; have e7 := cell6 hE6 7 rfl; have e8 := cell6 hE6 8 rfl; have g7 := frozen6 hE6 7; have g8 := frozen6 hE6 8; have H7 := Lib.hid (H6.out.setVerd (k' := vk) (n' := (vn : Int))); clear hr6 hg6 hE6)
              | (go_at_call 27; (with_reducible refine (HSe.out _ H7.out.rd).mono ?_); rintro e w8 ⟨rfl, hr8, hg8⟩; have H8 := Lib.hid (H7.out.call hr8 hg8); have hE8 := H8.out.box; have hR8 := H8.out.res; have hlR : w.heap.size < w8.heap.size := (Array.getElem?_eq_some_iff.1 hR8).1; have i0 := cell6 hE8 0 rfl; have i1 := cell6 hE8 1 rfl; have i2 := cell6 hE8 2 rfl; have i3 := cell6 hE8 3 rfl; have i4 := cell6 hE8 4 rfl; have i5 := cell6 hE8 5 rfl; have i6 := cell6 hE8 6 rfl; have i7 := cell6 hE8 7 rfl; have i8 := cell6 hE8 8 rfl; have u0 := cell6 hR8 0 rfl; have u1 := cell6 hR8 1 rfl; have u2 := cell6 hR8 2 rfl; have u3 := cell6 hR8 3 rfl; have u4 := cell6 hR8 4 rfl; have u5 := cell6 hR8 5 rfl; have u6 := cell6 hR8 6 rfl; have u7 := cell6 hR8 7 rfl; have u8 := cell6 hR8 8 rfl; have y0 := frozen6 hR8 0; have y1 := frozen6 hR8 1; have y2 := frozen6 hR8 2; have y3 := frozen6 hR8 3; have y4 := frozen6 hR8 4; have y5 := frozen6 hR8 5; have y6 := frozen6 hR8 6; have y7 := frozen6 hR8 7; have y8 := frozen6 hR8 8; clear hr8 hg8 hE8 hR8))
            exact bodyPost_ret (v := ruV ⟨cs, .plain 1, (vk, vn)⟩ tb capc none 0) (by simp [results, Tryd.results33, go_sem, u0, u1, u2, u3, u4, u5, u6, u7, u8, World.cell?_setCell_same']) rfl ⟨_, rfl, H8.out.done⟩
          · go_simp
            refine hK.out _ _ trivial (fun _ => ?_)
            clear hK K
            (try simp only [Act.put, List.setIfInBounds_toArray, List.set_cons_zero, List.set_cons_succ, List.getElem_toArray, List.getElem_cons_zero, List.getElem_cons_succ])
            have hba : ∀ o, (w1.alloc o).cell? ⟨w.heap.size + 1, 0, none⟩ = some v := fun o => cell6 (kept_alloc HZ.out.box o) 0 rfl
            refine held_one (i := 1) (by kernel_rfl) rfl (fun K hK => ?_)
            go_simp
            refine hK.out _ _ trivial (fun _ => ?_)
            clear hK K
            (try simp only [Act.put, List.setIfInBounds_toArray, List.set_cons_zero, List.set_cons_succ, List.getElem_toArray, List.getElem_cons_zero, List.getElem_cons_succ])
            refine held_one (i := 5) (by kernel_rfl) rfl (fun K hK => ?_)
            rw [if_pos (by kernel_rfl)]
            refine oper_append6 (.tmp 9) (.tmp 12) 39 rfl (w.heap.size + 2) 100 i8 (.agg #[.string ⟨#[]⟩, .int .u64 0]) 2 24 Tryd.underlying39 hi8 hz8 hs8 hb8 rfl (by decide) v l.length (callsC l) rfl (own_below HZ.out.own (lbox w1 _)) ⟨w1.heap.size, 0, none⟩ 1 1 (callC (callT S rr)) rfl rfl (call_cells _ _ rfl _) call_one (by unfold maxLen; omega) (by omega) (by have := HZ.out.size; simp; omega) ?_
            intro v' wd ho hg hv
            obtain ⟨A', n', c', rfl⟩ := own_form ho
            have HW := Lib.hid (HZ.out.turn (x := callT S rr) ho hg hv)
            refine hK.out _ _ trivial (fun _ => ?_)
            clear hK K ho hg hv
            (try simp only [Act.put, List.setIfInBounds_toArray, List.set_cons_zero, List.set_cons_succ, List.getElem_toArray, List.getElem_cons_zero, List.getElem_cons_succ])
            have hbE := HW.out.2
            have hlE : w.heap.size + 1 < wd.heap.size := (Array.getElem?_eq_some_iff.1 hbE).1
            have q0 := cell6 hbE 0 rfl
            have q0f := frozen6 hbE 0
            refine wpAnyH_take (i := 6) (v := ?_) rfl (by kernel_rfl) (by kernel_rfl) (by kernel_rfl) (fun _ _ _ h => h) (Or.inl ⟨by rfl, ?_⟩) (by assumption) ?_
            rotate_left
            · intro wS hSw
              (skip)
              go_simp
              all_goals with_reducible rfl
            (try simp only [List.getElem_toArray, List.getElem_cons_zero, List.getElem_cons_succ, Act.put, List.setIfInBounds_toArray, List.set_cons_zero, List.set_cons_succ])
            refine held_one (i := 7) (by kernel_rfl) rfl (fun K hK => ?_)
            go_simp
            refine hK.out _ _ trivial (fun _ => ?_)
            clear hK K hbE hlE q0 q0f
            refine wpAnyH_done (by kernel_rfl) ?_ _
            have HX1 := HW.out.1
            rw [E1.out] at HX1
            have HX := Lib.hid HX1
            clear HX1
            clear HW
            generalize wd.setCell ⟨w.heap.size + 1, 0, none⟩ (.slice A' n' c') = wx at HX ⊢
            go_wp2_with (first
              | (go_at_call 31; (with_reducible refine (HIs.out _ HX.out.rd).mono ?_); rintro e w2 ⟨rfl, hr2, hg2⟩; have HN := Lib.hid (HX.out.call hr2 hg2); obtain ⟨tb, capc, hvv, hRD⟩ := HN.out.done HP.out; have HVV := Lib.hid hvv; have H1 := Lib.hid hRD; clear hr2 hg2 hvv hRD HX)
              | (go_at_call 31; (with_reducible refine (HIw.out _ H1.out.rd).mono ?_); rintro e w4 ⟨rfl, hr4, hg4⟩; have H2 := Lib.hid (H1.out.call hr4 hg4); clear hr4 hg4)
              | (go_at_call 27; (with_reducible refine (HDo.out _ H2.out.rd).mono ?_); rintro e w5 ⟨rfl, hr5, hg5⟩; have H5 := Lib.hid (H2.out.call hr5 hg5); clear hr5 hg5)
              | (go_at_call 29; (with_reducible refine (HV.out _ H5.out.rd).mono ?_); rintro e w6 ⟨rfl, hr6, hg6⟩; have H6 := Lib.hid (H5.out.call hr6 hg6); have hE6 := H6.out.box; have hl6 : w.heap.size + 1 < w6.heap.size := (Array.getElem?_eq_some_iff.1 hE6).1; have e7 := cell6 hE6 7 rfl; have e8 := cell6 hE6 8 rfl; have g7 := frozen6 hE6 7; have g8 := frozen6 hE6 8; have H7 := Lib.hid (H6.out.setVerd (k' := vk) (n' := (vn : Int))); clear hr6 hg6 hE6)
              | (go_at_call 27; (with_reducible refine (HSe.out _ H7.out.rd).mono ?_); rintro e w8 ⟨rfl, hr8, hg8⟩; have H8 := Lib.hid (H7.out.call hr8 hg8); have hE8 := H8.out.box; have hR8 := H8.out.res; have hlR : w.heap.size < w8.heap.size := (Array.getElem?_eq_some_iff.1 hR8).1; have i0 := cell6 hE8 0 rfl; have i1 := cell6 hE8 1 rfl; have i2 := cell6 hE8 2 rfl; have i3 := cell6 hE8 3 rfl; have i4 := cell6 hE8 4 rfl; have i5 := cell6 hE8 5 rfl; have i6 := cell6 hE8 6 rfl; have i7 := cell6 hE8 7 rfl; have i8 := cell6 hE8 8 rfl; have u0 := cell6 hR8 0 rfl; have u1 := cell6 hR8 1 rfl; have u2 := cell6 hR8 2 rfl; have u3 := cell6 hR8 3 rfl; have u4 := cell6 hR8 4 rfl; have u5 := cell6 hR8 5 rfl; have u6 := cell6 hR8 6 rfl; have u7 := cell6 hR8 7 rfl; have u8 := cell6 hR8 8 rfl; have y0 := frozen6 hR8 0; have y1 := frozen6 hR8 1; have y2 := frozen6 hR8 2; have y3 := frozen6 hR8 3; have y4 := frozen6 hR8 4; have y5 := frozen6 hR8 5; have y6 := frozen6 hR8 6; have y7 := frozen6 hR8 7; have y8 := frozen6 hR8 8; clear hr8 hg8 hE8 hR8))
            exact bodyPost_ret (v := ruV ⟨cs, .plain 1, (vk, vn)⟩ tb capc none 0) (by simp [results, Tryd.results33, go_sem, u0, u1, u2, u3, u4, u5, u6, u7, u8, World.cell?_setCell_same']) rfl ⟨_, rfl, H8.out.done⟩
end Go.Proofs.YtgeapkjegemkeaaDoor
