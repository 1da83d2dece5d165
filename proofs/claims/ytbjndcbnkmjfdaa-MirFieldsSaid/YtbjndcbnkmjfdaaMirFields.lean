/-
  'MirFields': for every program of registers, every number and all bytes, the law of layer 12 on fields that are not named returns true, and leaves memory as it was. No condition.
-/
import Derived.Test.YtbjndcbnkmjfdaaMirLaw
import Derived.Laws.MakeOwn
import Derived.Deep.Cut
namespace Go.Proofs.Ytbjndcbnkmjfdaa.mirFields
open Go Go.ChangeShapes Go.WideShapes Go.ChangeAt Go.RowKit
set_option linter.unusedSimpArgs false
set_option linter.unusedVariables false
set_option maxRecDepth 100000

/-- An instruction whose fields that are not named are turned. -/
def fx (m : Int) (kv : BitVec 32) (x : Irx) : Irx :=
  ⟨x.op, if dM x.op = true then x.d else m, if aM x.op = true then x.a else m, if bM x.op = true then x.b else m, if x.op = 1 ∨ x.op = 3 then x.k else kv, if tM x.op = true then x.t else m, if fM x.op = true then x.f else m⟩
theorem fx_alike (m : Int) (kv : BitVec 32) (x : Irx) : AlikeM x (fx m kv x) :=
  ⟨rfl, fun h => if_pos h, fun h => if_pos h, fun h => if_pos h, fun h => if_pos h, fun h => if_pos h, fun h => if_pos h⟩
def mixQ (m : Int) (kv : BitVec 32) (q : Nat → Irx) (k i : Nat) : Irx := if i < k then fx m kv (q i) else q i
theorem mix_alike (m : Int) (kv : BitVec 32) (q : Nat → Irx) (k i : Nat) : AlikeM (q i) (mixQ m kv q k i) := by
  unfold mixQ
  by_cases h : i < k
  · rw [if_pos h]; exact fx_alike m kv (q i)
  · rw [if_neg h]; exact ⟨rfl, fun _ => rfl, fun _ => rfl, fun _ => rfl, fun _ => rfl, fun _ => rfl, fun _ => rfl⟩
theorem alike_go {q p : Nat → Irx} (h : ∀ i, AlikeM (q i) (p i)) (hm : Nat → Nat) (word : Nat → BitVec 32) : ∀ f at_ r, goM p hm word f at_ r = goM q hm word f at_ r
  | 0, _, _ => rfl
  | f + 1, at_, r => by
    rw [goM, goM, alike_step h]
    cases stepM q hm word at_ r with
    | stop s => rfl
    | on p' r' => show (goM p hm word f p' r').more = (goM q hm word f p' r').more; rw [alike_go h hm word f p' r']
theorem alike_run {q p : Nat → Irx} (h : ∀ i, AlikeM (q i) (p i)) (regs : Int) (n len : Nat) (word : Nat → BitVec 32) : runR regs p n len word = runR regs q n len word := by
  unfold runR atM
  rw [(alike_chk h regs n).1, (alike_chk h regs n).2, alike_go h]
/-- Instructions in a row that is one's own. -/
def RowF (W : World) (g cap n : Nat) (p : Nat → Irx) : Prop := ∃ F, W.rowIs g 35 (cap * 7) F ∧ ∀ j, j < n * 7 → F j = irF p j
theorem RowF.prog {W : World} {g cap n : Nat} {p : Nat → Irx} (h : RowF W g cap n p) (hn : n ≤ cap) (hm : n ≤ maxLen) : IrAt W (some ⟨g, 0, none⟩) n p := by
  obtain ⟨F, hr, hF⟩ := h
  exact ir_of_row hr hF (Nat.mul_le_mul_right _ hn) hm
theorem RowF.cell {W : World} {g cap n : Nat} {p : Nat → Irx} (h : RowF W g cap n p) (hn : n ≤ cap) {i j : Nat} (hi : i < n) (hj : j < 7) : W.cell? ⟨g, i * 7 + j, none⟩ = some ((irL (p i)).getD j undef) := by
  obtain ⟨F, hr, hF⟩ := h
  have : n * 7 ≤ cap * 7 := Nat.mul_le_mul_right _ hn
  rw [World.rowIs.cell hr (by omega), hF _ (by omega), irF_at _ _ _ hj]
theorem RowF.frozen {W : World} {g cap n : Nat} {p : Nat → Irx} (h : RowF W g cap n p) (i : Nat) : W.frozen? ⟨g, i, none⟩ = false := by
  obtain ⟨F, hr, _⟩ := h
  exact World.rowIs.frozen hr i
theorem RowF.lt {W : World} {g cap n : Nat} {p : Nat → Irx} (h : RowF W g cap n p) : g < W.heap.size := by
  obtain ⟨F, hr, _⟩ := h
  exact hr.lt
theorem RowF.congr {W : World} {g cap n : Nat} {p p' : Nat → Irx} (h : RowF W g cap n p) (he : ∀ i, i < n → p i = p' i) : RowF W g cap n p' := by
  obtain ⟨F, hr, hF⟩ := h
  exact ⟨F, hr, fun j hj => by rw [hF j hj, irF, irF, he _ (by omega)]⟩
/-- A field of an instruction anew. -/
theorem RowF.set {W : World} {g cap n : Nat} {p : Nat → Irx} (h : RowF W g cap n p) {i j : Nat} (hj : j < 7) (y : Irx) (hy : ∀ j', j' < 7 → j' ≠ j → (irL y).getD j' undef = (irL (p i)).getD j' undef) :
    RowF (W.setCell ⟨g, i * 7 + j, none⟩ ((irL y).getD j undef)) g cap n (fun i' => if i' = i then y else p i') := by
  obtain ⟨F, hr, hF⟩ := h
  refine ⟨_, World.rowIs.set hr (i * 7 + j) _, fun k hk => ?_⟩
  show (if k = i * 7 + j then _ else F k) = irF _ k
  by_cases e : k = i * 7 + j
  · subst e
    rw [if_pos rfl, irF_at _ _ _ hj]
    show _ = (irL (if i = i then y else p i)).getD j undef
    rw [if_pos rfl]
  · rw [if_neg e, hF k hk]
    unfold irF
    show _ = (irL (if k / 7 = i then y else p (k / 7))).getD (k % 7) undef
    by_cases e2 : k / 7 = i
    · rw [if_pos e2, e2, hy (k % 7) (Nat.mod_lt _ (by decide)) (by omega)]
    · rw [if_neg e2]

theorem RowF.set_d {W : World} {g cap n : Nat} {p : Nat → Irx} (h : RowF W g cap n p) (i : Nat) (m : Int) : RowF (W.setCell ⟨g, i * 7 + 1, none⟩ (.int .i64 m)) g cap n (fun i' => if i' = i then { p i with d := m } else p i') :=
  h.set (j := 1) (by decide) { p i with d := m } (fun j' h7 hne => by
    have : j' = 0 ∨ j' = 1 ∨ j' = 2 ∨ j' = 3 ∨ j' = 4 ∨ j' = 5 ∨ j' = 6 := by omega
    rcases this with rfl | rfl | rfl | rfl | rfl | rfl | rfl <;> first | rfl | exact absurd rfl hne)
theorem RowF.set_a {W : World} {g cap n : Nat} {p : Nat → Irx} (h : RowF W g cap n p) (i : Nat) (m : Int) : RowF (W.setCell ⟨g, i * 7 + 2, none⟩ (.int .i64 m)) g cap n (fun i' => if i' = i then { p i with a := m } else p i') :=
  h.set (j := 2) (by decide) { p i with a := m } (fun j' h7 hne => by
    have : j' = 0 ∨ j' = 1 ∨ j' = 2 ∨ j' = 3 ∨ j' = 4 ∨ j' = 5 ∨ j' = 6 := by omega
    rcases this with rfl | rfl | rfl | rfl | rfl | rfl | rfl <;> first | rfl | exact absurd rfl hne)
theorem RowF.set_b {W : World} {g cap n : Nat} {p : Nat → Irx} (h : RowF W g cap n p) (i : Nat) (m : Int) : RowF (W.setCell ⟨g, i * 7 + 3, none⟩ (.int .i64 m)) g cap n (fun i' => if i' = i then { p i with b := m } else p i') :=
  h.set (j := 3) (by decide) { p i with b := m } (fun j' h7 hne => by
    have : j' = 0 ∨ j' = 1 ∨ j' = 2 ∨ j' = 3 ∨ j' = 4 ∨ j' = 5 ∨ j' = 6 := by omega
    rcases this with rfl | rfl | rfl | rfl | rfl | rfl | rfl <;> first | rfl | exact absurd rfl hne)
theorem RowF.set_t {W : World} {g cap n : Nat} {p : Nat → Irx} (h : RowF W g cap n p) (i : Nat) (m : Int) : RowF (W.setCell ⟨g, i * 7 + 5, none⟩ (.int .i64 m)) g cap n (fun i' => if i' = i then { p i with t := m } else p i') :=
  h.set (j := 5) (by decide) { p i with t := m } (fun j' h7 hne => by
    have : j' = 0 ∨ j' = 1 ∨ j' = 2 ∨ j' = 3 ∨ j' = 4 ∨ j' = 5 ∨ j' = 6 := by omega
    rcases this with rfl | rfl | rfl | rfl | rfl | rfl | rfl <;> first | rfl | exact absurd rfl hne)
theorem RowF.set_f {W : World} {g cap n : Nat} {p : Nat → Irx} (h : RowF W g cap n p) (i : Nat) (m : Int) : RowF (W.setCell ⟨g, i * 7 + 6, none⟩ (.int .i64 m)) g cap n (fun i' => if i' = i then { p i with f := m } else p i') :=
  h.set (j := 6) (by decide) { p i with f := m } (fun j' h7 hne => by
    have : j' = 0 ∨ j' = 1 ∨ j' = 2 ∨ j' = 3 ∨ j' = 4 ∨ j' = 5 ∨ j' = 6 := by omega
    rcases this with rfl | rfl | rfl | rfl | rfl | rfl | rfl <;> first | rfl | exact absurd rfl hne)
theorem RowF.set_k {W : World} {g cap n : Nat} {p : Nat → Irx} (h : RowF W g cap n p) (i : Nat) (kv : BitVec 32) : RowF (W.setCell ⟨g, i * 7 + 4, none⟩ (.int .u32 (kv.toNat : Int))) g cap n (fun i' => if i' = i then { p i with k := kv } else p i') :=
  h.set (j := 4) (by decide) { p i with k := kv } (fun j' h7 hne => by
    have : j' = 0 ∨ j' = 1 ∨ j' = 2 ∨ j' = 3 ∨ j' = 4 ∨ j' = 5 ∨ j' = 6 := by omega
    rcases this with rfl | rfl | rfl | rfl | rfl | rfl | rfl <;> first | rfl | exact absurd rfl hne)
/-- What stands while fields are turned. -/
structure LF (w W : World) (regs : Int) (A : Option Addr) (n cap g cap1 bx : Nat) (q p : Nat → Irx) (a1 : Option Addr) (len1 : Nat) (z : Nat → Int) : Prop where
  prog : FM w W regs A n cap q
  row : RowF W g cap1 n p
  box : W.heap[bx]? = some (mirO regs (some ⟨g, 0, none⟩) n cap1)
  hg : w.heap.size + 1 ≤ g
  ne : g ≠ bx
  dat : DatAt w a1 len1 z
theorem LF.setg {w W : World} {regs : Int} {A : Option Addr} {n cap g cap1 bx : Nat} {q p p' : Nat → Irx} {a1 : Option Addr} {len1 : Nat} {z : Nat → Int} (h : LF w W regs A n cap g cap1 bx q p a1 len1 z) (hA : 0 < n → ∀ ad, A = some ad → ad.block < w.heap.size) {i : Nat} {v : Value} (hr : RowF (W.setCell ⟨g, i, none⟩ v) g cap1 n p') : LF w (W.setCell ⟨g, i, none⟩ v) regs A n cap g cap1 bx q p' a1 len1 z :=
  have hg := h.hg
  ⟨⟨h.prog.1.grown (grown_set (World.grownBy.refl W (some g)) i v) (fun h0 ad e => by have := hA h0 ad e; intro k; injection k with k; omega), h.prog.2.1.setCell (p := ⟨g, i, none⟩) (by show w.heap.size ≤ g; omega) _, (Below.heap_setCell W ⟨g, i, none⟩ v _ (by show w.heap.size ≠ g; omega)).trans h.prog.2.2⟩, hr, (Below.heap_setCell W ⟨g, i, none⟩ v _ (fun e => h.ne e.symm)).trans h.box, h.hg, h.ne, h.dat⟩

theorem LF.congr {w W : World} {regs : Int} {A : Option Addr} {n cap g cap1 bx : Nat} {q p p' : Nat → Irx} {a1 : Option Addr} {len1 : Nat} {z : Nat → Int} (h : LF w W regs A n cap g cap1 bx q p a1 len1 z) (he : ∀ i, i < n → p i = p' i) : LF w W regs A n cap g cap1 bx q p' a1 len1 z := ⟨h.prog, h.row.congr he, h.box, h.hg, h.ne, h.dat⟩
theorem mix_step {m : Int} {kv : BitVec 32} {q : Nat → Irx} {k : Nat} {y : Irx} {P : Nat → Irx} (hy : y = fx m kv (q k)) (h1 : ∀ {i}, i ≠ k → P i = mixQ m kv q k i) (h2 : P k = y) (i : Nat) : P i = mixQ m kv q (k + 1) i := by
  by_cases e : i = k
  · subst e
    rw [h2, hy]
    unfold mixQ
    rw [if_pos (Nat.lt_succ_self _)]
  · rw [h1 e]
    unfold mixQ
    by_cases h : i < k
    · rw [if_pos h, if_pos (by omega)]
    · rw [if_neg h, if_neg (by omega)]
theorem LF.sd {w W : World} {regs : Int} {A : Option Addr} {n cap g cap1 bx : Nat} {q p : Nat → Irx} {a1 : Option Addr} {len1 : Nat} {z : Nat → Int} (h : LF w W regs A n cap g cap1 bx q p a1 len1 z) (hA : 0 < n → ∀ ad, A = some ad → ad.block < w.heap.size) (i : Nat) (m : Int) : LF w (W.setCell ⟨g, i * 7 + 1, none⟩ (.int .i64 m)) regs A n cap g cap1 bx q (fun i' => if i' = i then { p i with d := m } else p i') a1 len1 z := h.setg hA (h.row.set_d i m)
theorem LF.sa {w W : World} {regs : Int} {A : Option Addr} {n cap g cap1 bx : Nat} {q p : Nat → Irx} {a1 : Option Addr} {len1 : Nat} {z : Nat → Int} (h : LF w W regs A n cap g cap1 bx q p a1 len1 z) (hA : 0 < n → ∀ ad, A = some ad → ad.block < w.heap.size) (i : Nat) (m : Int) : LF w (W.setCell ⟨g, i * 7 + 2, none⟩ (.int .i64 m)) regs A n cap g cap1 bx q (fun i' => if i' = i then { p i with a := m } else p i') a1 len1 z := h.setg hA (h.row.set_a i m)
theorem LF.sb {w W : World} {regs : Int} {A : Option Addr} {n cap g cap1 bx : Nat} {q p : Nat → Irx} {a1 : Option Addr} {len1 : Nat} {z : Nat → Int} (h : LF w W regs A n cap g cap1 bx q p a1 len1 z) (hA : 0 < n → ∀ ad, A = some ad → ad.block < w.heap.size) (i : Nat) (m : Int) : LF w (W.setCell ⟨g, i * 7 + 3, none⟩ (.int .i64 m)) regs A n cap g cap1 bx q (fun i' => if i' = i then { p i with b := m } else p i') a1 len1 z := h.setg hA (h.row.set_b i m)
theorem LF.st {w W : World} {regs : Int} {A : Option Addr} {n cap g cap1 bx : Nat} {q p : Nat → Irx} {a1 : Option Addr} {len1 : Nat} {z : Nat → Int} (h : LF w W regs A n cap g cap1 bx q p a1 len1 z) (hA : 0 < n → ∀ ad, A = some ad → ad.block < w.heap.size) (i : Nat) (m : Int) : LF w (W.setCell ⟨g, i * 7 + 5, none⟩ (.int .i64 m)) regs A n cap g cap1 bx q (fun i' => if i' = i then { p i with t := m } else p i') a1 len1 z := h.setg hA (h.row.set_t i m)
theorem LF.sf {w W : World} {regs : Int} {A : Option Addr} {n cap g cap1 bx : Nat} {q p : Nat → Irx} {a1 : Option Addr} {len1 : Nat} {z : Nat → Int} (h : LF w W regs A n cap g cap1 bx q p a1 len1 z) (hA : 0 < n → ∀ ad, A = some ad → ad.block < w.heap.size) (i : Nat) (m : Int) : LF w (W.setCell ⟨g, i * 7 + 6, none⟩ (.int .i64 m)) regs A n cap g cap1 bx q (fun i' => if i' = i then { p i with f := m } else p i') a1 len1 z := h.setg hA (h.row.set_f i m)
theorem LF.sk {w W : World} {regs : Int} {A : Option Addr} {n cap g cap1 bx : Nat} {q p : Nat → Irx} {a1 : Option Addr} {len1 : Nat} {z : Nat → Int} (h : LF w W regs A n cap g cap1 bx q p a1 len1 z) (hA : 0 < n → ∀ ad, A = some ad → ad.block < w.heap.size) (i : Nat) (kv : BitVec 32) : LF w (W.setCell ⟨g, i * 7 + 4, none⟩ (.int .u32 (kv.toNat : Int))) regs A n cap g cap1 bx q (fun i' => if i' = i then { p i with k := kv } else p i') a1 len1 z := h.setg hA (h.row.set_k i kv)
set_option maxHeartbeats 32000000 in
theorem walk (g0 : Int) (a0 : Option Addr) (len0 cap0 : Nat) (q : Nat → Irx) (m : Int) (a1 : Option Addr) (len1 cap1' : Nat) (z1 : List Int) (w : World) (w0 : IrAt w a0 len0 q) (s0 : len0 * 56 ≤ 140737488351232) (wm : (Lit.int .i64 m).wf = true) (w1 : IsRow .u8 w a1 len1 cap1' z1 ∧ cap1' * 1 ≤ 140737488351232) :
    Calls Try.prog 9 #[mirV g0 a0 len0 cap0, .int .i64 m, .slice a1 len1 cap1'] w fun e w' => e = .returned (.bool true) ∧ Below w.heap.size w w' := by
  obtain ⟨z, HD⟩ : ∃ z : Nat → Int, Hid (DatAt w a1 len1 z) := ⟨fun i => z1.getD i 0, Lib.hid (dat_of_row w1.1)⟩
  obtain ⟨kv, hkv⟩ : ∃ kv : BitVec 32, IntKind.u32.wrap m = (kv.toNat : Int) := ⟨BitVec.ofNat 32 (IntKind.u32.wrap m).toNat, by rw [IntKind.wrap_u32, BitVec.toNat_ofNat]; omega⟩
  have HI := Lib.hid w0
  have HBA : Hid (0 < len0 → ∀ ad, a0 = some ad → ad.block < w.heap.size) := Lib.hid fun h0 ad e => by
    obtain ⟨b, o, e2, hl, _⟩ := w0.2 h0
    rw [e] at e2; injection e2 with e2; subst e2; exact hl
  have H0 := Lib.hid (FM.first (regs := g0) (cap := cap0) w0)
  have HLen := Lib.hid w0.1
  clear w0 w1
  go_enter Try.func9, Try.ntmps9
  go_wp2_with (go_at_call 10; (with_reducible refine (head_M _).mono ?_); rintro e w1 ⟨rfl, hb⟩; have H1 := Lib.hid (H0.out.up hb); clear hb)
  refine Go.wp_mono (Q := fun e a w' => match e with | .normal => ∃ (bx g1 cap1 : Nat) (v25 v26 v27 v28 v29 v30 v31 : Value), a = { tmps := #[mirV g0 a0 len0 cap0, .int .i64 m, .slice a1 len1 cap1', .pointer (some ⟨w.heap.size, 0, none⟩), undef, undef, .bool false, .bool true, .pointer (some ⟨bx, 0, none⟩), undef, undef, undef, undef, undef, undef, undef, undef, undef, undef, undef, undef, undef, undef, undef, .bool true, v25, v26, v27, v28, v29, v30, v31, undef, undef, undef, undef, undef, undef, undef, undef, undef, undef, undef, undef, undef, undef, undef, undef, undef, undef, undef, undef, undef, undef, undef, undef, undef, undef, undef, undef, undef, undef, undef, undef, undef, undef, undef, undef, undef, undef, undef, undef, undef, undef, undef, undef, undef, undef, undef, undef, undef, undef, undef, undef, undef, undef, undef, undef, undef, undef, undef, undef, undef, undef, undef, undef, undef, undef, undef, undef, undef, undef, undef, undef, undef, undef, undef, undef, undef, undef, undef, undef, undef, undef, undef, undef, undef, undef, undef, undef, undef, undef, undef, undef, undef, undef, undef, undef, undef, undef, undef, undef, undef, undef, undef, undef, undef, undef, undef, undef, undef, undef, undef], defers := [] } ∧ len0 ≤ cap1 ∧ LF w w' g0 a0 len0 cap0 g1 cap1 bx q (mixQ m kv q 0) a1 len1 z | _ => False) ?_ ?_
  rotate_left
  · skip
    clear H0 H1
    rintro e a w3 hq
    cases e <;> first | exact hq.elim | skip
    obtain ⟨bx, g1, cap1, v25, v26, v27, v28, v29, v30, v31, rfl, hc1, hL⟩ := hq
    have HL := Lib.hid hL
    clear hL
    (try simp only [Exit.inBlock, Exit.then])
    go_wp2
    go_loopw [9] (fun v wr => ∃ k : Nat, k ≤ len0 ∧ v = .int .i64 (k : Int) ∧ LF w wr g0 a0 len0 cap0 g1 cap1 bx q (mixQ m kv q k) a1 len1 z) (fun v _ => len0 - (intOf v).toNat)
    case atStart => exact ⟨0, by omega, rfl, HL.out⟩
    case round =>
      obtain ⟨k, hk, rfl, hS⟩ := hrel
      clear HL
      have HS := Lib.hid hS
      have p0 := cellM hS.box 0 rfl
      have p1 := cellM hS.box 1 rfl
      have hgb := hS.ne
      have hgb' : ¬ g1 = bx := hgb
      have hlen := HLen.out
      by_cases hlt : k < len0
      · have hlt' : (k : Int) < (len0 : Int) := by omega
        have hpk : mixQ m kv q k k = q k := if_neg (Nat.lt_irrefl k)
        have e0 := hS.row.cell hc1 hlt (j := 0) (by decide)
        have e1 := hS.row.cell hc1 hlt (j := 1) (by decide)
        have e2 := hS.row.cell hc1 hlt (j := 2) (by decide)
        have e3 := hS.row.cell hc1 hlt (j := 3) (by decide)
        have e4 := hS.row.cell hc1 hlt (j := 4) (by decide)
        have e5 := hS.row.cell hc1 hlt (j := 5) (by decide)
        have e6 := hS.row.cell hc1 hlt (j := 6) (by decide)
        rw [hpk] at e0 e1 e2 e3 e4 e5 e6
        have z1 := hS.row.frozen (k * 7 + 1)
        have z2 := hS.row.frozen (k * 7 + 2)
        have z3 := hS.row.frozen (k * 7 + 3)
        have z4 := hS.row.frozen (k * 7 + 4)
        have z5 := hS.row.frozen (k * 7 + 5)
        have z6 := hS.row.frozen (k * 7 + 6)
        obtain ⟨x, hx⟩ : ∃ x, q k = x := ⟨_, rfl⟩
        have HQ := Lib.hid hx
        rw [hx] at e0 e1 e2 e3 e4 e5 e6
        obtain ⟨op, d, a, b, kk, t, f⟩ := x
        have c0 : wr.cell? ⟨g1, k * 7, none⟩ = some (.int .i64 op) := e0
        have c1 : wr.cell? ⟨g1, k * 7 + 1, none⟩ = some (.int .i64 d) := e1
        have c2 : wr.cell? ⟨g1, k * 7 + 2, none⟩ = some (.int .i64 a) := e2
        have c3 : wr.cell? ⟨g1, k * 7 + 3, none⟩ = some (.int .i64 b) := e3
        have c4 : wr.cell? ⟨g1, k * 7 + 4, none⟩ = some (.int .u32 (kk.toNat : Int)) := e4
        have c5 : wr.cell? ⟨g1, k * 7 + 5, none⟩ = some (.int .i64 t) := e5
        have c6 : wr.cell? ⟨g1, k * 7 + 6, none⟩ = some (.int .i64 f) := e6
        clear hS e0 e1 e2 e3 e4 e5 e6 hx hpk
        by_cases hin : 1 ≤ op ∧ op ≤ 19
        · rcases op_kinds hin with (hk1 | hk1) | (hk1 | hk1) | hk1 | hk1 | hk1 | hk1
          · subst hk1
            clear hin
            have HNa := Lib.hid (fun W => r_Names 1 W)
            have hdM : dM 1 = true := rfl
            rw [hdM] at HNa
            have haM : aM 1 = false := rfl
            rw [haM] at HNa
            have hbM : bM 1 = false := rfl
            rw [hbM] at HNa
            have htM : tM 1 = false := rfl
            rw [htM] at HNa
            have hfM : fM 1 = false := rfl
            rw [hfM] at HNa
            have HFX := Lib.hid (show fx m kv ⟨1, d, a, b, kk, t, f⟩ = ⟨1, d, m, m, kk, m, m⟩ from by simp [fx, hdM, haM, hbM, htM, hfM])
            clear hdM haM hbM htM hfM
            go_wp2_with (go_at_call 28; (with_reducible refine (HNa.out _).mono ?_); rintro e w2 ⟨rfl, rfl⟩)
            refine ⟨⟨k + 1, by omega, by go_num, ((((HS.out.sa HBA.out k m).sb HBA.out k m).st HBA.out k m).sf HBA.out k m).congr (fun i hi => ?_)⟩, by simp [intOf]; omega⟩
            by_cases e : i = k
            · rw [e]
              simp [mixQ, HQ.out, HFX.out]
            · simp only [e, if_false, mixQ]
              by_cases g : i < k
              · rw [if_pos g, if_pos (by omega)]
              · rw [if_neg g, if_neg (by omega)]
          · subst hk1
            clear hin
            have HNa := Lib.hid (fun W => r_Names 3 W)
            have hdM : dM 3 = true := rfl
            rw [hdM] at HNa
            have haM : aM 3 = false := rfl
            rw [haM] at HNa
            have hbM : bM 3 = false := rfl
            rw [hbM] at HNa
            have htM : tM 3 = false := rfl
            rw [htM] at HNa
            have hfM : fM 3 = false := rfl
            rw [hfM] at HNa
            have HFX := Lib.hid (show fx m kv ⟨3, d, a, b, kk, t, f⟩ = ⟨3, d, m, m, kk, m, m⟩ from by simp [fx, hdM, haM, hbM, htM, hfM])
            clear hdM haM hbM htM hfM
            go_wp2_with (go_at_call 28; (with_reducible refine (HNa.out _).mono ?_); rintro e w2 ⟨rfl, rfl⟩)
            refine ⟨⟨k + 1, by omega, by go_num, ((((HS.out.sa HBA.out k m).sb HBA.out k m).st HBA.out k m).sf HBA.out k m).congr (fun i hi => ?_)⟩, by simp [intOf]; omega⟩
            by_cases e : i = k
            · rw [e]
              simp [mixQ, HQ.out, HFX.out]
            · simp only [e, if_false, mixQ]
              by_cases g : i < k
              · rw [if_pos g, if_pos (by omega)]
              · rw [if_neg g, if_neg (by omega)]
          · subst hk1
            clear hin
            have HNa := Lib.hid (fun W => r_Names 2 W)
            have hdM : dM 2 = true := rfl
            rw [hdM] at HNa
            have haM : aM 2 = true := rfl
            rw [haM] at HNa
            have hbM : bM 2 = false := rfl
            rw [hbM] at HNa
            have htM : tM 2 = false := rfl
            rw [htM] at HNa
            have hfM : fM 2 = false := rfl
            rw [hfM] at HNa
            have HFX := Lib.hid (show fx m kv ⟨2, d, a, b, kk, t, f⟩ = ⟨2, d, a, m, kv, m, m⟩ from by simp [fx, hdM, haM, hbM, htM, hfM])
            clear hdM haM hbM htM hfM
            go_wp2_with (go_at_call 28; (with_reducible refine (HNa.out _).mono ?_); rintro e w2 ⟨rfl, rfl⟩)
            refine ⟨⟨k + 1, by omega, by go_num, ((((HS.out.sb HBA.out k m).st HBA.out k m).sf HBA.out k m).sk HBA.out k kv).congr (fun i hi => ?_)⟩, by simp [intOf]; omega⟩
            by_cases e : i = k
            · rw [e]
              simp [mixQ, HQ.out, HFX.out]
            · simp only [e, if_false, mixQ]
              by_cases g : i < k
              · rw [if_pos g, if_pos (by omega)]
              · rw [if_neg g, if_neg (by omega)]
          · subst hk1
            clear hin
            have HNa := Lib.hid (fun W => r_Names 13 W)
            have hdM : dM 13 = true := rfl
            rw [hdM] at HNa
            have haM : aM 13 = true := rfl
            rw [haM] at HNa
            have hbM : bM 13 = false := rfl
            rw [hbM] at HNa
            have htM : tM 13 = false := rfl
            rw [htM] at HNa
            have hfM : fM 13 = false := rfl
            rw [hfM] at HNa
            have HFX := Lib.hid (show fx m kv ⟨13, d, a, b, kk, t, f⟩ = ⟨13, d, a, m, kv, m, m⟩ from by simp [fx, hdM, haM, hbM, htM, hfM])
            clear hdM haM hbM htM hfM
            go_wp2_with (go_at_call 28; (with_reducible refine (HNa.out _).mono ?_); rintro e w2 ⟨rfl, rfl⟩)
            refine ⟨⟨k + 1, by omega, by go_num, ((((HS.out.sb HBA.out k m).st HBA.out k m).sf HBA.out k m).sk HBA.out k kv).congr (fun i hi => ?_)⟩, by simp [intOf]; omega⟩
            by_cases e : i = k
            · rw [e]
              simp [mixQ, HQ.out, HFX.out]
            · simp only [e, if_false, mixQ]
              by_cases g : i < k
              · rw [if_pos g, if_pos (by omega)]
              · rw [if_neg g, if_neg (by omega)]
          · have HNa := Lib.hid (fun W => r_Names op W)
            have hdM : dM op = true := by simp [dM]; omega
            rw [hdM] at HNa
            have haM : aM op = true := by simp [aM]; omega
            rw [haM] at HNa
            have hbM : bM op = true := by simp [bM]; omega
            rw [hbM] at HNa
            have htM : tM op = false := by simp [tM]; omega
            rw [htM] at HNa
            have hfM : fM op = false := by simp [fM]; omega
            rw [hfM] at HNa
            have n1 : (op != 1) = true := bne_iff_ne.2 (by omega)
            have n3 : (op != 3) = true := bne_iff_ne.2 (by omega)
            have m1 : ¬ op = 1 := by omega
            have m3 : ¬ op = 3 := by omega
            have HFX := Lib.hid (show fx m kv ⟨op, d, a, b, kk, t, f⟩ = ⟨op, d, a, b, kv, m, m⟩ from by simp [fx, hdM, haM, hbM, htM, hfM, m1, m3])
            clear hdM haM hbM htM hfM
            go_wp2_with (go_at_call 28; (with_reducible refine (HNa.out _).mono ?_); rintro e w2 ⟨rfl, rfl⟩)
            refine ⟨⟨k + 1, by omega, by go_num, (((HS.out.st HBA.out k m).sf HBA.out k m).sk HBA.out k kv).congr (fun i hi => ?_)⟩, by simp [intOf]; omega⟩
            by_cases e : i = k
            · rw [e]
              simp [mixQ, HQ.out, HFX.out]
            · simp only [e, if_false, mixQ]
              by_cases g : i < k
              · rw [if_pos g, if_pos (by omega)]
              · rw [if_neg g, if_neg (by omega)]
          · subst hk1
            clear hin
            have HNa := Lib.hid (fun W => r_Names 14 W)
            have hdM : dM 14 = false := rfl
            rw [hdM] at HNa
            have haM : aM 14 = false := rfl
            rw [haM] at HNa
            have hbM : bM 14 = false := rfl
            rw [hbM] at HNa
            have htM : tM 14 = true := rfl
            rw [htM] at HNa
            have hfM : fM 14 = false := rfl
            rw [hfM] at HNa
            have HFX := Lib.hid (show fx m kv ⟨14, d, a, b, kk, t, f⟩ = ⟨14, m, m, m, kv, t, m⟩ from by simp [fx, hdM, haM, hbM, htM, hfM])
            clear hdM haM hbM htM hfM
            go_wp2_with (go_at_call 28; (with_reducible refine (HNa.out _).mono ?_); rintro e w2 ⟨rfl, rfl⟩)
            refine ⟨⟨k + 1, by omega, by go_num, (((((HS.out.sd HBA.out k m).sa HBA.out k m).sb HBA.out k m).sf HBA.out k m).sk HBA.out k kv).congr (fun i hi => ?_)⟩, by simp [intOf]; omega⟩
            by_cases e : i = k
            · rw [e]
              simp [mixQ, HQ.out, HFX.out]
            · simp only [e, if_false, mixQ]
              by_cases g : i < k
              · rw [if_pos g, if_pos (by omega)]
              · rw [if_neg g, if_neg (by omega)]
          · have HNa := Lib.hid (fun W => r_Names op W)
            have hdM : dM op = false := by simp [dM]; omega
            rw [hdM] at HNa
            have haM : aM op = true := by simp [aM]; omega
            rw [haM] at HNa
            have hbM : bM op = true := by simp [bM]; omega
            rw [hbM] at HNa
            have htM : tM op = true := by simp [tM]; omega
            rw [htM] at HNa
            have hfM : fM op = true := by simp [fM]; omega
            rw [hfM] at HNa
            have n1 : (op != 1) = true := bne_iff_ne.2 (by omega)
            have n3 : (op != 3) = true := bne_iff_ne.2 (by omega)
            have m1 : ¬ op = 1 := by omega
            have m3 : ¬ op = 3 := by omega
            have HFX := Lib.hid (show fx m kv ⟨op, d, a, b, kk, t, f⟩ = ⟨op, m, a, b, kv, t, f⟩ from by simp [fx, hdM, haM, hbM, htM, hfM, m1, m3])
            clear hdM haM hbM htM hfM
            go_wp2_with (go_at_call 28; (with_reducible refine (HNa.out _).mono ?_); rintro e w2 ⟨rfl, rfl⟩)
            refine ⟨⟨k + 1, by omega, by go_num, ((HS.out.sd HBA.out k m).sk HBA.out k kv).congr (fun i hi => ?_)⟩, by simp [intOf]; omega⟩
            by_cases e : i = k
            · rw [e]
              simp [mixQ, HQ.out, HFX.out]
            · simp only [e, if_false, mixQ]
              by_cases g : i < k
              · rw [if_pos g, if_pos (by omega)]
              · rw [if_neg g, if_neg (by omega)]
          · subst hk1
            clear hin
            have HNa := Lib.hid (fun W => r_Names 19 W)
            have hdM : dM 19 = false := rfl
            rw [hdM] at HNa
            have haM : aM 19 = true := rfl
            rw [haM] at HNa
            have hbM : bM 19 = false := rfl
            rw [hbM] at HNa
            have htM : tM 19 = false := rfl
            rw [htM] at HNa
            have hfM : fM 19 = false := rfl
            rw [hfM] at HNa
            have HFX := Lib.hid (show fx m kv ⟨19, d, a, b, kk, t, f⟩ = ⟨19, m, a, m, kv, m, m⟩ from by simp [fx, hdM, haM, hbM, htM, hfM])
            clear hdM haM hbM htM hfM
            go_wp2_with (go_at_call 28; (with_reducible refine (HNa.out _).mono ?_); rintro e w2 ⟨rfl, rfl⟩)
            refine ⟨⟨k + 1, by omega, by go_num, (((((HS.out.sd HBA.out k m).sb HBA.out k m).st HBA.out k m).sf HBA.out k m).sk HBA.out k kv).congr (fun i hi => ?_)⟩, by simp [intOf]; omega⟩
            by_cases e : i = k
            · rw [e]
              simp [mixQ, HQ.out, HFX.out]
            · simp only [e, if_false, mixQ]
              by_cases g : i < k
              · rw [if_pos g, if_pos (by omega)]
              · rw [if_neg g, if_neg (by omega)]
        · have HNa := Lib.hid (fun W => r_Names op W)
          have hdM : dM op = false := by simp [dM]; omega
          rw [hdM] at HNa
          have haM : aM op = false := by simp [aM]; omega
          rw [haM] at HNa
          have hbM : bM op = false := by simp [bM]; omega
          rw [hbM] at HNa
          have htM : tM op = false := by simp [tM]; omega
          rw [htM] at HNa
          have hfM : fM op = false := by simp [fM]; omega
          rw [hfM] at HNa
          have n1 : (op != 1) = true := bne_iff_ne.2 (by omega)
          have n3 : (op != 3) = true := bne_iff_ne.2 (by omega)
          have m1 : ¬ op = 1 := by omega
          have m3 : ¬ op = 3 := by omega
          have HFX := Lib.hid (show fx m kv ⟨op, d, a, b, kk, t, f⟩ = ⟨op, m, m, m, kv, m, m⟩ from by simp [fx, hdM, haM, hbM, htM, hfM, m1, m3])
          clear hdM haM hbM htM hfM
          go_wp2_with (go_at_call 28; (with_reducible refine (HNa.out _).mono ?_); rintro e w2 ⟨rfl, rfl⟩)
          refine ⟨⟨k + 1, by omega, by go_num, ((((((HS.out.sd HBA.out k m).sa HBA.out k m).sb HBA.out k m).st HBA.out k m).sf HBA.out k m).sk HBA.out k kv).congr (fun i hi => ?_)⟩, by simp [intOf]; omega⟩
          by_cases e : i = k
          · rw [e]
            simp [mixQ, HQ.out, HFX.out]
          · simp only [e, if_false, mixQ]
            by_cases g : i < k
            · rw [if_pos g, if_pos (by omega)]
            · rw [if_neg g, if_neg (by omega)]
      · obtain rfl : k = len0 := by omega
        have HP2 := Lib.hid (hS.row.prog hc1 hlen)
        have q0 := cellM hS.prog.2.2 0 rfl
        have q1 := cellM hS.prog.2.2 1 rfl
        have HC1 : Hid (∀ V A cap da dcap, IrAt V A k q → DatAt V da len1 z → Calls Try.prog 15 #[mirV g0 A k cap, .slice da len1 dcap] V (RunMP g0 q k len1 z V)) := Lib.hid fun V A cap da dcap h h2 => p_RunM g0 A k cap q da len1 dcap z V h h2
        have HC2 : Hid (∀ V A cap da dcap, IrAt V A k (mixQ m kv q k) → DatAt V da len1 z → Calls Try.prog 15 #[mirV g0 A k cap, .slice da len1 dcap] V (RunMP g0 q k len1 z V)) := Lib.hid fun V A cap da dcap h h2 => (p_RunM g0 A k cap (mixQ m kv q k) da len1 dcap z V h h2).mono fun e w' h => ⟨by rw [h.1, alike_run (mix_alike m kv q k)], h.2⟩
        unfold RunMP at HC1 HC2
        generalize runR g0 q k len1 (wordZ z) = E at HC1 HC2
        obtain ⟨ea, en, ee, ep⟩ := E
        clear hS
        go_wp2_with (first
          | (go_at_call 15; (with_reducible refine (HC2.out _ _ _ _ _ (HP2.out.below H5.out.2.1) (HD.out.below (onM HS.out.prog.2.1 H5.out.2.1))).mono ?_); rintro e w6 ⟨rfl, hb⟩; have H6 := Lib.hid (onM (onM HS.out.prog.2.1 H5.out.2.1) hb); clear hb)
          | (go_at_call 15; (with_reducible refine (HC1.out _ _ _ _ _ HS.out.prog.1 (HD.out.below HS.out.prog.2.1)).mono ?_); rintro e w5 ⟨rfl, hb⟩; have H5 := Lib.hid (And.intro (keepM HS.out.box hb) (And.intro hb trivial)); clear hb p0 p1 q0 q1; have p0 := cellM H5.out.1 0 rfl; have p1 := cellM H5.out.1 1 rfl))
        go_ret
        exact ⟨rfl, H6.out⟩
  refine wp_region_held_drew (S := fun W' => W'.heap[w.heap.size]? = some (mirO g0 a0 len0 cap0)) (by kernel_rfl) H1.out.2.2 (fun hHeld => ?_)
  have HY := Lib.hid (show Below w.heap.size w w1.drew ∧ w1.drew.heap[w.heap.size]? = some (mirO g0 a0 len0 cap0) from ⟨H1.out.2.1.drew, H1.out.2.2⟩)
  clear H0 H1
  generalize w1.drew = Y at HY hHeld ⊢
  have hyl : w.heap.size < Y.heap.size := (Array.getElem?_eq_some_iff.1 HY.out.2).1
  refine wpAnyH_take (i := 0) (v := ?_) rfl (by kernel_rfl) (by kernel_rfl) (by kernel_rfl) (fun _ _ _ h => h) (Or.inl ⟨by rfl, ?_⟩) (by assumption) ?_
  rotate_left
  · intro wS hSw
    (have a0' := cellM hSw 0 rfl; have a1' := cellM hSw 1 rfl; clear hSw)
    go_simp
    all_goals with_reducible rfl
  (try simp only [List.getElem_toArray, List.getElem_cons_zero, List.getElem_cons_succ, Act.put, List.setIfInBounds_toArray, List.set_cons_zero, List.set_cons_succ])
  refine wpAnyH_take (i := 1) (v := ?_) rfl (by kernel_rfl) (by kernel_rfl) (by kernel_rfl) (fun _ _ _ h => h) (Or.inl ⟨by rfl, ?_⟩) (by assumption) ?_
  rotate_left
  · intro wS hSw
    (have a0' := cellM hSw 0 rfl; have a1' := cellM hSw 1 rfl; clear hSw)
    go_simp
    all_goals with_reducible rfl
  (try simp only [List.getElem_toArray, List.getElem_cons_zero, List.getElem_cons_succ, Act.put, List.setIfInBounds_toArray, List.set_cons_zero, List.set_cons_succ])
  refine wpAnyH_take (i := 3) (v := ?_) rfl (by kernel_rfl) (by kernel_rfl) (by kernel_rfl) (fun _ _ _ h => h) (Or.inl ⟨by rfl, ?_⟩) (by assumption) ?_
  rotate_left
  · intro wS hSw
    (have a0' := cellM hSw 0 rfl; have a1' := cellM hSw 1 rfl; clear hSw)
    go_simp
    all_goals with_reducible rfl
  (try simp only [List.getElem_toArray, List.getElem_cons_zero, List.getElem_cons_succ, Act.put, List.setIfInBounds_toArray, List.set_cons_zero, List.set_cons_succ])
  refine wpAnyH_take (i := 4) (v := ?_) rfl (by kernel_rfl) (by kernel_rfl) (by kernel_rfl) (fun _ _ _ h => h) (Or.inl ⟨by rfl, ?_⟩) (by assumption) ?_
  rotate_left
  · intro wS hSw
    (have a0' := cellM hSw 0 rfl; have a1' := cellM hSw 1 rfl; clear hSw)
    go_simp
    all_goals with_reducible rfl
  (try simp only [List.getElem_toArray, List.getElem_cons_zero, List.getElem_cons_succ, Act.put, List.setIfInBounds_toArray, List.set_cons_zero, List.set_cons_succ])
  refine wpAnyH_ready (rs := [2, 7]) (by kernel_rfl) (by simp) (AllReadyH.cons rfl (fun K hK => ?_) (AllReadyH.cons rfl (fun K hK => ?_) AllReadyH.nil))
  · go_simp
    have hba := lboxM Y (.cells #[] 35)
    refine hK.out _ _ (keepM HY.out.2 hba) (fun hHa => ?_)
    have Ha := Lib.hid (And.intro (onM HY.out.1 hba) (keepM HY.out.2 hba))
    have HRa := Lib.hid (show (Y.alloc (.cells #[] 35)).rowIs Y.heap.size 35 (0 * 7) (fun _ => undef) from World.rowIs_alloc Y #[] 35 (fun _ => undef) (fun i hi => absurd hi (by simp)))
    have HBa := Lib.hid hba
    clear hK K hHeld hba
    (try simp only [Act.put, List.setIfInBounds_toArray, List.set_cons_zero, List.set_cons_succ, List.getElem_toArray, List.getElem_cons_zero, List.getElem_cons_succ])
    generalize Y.alloc (.cells #[] 35) = Ya at Ha HRa HBa hHa ⊢
    refine wpAnyH_ready (rs := [5, 7]) (by kernel_rfl) (by simp) (AllReadyH.cons rfl (fun K hK => ?_) (AllReadyH.cons rfl (fun K hK => ?_) AllReadyH.nil))

    · rw [if_pos (by kernel_rfl)]
      refine oper_append_rowsM (.tmp 27) (.tmp 29) 22 rfl 35 (.agg #[.int .i64 0, .int .i64 0, .int .i64 0, .int .i64 0, .int .u32 0, .int .i64 0, .int .i64 0]) 7 56 Try.underlying22 info_irM rfl (by decide) (Y.heap.size) 0 0 (fun _ => undef) rfl HRa.out (Nat.le_refl _) (by decide) a0 len0 cap0 (irF q) rfl (Holds.below (holds_of_ir HI.out) Ha.out.1) (irF_one q) (by unfold maxLen; omega) (by omega) ?_
      intro g1 cap1 F1 Vc hr1 hc1 hm1 _ hF1 hg1 hgg1
      simp only [Nat.zero_add, Nat.zero_mul] at hc1 hF1
      have hle1 : w.heap.size + 1 ≤ Y.heap.size := hyl
      have hsz1 := (Array.getElem?_eq_some_iff.1 Ha.out.2).1
      have hge1 : w.heap.size + 1 ≤ g1 := by
        rcases hgg1 with e | e <;> omega
      have hbx : Vc.heap[w.heap.size]? = some (mirO g0 a0 len0 cap0) := (hg1.block _ hsz1 (fun e => by injection e with e; omega)).trans Ha.out.2
      have hbel : Below w.heap.size w Vc := below_grown Ha.out.1 hg1 (by omega) (Nat.le_refl _)
      refine hK.out _ _ hbx (fun hHc => ?_)
      have Hc := Lib.hid (And.intro hbel hbx)
      have HF := Lib.hid (show RowF Vc g1 cap1 len0 q from ⟨F1, hr1, hF1⟩)
      clear hK K hbel hbx hr1 hF1 hg1 hgg1 hHa Ha HBa HRa
      (try simp only [Act.put, List.setIfInBounds_toArray, List.set_cons_zero, List.set_cons_succ, List.getElem_toArray, List.getElem_cons_zero, List.getElem_cons_succ])
      refine wpAnyH_take (i := 6) (v := ?_) rfl (by kernel_rfl) (by kernel_rfl) (by kernel_rfl) (fun _ _ _ h => h) (Or.inl ⟨by rfl, ?_⟩) (by assumption) ?_
      rotate_left
      · intro wS hSw
        (skip)
        go_simp
        all_goals with_reducible rfl
      (try simp only [List.getElem_toArray, List.getElem_cons_zero, List.getElem_cons_succ, Act.put, List.setIfInBounds_toArray, List.set_cons_zero, List.set_cons_succ])
      refine held_one (i := 7) (by kernel_rfl) rfl (fun K hK => ?_)
      go_simp
      have hbd := lboxM Vc (.cells #[.int .i64 0, .slice none 0 0] 24)
      refine hK.out _ _ (keepM Hc.out.2 hbd) (fun hHd => ?_)
      have Hd := Lib.hid (And.intro (onM Hc.out.1 hbd) (keepM Hc.out.2 hbd))
      have HXd := Lib.hid (World.alloc_heap_new Vc (.cells #[.int .i64 0, .slice none 0 0] 24))
      have HBd := Lib.hid hbd
      clear hK K hHc hbd
      (try simp only [Act.put, List.setIfInBounds_toArray, List.set_cons_zero, List.set_cons_succ, List.getElem_toArray, List.getElem_cons_zero, List.getElem_cons_succ])
      have HT := Lib.hid (show Below w.heap.size w (Vc.alloc (.cells #[.int .i64 0, .slice none 0 0] 24)) ∧ (Vc.alloc (.cells #[.int .i64 0, .slice none 0 0] 24)).heap[w.heap.size]? = some (mirO g0 a0 len0 cap0) ∧ (Vc.alloc (.cells #[.int .i64 0, .slice none 0 0] 24)).heap[Vc.heap.size]? = some (.cells #[.int .i64 0, .slice none 0 0] 24) ∧ RowF (Vc.alloc (.cells #[.int .i64 0, .slice none 0 0] 24)) g1 cap1 len0 q ∧ (w.heap.size + 1 ≤ g1 ∧ w.heap.size + 1 ≤ Vc.heap.size ∧ g1 ≠ Vc.heap.size) from ⟨Hd.out.1, Hd.out.2, HXd.out, by { obtain ⟨F, hr, hF⟩ := HF.out; exact ⟨F, rowIs_below hr HBd.out hr.lt, hF⟩ }, hge1, by have := HF.out.lt; omega, Nat.ne_of_lt HF.out.lt⟩)
      clear Hc Hd HBd HXd HF
      generalize Vc.alloc (.cells #[.int .i64 0, .slice none 0 0] 24) = Vt at HT hHd ⊢
      generalize Vc.heap.size = bx at HT ⊢
      have hHt := hHd
      clear hHd
      have hx := HT.out.2.2.1
      have r0 : Vt.cell? ⟨bx, 0, none⟩ = some (.int .i64 0) := cellM hx 0 rfl
      have r1 : Vt.cell? ⟨bx, 1, none⟩ = some (.slice none 0 0) := cellM hx 1 rfl
      have f0 : Vt.frozen? ⟨bx, 0, none⟩ = false := by unfold World.frozen?; rw [hx]; simp
      have f1 : Vt.frozen? ⟨bx, 1, none⟩ = false := by unfold World.frozen?; rw [hx]; simp
      clear hx
      refine held_one (i := 8) (by kernel_rfl) rfl (fun K hK => ?_)
      go_simp
      have hset : ((Vt.setCell ⟨bx, 0, none⟩ (.int .i64 g0)).setCell ⟨bx, 1, none⟩ (.slice (some ⟨g1, 0, none⟩) len0 cap1)).heap[bx]? = some (.cells #[.int .i64 g0, .slice (some ⟨g1, 0, none⟩) len0 cap1] 24) := by
        unfold World.setCell
        simp only [Array.getElem?_modify, if_true, HT.out.2.2.1]
        rfl
      have hne : ∀ k, k ≠ bx → ((Vt.setCell ⟨bx, 0, none⟩ (.int .i64 g0)).setCell ⟨bx, 1, none⟩ (.slice (some ⟨g1, 0, none⟩) len0 cap1)).heap[k]? = Vt.heap[k]? := fun k hk => (Below.heap_setCell _ ⟨bx, 1, none⟩ _ _ hk).trans (Below.heap_setCell _ ⟨bx, 0, none⟩ _ _ hk)
      have hbxx := HT.out.2.2.2.2
      refine hK.out _ _ ((hne _ (by omega)).trans HT.out.2.1) (fun hHy => ?_)
      have hbelow : Below w.heap.size w ((Vt.setCell ⟨bx, 0, none⟩ (.int .i64 g0)).setCell ⟨bx, 1, none⟩ (.slice (some ⟨g1, 0, none⟩) len0 cap1)) := (HT.out.1.setCell (p := ⟨bx, 0, none⟩) (by show w.heap.size ≤ bx; omega) _).setCell (p := ⟨bx, 1, none⟩) (by show w.heap.size ≤ bx; omega) _
      have HL : Hid (LF w ((Vt.setCell ⟨bx, 0, none⟩ (.int .i64 g0)).setCell ⟨bx, 1, none⟩ (.slice (some ⟨g1, 0, none⟩) len0 cap1)) g0 a0 len0 cap0 g1 cap1 bx q (mixQ m kv q 0) a1 len1 z) := Lib.hid ⟨⟨HI.out.below hbelow, hbelow, (hne _ (by omega)).trans HT.out.2.1⟩, by
        obtain ⟨F, hr, hF⟩ := HT.out.2.2.2.1
        refine RowF.congr ⟨F, hr.of_block (hne _ hbxx.2.2), hF⟩ (fun i hi => ?_)
        unfold mixQ
        rw [if_neg (by omega)], hset, hbxx.1, hbxx.2.2, HD.out⟩
      clear hK K hHt hHy r0 r1 f0 f1 HT hset hne hbelow
      (try simp only [Act.put, List.setIfInBounds_toArray, List.set_cons_zero, List.set_cons_succ, List.getElem_toArray, List.getElem_cons_zero, List.getElem_cons_succ])
      refine wpAnyH_done (by kernel_rfl) ?_ _
      exact ⟨bx, g1, cap1, _, _, _, _, _, _, _, rfl, hc1, HL.out⟩

    · go_simp
      have hbb := lboxM Ya (.cells #[.int .i64 0, .slice none 0 0] 24)
      refine hK.out _ _ (keepM Ha.out.2 hbb) (fun hHb => ?_)
      have Hb := Lib.hid (And.intro (onM Ha.out.1 hbb) (keepM Ha.out.2 hbb))
      have HXb := Lib.hid (World.alloc_heap_new Ya (.cells #[.int .i64 0, .slice none 0 0] 24))
      have HBb := Lib.hid hbb
      clear hK K hHa hbb
      (try simp only [Act.put, List.setIfInBounds_toArray, List.set_cons_zero, List.set_cons_succ, List.getElem_toArray, List.getElem_cons_zero, List.getElem_cons_succ])
      have HR2 := Lib.hid (rowIs_below HRa.out HBb.out HRa.out.lt)
      have hya : Y.heap.size < Ya.heap.size := HRa.out.lt
      have hyb : Ya.heap.size < (Ya.alloc (.cells #[.int .i64 0, .slice none 0 0] 24)).heap.size := by simp
      clear Ha HRa HBb HBa
      generalize Ya.alloc (.cells #[.int .i64 0, .slice none 0 0] 24) = Yb at Hb HXb HR2 hHb hyb ⊢
      generalize Ya.heap.size = bx at HXb hya hyb ⊢
      refine held_one (i := 5) (by kernel_rfl) rfl (fun K hK => ?_)
      rw [if_pos (by kernel_rfl)]
      refine oper_append_rowsM (.tmp 27) (.tmp 29) 22 rfl 35 (.agg #[.int .i64 0, .int .i64 0, .int .i64 0, .int .i64 0, .int .u32 0, .int .i64 0, .int .i64 0]) 7 56 Try.underlying22 info_irM rfl (by decide) (Y.heap.size) 0 0 (fun _ => undef) rfl HR2.out (Nat.le_refl _) (by decide) a0 len0 cap0 (irF q) rfl (Holds.below (holds_of_ir HI.out) Hb.out.1) (irF_one q) (by unfold maxLen; omega) (by omega) ?_
      intro g1 cap1 F1 Vc hr1 hc1 hm1 _ hF1 hg1 hgg1
      simp only [Nat.zero_add, Nat.zero_mul] at hc1 hF1
      have hle1 : w.heap.size + 1 ≤ Y.heap.size := hyl
      have hsz1 := (Array.getElem?_eq_some_iff.1 Hb.out.2).1
      have hge1 : w.heap.size + 1 ≤ g1 := by
        rcases hgg1 with e | e <;> omega
      have hbx : Vc.heap[w.heap.size]? = some (mirO g0 a0 len0 cap0) := (hg1.block _ hsz1 (fun e => by injection e with e; omega)).trans Hb.out.2
      have hbel : Below w.heap.size w Vc := below_grown Hb.out.1 hg1 (by omega) (Nat.le_refl _)
      refine hK.out _ _ hbx (fun hHc => ?_)
      have hxb : Vc.heap[bx]? = some (.cells #[.int .i64 0, .slice none 0 0] 24) := (hg1.block _ hyb (fun e => by injection e with e; omega)).trans HXb.out
      have HT := Lib.hid (show Below w.heap.size w Vc ∧ Vc.heap[w.heap.size]? = some (mirO g0 a0 len0 cap0) ∧ Vc.heap[bx]? = some (.cells #[.int .i64 0, .slice none 0 0] 24) ∧ RowF Vc g1 cap1 len0 q ∧ (w.heap.size + 1 ≤ g1 ∧ w.heap.size + 1 ≤ bx ∧ g1 ≠ bx) from ⟨hbel, hbx, hxb, ⟨F1, hr1, hF1⟩, hge1, by omega, by rcases hgg1 with e | e <;> omega⟩)
      clear hK K hbel hbx hr1 hF1 hg1 hgg1 Hb hHb HXb hxb HR2
      (try simp only [Act.put, List.setIfInBounds_toArray, List.set_cons_zero, List.set_cons_succ, List.getElem_toArray, List.getElem_cons_zero, List.getElem_cons_succ])
      generalize Vc = Vt at HT hHc ⊢
      have hHt := hHc
      clear hHc
      refine wpAnyH_take (i := 6) (v := ?_) rfl (by kernel_rfl) (by kernel_rfl) (by kernel_rfl) (fun _ _ _ h => h) (Or.inl ⟨by rfl, ?_⟩) (by assumption) ?_
      rotate_left
      · intro wS hSw
        (skip)
        go_simp
        all_goals with_reducible rfl
      (try simp only [List.getElem_toArray, List.getElem_cons_zero, List.getElem_cons_succ, Act.put, List.setIfInBounds_toArray, List.set_cons_zero, List.set_cons_succ])
      have hx := HT.out.2.2.1
      have r0 : Vt.cell? ⟨bx, 0, none⟩ = some (.int .i64 0) := cellM hx 0 rfl
      have r1 : Vt.cell? ⟨bx, 1, none⟩ = some (.slice none 0 0) := cellM hx 1 rfl
      have f0 : Vt.frozen? ⟨bx, 0, none⟩ = false := by unfold World.frozen?; rw [hx]; simp
      have f1 : Vt.frozen? ⟨bx, 1, none⟩ = false := by unfold World.frozen?; rw [hx]; simp
      clear hx
      refine held_one (i := 8) (by kernel_rfl) rfl (fun K hK => ?_)
      go_simp
      have hset : ((Vt.setCell ⟨bx, 0, none⟩ (.int .i64 g0)).setCell ⟨bx, 1, none⟩ (.slice (some ⟨g1, 0, none⟩) len0 cap1)).heap[bx]? = some (.cells #[.int .i64 g0, .slice (some ⟨g1, 0, none⟩) len0 cap1] 24) := by
        unfold World.setCell
        simp only [Array.getElem?_modify, if_true, HT.out.2.2.1]
        rfl
      have hne : ∀ k, k ≠ bx → ((Vt.setCell ⟨bx, 0, none⟩ (.int .i64 g0)).setCell ⟨bx, 1, none⟩ (.slice (some ⟨g1, 0, none⟩) len0 cap1)).heap[k]? = Vt.heap[k]? := fun k hk => (Below.heap_setCell _ ⟨bx, 1, none⟩ _ _ hk).trans (Below.heap_setCell _ ⟨bx, 0, none⟩ _ _ hk)
      have hbxx := HT.out.2.2.2.2
      refine hK.out _ _ ((hne _ (by omega)).trans HT.out.2.1) (fun hHy => ?_)
      have hbelow : Below w.heap.size w ((Vt.setCell ⟨bx, 0, none⟩ (.int .i64 g0)).setCell ⟨bx, 1, none⟩ (.slice (some ⟨g1, 0, none⟩) len0 cap1)) := (HT.out.1.setCell (p := ⟨bx, 0, none⟩) (by show w.heap.size ≤ bx; omega) _).setCell (p := ⟨bx, 1, none⟩) (by show w.heap.size ≤ bx; omega) _
      have HL : Hid (LF w ((Vt.setCell ⟨bx, 0, none⟩ (.int .i64 g0)).setCell ⟨bx, 1, none⟩ (.slice (some ⟨g1, 0, none⟩) len0 cap1)) g0 a0 len0 cap0 g1 cap1 bx q (mixQ m kv q 0) a1 len1 z) := Lib.hid ⟨⟨HI.out.below hbelow, hbelow, (hne _ (by omega)).trans HT.out.2.1⟩, by
        obtain ⟨F, hr, hF⟩ := HT.out.2.2.2.1
        refine RowF.congr ⟨F, hr.of_block (hne _ hbxx.2.2), hF⟩ (fun i hi => ?_)
        unfold mixQ
        rw [if_neg (by omega)], hset, hbxx.1, hbxx.2.2, HD.out⟩
      clear hK K hHt hHy r0 r1 f0 f1 HT hset hne hbelow
      (try simp only [Act.put, List.setIfInBounds_toArray, List.set_cons_zero, List.set_cons_succ, List.getElem_toArray, List.getElem_cons_zero, List.getElem_cons_succ])
      refine wpAnyH_done (by kernel_rfl) ?_ _
      exact ⟨bx, g1, cap1, _, _, _, _, _, _, _, rfl, hc1, HL.out⟩

  · go_simp
    have hbb := lboxM Y (.cells #[.int .i64 0, .slice none 0 0] 24)
    refine hK.out _ _ (keepM HY.out.2 hbb) (fun hHb => ?_)
    have Hb := Lib.hid (And.intro (onM HY.out.1 hbb) (keepM HY.out.2 hbb))
    have HXb := Lib.hid (World.alloc_heap_new Y (.cells #[.int .i64 0, .slice none 0 0] 24))
    have HBb := Lib.hid hbb
    clear hK K hHeld hbb
    (try simp only [Act.put, List.setIfInBounds_toArray, List.set_cons_zero, List.set_cons_succ, List.getElem_toArray, List.getElem_cons_zero, List.getElem_cons_succ])
    have hyb : Y.heap.size < (Y.alloc (.cells #[.int .i64 0, .slice none 0 0] 24)).heap.size := by simp
    clear HBb
    generalize Y.alloc (.cells #[.int .i64 0, .slice none 0 0] 24) = Yb at Hb HXb hHb hyb ⊢
    generalize Y.heap.size = bx at HXb hyb hyl ⊢
    refine held_one (i := 2) (by kernel_rfl) rfl (fun K hK => ?_)
    go_simp
    have hba := lboxM Yb (.cells #[] 35)
    refine hK.out _ _ (keepM Hb.out.2 hba) (fun hHa => ?_)
    have Ha := Lib.hid (And.intro (onM Hb.out.1 hba) (keepM Hb.out.2 hba))
    have HRa := Lib.hid (show (Yb.alloc (.cells #[] 35)).rowIs Yb.heap.size 35 (0 * 7) (fun _ => undef) from World.rowIs_alloc Yb #[] 35 (fun _ => undef) (fun i hi => absurd hi (by simp)))
    have HBa := Lib.hid hba
    clear hK K hHb hba
    (try simp only [Act.put, List.setIfInBounds_toArray, List.set_cons_zero, List.set_cons_succ, List.getElem_toArray, List.getElem_cons_zero, List.getElem_cons_succ])
    have HXa := Lib.hid (keepM HXb.out HBa.out)
    have hya : Yb.heap.size < (Yb.alloc (.cells #[] 35)).heap.size := by simp
    clear Hb HBa HXb
    generalize Yb.alloc (.cells #[] 35) = Ya at Ha HXa HRa hHa hya ⊢
    generalize Yb.heap.size = ge at HRa hyb hya ⊢
    refine held_one (i := 5) (by kernel_rfl) rfl (fun K hK => ?_)
    rw [if_pos (by kernel_rfl)]
    refine oper_append_rowsM (.tmp 27) (.tmp 29) 22 rfl 35 (.agg #[.int .i64 0, .int .i64 0, .int .i64 0, .int .i64 0, .int .u32 0, .int .i64 0, .int .i64 0]) 7 56 Try.underlying22 info_irM rfl (by decide) (ge) 0 0 (fun _ => undef) rfl HRa.out (Nat.le_refl _) (by decide) a0 len0 cap0 (irF q) rfl (Holds.below (holds_of_ir HI.out) Ha.out.1) (irF_one q) (by unfold maxLen; omega) (by omega) ?_
    intro g1 cap1 F1 Vc hr1 hc1 hm1 _ hF1 hg1 hgg1
    simp only [Nat.zero_add, Nat.zero_mul] at hc1 hF1
    have hle1 : w.heap.size + 1 ≤ ge := (by omega)
    have hsz1 := (Array.getElem?_eq_some_iff.1 Ha.out.2).1
    have hge1 : w.heap.size + 1 ≤ g1 := by
      rcases hgg1 with e | e <;> omega
    have hbx : Vc.heap[w.heap.size]? = some (mirO g0 a0 len0 cap0) := (hg1.block _ hsz1 (fun e => by injection e with e; omega)).trans Ha.out.2
    have hbel : Below w.heap.size w Vc := below_grown Ha.out.1 hg1 (by omega) (Nat.le_refl _)
    refine hK.out _ _ hbx (fun hHc => ?_)
    have hxb : Vc.heap[bx]? = some (.cells #[.int .i64 0, .slice none 0 0] 24) := (hg1.block _ (by omega) (fun e => by injection e with e; omega)).trans HXa.out
    have HT := Lib.hid (show Below w.heap.size w Vc ∧ Vc.heap[w.heap.size]? = some (mirO g0 a0 len0 cap0) ∧ Vc.heap[bx]? = some (.cells #[.int .i64 0, .slice none 0 0] 24) ∧ RowF Vc g1 cap1 len0 q ∧ (w.heap.size + 1 ≤ g1 ∧ w.heap.size + 1 ≤ bx ∧ g1 ≠ bx) from ⟨hbel, hbx, hxb, ⟨F1, hr1, hF1⟩, hge1, by omega, by rcases hgg1 with e | e <;> omega⟩)
    clear hK K hbel hbx hr1 hF1 hg1 hgg1 Ha hHa HXa hxb HRa
    (try simp only [Act.put, List.setIfInBounds_toArray, List.set_cons_zero, List.set_cons_succ, List.getElem_toArray, List.getElem_cons_zero, List.getElem_cons_succ])
    generalize Vc = Vt at HT hHc ⊢
    have hHt := hHc
    clear hHc
    refine wpAnyH_take (i := 6) (v := ?_) rfl (by kernel_rfl) (by kernel_rfl) (by kernel_rfl) (fun _ _ _ h => h) (Or.inl ⟨by rfl, ?_⟩) (by assumption) ?_
    rotate_left
    · intro wS hSw
      (skip)
      go_simp
      all_goals with_reducible rfl
    (try simp only [List.getElem_toArray, List.getElem_cons_zero, List.getElem_cons_succ, Act.put, List.setIfInBounds_toArray, List.set_cons_zero, List.set_cons_succ])
    have hx := HT.out.2.2.1
    have r0 : Vt.cell? ⟨bx, 0, none⟩ = some (.int .i64 0) := cellM hx 0 rfl
    have r1 : Vt.cell? ⟨bx, 1, none⟩ = some (.slice none 0 0) := cellM hx 1 rfl
    have f0 : Vt.frozen? ⟨bx, 0, none⟩ = false := by unfold World.frozen?; rw [hx]; simp
    have f1 : Vt.frozen? ⟨bx, 1, none⟩ = false := by unfold World.frozen?; rw [hx]; simp
    clear hx
    refine held_one (i := 8) (by kernel_rfl) rfl (fun K hK => ?_)
    go_simp
    have hset : ((Vt.setCell ⟨bx, 0, none⟩ (.int .i64 g0)).setCell ⟨bx, 1, none⟩ (.slice (some ⟨g1, 0, none⟩) len0 cap1)).heap[bx]? = some (.cells #[.int .i64 g0, .slice (some ⟨g1, 0, none⟩) len0 cap1] 24) := by
      unfold World.setCell
      simp only [Array.getElem?_modify, if_true, HT.out.2.2.1]
      rfl
    have hne : ∀ k, k ≠ bx → ((Vt.setCell ⟨bx, 0, none⟩ (.int .i64 g0)).setCell ⟨bx, 1, none⟩ (.slice (some ⟨g1, 0, none⟩) len0 cap1)).heap[k]? = Vt.heap[k]? := fun k hk => (Below.heap_setCell _ ⟨bx, 1, none⟩ _ _ hk).trans (Below.heap_setCell _ ⟨bx, 0, none⟩ _ _ hk)
    have hbxx := HT.out.2.2.2.2
    refine hK.out _ _ ((hne _ (by omega)).trans HT.out.2.1) (fun hHy => ?_)
    have hbelow : Below w.heap.size w ((Vt.setCell ⟨bx, 0, none⟩ (.int .i64 g0)).setCell ⟨bx, 1, none⟩ (.slice (some ⟨g1, 0, none⟩) len0 cap1)) := (HT.out.1.setCell (p := ⟨bx, 0, none⟩) (by show w.heap.size ≤ bx; omega) _).setCell (p := ⟨bx, 1, none⟩) (by show w.heap.size ≤ bx; omega) _
    have HL : Hid (LF w ((Vt.setCell ⟨bx, 0, none⟩ (.int .i64 g0)).setCell ⟨bx, 1, none⟩ (.slice (some ⟨g1, 0, none⟩) len0 cap1)) g0 a0 len0 cap0 g1 cap1 bx q (mixQ m kv q 0) a1 len1 z) := Lib.hid ⟨⟨HI.out.below hbelow, hbelow, (hne _ (by omega)).trans HT.out.2.1⟩, by
      obtain ⟨F, hr, hF⟩ := HT.out.2.2.2.1
      refine RowF.congr ⟨F, hr.of_block (hne _ hbxx.2.2), hF⟩ (fun i hi => ?_)
      unfold mixQ
      rw [if_neg (by omega)], hset, hbxx.1, hbxx.2.2, HD.out⟩
    clear hK K hHt hHy r0 r1 f0 f1 HT hset hne hbelow
    (try simp only [Act.put, List.setIfInBounds_toArray, List.set_cons_zero, List.set_cons_succ, List.getElem_toArray, List.getElem_cons_zero, List.getElem_cons_succ])
    refine wpAnyH_done (by kernel_rfl) ?_ _
    exact ⟨bx, g1, cap1, _, _, _, _, _, _, _, rfl, hc1, HL.out⟩

/-! ### The row's step and the statement -/
set_option maxRecDepth 100000 in
theorem lifted (os : Os) (started : os.Started) (H : Type) (enc : TypeId × Value → H) :
    ReturnsInHanded {} Try.checked os 9 .any (Rows.mirFieldsSpec.pre6 enc Try.prog Try.f9 Rows.mirFieldsRow.domain false) (Rows.mirFieldsSpec.post enc Try.prog Try.f9 false true false false) := by
  refine returnsInHanded_of_change_sized (C := Try.checked) own started (by kernel_rfl) Try.func9
    (ChangeSpec.witness6 (enc := enc) (C := Try.checked) false ⟨#[], #[.agg #[.int .i64 0, .slice none 0 0], .int .i64 0, .slice none 0 0], []⟩ 8 (by kernel_rfl) (by kernel_rfl) (by kernel_rfl) (by kernel_rfl)) ?_
  intro W base args ds gs before hval0 hW hcnd hsz0 _
  have hsz : (DataW.weightsEach Try.prog (Try.f9.params.toList ++ Rows.mirFieldsSpec.plain.varTypes Try.prog) (ds ++ gs)).all (· ≤ reachBytes) = true := hsz0
  clear hsz0
  have hval : ∀ (j : Nat) t v, Try.f9.params[j]? = some t → args[j]? = some v → Value.okWide Try.prog W .any base t v := hval0
  have hW' := hW
  obtain ⟨p, q, hA0, hV, rfl, hfz, hnd⟩ := hW
  have hA : DataW.TrodAll enc Try.prog W 0 (fun _ => true) true Try.f9.params.toList args.toList ds p := hA0
  rw [Try.params9] at hA hval hsz
  obtain ⟨v0, vs0, d0, ds0, p0, q0, hargs, rfl, rfl, h0, r0⟩ := trodAll_cons hA
  obtain ⟨v1, vs1, d1, ds1, p1, q1, rfl, rfl, rfl, h1, r1⟩ := trodAll_cons r0
  obtain ⟨v2, vs2, d2, ds2, p2, q2, rfl, rfl, rfl, h2, r2⟩ := trodAll_cons r1
  obtain ⟨rfl, rfl, rfl⟩ := trodAll_nil r2
  obtain rfl : args = #[v0, v1, v2] := by cases args; simp_all
  obtain ⟨rfl, rfl⟩ := trodVars_none hV
  have k0 := h0
  have lt0 : ∀ x ∈ p0, x.block < W.heap.size := by obtain ⟨m, hm⟩ := k0; exact DataW.trod_lt m _ _ _ hm
  obtain ⟨g0, a0, len0, cap0, q0, rfl, w0, ww0⟩ := open_mir (hval 0 24 v0 rfl rfl) h0
  have s0 := ww0 _ _ 0 hsz rfl rfl
  obtain ⟨a1, rfl, rfl, rfl, w1⟩ := open_int Try.underlying3 (hval 1 3 v1 rfl rfl) h1
  obtain ⟨a2, len2, cap2, rfl⟩ := okWide_slice Try.underlying37 (hval 2 37 v2 rfl rfl)
  have k2 := h2
  have lt2 : ∀ x ∈ p2, x.block < W.heap.size := by obtain ⟨m, hm⟩ := k2; exact DataW.trod_lt m _ _ _ hm
  obtain ⟨z2, w2⟩ : ∃ zs, IsRow .u8 W a2 len2 cap2 zs ∧ cap2 * 1 ≤ 140737488351232 := by
    obtain ⟨fuel, hf⟩ := h2
    rcases open_ints Try.underlying37 Try.underlying5 (by kernel_rfl) hf with ⟨hcs, _⟩ | ⟨x, l, c, zs, hcs, _, hl, hm, hz, hx, hcell, hwz⟩
    · simp [Value.cells] at hcs
      obtain ⟨rfl, rfl, rfl⟩ := hcs
      exact ⟨[], ⟨.inl ⟨rfl, rfl, rfl, rfl⟩, by omega⟩⟩
    · simp [Value.cells] at hcs
      obtain ⟨rfl, rfl, rfl⟩ := hcs
      have hd : d2 = _ := congrArg Prod.fst hx
      have hr := sized_slice hsz (j := 2) (t := 37) (e := 5) rfl (congrArg some hd) Try.underlying37
      rw [show Try.prog.bytesOf 5 = 1 by kernel_rfl] at hr
      simp only [lits, List.length_map, List.length_take, List.length_drop, reachBytes] at hr
      have hzl : zs.length = _ := hz
      simp only [if_true] at hzl
      exact ⟨zs, ⟨.inr ⟨_, rfl, hl, hm, by simpa using hz, hcell, hwz⟩, by omega⟩⟩
  clear hA0 hval0
  refine (walk g0 a0 len0 cap0 q0 a1 a2 len2 cap2 z2 W w0 s0 w1 w2).mono fun e W' ⟨he, bel⟩ => ?_
  subst he
  exact ⟨_, rfl, _, _, _, [], _, [], hW', trodAll_mk1 (shut_bool Try.underlying4 _), (trodAll_cons_mk (Below.trod laidOut (by kernel_rfl) (of_decide_eq_true (by kernel_rfl)) k0 bel lt0) (trodAll_cons_mk (shut_int Try.underlying3 w1) (trodAll_cons_mk (Below.trod laidOut (by kernel_rfl) (of_decide_eq_true (by kernel_rfl)) k2 bel lt2) trodAll_mk0))), rfl, bel.frame _, fun h => by cases h⟩

theorem over : Rows.mirFieldsRow.holds Try.pinned (OpenSpec.ofChange Rows.mirFieldsSpec) :=
  OpenClaim.holds_of_wide 9 Try.f9 rfl rfl rfl rfl rfl rfl rfl ⟨rfl, rfl, rfl, rfl, rfl⟩ rfl rfl rfl rfl rfl (by kernel_rfl) Try.func9 (by kernel_rfl)
    (of_decide_eq_true (by kernel_rfl)) (by unfold Func.isWrapper; first | (rw [if_pos (by decide +kernel)]; kernel_rfl) | (rw [if_neg (by decide +kernel)]; exact ⟨rfl, rfl⟩))
    (fun os started H enc _ => lifted os started H enc)

/-- The statement. -/
theorem proved : Rows.MirFieldsSaid := over
end Go.Proofs.Ytbjndcbnkmjfdaa.mirFields
