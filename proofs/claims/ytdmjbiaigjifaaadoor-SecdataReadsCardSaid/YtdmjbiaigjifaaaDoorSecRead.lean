/-
  What Read, Word and Arg of package secdata answer: contracts over whatever memory holds the bytes. Conditions: those that each contract names.
-/
import Derived.Test.YtdmjbiaigjifaaaDoorSecData
namespace Go.Proofs.YtdmjbiaigjifaaaDoor
open Go Go.RowKit
set_option linter.unusedSimpArgs false
set_option linter.unusedVariables false

/-- What stands in bytes: a word, a number of eight bytes. -/
def w4 (z : Nat → Int) (p : Nat) : Int := leB (fun j => z (p + j)) 4
def w8 (z : Nat → Int) (p : Nat) : Int := leB (fun j => z (p + j)) 8
theorem w4_bd {z : Nat → Int} (hz : ∀ i, 0 ≤ z i ∧ z i < 256) (p : Nat) : 0 ≤ w4 z p ∧ w4 z p < 4294967296 := by
  have := leB_bd (fun j => z (p + j)) (fun i => hz _) 4
  simpa [w4] using this
theorem w8_bd {z : Nat → Int} (hz : ∀ i, 0 ≤ z i ∧ z i < 256) (p : Nat) : 0 ≤ w8 z p ∧ w8 z p < 18446744073709551616 := by
  have := leB_bd (fun j => z (p + j)) (fun i => hz _) 8
  simpa [w8] using this
/-- 64 bytes of memory. -/
def Bytes64 (w : World) (b off : Nat) (z : Nat → Int) : Prop := b < w.heap.size ∧ (∀ i, 0 ≤ z i ∧ z i < 256) ∧ ∀ i, i < 64 → w.cell? ⟨b, off + i, none⟩ = some (.int .u8 (z i))
theorem Bytes64.below {w w' : World} {B b off : Nat} {z : Nat → Int} (h : Bytes64 w b off z) (hb : Below B w w') (hlt : b < B) : Bytes64 w' b off z :=
  ⟨Nat.lt_of_lt_of_le h.1 hb.size, h.2.1, fun i hi => (hb.cell (p := ⟨b, off + i, none⟩) hlt).trans (h.2.2 i hi)⟩
theorem Bytes64.drawn {w : World} {b off : Nat} {z : Nat → Int} (h : Bytes64 w b off z) (n : Nat) : Bytes64 (w.drewN n) b off z := h
theorem Bytes64.grown {w w' : World} {b off g : Nat} {z : Nat → Int} (h : Bytes64 w b off z) (hb : w.grownBy w' (some g)) (hne : b ≠ g) : Bytes64 w' b off z :=
  have hn : some b ≠ some g := fun e => hne (by injection e)
  ⟨Nat.lt_of_lt_of_le h.1 hb.size, h.2.1, fun i hi => hb.cell (h.2.2 i hi) hn⟩

theorem secdata_wordAt (b off cap : Nat) (z : Nat → Int) (pi : Int) (p : Nat) (hpi : pi = p) (hp : p + 4 ≤ 64) (w : World) (h : Bytes64 w b off z) :
    Calls Tryd.prog 26 #[.slice (some ⟨b, off, none⟩) 64 cap, .int .i64 pi] w fun e w' => e = .returned (.int .u32 (w4 z p)) ∧ w = w' := by
  subst hpi
  have hw : IntKind.u32.wrap (leB (fun j => z (p + j)) 4) = w4 z p := by
    have := w4_bd h.2.1 p
    unfold w4 at *
    rw [IntKind.wrap_u32]; omega
  have H := Lib.hid h
  clear h
  go_enter Tryd.func26, Tryd.ntmps26
  go_wp2_with (go_at_call 31; refine (word_Load b off 64 cap (fun j => z (p + j)) p 4 _ (by decide) (by decide) (by decide) hp (fun i hi => H.out.2.2 _ (by omega)) (fun i => H.out.2.1 _)).mono ?_; rintro e w' ⟨rfl, rfl⟩)
  go_ret
  exact ⟨rfl, rfl⟩

theorem secdata_longAt (b off cap : Nat) (z : Nat → Int) (pi : Int) (p : Nat) (hpi : pi = p) (hp : p + 8 ≤ 64) (w : World) (h : Bytes64 w b off z) :
    Calls Tryd.prog 27 #[.slice (some ⟨b, off, none⟩) 64 cap, .int .i64 pi] w fun e w' => e = .returned (.int .u64 (w8 z p)) ∧ w = w' := by
  subst hpi
  have H := Lib.hid h
  clear h
  go_enter Tryd.func27, Tryd.ntmps27
  go_wp2_with (go_at_call 31; refine (word_Load b off 64 cap (fun j => z (p + j)) p 8 _ (by decide) (by decide) (by decide) hp (fun i hi => H.out.2.2 _ (by omega)) (fun i => H.out.2.1 _)).mono ?_; rintro e w' ⟨rfl, rfl⟩)
  go_ret
  exact ⟨rfl, rfl⟩

/-! ### Word, Arg -/
def wordOK (len : Nat) (at_ : Int) : Prop := len = 64 ∧ 0 ≤ at_ ∧ at_ ≤ 60 ∧ at_ % 4 = 0
theorem secdata_Word_len (a : Option Addr) (len cap : Nat) (at_ : Int) (h : ¬ len = 64) (w : World) :
    Calls Tryd.prog 15 #[.slice a len cap, .int .i64 at_] w fun e w' => e = .returned (.tuple #[.int .u32 0, .int .i64 21]) ∧ w = w' := by
  have h' : ¬ (len : Int) = 64 := by omega
  go_enter Tryd.func15, Tryd.ntmps15
  go_wp2
  go_ret2
  exact ⟨rfl, rfl⟩
theorem tmod_four {x : Int} (h : 0 ≤ x) : x.tmod 4 = x % 4 := Int.tmod_eq_emod_of_nonneg h
theorem secdata_Word_at (a : Option Addr) (cap : Nat) (at_ : Int) (h : ¬ (0 ≤ at_ ∧ at_ ≤ 60 ∧ at_ % 4 = 0)) (w : World) :
    Calls Tryd.prog 15 #[.slice a 64 cap, .int .i64 at_] w fun e w' => e = .returned (.tuple #[.int .u32 0, .int .i64 22]) ∧ w = w' := by
  by_cases h1 : at_ < 0
  · clear h
    go_enter Tryd.func15, Tryd.ntmps15
    go_wp2
    go_ret2
    exact ⟨rfl, rfl⟩
  · by_cases h2 : 64 ≤ at_
    · clear h
      go_enter Tryd.func15, Tryd.ntmps15
      go_wp2
      go_ret2
      exact ⟨rfl, rfl⟩
    · have h3 : ¬ at_ % 4 = 0 := by omega
      have h4 := tmod_four (x := at_) (by omega)
      clear h
      go_enter Tryd.func15, Tryd.ntmps15
      go_wp2
      go_ret2
      exact ⟨rfl, rfl⟩
theorem secdata_Word (b off cap : Nat) (z : Nat → Int) (p : Nat) (hp : p ≤ 60) (h4 : p % 4 = 0) (w : World) (h : Bytes64 w b off z) :
    Calls Tryd.prog 15 #[.slice (some ⟨b, off, none⟩) 64 cap, .int .i64 (p : Int)] w fun e w' => e = .returned (.tuple #[.int .u32 (w4 z p), .int .i64 0]) ∧ w = w' := by
  have H := Lib.hid h
  have h3 : (p : Int) % 4 = 0 := by omega
  have h5 := tmod_four (x := (p : Int)) (by omega)
  have h6 : ¬ 64 ≤ p := by omega
  clear h h4
  go_enter Tryd.func15, Tryd.ntmps15
  go_wp2_with (go_at_call 26; refine (secdata_wordAt b off cap z _ p rfl (by omega) _ H.out).mono ?_; rintro e w' ⟨rfl, rfl⟩)
  go_ret2
  exact ⟨rfl, rfl⟩

def argA (i : Int) (high : Bool) : Int := if 0 ≤ i ∧ i ≤ 5 then 16 + i * 8 + (if high then 4 else 0) else 0
def argE (i : Int) : Int := if 0 ≤ i ∧ i ≤ 5 then 0 else 22
theorem secdata_Arg (i : Int) (high : Bool) (w : World) :
    Calls Tryd.prog 17 #[.int .i64 i, .bool high] w fun e w' => e = .returned (.tuple #[.int .i64 (argA i high), .int .i64 (argE i)]) ∧ w = w' := by
  by_cases h1 : 0 ≤ i
  · by_cases h2 : i ≤ 5
    · have hc : 0 ≤ i ∧ i ≤ 5 := ⟨h1, h2⟩
      have HC := Lib.hid hc
      clear hc
      cases high
      · go_enter Tryd.func17, Tryd.ntmps17
        go_wp2_with (go_at_call 24; refine (secdata_argAt _ h1 h2 _).mono ?_; rintro e w' ⟨rfl, rfl⟩)
        go_ret2
        exact ⟨by rw [argA, argE, if_pos HC.out, if_pos HC.out]; simp, rfl⟩
      · go_enter Tryd.func17, Tryd.ntmps17
        go_wp2_with (go_at_call 24; refine (secdata_argAt _ h1 h2 _).mono ?_; rintro e w' ⟨rfl, rfl⟩)
        go_ret2
        exact ⟨by rw [argA, argE, if_pos HC.out, if_pos HC.out]; simp, rfl⟩
    · have hc : ¬ (0 ≤ i ∧ i ≤ 5) := by omega
      have HC := Lib.hid hc
      clear hc
      go_enter Tryd.func17, Tryd.ntmps17
      go_wp2
      go_ret2
      exact ⟨by rw [argA, argE, if_neg HC.out, if_neg HC.out]; rfl, rfl⟩
  · have hc : ¬ (0 ≤ i ∧ i ≤ 5) := by omega
    have HC := Lib.hid hc
    clear hc
    go_enter Tryd.func17, Tryd.ntmps17
    go_wp2
    go_ret2
    exact ⟨by rw [argA, argE, if_neg HC.out, if_neg HC.out]; rfl, rfl⟩
theorem ref2_Arg (i : Int) (high : Bool) (w : World) :
    Calls Tryd.prog 18 #[.int .i64 i, .bool high] w fun e w' => e = .returned (.tuple #[.int .i64 (argA i high), .int .i64 (argE i)]) ∧ w = w' := by
  by_cases h1 : 0 ≤ i
  · by_cases h2 : i ≤ 5
    · have hc : 0 ≤ i ∧ i ≤ 5 := ⟨h1, h2⟩
      have HC := Lib.hid hc
      clear hc
      cases high
      · go_enter Tryd.func18, Tryd.ntmps18
        go_wp2
        go_ret2
        exact ⟨by rw [argA, argE, if_pos HC.out, if_pos HC.out]; simp; omega, rfl⟩
      · go_enter Tryd.func18, Tryd.ntmps18
        go_wp2
        go_ret2
        exact ⟨by rw [argA, argE, if_pos HC.out, if_pos HC.out]; simp; omega, rfl⟩
    · have hc : ¬ (0 ≤ i ∧ i ≤ 5) := by omega
      have HC := Lib.hid hc
      clear hc
      go_enter Tryd.func18, Tryd.ntmps18
      go_wp2
      go_ret2
      exact ⟨by rw [argA, argE, if_neg HC.out, if_neg HC.out]; rfl, rfl⟩
  · have hc : ¬ (0 ≤ i ∧ i ≤ 5) := by omega
    have HC := Lib.hid hc
    clear hc
    go_enter Tryd.func18, Tryd.ntmps18
    go_wp2
    go_ret2
    exact ⟨by rw [argA, argE, if_neg HC.out, if_neg HC.out]; rfl, rfl⟩

theorem rd_nr (b off cap : Nat) (z : Nat → Int) (w : World) (h : Bytes64 w b off z) : Calls Tryd.prog 26 #[.slice (some ⟨b, off, none⟩) 64 cap, .int .i64 0] w fun e w' => e = .returned (.int .u32 (w4 z 0)) ∧ w = w' := secdata_wordAt b off cap z 0 0 rfl (by decide) w h
theorem rd_arch (b off cap : Nat) (z : Nat → Int) (w : World) (h : Bytes64 w b off z) : Calls Tryd.prog 26 #[.slice (some ⟨b, off, none⟩) 64 cap, .int .i64 4] w fun e w' => e = .returned (.int .u32 (w4 z 4)) ∧ w = w' := secdata_wordAt b off cap z 4 4 rfl (by decide) w h
theorem rd_ip (b off cap : Nat) (z : Nat → Int) (w : World) (h : Bytes64 w b off z) : Calls Tryd.prog 27 #[.slice (some ⟨b, off, none⟩) 64 cap, .int .i64 8] w fun e w' => e = .returned (.int .u64 (w8 z 8)) ∧ w = w' := secdata_longAt b off cap z 8 8 rfl (by decide) w h
theorem rd_arg (b off cap : Nat) (z : Nat → Int) (k : Nat) (hk : k < 6) (w : World) (h : Bytes64 w b off z) : Calls Tryd.prog 27 #[.slice (some ⟨b, off, none⟩) 64 cap, .int .i64 (16 + (k : Int) * 8)] w fun e w' => e = .returned (.int .u64 (w8 z (16 + k * 8))) ∧ w = w' := secdata_longAt b off cap z _ (16 + k * 8) (by omega) (by omega) w h

/-! ### Read -/
/-- The nine values of data. -/
def dval (nr arch ip : Int) (a : Nat → Int) : Nat → Value
  | 0 => .int .u32 nr | 1 => .int .u32 arch | 2 => .int .u64 ip | i + 3 => .int .u64 (a i)
/-- .. as far as they have been read. -/
def someVal (z : Nat → Int) (k : Nat) : Nat → Value
  | 0 => .int .u32 (w4 z 0) | 1 => .int .u32 (w4 z 4) | 2 => .int .u64 (w8 z 8) | i + 3 => if i < k then .int .u64 (w8 z (16 + i * 8)) else .int .u64 0
theorem someVal_step (z : Nat → Int) (k j : Nat) (h : j < 9) (hk : k < 6) : (if j = 3 + k then (.int .u64 (w8 z (16 + k * 8)) : Value) else someVal z k j) = someVal z (k + 1) j := by
  match j with
  | 0 => rw [if_neg (by omega)]; rfl
  | 1 => rw [if_neg (by omega)]; rfl
  | 2 => rw [if_neg (by omega)]; rfl
  | i + 3 =>
    by_cases e : i = k
    · subst e; rw [if_pos (by omega)]; simp only [someVal]; rw [if_pos (by omega)]
    · rw [if_neg (by omega)]; simp only [someVal]
      by_cases g : i < k
      · rw [if_pos g, if_pos (by omega)]
      · rw [if_neg g, if_neg (by omega)]
/-- What Read answers of 64 bytes. -/
def readV (z : Nat → Int) : Value := .agg #[.int .u32 (w4 z 0), .int .u32 (w4 z 4), .int .u64 (w8 z 8), .int .u64 (w8 z 16), .int .u64 (w8 z 24), .int .u64 (w8 z 32), .int .u64 (w8 z 40), .int .u64 (w8 z 48), .int .u64 (w8 z 56)]
def ReadP (w : World) (z : Nat → Int) (e : Ending) (w' : World) : Prop := e = .returned (.tuple #[readV z, .int .i64 0]) ∧ Below w.heap.size w w'
def zeroV : Value := .agg #[.int .u32 0, .int .u32 0, .int .u64 0, .int .u64 0, .int .u64 0, .int .u64 0, .int .u64 0, .int .u64 0, .int .u64 0]
def NoReadP (w : World) (e : Ending) (w' : World) : Prop := e = .returned (.tuple #[zeroV, .int .i64 21]) ∧ Below w.heap.size w w'
theorem below_set9 {w wr : World} (h : Below w.heap.size w wr) (v0 v1 v2 v3 v4 v5 v6 v7 v8 : Value) : Below w.heap.size w (((((((((wr.setCell ⟨w.heap.size, 0, none⟩ v0).setCell ⟨w.heap.size, 1, none⟩ v1).setCell ⟨w.heap.size, 2, none⟩ v2).setCell ⟨w.heap.size, 3, none⟩ v3).setCell ⟨w.heap.size, 4, none⟩ v4).setCell ⟨w.heap.size, 5, none⟩ v5).setCell ⟨w.heap.size, 6, none⟩ v6).setCell ⟨w.heap.size, 7, none⟩ v7).setCell ⟨w.heap.size, 8, none⟩ v8) := by
  have h1 := h.setCell (p := ⟨w.heap.size, 0, none⟩) (Nat.le_refl _) v0
  have h2 := h1.setCell (p := ⟨w.heap.size, 1, none⟩) (Nat.le_refl _) v1
  have h3 := h2.setCell (p := ⟨w.heap.size, 2, none⟩) (Nat.le_refl _) v2
  have h4 := h3.setCell (p := ⟨w.heap.size, 3, none⟩) (Nat.le_refl _) v3
  have h5 := h4.setCell (p := ⟨w.heap.size, 4, none⟩) (Nat.le_refl _) v4
  have h6 := h5.setCell (p := ⟨w.heap.size, 5, none⟩) (Nat.le_refl _) v5
  have h7 := h6.setCell (p := ⟨w.heap.size, 6, none⟩) (Nat.le_refl _) v6
  have h8 := h7.setCell (p := ⟨w.heap.size, 7, none⟩) (Nat.le_refl _) v7
  have h9 := h8.setCell (p := ⟨w.heap.size, 8, none⟩) (Nat.le_refl _) v8
  exact h9

theorem secdata_Read_no (a : Option Addr) (len cap : Nat) (h : ¬ len = 64) (w : World) :
    Calls Tryd.prog 13 #[.slice a len cap] w (NoReadP w) := by
  have h' : ¬ (len : Int) = 64 := by omega
  go_enter Tryd.func13, Tryd.ntmps13
  go_wp2
  (try simp only [Exit.inBlock, Exit.then])
  refine bodyPost_ret (v := .tuple #[zeroV, .int .i64 21]) ?_ rfl ⟨rfl, below_box w _⟩
  rw [results_cell_tmp rfl, zeroV]
  go_simp

theorem cells9 (w : World) (t : TypeId) (v0 v1 v2 v3 v4 v5 v6 v7 v8 : Value) (f : Nat → Value) (h0 : f 0 = v0) (h1 : f 1 = v1) (h2 : f 2 = v2) (h3 : f 3 = v3) (h4 : f 4 = v4) (h5 : f 5 = v5) (h6 : f 6 = v6) (h7 : f 7 = v7) (h8 : f 8 = v8) :
    (w.alloc (.cells #[v0, v1, v2, v3, v4, v5, v6, v7, v8] t)).rowIs w.heap.size t 9 f :=
  World.rowIs_alloc w #[v0, v1, v2, v3, v4, v5, v6, v7, v8] t f (fun i hi => by
    match i, hi with
    | 0, _ => simp [h0]
    | 1, _ => simp [h1]
    | 2, _ => simp [h2]
    | 3, _ => simp [h3]
    | 4, _ => simp [h4]
    | 5, _ => simp [h5]
    | 6, _ => simp [h6]
    | 7, _ => simp [h7]
    | 8, _ => simp [h8])

/-- While the data are read: the result's cells wait, the data's own block has been filled so far, the bytes stand. -/
def Reading (w wr : World) (b off : Nat) (z : Nat → Int) (k : Nat) : Prop :=
  Bytes64 wr b off z ∧ wr.rowIs (w.heap.size + 1) 26 9 (someVal z k) ∧ wr.rowIs w.heap.size 26 9 (dval 0 0 0 fun _ => 0) ∧ Below w.heap.size w wr
theorem reading_start (w : World) (b off : Nat) (z : Nat → Int) (h : Bytes64 w b off z) :
    Reading w ((w.alloc (.cells #[.int .u32 0, .int .u32 0, .int .u64 0, .int .u64 0, .int .u64 0, .int .u64 0, .int .u64 0, .int .u64 0, .int .u64 0] 26)).alloc (.cells #[.int .u32 (w4 z 0), .int .u32 (w4 z 4), .int .u64 (w8 z 8), .int .u64 0, .int .u64 0, .int .u64 0, .int .u64 0, .int .u64 0, .int .u64 0] 26)) b off z 0 := by
  have b1 := below_box w (.cells #[.int .u32 0, .int .u32 0, .int .u64 0, .int .u64 0, .int .u64 0, .int .u64 0, .int .u64 0, .int .u64 0, .int .u64 0] 26)
  have b2 := b1.alloc b1.size (.cells #[.int .u32 (w4 z 0), .int .u32 (w4 z 4), .int .u64 (w8 z 8), .int .u64 0, .int .u64 0, .int .u64 0, .int .u64 0, .int .u64 0, .int .u64 0] 26)
  refine ⟨h.below b2 h.1, ?_, ?_, b2⟩
  · have := cells9 (w.alloc (.cells #[.int .u32 0, .int .u32 0, .int .u64 0, .int .u64 0, .int .u64 0, .int .u64 0, .int .u64 0, .int .u64 0, .int .u64 0] 26)) 26 (.int .u32 (w4 z 0)) (.int .u32 (w4 z 4)) (.int .u64 (w8 z 8)) (.int .u64 0) (.int .u64 0) (.int .u64 0) (.int .u64 0) (.int .u64 0) (.int .u64 0) (someVal z 0) rfl rfl rfl rfl rfl rfl rfl rfl rfl
    simpa using this
  · exact (cells9 w 26 _ _ _ _ _ _ _ _ _ (dval 0 0 0 fun _ => 0) rfl rfl rfl rfl rfl rfl rfl rfl rfl).alloc _
theorem reading_step {w wr : World} {b off : Nat} {z : Nat → Int} {k : Nat} (h : Reading w wr b off z k) (hk : k < 6) (hb : b < w.heap.size) : Reading w (wr.setCell ⟨w.heap.size + 1, 3 + k, none⟩ (.int .u64 (w8 z (16 + k * 8)))) b off z (k + 1) := by
  obtain ⟨h1, h2, h3, h4⟩ := h
  have g : Below w.heap.size wr (wr.setCell ⟨w.heap.size + 1, 3 + k, none⟩ (.int .u64 (w8 z (16 + k * 8)))) := (Below.refl _ _).setCell (p := ⟨w.heap.size + 1, 3 + k, none⟩) (Nat.le_succ _) _
  exact ⟨h1.below g hb, (h2.set (3 + k) _).congr fun j hj => someVal_step z k j hj hk, h3.setOther (a := ⟨w.heap.size + 1, 3 + k, none⟩) (by show w.heap.size ≠ w.heap.size + 1; omega) _, h4.trans g⟩

set_option maxHeartbeats 1000000 in
theorem secdata_Read (b off cap : Nat) (z : Nat → Int) (w : World) (h : Bytes64 w b off z) :
    Calls Tryd.prog 13 #[.slice (some ⟨b, off, none⟩) 64 cap] w (ReadP w z) := by
  have H := Lib.hid h
  have hb := h.1
  have S0 := Lib.hid (reading_start w b off z h)
  have hA : Bytes64 (w.alloc (.cells #[.int .u32 0, .int .u32 0, .int .u64 0, .int .u64 0, .int .u64 0, .int .u64 0, .int .u64 0, .int .u64 0, .int .u64 0] 26)) b off z := h.below (below_box w _) hb
  have HA := Lib.hid hA
  clear h hA
  go_enter Tryd.func13, Tryd.ntmps13
  go_wp2_with (first
    | (go_at_call 26; (with_reducible refine (rd_nr b off cap z _ HA.out).mono ?_); rintro e w' ⟨rfl, rfl⟩)
    | (go_at_call 26; (with_reducible refine (rd_arch b off cap z _ HA.out).mono ?_); rintro e w' ⟨rfl, rfl⟩)
    | (go_at_call 27; (with_reducible refine (rd_ip b off cap z _ HA.out).mono ?_); rintro e w' ⟨rfl, rfl⟩))
  go_loopw [17] (fun i wr => ∃ k : Nat, k ≤ 6 ∧ i = .int .i64 (k : Int) ∧ Reading w wr b off z k) (fun i _ => 6 - (intOf i).toNat)
  case atStart => exact ⟨0, by omega, rfl, S0.out⟩
  case round =>
    obtain ⟨k, hk, rfl, hL⟩ := hrel
    clear S0
    have HL := Lib.hid hL
    by_cases hlt : k < 6
    · have hlt' : (k : Int) < 6 := by omega
      have ca := hL.2.1.cell (i := 3 + k) (by omega)
      have cz := hL.2.1.frozen (3 + k)
      have HB := Lib.hid hL.1
      clear hL
      go_wp2_with (first
        | (go_at_call 24; (with_reducible refine (secdata_argAt (k : Int) (by omega) (by omega) _).mono ?_); rintro e w' ⟨rfl, rfl⟩)
        | (go_at_call 27; (with_reducible refine (rd_arg b off cap z k hlt _ HB.out).mono ?_); rintro e w' ⟨rfl, rfl⟩))
      go_roundw
      case rel => exact ⟨k + 1, by omega, by go_num, reading_step HL.out hlt hb⟩
      case measure => simp [intOf]; omega
    · obtain rfl : k = 6 := by omega
      have d0 : wr.cell? ⟨w.heap.size + 1, 0, none⟩ = some (.int .u32 (w4 z 0)) := hL.2.1.cell (i := 0) (by decide)
      have d1 : wr.cell? ⟨w.heap.size + 1, 1, none⟩ = some (.int .u32 (w4 z 4)) := hL.2.1.cell (i := 1) (by decide)
      have d2 : wr.cell? ⟨w.heap.size + 1, 2, none⟩ = some (.int .u64 (w8 z 8)) := hL.2.1.cell (i := 2) (by decide)
      have d3 : wr.cell? ⟨w.heap.size + 1, 3, none⟩ = some (.int .u64 (w8 z 16)) := hL.2.1.cell (i := 3) (by decide)
      have d4 : wr.cell? ⟨w.heap.size + 1, 4, none⟩ = some (.int .u64 (w8 z 24)) := hL.2.1.cell (i := 4) (by decide)
      have d5 : wr.cell? ⟨w.heap.size + 1, 5, none⟩ = some (.int .u64 (w8 z 32)) := hL.2.1.cell (i := 5) (by decide)
      have d6 : wr.cell? ⟨w.heap.size + 1, 6, none⟩ = some (.int .u64 (w8 z 40)) := hL.2.1.cell (i := 6) (by decide)
      have d7 : wr.cell? ⟨w.heap.size + 1, 7, none⟩ = some (.int .u64 (w8 z 48)) := hL.2.1.cell (i := 7) (by decide)
      have d8 : wr.cell? ⟨w.heap.size + 1, 8, none⟩ = some (.int .u64 (w8 z 56)) := hL.2.1.cell (i := 8) (by decide)
      have r0 : wr.cell? ⟨w.heap.size, 0, none⟩ = some (.int .u32 0) := hL.2.2.1.cell (i := 0) (by decide)
      have f0 := hL.2.2.1.frozen 0
      have r1 : wr.cell? ⟨w.heap.size, 1, none⟩ = some (.int .u32 0) := hL.2.2.1.cell (i := 1) (by decide)
      have f1 := hL.2.2.1.frozen 1
      have r2 : wr.cell? ⟨w.heap.size, 2, none⟩ = some (.int .u64 0) := hL.2.2.1.cell (i := 2) (by decide)
      have f2 := hL.2.2.1.frozen 2
      have r3 : wr.cell? ⟨w.heap.size, 3, none⟩ = some (.int .u64 0) := hL.2.2.1.cell (i := 3) (by decide)
      have f3 := hL.2.2.1.frozen 3
      have r4 : wr.cell? ⟨w.heap.size, 4, none⟩ = some (.int .u64 0) := hL.2.2.1.cell (i := 4) (by decide)
      have f4 := hL.2.2.1.frozen 4
      have r5 : wr.cell? ⟨w.heap.size, 5, none⟩ = some (.int .u64 0) := hL.2.2.1.cell (i := 5) (by decide)
      have f5 := hL.2.2.1.frozen 5
      have r6 : wr.cell? ⟨w.heap.size, 6, none⟩ = some (.int .u64 0) := hL.2.2.1.cell (i := 6) (by decide)
      have f6 := hL.2.2.1.frozen 6
      have r7 : wr.cell? ⟨w.heap.size, 7, none⟩ = some (.int .u64 0) := hL.2.2.1.cell (i := 7) (by decide)
      have f7 := hL.2.2.1.frozen 7
      have r8 : wr.cell? ⟨w.heap.size, 8, none⟩ = some (.int .u64 0) := hL.2.2.1.cell (i := 8) (by decide)
      have f8 := hL.2.2.1.frozen 8
      clear hL
      go_wp2
      (try simp only [Exit.inBlock, Exit.then])
      refine bodyPost_ret (v := .tuple #[readV z, .int .i64 0]) ?_ rfl ⟨rfl, below_set9 HL.out.2.2.2 _ _ _ _ _ _ _ _ _⟩
      rw [results_cell_tmp rfl, readV]
      go_simp
end Go.Proofs.YtdmjbiaigjifaaaDoor
