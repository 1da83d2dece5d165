/-
  'SecdataWords': for every list of bytes, every list of places and either half, the law of layer 2 on Word and Arg returns true, and leaves memory as it was. Condition: the table of the kinds reads as the program's text lays it (the card ties it).
-/
import Derived.Test.YtdmjbiaigjifaaaDoorSecHead
import Derived.Test.YtdmjbiaigjifaaaDoorSecFacts
import Derived.Test.YtdmjbiaigjifaaaDoorSecRefRead
import Derived.Test.YtdmjbiaigjifaaaDoorMemory
import Derived.Test.YtdmjbiaigjifaaaDoorCards
import Derived.SevenTiedAt
namespace Go.Proofs.YtdmjbiaigjifaaaDoor.secdataWords
open Go Go.ChangeShapes Go.WideShapes Go.ChangeAt Go.RowKit
set_option linter.unusedSimpArgs false
set_option linter.unusedVariables false

theorem w8_low {z : Nat → Int} (hz : ∀ i, 0 ≤ z i ∧ z i < 256) (p : Nat) : w8 z p % 4294967296 = w4 z p := by
  unfold w8 w4
  rw [leB8, leB4]
  have h0 := hz (p + 0); have h1 := hz (p + 1); have h2 := hz (p + 2); have h3 := hz (p + 3)
  omega
theorem w8_high {z : Nat → Int} (hz : ∀ i, 0 ≤ z i ∧ z i < 256) (p : Nat) : w8 z p / 4294967296 % 4294967296 = w4 z (p + 4) := by
  unfold w8 w4
  rw [leB8, leB4]
  simp only [Nat.add_assoc, Nat.reduceAdd]
  have h0 := hz (p + 0); have h1 := hz (p + 1); have h2 := hz (p + 2); have h3 := hz (p + 3); have h4 := hz (p + 4); have h5 := hz (p + 5); have h6 := hz (p + 6); have h7 := hz (p + 7)
  omega

abbrev Says (f : FuncId) (args : Array Value) (v : Value) : Prop := ∀ W, Calls Tryd.prog f args W fun e w' => e = .returned v ∧ W = w'
abbrev SaysAt (f : FuncId) (args : Array Value) (v : Value) (b off : Nat) (z : Nat → Int) : Prop := ∀ W, Bytes64 W b off z → Calls Tryd.prog f args W fun e w' => e = .returned v ∧ W = w'
theorem word_both (b off cap : Nat) (z : Nat → Int) (x : Int) :
    ∃ V E : Int, SaysAt 15 #[.slice (some ⟨b, off, none⟩) 64 cap, .int .i64 x] (.tuple #[.int .u32 V, .int .i64 E]) b off z ∧ SaysAt 16 #[.slice (some ⟨b, off, none⟩) 64 cap, .int .i64 x] (.tuple #[.int .u32 V, .int .i64 E]) b off z := by
  by_cases h : 0 ≤ x ∧ x ≤ 60 ∧ x % 4 = 0
  · obtain ⟨p, rfl⟩ := Int.eq_ofNat_of_zero_le h.1
    exact ⟨w4 z p, 0, fun W hW => secdata_Word b off cap z p (by omega) (by omega) W hW, fun W hW => ref2_Word b off cap z p (by omega) (by omega) W hW⟩
  · exact ⟨0, 22, fun W _ => secdata_Word_at _ cap x h W, fun W _ => ref2_Word_at _ cap x h W⟩

/-- What the loop knows: the bytes, the places, the data that were read. -/
def St (w W : World) (b off D : Nat) (z : Nat → Int) : Prop := Below w.heap.size w W ∧ Bytes64 W b off z ∧ ∀ i, i < 6 → W.cell? ⟨D, 3 + i, none⟩ = some (.int .u64 (w8 z (16 + i * 8)))
theorem read_at (b off cap : Nat) (z : Nat → Int) (w : World) (h : Bytes64 w b off z) :
    Calls Tryd.prog 14 #[.slice (some ⟨b, off, none⟩) 64 cap] w fun e w' => e = .returned (.tuple #[.agg #[.int .u32 (w4 z 0), .int .u32 (w4 z 4), .int .u64 (w8 z 8), .int .u64 (w8 z 16), .int .u64 (w8 z 24), .int .u64 (w8 z 32), .int .u64 (w8 z 40), .int .u64 (w8 z 48), .int .u64 (w8 z 56)], .int .i64 0]) ∧ Below w.heap.size w w' :=
  (ref2_Read b off cap z w h).mono fun e w' h => ⟨h.1, h.2⟩
theorem read_no (a : Option Addr) (len cap : Nat) (h : ¬ len = 64) (w : World) :
    Calls Tryd.prog 14 #[.slice a len cap] w fun e w' => e = .returned (.tuple #[.agg #[.int .u32 0, .int .u32 0, .int .u64 0, .int .u64 0, .int .u64 0, .int .u64 0, .int .u64 0, .int .u64 0, .int .u64 0], .int .i64 21]) ∧ Below w.heap.size w w' :=
  (ref2_Read_no a len cap h w).mono fun e w' h => ⟨h.1, h.2⟩
theorem st_start {w w1 w2 : World} {b off : Nat} {z : Nat → Int} {t : TypeId} (hB : Bytes64 w b off z) (h1 : Below w.heap.size w w1) (h2 : Below w1.heap.size w1 w2) :
    St w (w2.alloc (.cells #[.int .u32 (w4 z 0), .int .u32 (w4 z 4), .int .u64 (w8 z 8), .int .u64 (w8 z 16), .int .u64 (w8 z 24), .int .u64 (w8 z 32), .int .u64 (w8 z 40), .int .u64 (w8 z 48), .int .u64 (w8 z 56)] t)) b off w2.heap.size z := by
  have h3 : Below w.heap.size w w2 := h1.trans (h2.mono h1.size)
  have h4 := h3.alloc h3.size (.cells #[.int .u32 (w4 z 0), .int .u32 (w4 z 4), .int .u64 (w8 z 8), .int .u64 (w8 z 16), .int .u64 (w8 z 24), .int .u64 (w8 z 32), .int .u64 (w8 z 40), .int .u64 (w8 z 48), .int .u64 (w8 z 56)] t)
  exact ⟨h4, hB.below h4 hB.1, (Box.new w2 t (w4 z 0) (w4 z 4) (w8 z 8) (fun i => w8 z (16 + i * 8))).2.2.2.2⟩

set_option maxRecDepth 100000 in
set_option maxHeartbeats 2000000 in
theorem walk_64 (b off cap : Nat) (z : Nat → Int) (lA : Option Addr) (m mc : Nat) (y : Nat → Int) (high : Bool) (w : World) (hm : m ≤ maxLen) (hB : Bytes64 w b off z) (hT : Tab w) (hl : Holds w lA m (fun i => .int .i64 (y i))) :
    Calls Tryd.prog 5 #[.slice (some ⟨b, off, none⟩) 64 cap, .slice lA m mc, .bool high] w fun e w' => e = .returned (.bool true) ∧ Below w.heap.size w w' := by
  unfold maxLen at hm
  have HT := Lib.hid hT
  have HB := Lib.hid hB
  have HL := Lib.hid hl
  clear hT hB hl
  go_enter Tryd.func5, Tryd.ntmps5
  go_wp2_with (first
    | (go_at_call 10; (with_reducible refine (head_true _ HT.out).mono ?_); rintro e w1 ⟨rfl, hbel⟩; have HB1 := Lib.hid hbel; have HZ1 := Lib.hid (HB.out.below hbel HB.out.1); clear hbel)
    | (go_at_call 14; (with_reducible refine (read_at b off cap z _ HZ1.out).mono ?_); rintro e w2 ⟨rfl, hb2⟩; have S0 := Lib.hid (st_start (t := 26) HB.out HB1.out hb2); clear hb2))
  go_loopw [10] (fun i wr => ∃ k : Nat, k ≤ m ∧ i = .int .i64 (k : Int) ∧ St w wr b off w2.heap.size z) (fun i _ => m - (intOf i).toNat)
  case atStart => exact ⟨0, by omega, rfl, S0.out⟩
  case round =>
    obtain ⟨k, hk, rfl, hst⟩ := hrel
    clear S0
    have HS := Lib.hid hst
    have HZ := Lib.hid hst.2.1
    by_cases hlt : k < m
    · have hlt' : (k : Int) < (m : Int) := by omega
      obtain ⟨lb, loff, rfl, hlb, hc⟩ := HL.out (by omega)
      have cx : wr.cell? ⟨lb, loff + k, none⟩ = some (.int .i64 (y k)) := (hst.1.cell (p := ⟨lb, loff + k, none⟩) hlb).trans (hc k hlt)
      clear hst hc HL
      generalize y k = x at cx
      obtain ⟨V, E, hv, hr⟩ := word_both b off cap z x
      have HV := Lib.hid (hv _ HZ.out)
      have HR := Lib.hid (hr _ HZ.out)
      clear hv hr
      by_cases hx : 0 ≤ x ∧ x ≤ 5
      · obtain ⟨q, rfl⟩ := Int.eq_ofNat_of_zero_le hx.1
        have hq : q < 6 := by omega
        have hq' : (q : Int) < 6 := by omega
        have ca := HS.out.2.2 q hq
        have eA : ∀ h, argA (q : Int) h = 16 + (q : Int) * 8 + (if h then 4 else 0) := fun h => by rw [argA, if_pos hx]
        have eE : argE (q : Int) = 0 := by rw [argE, if_pos hx]
        cases high
        · have HA1 : Hid (Says 17 #[.int .i64 (q : Int), .bool false] (.tuple #[.int .i64 (16 + (q : Int) * 8), .int .i64 0])) := Lib.hid fun W => by
            have g := secdata_Arg (q : Int) false W
            rw [eA, eE] at g; simpa using g
          have HA2 : Hid (Says 18 #[.int .i64 (q : Int), .bool false] (.tuple #[.int .i64 (16 + (q : Int) * 8), .int .i64 0])) := Lib.hid fun W => by
            have g := ref2_Arg (q : Int) false W
            rw [eA, eE] at g; simpa using g
          have HW : Hid (SaysAt 15 #[.slice (some ⟨b, off, none⟩) 64 cap, .int .i64 (16 + (q : Int) * 8)] (.tuple #[.int .u32 (w4 z (16 + q * 8)), .int .i64 0]) b off z) := Lib.hid fun W hW => by
            have g := secdata_Word b off cap z (16 + q * 8) (by omega) (by omega) W hW
            rwa [show ((16 + q * 8 : Nat) : Int) = 16 + (q : Int) * 8 by omega] at g
          have r1 : IntKind.u32.wrap (w8 z (16 + q * 8)) = w4 z (16 + q * 8) := by rw [IntKind.wrap_u32, w8_low HZ.out.2.1]
          clear eA eE hx
          go_wp2_with (first
            | (go_at_call 15; (with_reducible refine HV.out.mono ?_); rintro e w7 ⟨rfl, rfl⟩)
            | (go_at_call 16; (with_reducible refine HR.out.mono ?_); rintro e w8 ⟨rfl, rfl⟩)
            | (go_at_call 17; (with_reducible refine (HA1.out _).mono ?_); rintro e w9 ⟨rfl, rfl⟩)
            | (go_at_call 18; (with_reducible refine (HA2.out _).mono ?_); rintro e w10 ⟨rfl, rfl⟩)
            | (go_at_call 15; (with_reducible refine (HW.out _ HZ.out).mono ?_); rintro e w11 ⟨rfl, rfl⟩))
          exact ⟨⟨k + 1, by omega, by go_num, HS.out⟩, by simp [intOf]; omega⟩
        · have HA1 : Hid (Says 17 #[.int .i64 (q : Int), .bool true] (.tuple #[.int .i64 (16 + (q : Int) * 8 + 4), .int .i64 0])) := Lib.hid fun W => by
            have g := secdata_Arg (q : Int) true W
            rw [eA, eE] at g; simpa using g
          have HA2 : Hid (Says 18 #[.int .i64 (q : Int), .bool true] (.tuple #[.int .i64 (16 + (q : Int) * 8 + 4), .int .i64 0])) := Lib.hid fun W => by
            have g := ref2_Arg (q : Int) true W
            rw [eA, eE] at g; simpa using g
          have HW : Hid (SaysAt 15 #[.slice (some ⟨b, off, none⟩) 64 cap, .int .i64 (16 + (q : Int) * 8 + 4)] (.tuple #[.int .u32 (w4 z (16 + q * 8 + 4)), .int .i64 0]) b off z) := Lib.hid fun W hW => by
            have g := secdata_Word b off cap z (16 + q * 8 + 4) (by omega) (by omega) W hW
            rwa [show ((16 + q * 8 + 4 : Nat) : Int) = 16 + (q : Int) * 8 + 4 by omega] at g
          have r1 : IntKind.u32.wrap (w8 z (16 + q * 8) / 4294967296) = w4 z (16 + q * 8 + 4) := by rw [IntKind.wrap_u32, w8_high HZ.out.2.1]
          clear eA eE hx
          go_wp2_with (first
            | (go_at_call 15; (with_reducible refine HV.out.mono ?_); rintro e w7 ⟨rfl, rfl⟩)
            | (go_at_call 16; (with_reducible refine HR.out.mono ?_); rintro e w8 ⟨rfl, rfl⟩)
            | (go_at_call 17; (with_reducible refine (HA1.out _).mono ?_); rintro e w9 ⟨rfl, rfl⟩)
            | (go_at_call 18; (with_reducible refine (HA2.out _).mono ?_); rintro e w10 ⟨rfl, rfl⟩)
            | (go_at_call 15; (with_reducible refine (HW.out _ HZ.out).mono ?_); rintro e w11 ⟨rfl, rfl⟩))
          exact ⟨⟨k + 1, by omega, by go_num, HS.out⟩, by simp [intOf]; omega⟩
      · have eE : ∀ h, argE x = 22 ∧ argA x h = 0 := fun h => by rw [argE, argA, if_neg hx, if_neg hx]; exact ⟨rfl, rfl⟩
        have HA1 : Hid (Says 17 #[.int .i64 x, .bool high] (.tuple #[.int .i64 0, .int .i64 22])) := Lib.hid fun W => by
          have g := secdata_Arg x high W
          rwa [(eE high).1, (eE high).2] at g
        have HA2 : Hid (Says 18 #[.int .i64 x, .bool high] (.tuple #[.int .i64 0, .int .i64 22])) := Lib.hid fun W => by
          have g := ref2_Arg x high W
          rwa [(eE high).1, (eE high).2] at g
        clear eE hx
        go_wp2_with (first
          | (go_at_call 15; (with_reducible refine HV.out.mono ?_); rintro e w7 ⟨rfl, rfl⟩)
          | (go_at_call 16; (with_reducible refine HR.out.mono ?_); rintro e w8 ⟨rfl, rfl⟩)
          | (go_at_call 17; (with_reducible refine (HA1.out _).mono ?_); rintro e w9 ⟨rfl, rfl⟩)
          | (go_at_call 18; (with_reducible refine (HA2.out _).mono ?_); rintro e w10 ⟨rfl, rfl⟩))
        exact ⟨⟨k + 1, by omega, by go_num, HS.out⟩, by simp [intOf]; omega⟩
    · go_wp2
      go_ret
      exact ⟨rfl, HS.out.1⟩

set_option maxRecDepth 100000 in
set_option maxHeartbeats 2000000 in
theorem walk_no (a : Option Addr) (len cap : Nat) (lA : Option Addr) (m mc : Nat) (y : Nat → Int) (high : Bool) (w : World) (h64 : ¬ len = 64) (hm : m ≤ maxLen) (hT : Tab w) (hl : Holds w lA m (fun i => .int .i64 (y i))) :
    Calls Tryd.prog 5 #[.slice a len cap, .slice lA m mc, .bool high] w fun e w' => e = .returned (.bool true) ∧ Below w.heap.size w w' := by
  unfold maxLen at hm
  have HT := Lib.hid hT
  have HL := Lib.hid hl
  have H64 := Lib.hid h64
  have HV : Hid (∀ x : Int, Says 15 #[.slice a len cap, .int .i64 x] (.tuple #[.int .u32 0, .int .i64 21])) := Lib.hid fun x W => secdata_Word_len a len cap x h64 W
  have HR : Hid (∀ x : Int, Says 16 #[.slice a len cap, .int .i64 x] (.tuple #[.int .u32 0, .int .i64 21])) := Lib.hid fun x W => ref2_Word_len a len cap x h64 W
  clear hT hl h64
  go_enter Tryd.func5, Tryd.ntmps5
  go_wp2_with (first
    | (go_at_call 10; (with_reducible refine (head_true _ HT.out).mono ?_); rintro e w1 ⟨rfl, hbel⟩; have HB1 := Lib.hid hbel; clear hbel)
    | (go_at_call 14; (with_reducible refine (read_no a len cap H64.out _).mono ?_); rintro e w2 ⟨rfl, hb2⟩; have S0 := Lib.hid (HB1.out.trans (hb2.mono HB1.out.size)); clear hb2))
  go_loopw [10] (fun i wr => ∃ k : Nat, k ≤ m ∧ i = .int .i64 (k : Int) ∧ Below w.heap.size w wr) (fun i _ => m - (intOf i).toNat)
  case atStart => exact ⟨0, by omega, rfl, S0.out.alloc S0.out.size _⟩
  case round =>
    obtain ⟨k, hk, rfl, hst⟩ := hrel
    clear S0
    have HS := Lib.hid hst
    by_cases hlt : k < m
    · have hlt' : (k : Int) < (m : Int) := by omega
      obtain ⟨lb, loff, rfl, hlb, hc⟩ := HL.out (by omega)
      have cx : wr.cell? ⟨lb, loff + k, none⟩ = some (.int .i64 (y k)) := (hst.cell (p := ⟨lb, loff + k, none⟩) hlb).trans (hc k hlt)
      clear hst hc HL
      generalize y k = x at cx
      have HA1 : Hid (Says 17 #[.int .i64 x, .bool high] (.tuple #[.int .i64 (argA x high), .int .i64 (argE x)])) := Lib.hid fun W => secdata_Arg x high W
      have HA2 : Hid (Says 18 #[.int .i64 x, .bool high] (.tuple #[.int .i64 (argA x high), .int .i64 (argE x)])) := Lib.hid fun W => ref2_Arg x high W
      by_cases hE : argE x = 0
      · rw [hE] at HA1 HA2
        clear hE
        go_wp2_with (first
          | (go_at_call 15; (with_reducible refine (HV.out _ _).mono ?_); rintro e w7 ⟨rfl, rfl⟩)
          | (go_at_call 16; (with_reducible refine (HR.out _ _).mono ?_); rintro e w8 ⟨rfl, rfl⟩)
          | (go_at_call 17; (with_reducible refine (HA1.out _).mono ?_); rintro e w9 ⟨rfl, rfl⟩)
          | (go_at_call 18; (with_reducible refine (HA2.out _).mono ?_); rintro e w10 ⟨rfl, rfl⟩))
        exact ⟨⟨k + 1, by omega, by go_num, HS.out⟩, by simp [intOf]; omega⟩
      · have hE' : argE x = 22 := by unfold argE at hE ⊢; split at hE <;> simp_all
        rw [hE'] at HA1 HA2
        clear hE hE'
        go_wp2_with (first
          | (go_at_call 15; (with_reducible refine (HV.out _ _).mono ?_); rintro e w7 ⟨rfl, rfl⟩)
          | (go_at_call 16; (with_reducible refine (HR.out _ _).mono ?_); rintro e w8 ⟨rfl, rfl⟩)
          | (go_at_call 17; (with_reducible refine (HA1.out _).mono ?_); rintro e w9 ⟨rfl, rfl⟩)
          | (go_at_call 18; (with_reducible refine (HA2.out _).mono ?_); rintro e w10 ⟨rfl, rfl⟩))
        exact ⟨⟨k + 1, by omega, by go_num, HS.out⟩, by simp [intOf]; omega⟩
    · go_wp2
      go_ret
      exact ⟨rfl, HS.out⟩

theorem isRow_max {k : IntKind} {w : World} {a : Option Addr} {len cap : Nat} {zs : List Int} (h : IsRow k w a len cap zs) : len ≤ maxLen := by
  rcases h with ⟨_, rfl, _, _⟩ | ⟨x, rfl, hl, hm, _⟩
  · exact Nat.zero_le _
  · exact Nat.le_trans hl hm

theorem walk (a0 : Option Addr) (len0 cap0 : Nat) (z0 : List Int) (a1 : Option Addr) (len1 cap1 : Nat) (z1 : List Int) (high : Bool) (w : World) (w0 : IsRow .u8 w a0 len0 cap0 z0) (w1 : IsRow .i64 w a1 len1 cap1 z1) (hT : Tab w) :
    Calls Tryd.prog 5 #[.slice a0 len0 cap0, .slice a1 len1 cap1, .bool high] w fun e w' => e = .returned (.bool true) ∧ Below w.heap.size w w' := by
  by_cases h : len0 = 64
  · subst h
    obtain ⟨b, off, rfl, hbl, hc⟩ := holds_of_isRow w0 (by decide)
    exact walk_64 b off cap0 (fun i => z0.getD i 0) a1 len1 cap1 (fun i => z1.getD i 0) high w (isRow_max w1) ⟨hbl, isRow_byte w0, hc⟩ hT (holds_of_isRow w1)
  · exact walk_no a0 len0 cap0 a1 len1 cap1 (fun i => z1.getD i 0) high w h (isRow_max w1) hT (holds_of_isRow w1)

/-! ### The row's step, the statement, and the card -/
theorem door_met (os : Os) (args : Array Value) : laidMetH Tryd.prog [("ravelin/secdata.rows", Rows.laid_ravelin_secdata_rows)] ((World.doorLaid Tryd.prog 400 os).forCall (fun _ _ => 0) ⟨#[], args, []⟩).memory :=
  laidMetH_of_parts3 (fuel := 8) (laidMet_of_run' 8 (by kernel_rfl) (by kernel_rfl)) (by kernel_rfl) (by kernel_rfl)

set_option maxRecDepth 100000 in
theorem lifted (os : Os) (started : os.Started) (H : Type) (enc : TypeId × Value → H) :
    ReturnsInHanded {} Tryd.checked os 5 .any (fun w args => (Rows.secdataWordsSpec.pre enc Tryd.prog Tryd.f5 [] false w args ∧ laidMetH Tryd.prog [("ravelin/secdata.rows", Rows.laid_ravelin_secdata_rows)] w) ∧ sizedMet enc Tryd.prog Tryd.f5 (OpenSpec.ofChange Rows.secdataWordsSpec) false w args)
      (Rows.secdataWordsSpec.post enc Tryd.prog Tryd.f5 false true false false) := by
  refine returnsInHanded_of_change_and (C := Tryd.checked) (X := fun w _ => laidMetH Tryd.prog [("ravelin/secdata.rows", Rows.laid_ravelin_secdata_rows)] w) (fun _ _ _ hh h => h.of_heap hh) own started (by kernel_rfl) Tryd.func5
    (ChangeSpec.witness_shaped (enc := enc) (C := Tryd.checked) (os := os) (X := fun w _ => laidMetH Tryd.prog [("ravelin/secdata.rows", Rows.laid_ravelin_secdata_rows)] w) false (World.doorLaid Tryd.prog 400 os) #[.slice none 0 0, .slice none 0 0, .bool false] 8 rfl (World.shaped_of_RefB (by kernel_rfl) (by kernel_rfl)) (by kernel_rfl) (by kernel_rfl) (by kernel_rfl) (door_met os _)) ?_
  intro W base args ds gs before hval0 hW _ _ hL _
  have hval : ∀ (j : Nat) t v, Tryd.f5.params[j]? = some t → args[j]? = some v → Value.okWide Tryd.prog W .any base t v := hval0
  have hW' := hW
  obtain ⟨p, q, hA0, hV, rfl, hfz, hnd⟩ := hW
  have hA : DataW.TrodAll enc Tryd.prog W 0 (fun _ => true) true Tryd.f5.params.toList args.toList ds p := hA0
  rw [Tryd.params5] at hA hval
  obtain ⟨v0, vs0, d0, ds0, p0, q0, hargs, rfl, rfl, h0, r0⟩ := trodAll_cons hA
  obtain ⟨v1, vs1, d1, ds1, p1, q1, rfl, rfl, rfl, h1, r1⟩ := trodAll_cons r0
  obtain ⟨v2, vs2, d2, ds2, p2, q2, rfl, rfl, rfl, h2, r2⟩ := trodAll_cons r1
  obtain ⟨rfl, rfl, rfl⟩ := trodAll_nil r2
  obtain rfl : args = #[v0, v1, v2] := by cases args; simp_all
  obtain ⟨rfl, rfl⟩ := trodVars_none hV
  obtain ⟨a0, len0, cap0, rfl⟩ := okWide_slice Tryd.underlying28 (hval 0 28 v0 rfl rfl)
  have k0 := h0
  have lt0 : ∀ x ∈ p0, x.block < W.heap.size := by obtain ⟨m, hm⟩ := k0; exact DataW.trod_lt m _ _ _ hm
  obtain ⟨z0, w0⟩ : ∃ zs, IsRow .u8 W a0 len0 cap0 zs := by
    obtain ⟨fuel, hf⟩ := h0
    rcases open_ints Tryd.underlying28 Tryd.underlying5 (by kernel_rfl) hf with ⟨hcs, _⟩ | ⟨x, l, c, zs, hcs, _, hl, hm, hz, hx, hcell, hwz⟩
    · simp [Value.cells] at hcs
      obtain ⟨rfl, rfl, rfl⟩ := hcs
      exact ⟨[], .inl ⟨rfl, rfl, rfl, rfl⟩⟩
    · simp [Value.cells] at hcs
      obtain ⟨rfl, rfl, rfl⟩ := hcs
      exact ⟨zs, .inr ⟨_, rfl, hl, hm, by simpa using hz, hcell, hwz⟩⟩
  obtain ⟨a1, len1, cap1, rfl⟩ := okWide_slice Tryd.underlying35 (hval 1 35 v1 rfl rfl)
  have k1 := h1
  have lt1 : ∀ x ∈ p1, x.block < W.heap.size := by obtain ⟨m, hm⟩ := k1; exact DataW.trod_lt m _ _ _ hm
  obtain ⟨z1, w1⟩ : ∃ zs, IsRow .i64 W a1 len1 cap1 zs := by
    obtain ⟨fuel, hf⟩ := h1
    rcases open_ints Tryd.underlying35 Tryd.underlying3 (by kernel_rfl) hf with ⟨hcs, _⟩ | ⟨x, l, c, zs, hcs, _, hl, hm, hz, hx, hcell, hwz⟩
    · simp [Value.cells] at hcs
      obtain ⟨rfl, rfl, rfl⟩ := hcs
      exact ⟨[], .inl ⟨rfl, rfl, rfl, rfl⟩⟩
    · simp [Value.cells] at hcs
      obtain ⟨rfl, rfl, rfl⟩ := hcs
      exact ⟨zs, .inr ⟨_, rfl, hl, hm, by simpa using hz, hcell, hwz⟩⟩
  obtain ⟨a2, rfl, rfl, rfl⟩ := open_bool Tryd.underlying4 (hval 2 4 v2 rfl rfl) h2
  clear hA0 hval0
  refine (walk a0 len0 cap0 z0 a1 len1 cap1 z1 a2 W w0 w1 (tab_of_laid hL)).mono fun e W' ⟨he, bel⟩ => ?_
  subst he
  exact ⟨_, rfl, _, _, _, [], _, [], hW', trodAll_mk1 (shut_bool Tryd.underlying4 _), (trodAll_cons_mk (Below.trod laidOut (by kernel_rfl) (of_decide_eq_true (by kernel_rfl)) k0 bel lt0) (trodAll_cons_mk (Below.trod laidOut (by kernel_rfl) (of_decide_eq_true (by kernel_rfl)) k1 bel lt1) (trodAll_cons_mk (shut_bool Tryd.underlying4 _) trodAll_mk0))), rfl, bel.frame _, fun h => by cases h⟩

theorem over : Rows.secdataWordsRow.holds Tryd.pinned (OpenSpec.ofChange Rows.secdataWordsSpec) :=
  OpenClaim.holds_of_wide 5 Tryd.f5 rfl rfl rfl rfl rfl rfl rfl ⟨rfl, rfl, rfl, rfl, rfl⟩ rfl rfl rfl rfl rfl (by kernel_rfl) Tryd.func5 (by kernel_rfl)
    (of_decide_eq_true (by kernel_rfl)) (by unfold Func.isWrapper; first | (rw [if_pos (by decide +kernel)]; kernel_rfl) | (rw [if_neg (by decide +kernel)]; exact ⟨rfl, rfl⟩))
    (fun os started H enc _ => lifted os started H enc)

/-- The statement: the row's card, what it lists tied to the program's text. -/
theorem proved : Rows.SecdataWordsCardSaid :=
  Claim7.holds_tied_plain_at .later [] [.data] true Rows.secdataWordsCard.stood.harness Rows.secdataWordsCard.stood.looks
    over (fun _ h => by cases h) (by kernel_rfl) (fun _ h => by cases h) secdataWords_row_tie rfl ⟨rfl, rfl⟩ (by kernel_rfl) rfl
    (fun f fn hf hfn => by
      obtain rfl : f = 5 := Option.some.inj ((show Tryd.prog.funcNamed "ravelin/ravelinlaw02.SecdataWords" = some 5 by kernel_rfl).symm.trans hf) |>.symm
      obtain rfl : fn = Tryd.f5 := (Option.some.inj (Tryd.func5.symm.trans hfn)).symm
      exact ⟨by kernel_rfl, fun j t ht => by
        have hm : t ∈ Tryd.f5.params.toList := by
          have := Array.mem_of_getElem? ht
          simpa using this
        have hall : (Tryd.f5.params.toList.all fun u => !Tryd.prog.wantsStandIn u) = true := by kernel_rfl
        exact (show Tryd.prog.wantsStandIn t = false by simpa using List.all_eq_true.1 hall t hm)⟩)
    (by kernel_rfl)
end Go.Proofs.YtdmjbiaigjifaaaDoor.secdataWords
