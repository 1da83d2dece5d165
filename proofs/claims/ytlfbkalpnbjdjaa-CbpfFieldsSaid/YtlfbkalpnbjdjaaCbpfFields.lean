/-
  'CbpfFields': for every program, all bytes and any two numbers, the law of layer 3 on what an instruction does not ask for returns true, and leaves memory as it was. No condition.
-/
import Derived.Test.YtlfbkalpnbjdjaaCbpfHead
import Derived.Test.YtlfbkalpnbjdjaaCbpfAlike
import Derived.Test.YtlfbkalpnbjdjaaPArgs
import Derived.Test.YtlfbkalpnbjdjaaRowsSized
namespace Go.Proofs.Ytlfbkalpnbjdjaa.cbpfFields
open Go Go.ChangeShapes Go.WideShapes Go.ChangeAt Go.RowKit
set_option linter.unusedSimpArgs false
set_option linter.unusedVariables false

/-- Whose K the law changes. -/
def lawK (c : Int) : Bool := decide (c = 22) || decide (c = 128) || decide (c = 129) || decide (c = 132) || decide (c = 7) || decide (c = 135) || (!decide (bits .and .u16 c 8 = 0) && (decide (bits .and .u16 c 7 = 4) || decide (bits .and .u16 c 7 = 5)))
theorem lawK_kless {c : Int} (hs : sealsC c = true) (h : lawK c = true) : kless c = true := by
  have hs' : aluC c = true ∨ jumpC c = true ∨ restC c = true := by
    rcases ha : aluC c with _ | _
    · rcases hj : jumpC c with _ | _
      · rcases hr : restC c with _ | _
        · rw [sealsC, ha, hj, hr] at hs; cases hs
        · exact .inr (.inr rfl)
      · exact .inr (.inl rfl)
    · exact .inl rfl
  rcases hs' with g | g | g
  · rcases alu_cases g with rfl | rfl | rfl | rfl | rfl | rfl | rfl | rfl | rfl | rfl | rfl | rfl | rfl | rfl | rfl | rfl | rfl | rfl <;> revert h <;> decide
  · rcases jump_cases g with rfl | rfl | rfl | rfl | rfl | rfl | rfl | rfl <;> revert h <;> decide
  · rcases rest_cases g with rfl | rfl | rfl | rfl | rfl | rfl | rfl | rfl | rfl | rfl | rfl | rfl | rfl | rfl | rfl <;> revert h <;> decide
theorem xor8_in (a b : Int) : 0 ≤ bits .xor .u8 a b ∧ bits .xor .u8 a b < 256 := by
  show 0 ≤ IntKind.u8.wrap ((BitVec.ofInt 8 a ^^^ BitVec.ofInt 8 b).toNat : Int) ∧ IntKind.u8.wrap ((BitVec.ofInt 8 a ^^^ BitVec.ofInt 8 b).toNat : Int) < 256
  rw [IntKind.wrap_u8]
  omega
/-- What the law makes of an instruction. -/
def altI (t : Int) (kk : BitVec 32) (x : Ins) : Ins :=
  ⟨x.code, if jumpC x.code = true then x.jt else (bits .xor .u8 (x.jt : Int) t).toNat, if jumpC x.code = true then x.jf else (((x.jf : Int) + t) % 256).toNat, if lawK x.code = true then x.k ^^^ kk else x.k⟩
theorem alt_ok {t : Int} {kk : BitVec 32} {x : Ins} (h : x.OK) : (altI t kk x).OK := by
  refine ⟨h.1, h.2.1, ?_, ?_⟩
  · show (if jumpC x.code = true then x.jt else (bits .xor .u8 (x.jt : Int) t).toNat) < 256
    split
    · exact h.2.2.1
    · have := xor8_in (x.jt : Int) t; omega
  · show (if jumpC x.code = true then x.jf else (((x.jf : Int) + t) % 256).toNat) < 256
    split
    · exact h.2.2.2
    · omega
theorem alt_alike (t : Int) (kk : BitVec 32) (x : Ins) : Alike' x (altI t kk x) :=
  ⟨rfl, fun hs => ⟨rfl, fun hj => ⟨(if_pos hj).symm, (if_pos hj).symm⟩, fun hk => by
    show x.k = if lawK x.code = true then x.k ^^^ kk else x.k
    rw [if_neg (fun g => by rw [lawK_kless hs g] at hk; cases hk)]⟩⟩
/-- The program behind i rounds. -/
def mixQ (t : Int) (kk : BitVec 32) (q : Nat → Ins) (i j : Nat) : Ins := if j < i then altI t kk (q j) else q j
/-- Its cells; behind it what was there. -/
def mixF (t : Int) (kk : BitVec 32) (q : Nat → Ins) (n : Nat) (G : Nat → Value) (i k : Nat) : Value := if k < n * 4 then progF (mixQ t kk q i) k else G k
section
variable {w : World} {g m n i : Nat} {t : Int} {kk : BitVec 32} {q : Nat → Ins} {G : Nat → Value}
theorem mix_other (k : Nat) (h : k / 4 ≠ i) : mixF t kk q n G i k = mixF t kk q n G (i + 1) k := by
  unfold mixF progF mixQ
  by_cases hk : k < n * 4
  · rw [if_pos hk, if_pos hk]
    by_cases h1 : k / 4 < i
    · rw [if_pos h1, if_pos (by omega)]
    · rw [if_neg h1, if_neg (by omega)]
  · rw [if_neg hk, if_neg hk]
theorem mix_old (hi : i < n) (f : Nat) (hf : f < 4) : mixF t kk q n G i (i * 4 + f) = insF (q i) f := by
  unfold mixF
  rw [if_pos (by omega), progF_at _ _ _ hf, mixQ, if_neg (by omega)]
theorem mix_new (hi : i < n) (f : Nat) (hf : f < 4) : mixF t kk q n G (i + 1) (i * 4 + f) = insF (altI t kk (q i)) f := by
  unfold mixF
  rw [if_pos (by omega), progF_at _ _ _ hf, mixQ, if_pos (by omega)]
theorem mix_end (k : Nat) (hk : k < n * 4) : mixF t kk q n G n k = progF (fun j => altI t kk (q j)) k := by
  unfold mixF progF mixQ
  rw [if_pos hk, if_pos (by omega)]
/-- A round whose four cells are what the law makes. -/
theorem mix_step {F : Nat → Value} (hi : i < n) (hr : w.rowIs g 43 m F) (ho : ∀ k, k / 4 ≠ i → F k = mixF t kk q n G i k) (h0 : F (i * 4 + 0) = insF (altI t kk (q i)) 0) (h1 : F (i * 4 + 1) = insF (altI t kk (q i)) 1) (h2 : F (i * 4 + 2) = insF (altI t kk (q i)) 2) (h3 : F (i * 4 + 3) = insF (altI t kk (q i)) 3) :
    w.rowIs g 43 m (mixF t kk q n G (i + 1)) := hr.congr fun k hk => by
  by_cases h : k / 4 = i
  · have hf : k % 4 = 0 ∨ k % 4 = 1 ∨ k % 4 = 2 ∨ k % 4 = 3 := by omega
    rcases hf with f | f | f | f
    · rw [show k = i * 4 + 0 by omega, h0, mix_new hi 0 (by decide)]
    · rw [show k = i * 4 + 1 by omega, h1, mix_new hi 1 (by decide)]
    · rw [show k = i * 4 + 2 by omega, h2, mix_new hi 2 (by decide)]
    · rw [show k = i * 4 + 3 by omega, h3, mix_new hi 3 (by decide)]
  · rw [ho k h, mix_other k h]
theorem alt_jump {x : Ins} (h : jumpC x.code = true) : insF (altI t kk x) 1 = insF x 1 ∧ insF (altI t kk x) 2 = insF x 2 := by
  constructor
  · show Value.int .u8 (((if jumpC x.code = true then x.jt else _) : Nat) : Int) = _; rw [if_pos h]; rfl
  · show Value.int .u8 (((if jumpC x.code = true then x.jf else _) : Nat) : Int) = _; rw [if_pos h]; rfl
theorem alt_nojump {x : Ins} (h : jumpC x.code = false) : insF (altI t kk x) 1 = .int .u8 (bits .xor .u8 (x.jt : Int) t) ∧ insF (altI t kk x) 2 = .int .u8 (((x.jf : Int) + t) % 256) := by
  have hx := xor8_in (x.jt : Int) t
  constructor
  · show Value.int .u8 (((if jumpC x.code = true then x.jt else (bits .xor .u8 (x.jt : Int) t).toNat) : Nat) : Int) = _; rw [if_neg (by rw [h]; decide), Int.toNat_of_nonneg hx.1]
  · show Value.int .u8 (((if jumpC x.code = true then x.jf else (((x.jf : Int) + t) % 256).toNat) : Nat) : Int) = _; rw [if_neg (by rw [h]; decide), Int.toNat_of_nonneg (by omega)]
theorem alt_k {x : Ins} (h : lawK x.code = true) : insF (altI t kk x) 3 = .int .u32 ((x.k ^^^ kk).toNat : Int) := by
  show Value.int .u32 (((if lawK x.code = true then x.k ^^^ kk else x.k) : BitVec 32).toNat : Int) = _; rw [if_pos h]
theorem alt_nok {x : Ins} (h : lawK x.code = false) : insF (altI t kk x) 3 = insF x 3 := by
  show Value.int .u32 (((if lawK x.code = true then x.k ^^^ kk else x.k) : BitVec 32).toNat : Int) = _; rw [if_neg (by rw [h]; decide)]; rfl
/-- A round: the four ways. -/
theorem mix_tt (hi : i < n) (hr : w.rowIs g 43 m (mixF t kk q n G i)) (hj : jumpC (q i).code = true) (hk : lawK (q i).code = true) :
    (w.setCell ⟨g, i * 4 + 3, none⟩ (.int .u32 (((q i).k ^^^ kk).toNat : Int))).rowIs g 43 m (mixF t kk q n G (i + 1)) := by
  refine mix_step hi (hr.set (i * 4 + 3) _) (fun k h => if_neg (by omega)) ?_ ?_ ?_ ?_
  · exact (if_neg (by omega)).trans (mix_old hi 0 (by decide))
  · exact (if_neg (by omega)).trans ((mix_old hi 1 (by decide)).trans (alt_jump hj).1.symm)
  · exact (if_neg (by omega)).trans ((mix_old hi 2 (by decide)).trans (alt_jump hj).2.symm)
  · exact (if_pos rfl).trans (alt_k hk).symm
theorem mix_tf (hi : i < n) (hr : w.rowIs g 43 m (mixF t kk q n G i)) (hj : jumpC (q i).code = true) (hk : lawK (q i).code = false) :
    w.rowIs g 43 m (mixF t kk q n G (i + 1)) := by
  refine mix_step hi hr (fun k h => rfl) ?_ ?_ ?_ ?_
  · exact mix_old hi 0 (by decide)
  · exact (mix_old hi 1 (by decide)).trans (alt_jump hj).1.symm
  · exact (mix_old hi 2 (by decide)).trans (alt_jump hj).2.symm
  · exact (mix_old hi 3 (by decide)).trans (alt_nok hk).symm
theorem mix_ft (hi : i < n) (hr : w.rowIs g 43 m (mixF t kk q n G i)) (hj : jumpC (q i).code = false) (hk : lawK (q i).code = true) :
    (((w.setCell ⟨g, i * 4 + 1, none⟩ (.int .u8 (bits .xor .u8 ((q i).jt : Int) t))).setCell ⟨g, i * 4 + 2, none⟩ (.int .u8 ((((q i).jf : Int) + t) % 256))).setCell ⟨g, i * 4 + 3, none⟩ (.int .u32 (((q i).k ^^^ kk).toNat : Int))).rowIs g 43 m (mixF t kk q n G (i + 1)) := by
  refine mix_step hi (((hr.set (i * 4 + 1) _).set (i * 4 + 2) _).set (i * 4 + 3) _) (fun k h => (if_neg (by omega)).trans ((if_neg (by omega)).trans (if_neg (by omega)))) ?_ ?_ ?_ ?_
  · exact (if_neg (by omega)).trans ((if_neg (by omega)).trans ((if_neg (by omega)).trans (mix_old hi 0 (by decide))))
  · exact (if_neg (by omega)).trans ((if_neg (by omega)).trans ((if_pos rfl).trans (alt_nojump hj).1.symm))
  · exact (if_neg (by omega)).trans ((if_pos rfl).trans (alt_nojump hj).2.symm)
  · exact (if_pos rfl).trans (alt_k hk).symm
theorem mix_ff (hi : i < n) (hr : w.rowIs g 43 m (mixF t kk q n G i)) (hj : jumpC (q i).code = false) (hk : lawK (q i).code = false) :
    ((w.setCell ⟨g, i * 4 + 1, none⟩ (.int .u8 (bits .xor .u8 ((q i).jt : Int) t))).setCell ⟨g, i * 4 + 2, none⟩ (.int .u8 ((((q i).jf : Int) + t) % 256))).rowIs g 43 m (mixF t kk q n G (i + 1)) := by
  refine mix_step hi ((hr.set (i * 4 + 1) _).set (i * 4 + 2) _) (fun k h => (if_neg (by omega)).trans (if_neg (by omega))) ?_ ?_ ?_ ?_
  · exact (if_neg (by omega)).trans ((if_neg (by omega)).trans (mix_old hi 0 (by decide)))
  · exact (if_neg (by omega)).trans ((if_pos rfl).trans (alt_nojump hj).1.symm)
  · exact (if_pos rfl).trans (alt_nojump hj).2.symm
  · exact (if_neg (by omega)).trans ((if_neg (by omega)).trans ((mix_old hi 3 (by decide)).trans (alt_nok hk).symm))
end

/-- What stands while the law goes on. -/
abbrev St (w W : World) (a0 : Option Addr) (n : Nat) (q : Nat → Ins) (a1 : Option Addr) (len : Nat) (z : Nat → Int) : Prop := PLies W a0 n q a1 len z ∧ Below w.heap.size w W
theorem st_below {w W W' : World} {a0 : Option Addr} {n : Nat} {q : Nat → Ins} {a1 : Option Addr} {len : Nat} {z : Nat → Int} (h : St w W a0 n q a1 len z) (hb : Below W.heap.size W W') : St w W' a0 n q a1 len z := ⟨h.1.below hb, h.2.trans (hb.mono h.2.size)⟩
/-- A round has written its own row alone. -/
theorem st_own {w W W' : World} {a0 : Option Addr} {n : Nat} {q : Nat → Ins} {a1 : Option Addr} {len : Nat} {z : Nat → Int} {B g : Nat} (h : St w W a0 n q a1 len z) (h0 : PLies w a0 n q a1 len z) (hg : W.grownBy W' (some g)) (hB : w.heap.size ≤ g) : St w W' a0 n q a1 len z :=
  have hb := below_grown h.2 hg hB (Nat.le_refl _)
  ⟨h0.below hb, hb⟩
set_option maxRecDepth 100000 in
set_option maxHeartbeats 60000000 in
theorem walk (a0 : Option Addr) (len0 cap0 : Nat) (t kv : Int) (a1 : Option Addr) (len1 cap1 : Nat) (z1 : List Int) (w : World) (w0 : RowsOf [.u16, .u8, .u8, .u32] w a0 len0) (s0 : len0 * 8 ≤ 140737488351232) (wt : (Lit.int .u8 t).wf = true) (wk : (Lit.int .u32 kv).wf = true) (w1 : IsRow .u8 w a1 len1 cap1 z1 ∧ cap1 * 1 ≤ 140737488351232) :
    Calls Try.prog 9 #[.slice a0 len0 cap0, .int .u8 t, .int .u32 kv, .slice a1 len1 cap1] w fun e w' => e = .returned (.bool true) ∧ Below w.heap.size w w' := by
  obtain ⟨q, _, hP⟩ := plies_of_args w0 s0 w1.1 w1.2
  have ht : 0 ≤ t ∧ t ≤ 255 := by simpa [Lit.wf, IntKind.min, IntKind.max, IntKind.bits, IntKind.signed] using wt
  have hk : 0 ≤ kv ∧ kv ≤ 4294967295 := by simpa [Lit.wf, IntKind.min, IntKind.max, IntKind.bits, IntKind.signed] using wk
  obtain ⟨kk, rfl⟩ := word32_of (a := kv) (by omega)
  clear w0 w1 wt wk hk
  have HP := Lib.hid hP
  clear hP
  generalize (fun i => z1.getD i 0) = z at HP
  go_enter Try.func9, Try.ntmps9
  go_wp2_with (first
    | (go_at_call 10; (with_reducible refine (head_is _).mono ?_); rintro e w1 ⟨rfl, hb⟩; have HT1 := Lib.hid (show St w w1 a0 len0 q a1 len1 z from ⟨HP.out.below hb, hb⟩); have HS := Lib.hid ((holds_of_prog HT1.out.1.prog).below (box_below w1 (.cells #[] 43))); clear hb)
    | (at_builtin; refine wpList_append_rows _ rfl (.tmp 23) (.tmp 24) 22 rfl 43 (.agg #[.int .u16 0, .int .u8 0, .int .u8 0, .int .u32 0]) 4 8 Try.underlying22 info_ins rfl (by decide) w1.heap.size 0 0 (fun _ => undef) rfl (World.rowIs_alloc w1 #[] 43 (fun _ => undef) (fun i hi => absurd hi (by simp))) (Nat.le_refl _) (by decide) _ len0 cap0 (progF q) rfl HS.out (progF_one q) (by unfold maxLen; omega) (by omega) ?_; intro g cap2 F1 w2 hr1 hc1 hm1 _ hF1 hg1 hgg1; simp only [Nat.zero_add, Nat.zero_mul] at hc1 hF1; obtain ⟨hb1, hge1⟩ := append_new_below hg1 hgg1; have HT2 := Lib.hid (st_below HT1.out hb1); have hge : w.heap.size ≤ g := Nat.le_trans HT1.out.2.size hge1; have HR := Lib.hid (show w2.rowIs g 43 (cap2 * 4) (mixF t kk q len0 F1 0) from hr1.congr (fun k hk => by unfold mixF; by_cases h : k < len0 * 4 <;> simp only [h, if_true, if_false]; rw [hF1 k h]; rfl)); clear hg1 hgg1 hF1 hr1 HS HT1 hb1 hge1))
  have hcap : len0 ≤ cap2 := hc1
  have hl0 : len0 ≤ 140737488351232 := by omega
  go_loopw [11] (fun i wr => ∃ k : Nat, k ≤ len0 ∧ i = .int .i64 (k : Int) ∧ wr.rowIs g 43 (cap2 * 4) (mixF t kk q len0 F1 k) ∧ St w wr a0 len0 q a1 len1 z) (fun i _ => len0 - (intOf i).toNat)
  case atStart => exact ⟨0, by omega, rfl, HR.out, HT2.out⟩
  case round =>
    obtain ⟨i, hi, rfl, hr, hst⟩ := hrel
    clear HR HT2
    have HR := Lib.hid hr
    have HT := Lib.hid hst
    by_cases hlt : i < len0
    · have hlt' : (i : Int) < (len0 : Int) := by omega
      have hw1 : IntKind.i64.wrap ((i : Int) + 1) = (i : Int) + 1 := IntWalk.i64_in _ (by omega)
      have c0 : wr.cell? ⟨g, i * 4, none⟩ = some (.int .u16 (q i).code) := (World.rowIs.cell hr (i := i * 4 + 0) (by omega)).trans (congrArg some (mix_old hlt 0 (by decide)))
      have c1 : wr.cell? ⟨g, i * 4 + 1, none⟩ = some (.int .u8 ((q i).jt : Int)) := (World.rowIs.cell hr (i := i * 4 + 1) (by omega)).trans (congrArg some (mix_old hlt 1 (by decide)))
      have c2 : wr.cell? ⟨g, i * 4 + 2, none⟩ = some (.int .u8 ((q i).jf : Int)) := (World.rowIs.cell hr (i := i * 4 + 2) (by omega)).trans (congrArg some (mix_old hlt 2 (by decide)))
      have c3 : wr.cell? ⟨g, i * 4 + 3, none⟩ = some (.int .u32 ((q i).k.toNat : Int)) := (World.rowIs.cell hr (i := i * 4 + 3) (by omega)).trans (congrArg some (mix_old hlt 3 (by decide)))
      have f1 := World.rowIs.frozen hr (i * 4 + 1)
      have f2 := World.rowIs.frozen hr (i * 4 + 2)
      have f3 := World.rowIs.frozen hr (i * 4 + 3)
      have hx3 := xor32 (q i).k kk
      clear hr hst
      generalize hc : (q i).code = c at c0
      by_cases n22 : c = 22
      · subst n22
        have hj : jumpC 22 = false := rfl
        have hK : lawK 22 = true := by decide
        have HJ := Lib.hid (fun w => (ref_Jump_is hj w))
        go_wp2_with (go_at_call 27; (with_reducible refine (HJ.out _).mono ?_); rintro e w' ⟨rfl, rfl⟩)
        go_roundw
        case rel => exact ⟨i + 1, by omega, by go_num, mix_ft hlt HR.out (hc ▸ hj) (hc ▸ hK), st_own (B := 0) HT.out HP.out (grown_set (grown_set (grown_set (World.grownBy.refl wr (some g)) _ _) _ _) _ _) hge⟩
        case measure => simp [intOf]; omega
      by_cases n128 : c = 128
      · subst n128
        have hj : jumpC 128 = false := rfl
        have hK : lawK 128 = true := by decide
        have HJ := Lib.hid (fun w => (ref_Jump_is hj w))
        go_wp2_with (go_at_call 27; (with_reducible refine (HJ.out _).mono ?_); rintro e w' ⟨rfl, rfl⟩)
        go_roundw
        case rel => exact ⟨i + 1, by omega, by go_num, mix_ft hlt HR.out (hc ▸ hj) (hc ▸ hK), st_own (B := 0) HT.out HP.out (grown_set (grown_set (grown_set (World.grownBy.refl wr (some g)) _ _) _ _) _ _) hge⟩
        case measure => simp [intOf]; omega
      by_cases n129 : c = 129
      · subst n129
        have hj : jumpC 129 = false := rfl
        have hK : lawK 129 = true := by decide
        have HJ := Lib.hid (fun w => (ref_Jump_is hj w))
        go_wp2_with (go_at_call 27; (with_reducible refine (HJ.out _).mono ?_); rintro e w' ⟨rfl, rfl⟩)
        go_roundw
        case rel => exact ⟨i + 1, by omega, by go_num, mix_ft hlt HR.out (hc ▸ hj) (hc ▸ hK), st_own (B := 0) HT.out HP.out (grown_set (grown_set (grown_set (World.grownBy.refl wr (some g)) _ _) _ _) _ _) hge⟩
        case measure => simp [intOf]; omega
      by_cases n132 : c = 132
      · subst n132
        have hj : jumpC 132 = false := rfl
        have hK : lawK 132 = true := by decide
        have HJ := Lib.hid (fun w => (ref_Jump_is hj w))
        go_wp2_with (go_at_call 27; (with_reducible refine (HJ.out _).mono ?_); rintro e w' ⟨rfl, rfl⟩)
        go_roundw
        case rel => exact ⟨i + 1, by omega, by go_num, mix_ft hlt HR.out (hc ▸ hj) (hc ▸ hK), st_own (B := 0) HT.out HP.out (grown_set (grown_set (grown_set (World.grownBy.refl wr (some g)) _ _) _ _) _ _) hge⟩
        case measure => simp [intOf]; omega
      by_cases n7 : c = 7
      · subst n7
        have hj : jumpC 7 = false := rfl
        have hK : lawK 7 = true := by decide
        have HJ := Lib.hid (fun w => (ref_Jump_is hj w))
        go_wp2_with (go_at_call 27; (with_reducible refine (HJ.out _).mono ?_); rintro e w' ⟨rfl, rfl⟩)
        go_roundw
        case rel => exact ⟨i + 1, by omega, by go_num, mix_ft hlt HR.out (hc ▸ hj) (hc ▸ hK), st_own (B := 0) HT.out HP.out (grown_set (grown_set (grown_set (World.grownBy.refl wr (some g)) _ _) _ _) _ _) hge⟩
        case measure => simp [intOf]; omega
      by_cases n135 : c = 135
      · subst n135
        have hj : jumpC 135 = false := rfl
        have hK : lawK 135 = true := by decide
        have HJ := Lib.hid (fun w => (ref_Jump_is hj w))
        go_wp2_with (go_at_call 27; (with_reducible refine (HJ.out _).mono ?_); rintro e w' ⟨rfl, rfl⟩)
        go_roundw
        case rel => exact ⟨i + 1, by omega, by go_num, mix_ft hlt HR.out (hc ▸ hj) (hc ▸ hK), st_own (B := 0) HT.out HP.out (grown_set (grown_set (grown_set (World.grownBy.refl wr (some g)) _ _) _ _) _ _) hge⟩
        case measure => simp [intOf]; omega
      have b22 : (c == 22) = false := beq_false_of_ne n22
      have b128 : (c == 128) = false := beq_false_of_ne n128
      have b129 : (c == 129) = false := beq_false_of_ne n129
      have b132 : (c == 132) = false := beq_false_of_ne n132
      have b7 : (c == 7) = false := beq_false_of_ne n7
      have b135 : (c == 135) = false := beq_false_of_ne n135
      rcases hj : jumpC c with _ | _
      · by_cases h8 : bits .and .u16 c 8 = 0
        · have hK : lawK c = false := by simp [lawK, n22, n128, n129, n132, n7, n135, h8]
          have HJ := Lib.hid (fun w => (ref_Jump_is hj w))
          go_wp2_with (go_at_call 27; (with_reducible refine (HJ.out _).mono ?_); rintro e w' ⟨rfl, rfl⟩)
          go_roundw
          case rel => exact ⟨i + 1, by omega, by go_num, mix_ff hlt HR.out (hc ▸ hj) (hc ▸ hK), st_own (B := 0) HT.out HP.out (grown_set (grown_set (World.grownBy.refl wr (some g)) _ _) _ _) hge⟩
          case measure => simp [intOf]; omega
        · have b8 : (bits .and .u16 c 8 != 0) = true := bne_iff_ne.2 h8
          by_cases h4 : bits .and .u16 c 7 = 4
          · have hK : lawK c = true := by simp [lawK, h8, h4]
            have HJ := Lib.hid (fun w => (ref_Jump_is hj w))
            go_wp2_with (go_at_call 27; (with_reducible refine (HJ.out _).mono ?_); rintro e w' ⟨rfl, rfl⟩)
            go_roundw
            case rel => exact ⟨i + 1, by omega, by go_num, mix_ft hlt HR.out (hc ▸ hj) (hc ▸ hK), st_own (B := 0) HT.out HP.out (grown_set (grown_set (grown_set (World.grownBy.refl wr (some g)) _ _) _ _) _ _) hge⟩
            case measure => simp [intOf]; omega
          · have b4 : (bits .and .u16 c 7 == 4) = false := beq_false_of_ne h4
            by_cases h5 : bits .and .u16 c 7 = 5
            · have hK : lawK c = true := by simp [lawK, h8, h5]
              have HJ := Lib.hid (fun w => (ref_Jump_is hj w))
              go_wp2_with (go_at_call 27; (with_reducible refine (HJ.out _).mono ?_); rintro e w' ⟨rfl, rfl⟩)
              go_roundw
              case rel => exact ⟨i + 1, by omega, by go_num, mix_ft hlt HR.out (hc ▸ hj) (hc ▸ hK), st_own (B := 0) HT.out HP.out (grown_set (grown_set (grown_set (World.grownBy.refl wr (some g)) _ _) _ _) _ _) hge⟩
              case measure => simp [intOf]; omega
            · have hK : lawK c = false := by simp [lawK, n22, n128, n129, n132, n7, n135, h4, h5]
              have b5 : (bits .and .u16 c 7 == 5) = false := beq_false_of_ne h5
              have HJ := Lib.hid (fun w => (ref_Jump_is hj w))
              go_wp2_with (go_at_call 27; (with_reducible refine (HJ.out _).mono ?_); rintro e w' ⟨rfl, rfl⟩)
              go_roundw
              case rel => exact ⟨i + 1, by omega, by go_num, mix_ff hlt HR.out (hc ▸ hj) (hc ▸ hK), st_own (B := 0) HT.out HP.out (grown_set (grown_set (World.grownBy.refl wr (some g)) _ _) _ _) hge⟩
              case measure => simp [intOf]; omega
      · by_cases h8 : bits .and .u16 c 8 = 0
        · have hK : lawK c = false := by simp [lawK, n22, n128, n129, n132, n7, n135, h8]
          have HJ := Lib.hid (fun w => (ref_Jump_is hj w))
          go_wp2_with (go_at_call 27; (with_reducible refine (HJ.out _).mono ?_); rintro e w' ⟨rfl, rfl⟩)
          go_roundw
          case rel => exact ⟨i + 1, by omega, by go_num, mix_tf hlt HR.out (hc ▸ hj) (hc ▸ hK), st_own (B := 0) HT.out HP.out (World.grownBy.refl wr (some g)) hge⟩
          case measure => simp [intOf]; omega
        · have b8 : (bits .and .u16 c 8 != 0) = true := bne_iff_ne.2 h8
          by_cases h4 : bits .and .u16 c 7 = 4
          · have hK : lawK c = true := by simp [lawK, h8, h4]
            have HJ := Lib.hid (fun w => (ref_Jump_is hj w))
            go_wp2_with (go_at_call 27; (with_reducible refine (HJ.out _).mono ?_); rintro e w' ⟨rfl, rfl⟩)
            go_roundw
            case rel => exact ⟨i + 1, by omega, by go_num, mix_tt hlt HR.out (hc ▸ hj) (hc ▸ hK), st_own (B := 0) HT.out HP.out (grown_set (World.grownBy.refl wr (some g)) _ _) hge⟩
            case measure => simp [intOf]; omega
          · have b4 : (bits .and .u16 c 7 == 4) = false := beq_false_of_ne h4
            by_cases h5 : bits .and .u16 c 7 = 5
            · have hK : lawK c = true := by simp [lawK, h8, h5]
              have HJ := Lib.hid (fun w => (ref_Jump_is hj w))
              go_wp2_with (go_at_call 27; (with_reducible refine (HJ.out _).mono ?_); rintro e w' ⟨rfl, rfl⟩)
              go_roundw
              case rel => exact ⟨i + 1, by omega, by go_num, mix_tt hlt HR.out (hc ▸ hj) (hc ▸ hK), st_own (B := 0) HT.out HP.out (grown_set (World.grownBy.refl wr (some g)) _ _) hge⟩
              case measure => simp [intOf]; omega
            · have hK : lawK c = false := by simp [lawK, n22, n128, n129, n132, n7, n135, h4, h5]
              have b5 : (bits .and .u16 c 7 == 5) = false := beq_false_of_ne h5
              have HJ := Lib.hid (fun w => (ref_Jump_is hj w))
              go_wp2_with (go_at_call 27; (with_reducible refine (HJ.out _).mono ?_); rintro e w' ⟨rfl, rfl⟩)
              go_roundw
              case rel => exact ⟨i + 1, by omega, by go_num, mix_tf hlt HR.out (hc ▸ hj) (hc ▸ hK), st_own (B := 0) HT.out HP.out (World.grownBy.refl wr (some g)) hge⟩
              case measure => simp [intOf]; omega
    · obtain rfl : i = len0 := by omega
      clear hr hst
      have hrun : runM (fun j => altI t kk (q j)) i len1 (wordZ z) = runM q i len1 (wordZ z) := (alike_run (fun j _ => alt_alike t kk (q j)) _ _).symm
      have HRN := Lib.hid hrun
      clear hrun
      go_wp2_with (first
        | (go_at_call 18; (with_reducible refine (cbpf_Run _ a0 _ _ q _ _ _ z HT.out.1).mono ?_); rintro e w4 ⟨rfl, hb⟩; have HT4 := Lib.hid (st_below HT.out hb); have HX4 := Lib.hid (show PLies w4 (some ⟨g, 0, none⟩) i (fun j => altI t kk (q j)) a1 len1 z from ⟨prog_of_row (rowIs_below HR.out hb (World.rowIs.lt HR.out)) (fun k hk => mix_end k hk) (by omega), HT4.out.1.data, HT4.out.1.bytes, s0, HT4.out.1.dlen, fun j hj => alt_ok (HT4.out.1.ok j hj)⟩); clear hb HT)
        | (go_at_call 18; (with_reducible refine (cbpf_Run _ _ _ _ (fun j => altI t kk (q j)) _ _ _ z HX4.out).mono ?_); rintro e w5 ⟨rfl, hb⟩; have HB5 := Lib.hid (HT4.out.2.trans (hb.mono HT4.out.2.size)); clear hb HT4 HX4; rw [HRN.out]))
      go_ret
      exact ⟨rfl, HB5.out⟩

/-! ### The row's step and the statement -/
set_option maxRecDepth 100000 in
theorem lifted (os : Os) (started : os.Started) (H : Type) (enc : TypeId × Value → H) :
    ReturnsInHanded {} Try.checked os 9 .any (Rows.cbpfFieldsSpec.pre6 enc Try.prog Try.f9 Rows.cbpfFieldsRow.domain false) (Rows.cbpfFieldsSpec.post enc Try.prog Try.f9 false true false false) := by
  refine returnsInHanded_of_change_sized (C := Try.checked) own started (by kernel_rfl) Try.func9
    (ChangeSpec.witness6 (enc := enc) (C := Try.checked) false ⟨#[], #[.slice none 0 0, .int .u8 0, .int .u32 0, .slice none 0 0], []⟩ 8 (by kernel_rfl) (by kernel_rfl) (by kernel_rfl) (by kernel_rfl)) ?_
  intro W base args ds gs before hval0 hW hcnd hsz0 _
  have hsz : (DataW.weightsEach Try.prog (Try.f9.params.toList ++ Rows.cbpfFieldsSpec.plain.varTypes Try.prog) (ds ++ gs)).all (· ≤ reachBytes) = true := hsz0
  clear hsz0
  have hval : ∀ (j : Nat) t v, Try.f9.params[j]? = some t → args[j]? = some v → Value.okWide Try.prog W .any base t v := hval0
  have hW' := hW
  obtain ⟨p, q, hA0, hV, rfl, hfz, hnd⟩ := hW
  have hA : DataW.TrodAll enc Try.prog W 0 (fun _ => true) true Try.f9.params.toList args.toList ds p := hA0
  rw [Try.params9] at hA hval hsz
  obtain ⟨v0, vs0, d0, ds0, p0, q0, hargs, rfl, rfl, h0, r0⟩ := trodAll_cons hA
  obtain ⟨v1, vs1, d1, ds1, p1, q1, rfl, rfl, rfl, h1, r1⟩ := trodAll_cons r0
  obtain ⟨v2, vs2, d2, ds2, p2, q2, rfl, rfl, rfl, h2, r2⟩ := trodAll_cons r1
  obtain ⟨v3, vs3, d3, ds3, p3, q3, rfl, rfl, rfl, h3, r3⟩ := trodAll_cons r2
  obtain ⟨rfl, rfl, rfl⟩ := trodAll_nil r3
  obtain rfl : args = #[v0, v1, v2, v3] := by cases args; simp_all
  obtain ⟨rfl, rfl⟩ := trodVars_none hV
  obtain ⟨a0, len0, cap0, rfl⟩ := okWide_slice Try.underlying22 (hval 0 22 v0 rfl rfl)
  have k0 := h0
  have lt0 : ∀ x ∈ p0, x.block < W.heap.size := by obtain ⟨m, hm⟩ := k0; exact DataW.trod_lt m _ _ _ hm
  have w0 : RowsOf [.u16, .u8, .u8, .u32] W a0 len0 := by
    obtain ⟨fuel, hf⟩ := h0
    rcases rows_fields Try.underlying22 Try.underlying43 (by kernel_rfl) (by kernel_rfl) hf with hcs | ⟨x, l, c, hcs, hl, hm, hi⟩
    · simp [Value.cells] at hcs
      obtain ⟨rfl, rfl, rfl⟩ := hcs
      exact .inl ⟨rfl, rfl⟩
    · simp [Value.cells] at hcs
      obtain ⟨rfl, rfl, rfl⟩ := hcs
      refine .inr ⟨_, rfl, Nat.le_trans hl hm, fun i hil j K hK => ?_⟩
      match j, hK with
      | 0, hK =>
        obtain ⟨v, y, n, hc, ht⟩ := hi i hil 0 _ rfl
        obtain ⟨z, e, _, wz⟩ := DataW.trod_int Try.underlying41 ht
        simp only [List.cons.injEq, and_true] at e; subst e
        obtain rfl := Option.some.inj hK
        exact ⟨z, hc, wz⟩
      | 1, hK =>
        obtain ⟨v, y, n, hc, ht⟩ := hi i hil 1 _ rfl
        obtain ⟨z, e, _, wz⟩ := DataW.trod_int Try.underlying5 ht
        simp only [List.cons.injEq, and_true] at e; subst e
        obtain rfl := Option.some.inj hK
        exact ⟨z, hc, wz⟩
      | 2, hK =>
        obtain ⟨v, y, n, hc, ht⟩ := hi i hil 2 _ rfl
        obtain ⟨z, e, _, wz⟩ := DataW.trod_int Try.underlying5 ht
        simp only [List.cons.injEq, and_true] at e; subst e
        obtain rfl := Option.some.inj hK
        exact ⟨z, hc, wz⟩
      | 3, hK =>
        obtain ⟨v, y, n, hc, ht⟩ := hi i hil 3 _ rfl
        obtain ⟨z, e, _, wz⟩ := DataW.trod_int Try.underlying33 ht
        simp only [List.cons.injEq, and_true] at e; subst e
        obtain rfl := Option.some.inj hK
        exact ⟨z, hc, wz⟩
      | _ + 4, hK => exact absurd hK (by simp)
  have s0 : len0 * 8 ≤ 140737488351232 := by
    obtain ⟨fuel, hf⟩ := h0
    rcases rows_sized Try.underlying22 hf with hcs | ⟨x, l, c, elems, rest, hcs, hd, hle⟩
    · simp [Value.cells] at hcs
      obtain ⟨rfl, rfl, rfl⟩ := hcs
      omega
    · simp [Value.cells] at hcs
      obtain ⟨rfl, rfl, rfl⟩ := hcs
      have hr := sized_slice hsz (j := 0) (t := 22) (e := 43) rfl (congrArg some hd) Try.underlying22
      rw [show Try.prog.bytesOf 43 = 8 by kernel_rfl] at hr
      simp only [reachBytes] at hr
      have := Nat.mul_le_mul_right 8 hle
      omega
  obtain ⟨a1, rfl, rfl, rfl, w1⟩ := open_int Try.underlying5 (hval 1 5 v1 rfl rfl) h1
  obtain ⟨a2, rfl, rfl, rfl, w2⟩ := open_int Try.underlying33 (hval 2 33 v2 rfl rfl) h2
  obtain ⟨a3, len3, cap3, rfl⟩ := okWide_slice Try.underlying25 (hval 3 25 v3 rfl rfl)
  have k3 := h3
  have lt3 : ∀ x ∈ p3, x.block < W.heap.size := by obtain ⟨m, hm⟩ := k3; exact DataW.trod_lt m _ _ _ hm
  obtain ⟨z3, w3⟩ : ∃ zs, IsRow .u8 W a3 len3 cap3 zs ∧ cap3 * 1 ≤ 140737488351232 := by
    obtain ⟨fuel, hf⟩ := h3
    rcases open_ints Try.underlying25 Try.underlying5 (by kernel_rfl) hf with ⟨hcs, _⟩ | ⟨x, l, c, zs, hcs, _, hl, hm, hz, hx, hcell, hwz⟩
    · simp [Value.cells] at hcs
      obtain ⟨rfl, rfl, rfl⟩ := hcs
      exact ⟨[], ⟨.inl ⟨rfl, rfl, rfl, rfl⟩, by omega⟩⟩
    · simp [Value.cells] at hcs
      obtain ⟨rfl, rfl, rfl⟩ := hcs
      have hd : d3 = _ := congrArg Prod.fst hx
      have hr := sized_slice hsz (j := 3) (t := 25) (e := 5) rfl (congrArg some hd) Try.underlying25
      rw [show Try.prog.bytesOf 5 = 1 by kernel_rfl] at hr
      simp only [lits, List.length_map, List.length_take, List.length_drop, reachBytes] at hr
      have hzl : zs.length = _ := hz
      simp only [if_true] at hzl
      exact ⟨zs, ⟨.inr ⟨_, rfl, hl, hm, by simpa using hz, hcell, hwz⟩, by omega⟩⟩
  clear hA0 hval0
  refine (walk a0 len0 cap0 a1 a2 a3 len3 cap3 z3 W w0 s0 w1 w2 w3).mono fun e W' ⟨he, bel⟩ => ?_
  subst he
  exact ⟨_, rfl, _, _, _, [], _, [], hW', trodAll_mk1 (shut_bool Try.underlying4 _), (trodAll_cons_mk (Below.trod laidOut (by kernel_rfl) (of_decide_eq_true (by kernel_rfl)) k0 bel lt0) (trodAll_cons_mk (shut_int Try.underlying5 w1) (trodAll_cons_mk (shut_int Try.underlying33 w2) (trodAll_cons_mk (Below.trod laidOut (by kernel_rfl) (of_decide_eq_true (by kernel_rfl)) k3 bel lt3) trodAll_mk0)))), rfl, bel.frame _, fun h => by cases h⟩

theorem over : Rows.cbpfFieldsRow.holds Try.pinned (OpenSpec.ofChange Rows.cbpfFieldsSpec) :=
  OpenClaim.holds_of_wide 9 Try.f9 rfl rfl rfl rfl rfl rfl rfl ⟨rfl, rfl, rfl, rfl, rfl⟩ rfl rfl rfl rfl rfl (by kernel_rfl) Try.func9 (by kernel_rfl)
    (of_decide_eq_true (by kernel_rfl)) (by unfold Func.isWrapper; first | (rw [if_pos (by decide +kernel)]; kernel_rfl) | (rw [if_neg (by decide +kernel)]; exact ⟨rfl, rfl⟩))
    (fun os started H enc _ => lifted os started H enc)

/-- The statement. -/
theorem proved : Rows.CbpfFieldsSaid := over
end Go.Proofs.Ytlfbkalpnbjdjaa.cbpfFields
