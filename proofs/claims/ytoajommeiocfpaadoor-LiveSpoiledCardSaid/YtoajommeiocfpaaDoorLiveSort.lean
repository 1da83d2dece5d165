/-
  Where registers live: gathered, compared, taken out of their map, sorted and told. Conditions: those that each names.
-/
import Derived.Test.YtoajommeiocfpaaDoorDecMap
import Derived.Test.YtoajommeiocfpaaDoorLiveBits
import Derived.Maps.OwnIn
import Derived.Test.YtoajommeiocfpaaDoorLiveFlg
import Derived.Sort.MapsRangeIn
import Derived.Carry
import Derived.Sort.Grow
import Derived.Shelf.SlSortCmp.KitK
namespace Go.Proofs.YtoajommeiocfpaaDoor
open Go Go.RowKit
open Go.Maps (Keyed)
set_option linter.unusedSimpArgs false
set_option linter.unusedVariables false

theorem wpListIn_look8 {P : Program} {k : TypeId} {w : World} {b n : Nat} {f : Value → Option Value} (h : MapIs P k w b n f) (K : Keyed P k) {t e : TypeId} (ht : P.underlying t = some (.map k e)) {z : Value} (hz : (zeroValue e).run P w = .ok z w) {F : Fence} {m0 : Nat} {ops : Array Oper} {rest : List Oper} {o : Oper} {a : Act} {Q : Exit → Act → World → Prop} (hg : o.guard = none) (m x : Operand) (hop : o.op = Op.lookup t m x true) (hm : a.eval m = .map (some b)) (key : Value) (kl : Lit) (hx : a.eval x = key) (hkey : keyOf P k key = some kl)
    (hK : wpListIn F m0 P ops Q rest (a.put o.dst (.tuple #[(f key).getD z, .bool (f key).isSome])) w) : wpListIn F m0 P ops Q (o :: rest) a w := by
  refine wpListIn_plain hg fun K' hK' => ?_
  have hrun := h.look K ht hz hkey true
  unfold Oper.wpIn
  refine ⟨by simp [Oper.about, hop], ?_⟩
  rw [Oper.semAt_plain F _ _ (by rw [hop]; intro c hc'; cases hc')]
  simp [execOp, hop, hm, hx, hrun, Result.andThen]
  exact hK' _ _ hK
theorem wpListIn_store8 {P : Program} {k : TypeId} {w : World} {b n : Nat} {f : Value → Option Value} (h : MapIs P k w b n f) (K : Keyed P k) {t e : TypeId} (ht : P.underlying t = some (.map k e)) (hn : n < maxLen) {F : Fence} {m0 : Nat} {ops : Array Oper} {rest : List Oper} {o : Oper} {a : Act} {Q : Exit → Act → World → Prop} (hgd : o.guard = none) (m x v : Operand) (hop : o.op = Op.mapUpdate t m x v) (hm : a.eval m = .map (some b)) (key val : Value) (kl : Lit) (hx : a.eval x = key) (hv : a.eval v = val)
    (hkey : keyOf P k key = some kl) (g : Value → Option Value) (hg : g key = some val) (hg2 : ∀ x, x ≠ key → g x = f x)
    (hK : ∀ w', MapIs P k w' b (n + 1) g → w.grownBy w' (some b) → wpListIn F m0 P ops Q rest (a.put o.dst undef) w') : wpListIn F m0 P ops Q (o :: rest) a w := by
  refine wpListIn_plain hgd fun K' hK' => ?_
  obtain ⟨w', hrun, r1, r2⟩ := h.store K ht hn hkey g hg hg2
  unfold Oper.wpIn
  refine ⟨by simp [Oper.about, hop], ?_⟩
  rw [Oper.semAt_plain F _ _ (by rw [hop]; intro c hc'; cases hc')]
  simp [execOp, hop, hm, hx, hv, hrun, Result.andThen]
  exact hK' _ _ (hK w' r1 r2)
/-- All that is named, or asked for, at an instruction. -/
def setI (q : Nat → Irx) (n i : Nat) : BitVec 64 := laterB q n i ||| usesB (q i) ||| setsB (q i)
/-- Where registers live, one place more. -/
def upS (S : Nat → Option (Nat × Nat)) (m r : Nat) : Nat × Nat := match S r with
  | none => (m, m)
  | some p => (p.1, m)
def spP (S : Nat → Option (Nat × Nat)) (m : Nat) (pre : List Nat) (r : Nat) : Option (Nat × Nat) := if r ∈ pre then some (upS S m r) else S r
def spN (q : Nat → Irx) (n : Nat) : Nat → Nat → Option (Nat × Nat)
  | 0, _ => none
  | m + 1, r => spP (spN q n m) m (bitsOf (setI q n m)) r
/-- .. as a map. -/
def spV (S : Nat → Option (Nat × Nat)) : Value → Option Value
  | .int .i64 z => if 0 ≤ z then (S z.toNat).map fun p => .agg #[.int .i64 z, .int .i64 (p.1 : Int), .int .i64 (p.2 : Int)] else none
  | _ => none
theorem spV_at (S : Nat → Option (Nat × Nat)) (x : Nat) : spV S (.int .i64 (x : Int)) = (S x).map fun p => .agg #[.int .i64 (x : Int), .int .i64 (p.1 : Int), .int .i64 (p.2 : Int)] := by
  unfold spV
  simp
theorem spV_other {S T : Nat → Option (Nat × Nat)} {x : Nat} (h : ∀ r, r ≠ x → S r = T r) (v : Value) (hv : v ≠ .int .i64 (x : Int)) : spV S v = spV T v := by
  unfold spV
  split
  · rename_i z
    by_cases g : 0 ≤ z
    · rw [if_pos g, if_pos g, h z.toNat (fun e => hv (by rw [show z = (x : Int) by omega]))]
    · rw [if_neg g, if_neg g]
  · rfl
theorem spP_snoc (S : Nat → Option (Nat × Nat)) (m : Nat) (pre : List Nat) (x r : Nat) : spP S m (pre ++ [x]) r = if r = x then some (upS S m x) else spP S m pre r := by
  unfold spP
  by_cases e : r = x
  · subst e; simp
  · by_cases g : r ∈ pre
    · simp [e, g]
    · simp [e, g]
theorem bits_up (s : BitVec 64) {pre : List Nat} {x : Nat} (h : pre ++ [x] <+: bitsOf s) : x ∉ pre := by
  have hn : (bitsOf s).Nodup := (List.nodup_range).filter _
  have := h.sublist.nodup hn
  rw [List.nodup_append] at this
  intro hx
  exact this.2.2 x hx x (by simp) rfl
end Go.Proofs.YtoajommeiocfpaaDoor
namespace Go.Proofs.YtoajommeiocfpaaDoor
open Go Go.RowKit Go.Shelf
attribute [local go_sem] Oper.semAt_some
set_option linter.unusedSimpArgs false
set_option linter.unusedVariables false

theorem i64_keyedL : Go.Maps.Keyed Tryd.prog 3 := Go.Maps.int_keyed Tryd.underlying3
theorem key_int (x : Nat) (hx : x ≤ 1000000) : keyOf Tryd.prog 3 (.int .i64 (x : Int)) = some (.int .i64 (x : Int)) := Go.Maps.keyOf_int_mk Tryd.underlying3 (by simp [Lit.wf, IntKind.min, IntKind.max, IntKind.bits, IntKind.signed]; omega)
theorem zero_span (W : World) : (zeroValue 45).run Tryd.prog W = .ok (.agg #[.int .i64 0, .int .i64 0, .int .i64 0]) W := Tryd.zeroValue45 W
theorem bitsOf_len (s : BitVec 64) : (bitsOf s).length ≤ 64 := Nat.le_trans (List.length_filter_le _ _) (by simp)
abbrev spO (r f t : Int) : Obj := .cells #[.int .i64 r, .int .i64 f, .int .i64 t] 45
/-- What stands while spans are gathered. -/
structure GaAt (w W : World) (regs : Int) (A : Option Addr) (n cap : Nat) (q : Nat → Irx) (sb k : Nat) (Ds : List Nat) : Prop where
  bel : Below w.heap.size w W
  box : W.heap[w.heap.size]? = some (mirO regs A n cap)
  mbx : Boxed W (w.heap.size + 2) 66 (.map (some (w.heap.size + 1)))
  mp : ∃ N, N ≤ 64 * k ∧ MapIs Tryd.prog 3 W (w.heap.size + 1) N (spV (spN q n k))
  sets : SetsAt W sb n (laterB q n)
  far : w.heap.size + 3 ≤ sb
  tb : TbD W
  marks : Marks (w.heap.size + 3) Ds W
/-- .. in one place's round. -/
structure GnAt (V : World) (mb N : Nat) (S : Nat → Option (Nat × Nat)) (k : Nat) (pre : List Nat) (W : World) : Prop where
  mp : ∃ N', N' ≤ N + pre.length ∧ MapIs Tryd.prog 3 W mb N' (spV (spP S k pre))
  gr : TurnL (fun j => j = mb) V W
theorem gn_own (V : World) (mb N : Nat) (S : Nat → Option (Nat × Nat)) (k : Nat) (hm : mb < V.heap.size) (ok : Obj → Bool) : Abide ok V.heap.size (GnAt V mb N S k) := fun pre X Y row h hg hr =>
  ⟨let ⟨N', h1, h2⟩ := h.mp; ⟨N', h1, h2.kept hg fun e => by have := (hr mb e.symm).1; omega⟩, h.gr.on hg fun r e => .inl (hr r e).1⟩
set_option maxHeartbeats 16000000 in
set_option maxRecDepth 100000 in
theorem p_gather (regs : Int) (A : Option Addr) (n cap : Nat) (q : Nat → Irx) (w : World) (h : IrAt w A n q) (hr : RightM regs q n) (ht : TbD w) :
    Calls Tryd.prog 24 #[mirV regs A n cap] w fun e w' => ∃ mb N, e = .returned (.map (some mb)) ∧ N ≤ 64 * n ∧ MapIs Tryd.prog 3 w' mb N (spV (spN q n n)) ∧ Below w.heap.size w w' := by
  obtain ⟨m, rfl⟩ : ∃ m : Nat, regs = (m : Int) := ⟨regs.toNat, by have := hr.rg; omega⟩
  have hmax := hr.max
  have hpos := hr.pos
  have HBh := Lib.hid (fun V (hV : IrAt V A n q) => p_behind (m : Int) A n cap q V hV hr)
  have HNm := Lib.hid (fun V i (hi : i < n) => p_namedV (q i) (fun z hz => by have := (use_right hr hi).1 z hz; have := hr.rg; omega) (by have := (use_right hr hi).2; have := hr.rg; omega) V)
  have HT := Lib.hid ht
  have HW := Lib.hid h
  have b0 := lboxM w (mirO (m : Int) A n cap)
  have hz : ((w.alloc (mirO (m : Int) A n cap)).alloc (.map #[] 0)).heap.size = w.heap.size + 2 := by simp
  have H0 : Hid (Below w.heap.size w (((w.alloc (mirO (m : Int) A n cap)).alloc (.map #[] 0)).alloc (.cells #[.map (some (w.heap.size + 1))] 66)) ∧ (((w.alloc (mirO (m : Int) A n cap)).alloc (.map #[] 0)).alloc (.cells #[.map (some (w.heap.size + 1))] 66)).heap[w.heap.size]? = some (mirO (m : Int) A n cap)
      ∧ Boxed (((w.alloc (mirO (m : Int) A n cap)).alloc (.map #[] 0)).alloc (.cells #[.map (some (w.heap.size + 1))] 66)) (w.heap.size + 2) 66 (.map (some (w.heap.size + 1)))
      ∧ MapIs Tryd.prog 3 (((w.alloc (mirO (m : Int) A n cap)).alloc (.map #[] 0)).alloc (.cells #[.map (some (w.heap.size + 1))] 66)) (w.heap.size + 1) 0 (fun _ => none)) := Lib.hid (by
    have h1 := MapIs.made (w.alloc (mirO (m : Int) A n cap)) Tryd.prog 3
    rw [show (w.alloc (mirO (m : Int) A n cap)).heap.size = w.heap.size + 1 by simp] at h1
    have h2 := Boxed.new ((w.alloc (mirO (m : Int) A n cap)).alloc (.map #[] 0)) 66 (.map (some (w.heap.size + 1)))
    rw [hz] at h2
    exact ⟨onM (onM b0 (lboxM _ _)) (lboxM _ _), kept_allocM (kept_allocM (World.alloc_heap_new w _) _) _, h2, h1.kept (World.grownBy_alloc _ _ none) (by simp)⟩)
  have x0 := cellM H0.out.2.1 0 rfl
  have x1 := cellM H0.out.2.1 1 rfl
  have hmm := @run_makeMap Tryd.prog
  clear h hr ht b0 hz
  refine (callsIn_wide (n := 16)).1 ?_
  refine callsIn_of_wp_marks Tryd.func24 rfl trivial ?_ rfl
  simp only [Tryd.ntmps24, List.size_toArray, List.length_cons, List.length_nil, Nat.reduceAdd, Nat.reduceSub, Array.replicate_succ, Array.replicate_zero, List.push_toArray, List.append_toArray, List.nil_append, List.cons_append]
  gi_wp2_with (refine ⟨trivial, ?_⟩; gi_at_call 21; refine (callsIn_wide.2 (HBh.out _ (HW.out.below H0.out.1))).mono ?_; rintro e w2 ⟨sb, rfl, hs, hb, hge⟩; have H2 := Lib.hid (And.intro hs (And.intro hb hge)); clear hs hb hge x0 x1)
  have HG : Hid (GaAt w w2 (m : Int) A n cap q sb 0 []) := Lib.hid ⟨onM H0.out.1 H2.out.2.1, keepM H0.out.2.1 H2.out.2.1, keepM H0.out.2.2.1 H2.out.2.1, ⟨0, by omega, (H0.out.2.2.2.same (H2.out.2.1.block _ H0.out.2.2.2.lt)).congr fun key kl hk => by
    unfold spV spN
    split
    · split <;> rfl
    · rfl⟩, H2.out.1, by have := H2.out.2.2; simp at this; omega, HT.out.below (onM H0.out.1 H2.out.2.1), Marks.nil _ _⟩
  clear H0 H2 HBh hmm
  refine wpIn_loop (fun a wr => ∃ (k : Nat) (Ds : List Nat) (u4 u5 u6 u7 u8 u9 u10 u16 u17 u18 u19 u20 u21 u22 u23 u24 u25 u26 u27 u28 u29 u30 u31 u32 u33 u34 u52 : Value), a = { tmps := #[mirV (m : Int) A n cap, .pointer (some ⟨w.heap.size, 0, none⟩), .map none, .pointer (some ⟨w.heap.size + 2, 0, none⟩), u4, u5, u6, u7, u8, u9, u10, .map (some (w.heap.size + 1)), mirV (m : Int) A n cap, .slice (some ⟨sb, 0, none⟩) n n, .int .i64 (n : Int), .int .i64 (k : Int), u16, u17, u18, u19, u20, u21, u22, u23, u24, u25, u26, u27, u28, u29, u30, u31, u32, u33, u34, undef, undef, undef, undef, undef, undef, undef, undef, undef, undef, undef, undef, undef, undef, undef, undef, undef, u52, undef], defers := marksL Ds } ∧ k ≤ n ∧ GaAt w wr (m : Int) A n cap q sb k Ds) (fun a _ => n - (intOf (a.tmps.getD 15 undef)).toNat) ?start ?round
  case start => exact ⟨0, [], _, _, _, _, _, _, _, _, _, _, _, _, _, _, _, _, _, _, _, _, _, _, _, _, _, _, _, rfl, Nat.zero_le _, HG.out⟩
  case round =>
    rintro a wr ⟨k, Ds, u4, u5, u6, u7, u8, u9, u10, u16, u17, u18, u19, u20, u21, u22, u23, u24, u25, u26, u27, u28, u29, u30, u31, u32, u33, u34, u52, rfl, hk, hG⟩
    have HGk := Lib.hid hG
    clear HG
    by_cases hlt : k < n
    · have hlt' : (k : Int) < (n : Int) := by omega
      have hwm : IntKind.i64.wrap ((k : Int) + 1) = (k : Int) + 1 := IntWalk.i64_in _ (by omega)
      have cs := (hG.sets.cell hlt).1
      have x1 := cellM (kept_allocM hG.box (.cells #[.int .i64 (k : Int)] 3)) 1 (v := .slice A n cap) rfl
      obtain ⟨ib, io, rfl, hil, c0, c1, c2, c3, c4, c5, c6⟩ := ir_at ((HW.out.below hG.bel).below (lboxM wr (.cells #[.int .i64 (k : Int)] 3))) hlt
      have HZ := Lib.hid (HNm.out (wr.alloc (.cells #[.int .i64 (k : Int)] 3)) k hlt)
      have e1 := bits_or (laterB q n k) (usesB (q k))
      obtain ⟨U1, hU1⟩ : ∃ U1, laterB q n k ||| usesB (q k) = U1 := ⟨_, rfl⟩
      rw [hU1] at e1
      have e2 : bits BinOp.or IntKind.u64 (U1.toNat : Int) ((setsB (q k)).toNat : Int) = ((setI q n k).toNat : Int) := by
        unfold setI
        rw [hU1]; exact bits_or _ _
      clear hU1
      clear hG
      gi_wp2_with (first
        | (refine ⟨trivial, ?_⟩; gi_at_call 38; refine (callsIn_wide.2 HZ.out).mono ?_; rintro e w3 ⟨rfl, hb⟩; have H3 := Lib.hid hb; clear hb cs x1 c0 c1 c2 c3 c4 c5 c6)
        | (refine ⟨trivial, ?_⟩; gi_at_call 39; refine (callsIn_wide.2 (p_allV (setI q n k) _)).mono ?_; rintro e wc ⟨rfl, rfl⟩))
      have HB3 : Hid (Below wr.heap.size wr w3 ∧ w3.heap[wr.heap.size]? = some (.cells #[.int .i64 (k : Int)] 3)) := Lib.hid ⟨onM (lboxM wr _) H3.out, keepM (World.alloc_heap_new wr _) H3.out⟩
      have HV : Hid (Below wr.heap.size wr (w3.alloc (.cells #[.int .u64 ((setI q n k).toNat : Int)] 63)) ∧ Boxed (w3.alloc (.cells #[.int .u64 ((setI q n k).toNat : Int)] 63)) wr.heap.size 3 (.int .i64 (k : Int)) ∧ Boxed (w3.alloc (.cells #[.int .u64 ((setI q n k).toNat : Int)] 63)) w3.heap.size 63 (.int .u64 ((setI q n k).toNat : Int)) ∧ w3.heap.size < (w3.alloc (.cells #[.int .u64 ((setI q n k).toNat : Int)] 63)).heap.size) := Lib.hid
        ⟨onM HB3.out.1 (lboxM w3 _), kept_allocM HB3.out.2 _, Boxed.new w3 _ _, by simp⟩
      obtain ⟨N, hN, hMp⟩ := HGk.out.mp
      have HK : Hid (GnAt (w3.alloc (.cells #[.int .u64 ((setI q n k).toNat : Int)] 63)) (w.heap.size + 1) N (spN q n k) k [] (w3.alloc (.cells #[.int .u64 ((setI q n k).toNat : Int)] 63))) := Lib.hid ⟨⟨N, by simp, (hMp.same (HV.out.1.block _ hMp.lt)).congr fun key kl hk => by
        have : spP (spN q n k) k [] = spN q n k := by funext r; unfold spP; simp
        rw [this]⟩, TurnL.refl _ _⟩
      have hmblt : w.heap.size + 1 < wr.heap.size := hMp.lt
      have hmx : w.heap.size + 2 < wr.heap.size := HGk.out.mbx.lt
      clear H3 hMp HZ e1 e2 HNm
      have hw3 : wr.heap.size < w3.heap.size := (Array.getElem?_eq_some_iff.1 HB3.out.2).1
      generalize hB : w3.heap.size = Bs at HV hw3 ⊢
      generalize w3.alloc (.cells #[.int .u64 ((setI q n k).toNat : Int)] 63) = V at HV HK ⊢
      have hVz := HV.out.2.2.2
      have hg0 := HT.out.lt
      have HTV := Lib.hid (HGk.out.tb.below HV.out.1)
      have HS := Lib.hid (fun m' hm' => all_stops (setI q n k) Bs okN m' hm' V HV.out.2.2.1 HTV.out)
      refine rangeO10 okN okN_rest (K := allK Bs) (a₁ := fun a x => var10 #[35] 8 (encR x) (.int .i64 (x : Int)) a) rfl (by decide) (gf := 52) (lb := #[.pointer (some ⟨Bs, 0, none⟩)]) rfl trivial (enters_of Tryd.func52 (by kernel_rfl) rfl)
        (HS.out (16 - 1) (by decide)) (fun j r hj h => by cases h.2) (fun _ => rfl) (GnAt V (w.heap.size + 1) N (spN q n k) k) (gn_own V (w.heap.size + 1) N (spN q n k) k (by omega) okN) HK.out ?assign ?body ?don
      case assign =>
        intro l2 x W2 kk hkk
        have HKK := Lib.hid hkk
        clear hkk
        gi_wp2
        exact HKK.out _ (by simp [encR])
      case body =>
        rintro l2 r2 pre x a' W2 rfl hl2 hr2 hI hpre
        have hx64 : x < 64 := (mem_bitsTo.1 (hpre.subset (by simp))).1
        have hnx := bits_up _ hpre
        have cb := (hI.gr.box ((HV.out.1.block _ HGk.out.mbx.lt).trans HGk.out.mbx) (by omega)).cell
        have ca := (hI.gr.box HV.out.2.1 (by omega)).cell
        obtain ⟨N', hN', hM⟩ := hI.mp
        have hml := hM.lt
        have hsx : spP (spN q n k) k pre x = spN q n k x := by unfold spP; rw [if_neg hnx]
        have hlen : (pre ++ [x]).length = pre.length + 1 := by simp
        have hprl : pre.length ≤ 64 := by
          have := hpre.length_le
          have h64 := bitsOf_len (setI q n k)
          omega
        have HM := Lib.hid hM
        have HI := Lib.hid hI
        have halt : wr.heap.size < W2.heap.size := by have := hI.gr.size; omega
        have hblt : w.heap.size + 2 < W2.heap.size := by omega
        have HE : Hid (∀ (f : Nat) (W' W4 : World), spN q n k x = none ∧ f = k ∨ (∃ t, spN q n k x = some (f, t)) → Below W2.heap.size W2 W' → MapIs Tryd.prog 3 W4 (w.heap.size + 1) (N' + 1) (spV (spP (spN q n k) k (pre ++ [x]))) → W'.grownBy W4 (some (w.heap.size + 1)) → KeepsFrom V.heap.size W2 W4 ∧ KeepO (allK Bs) W2 W4 ∧ GnAt V (w.heap.size + 1) N (spN q n k) k (pre ++ [x]) W4) := Lib.hid fun f W' W4 _ hb hm4 hg => by
          have hgr : W2.grownBy W4 (some (w.heap.size + 1)) := ⟨hg.os.trans hb.os, hg.tape.trans hb.tape, hg.output.trans hb.output, Nat.le_trans hb.size hg.size, fun j hj hne => (hg.block j (Nat.lt_of_lt_of_le hj hb.size) hne).trans (hb.block j hj)⟩
          refine ⟨KeepsFrom.of_grownBy hgr fun j e => (by cases e; omega), KeepO.of_grown hgr fun r e o ho hk => ?_, ⟨N' + 1, by rw [hlen]; omega, hm4⟩, HI.out.gr.on hgr fun r e => .inr (by cases e; rfl)⟩
          cases e
          obtain ⟨es, ck, hmm⟩ := HM.out.is_map
          rw [hmm] at ho; cases ho
          cases hk.2
        have HG : Hid (∀ f : Nat, (spN q n k x = none ∧ f = k ∨ ∃ t, spN q n k x = some (f, t)) → spV (spP (spN q n k) k (pre ++ [x])) (.int .i64 (x : Int)) = some (.agg #[.int .i64 (x : Int), .int .i64 (f : Int), .int .i64 (k : Int)])) := Lib.hid fun f hf => by
          rw [spV_at, spP_snoc, if_pos rfl]
          unfold upS
          rcases hf with ⟨h1, h2⟩ | ⟨t, h1⟩
          · rw [h1, h2]; rfl
          · rw [h1]; rfl
        have HO : Hid (∀ v, v ≠ Value.int .i64 (x : Int) → spV (spP (spN q n k) k (pre ++ [x])) v = spV (spP (spN q n k) k pre) v) := Lib.hid fun v hv => spV_other (fun r hr => by rw [spP_snoc, if_neg hr]) v hv
        have hlk := spV_at (spP (spN q n k) k pre) x
        rw [hsx] at hlk
        have HKx := Lib.hid (key_int x (by omega))
        have hmax' : N' < maxLen := by unfold maxLen; omega
        clear hI hM hpre hnx hN hN'
        cases hs : spN q n k x with
        | none =>
          rw [hs] at hlk HE HG
          have hlk' : spV (spP (spN q n k) k pre) (.int .i64 (x : Int)) = none := hlk
          generalize spV (spP (spN q n k) k (pre ++ [x])) = g1 at *
          generalize spV (spP (spN q n k) k pre) = g0 at *
          have ca0 := ((lboxM W2 (spO 0 0 0)).cell (p := ⟨wr.heap.size, 0, none⟩) halt).trans ca
          have ca1 := ((lboxM W2 (spO (x : Int) (k : Int) 0)).cell (p := ⟨wr.heap.size, 0, none⟩) halt).trans ca
          have cb2 := ((lboxM W2 (spO (x : Int) (k : Int) (k : Int))).cell (p := ⟨w.heap.size + 2, 0, none⟩) hblt).trans cb
          have HA2 := Lib.hid (And.intro (lboxM W2 (spO (x : Int) (k : Int) (k : Int))) (HM.out.same ((lboxM W2 (spO (x : Int) (k : Int) (k : Int))).block _ hml)))
          gi_wp2_with (first
            | (gi_at_lookup; refine wpListIn_look8 HM.out i64_keyedL Tryd.underlying66 (zero_span _) rfl (.tmp 37) (.tmp 38) rfl rfl (.int .i64 (x : Int)) (.int .i64 (x : Int)) rfl HKx.out ?_; rw [hlk']; simp only [Option.getD_none, Option.isSome_none])
            | (gi_at_mapUpdate; refine wpListIn_store8 HA2.out.2 i64_keyedL Tryd.underlying66 hmax' rfl (.tmp 49) (.tmp 50) (.tmp 51) rfl rfl (.int .i64 (x : Int)) (.agg #[.int .i64 (x : Int), .int .i64 (k : Int), .int .i64 (k : Int)]) (.int .i64 (x : Int)) rfl rfl HKx.out _ (HG.out k (.inl ⟨rfl, rfl⟩)) HO.out ?_; intro w4 hm4 hg4; have H4 := Lib.hid (HE.out k _ w4 (.inl ⟨rfl, rfl⟩) HA2.out.1 hm4 hg4); clear hm4 hg4))
          exact H4.out
        | some p =>
          rw [hs] at hlk HE HG
          have hlk' : spV (spP (spN q n k) k pre) (.int .i64 (x : Int)) = some (.agg #[.int .i64 (x : Int), .int .i64 (p.1 : Int), .int .i64 (p.2 : Int)]) := hlk
          generalize spV (spP (spN q n k) k (pre ++ [x])) = g1 at *
          generalize spV (spP (spN q n k) k pre) = g0 at *
          have ca0 := ((lboxM W2 (spO (x : Int) (p.1 : Int) (p.2 : Int))).cell (p := ⟨wr.heap.size, 0, none⟩) halt).trans ca
          have cb2 := ((lboxM W2 (spO (x : Int) (p.1 : Int) (k : Int))).cell (p := ⟨w.heap.size + 2, 0, none⟩) hblt).trans cb
          have HA2 := Lib.hid (And.intro (lboxM W2 (spO (x : Int) (p.1 : Int) (k : Int))) (HM.out.same ((lboxM W2 (spO (x : Int) (p.1 : Int) (k : Int))).block _ hml)))
          gi_wp2_with (first
            | (gi_at_lookup; refine wpListIn_look8 HM.out i64_keyedL Tryd.underlying66 (zero_span _) rfl (.tmp 37) (.tmp 38) rfl rfl (.int .i64 (x : Int)) (.int .i64 (x : Int)) rfl HKx.out ?_; rw [hlk']; simp only [Option.getD_some, Option.isSome_some])
            | (gi_at_mapUpdate; refine wpListIn_store8 HA2.out.2 i64_keyedL Tryd.underlying66 hmax' rfl (.tmp 49) (.tmp 50) (.tmp 51) rfl rfl (.int .i64 (x : Int)) (.agg #[.int .i64 (x : Int), .int .i64 (p.1 : Int), .int .i64 (k : Int)]) (.int .i64 (x : Int)) rfl rfl HKx.out _ (HG.out p.1 (.inr ⟨p.2, rfl⟩)) HO.out ?_; intro w4 hm4 hg4; have H4 := Lib.hid (HE.out p.1 _ w4 (.inr ⟨p.2, rfl⟩) HA2.out.1 hm4 hg4); clear hm4 hg4))
          exact H4.out
      case don =>
        rintro W2 hI hd
        have HN2 : Hid (GaAt w W2 (m : Int) (some ⟨ib, io, none⟩) n cap q sb (k + 1) (V.heap.size :: Ds)) := Lib.hid (by
          obtain ⟨N', h1, h2⟩ := hI.mp
          have hsz := HV.out.1.size
          have hgs := hI.gr.size
          have hfar := HGk.out.far
          have hbl : ∀ j, j < wr.heap.size → j ≠ w.heap.size + 1 → W2.heap[j]? = wr.heap[j]? := fun j hj hne => (hI.gr.block j (by omega) hne).trans (HV.out.1.block j hj)
          have hblen := bitsOf_len (setI q n k)
          refine ⟨hI.gr.below (onM HGk.out.bel HV.out.1) (fun j e => by omega) (by omega), (hbl _ (by omega) (by omega)).trans HGk.out.box, (hbl _ (by omega) (by omega)).trans HGk.out.mbx, ⟨N', by omega, h2⟩, ?_, hfar, ⟨by omega, fun j hj => (World.cell?_of_block (a := ⟨0, j, none⟩) (hbl 0 (by omega) (by omega))).trans (HGk.out.tb.cell j hj)⟩, ?_⟩
          · obtain ⟨c, g1, g2⟩ := HGk.out.sets
            exact ⟨c, (hbl sb (Array.getElem?_eq_some_iff.1 g1).1 (by omega)).trans g1, g2⟩
          · exact (HGk.out.marks.on fun D hD ho => (hbl D (HGk.out.marks.lt hD) (by have := (HGk.out.marks.2 D hD).1; omega)).trans ho).cons (by omega) (fun hm => by have := HGk.out.marks.lt hm; omega) hd)
        clear hI hd HS HK HV HTV
        gi_wp2
        exact ⟨⟨k + 1, V.heap.size :: Ds, _, _, _, _, _, _, _, _, _, _, _, _, _, _, _, _, _, _, _, _, _, _, _, _, _, _, _, rfl, by omega, HN2.out⟩, by simp [intOf]; omega⟩
    · obtain rfl : k = n := by omega
      clear hG
      have cm := HGk.out.mbx.cell
      gi_wp2
      refine marks_leave (B := w.heap.size + 3) (T := fun Z => ∃ N, N ≤ 64 * k ∧ MapIs Tryd.prog 3 Z (w.heap.size + 1) N (spV (spN q k k)) ∧ Below w.heap.size w Z) (fun Z E hZ hE ho => ?_) (fun Z hZ => ?_) Ds wr HGk.out.marks ?_
      · obtain ⟨N, h1, h2, h3⟩ := hZ
        exact ⟨N, h1, h2.kept (grownBy_putObj' Z E (.deferred none)) (by simp; omega), h3.grown (grownBy_putObj' Z E (.deferred none)) h3.size (fun k e => by cases e; omega)⟩
      · obtain ⟨N, h1, h2, h3⟩ := hZ
        exact ⟨_, results_tmp rfl _ _ _, _, N, rfl, h1, h2, h3⟩
      · obtain ⟨N, h1, h2⟩ := HGk.out.mp
        exact ⟨N, h1, h2, HGk.out.bel⟩
end Go.Proofs.YtoajommeiocfpaaDoor
namespace Go.Proofs.YtoajommeiocfpaaDoor
open Go Go.RowKit Go.Sort
set_option linter.unusedSimpArgs false
set_option linter.unusedVariables false
set_option maxRecDepth 100000

def cmpZ (x y : Int) : Int := if x < y then -1 else if y < x then 1 else 0
theorem p_isNaN (x : Int) (w : World) : Calls Tryd.prog 56 #[.int .i64 x] w fun e w' => e = .returned (.bool false) ∧ w' = w := by
  go_enter Tryd.func56, Tryd.ntmps56
  go_wp2
  go_ret
  exact ⟨by simp, rfl⟩
theorem p_Compare (x y : Int) (w : World) : Calls Tryd.prog 43 #[.int .i64 x, .int .i64 y] w fun e w' => e = .returned (.int .i64 (cmpZ x y)) ∧ w' = w := by
  have HN := Lib.hid (fun z V => p_isNaN z V)
  unfold cmpZ
  by_cases h1 : x < y
  · rw [if_pos h1]
    go_enter Tryd.func43, Tryd.ntmps43
    go_wp2_with (go_at_call 56; (refine (HN.out _ _).mono ?_); rintro e w1 ⟨rfl, rfl⟩)
    go_ret
    exact ⟨rfl, rfl⟩
  · rw [if_neg h1]
    by_cases h2 : y < x
    · rw [if_pos h2]
      go_enter Tryd.func43, Tryd.ntmps43
      go_wp2_with (go_at_call 56; (refine (HN.out _ _).mono ?_); rintro e w1 ⟨rfl, rfl⟩)
      go_ret
      exact ⟨rfl, rfl⟩
    · rw [if_neg h2]
      go_enter Tryd.func43, Tryd.ntmps43
      go_wp2_with (go_at_call 56; (refine (HN.out _ _).mono ?_); rintro e w1 ⟨rfl, rfl⟩)
      go_ret
      exact ⟨rfl, rfl⟩
theorem p_Or2 (x y : Int) (b : Nat) (w : World) (h : w.heap[b]? = some (.cells #[.int .i64 x, .int .i64 y] 3)) : Calls Tryd.prog 42 #[.slice (some ⟨b, 0, none⟩) 2 2] w fun e w' => e = .returned (.int .i64 (if x = 0 then y else x)) ∧ w' = w := by
  have c0 := cellM h 0 (v := .int .i64 x) rfl
  have c1 := cellM h 1 (v := .int .i64 y) rfl
  clear h
  have hx : (x != 0) = !decide (x = 0) := by by_cases g : x = 0 <;> simp [g]
  have hy : (y != 0) = !decide (y = 0) := by by_cases g : y = 0 <;> simp [g]
  by_cases g : x = 0
  · rw [if_pos g]
    subst g
    by_cases g2 : y = 0
    · subst g2
      go_enter Tryd.func42, Tryd.ntmps42
      go_wp2
      go_loopw [8] (fun i wr => ∃ k : Nat, k ≤ 2 ∧ i = .int .i64 (k : Int) ∧ wr = w) (fun i _ => 2 - (intOf i).toNat)
      case atStart => exact ⟨0, by omega, rfl, rfl⟩
      case round =>
        obtain ⟨k, hk, rfl, rfl⟩ := hrel
        rcases (show k = 0 ∨ k = 1 ∨ k = 2 by omega) with rfl | rfl | rfl
        · go_wp2
          exact ⟨⟨1, by omega, rfl, trivial⟩, by simp [intOf]⟩
        · go_wp2
          exact ⟨⟨2, by omega, rfl, trivial⟩, by simp [intOf]⟩
        · go_wp2
          go_ret
          exact ⟨rfl, rfl⟩
    · have g3 : (y != 0) = true := bne_iff_ne.2 g2
      go_enter Tryd.func42, Tryd.ntmps42
      go_wp2
      go_loopw [8] (fun i wr => ∃ k : Nat, k ≤ 1 ∧ i = .int .i64 (k : Int) ∧ wr = w) (fun i _ => 2 - (intOf i).toNat)
      case atStart => exact ⟨0, by omega, rfl, rfl⟩
      case round =>
        obtain ⟨k, hk, rfl, rfl⟩ := hrel
        rcases (show k = 0 ∨ k = 1 by omega) with rfl | rfl
        · go_wp2
          exact ⟨⟨1, by omega, rfl, trivial⟩, by simp [intOf]⟩
        · go_wp2
          go_ret
          exact ⟨rfl, rfl⟩
  · rw [if_neg g]
    have g3 : (x != 0) = true := bne_iff_ne.2 g
    go_enter Tryd.func42, Tryd.ntmps42
    go_wp2
    go_loopw [8] (fun i wr => i = .int .i64 0 ∧ wr = w) (fun i _ => 2 - (intOf i).toNat)
    case atStart => exact ⟨rfl, rfl⟩
    case round =>
      obtain ⟨rfl, rfl⟩ := hrel
      go_wp2
      go_ret
      exact ⟨rfl, rfl⟩
/-- A span: its register, from where, to where. -/
abbrev Spx := Int × Int × Int
def encS (x : Spx) : List Value := [.int .i64 x.1, .int .i64 x.2.1, .int .i64 x.2.2]
def cmpS (x y : Spx) : Int := if cmpZ x.2.1 y.2.1 = 0 then cmpZ x.1 y.1 else cmpZ x.2.1 y.2.1
set_option maxHeartbeats 4000000 in
theorem p_cmpS (x y : Spx) (W : World) : Calls Tryd.prog 41 #[.agg #[.int .i64 x.1, .int .i64 x.2.1, .int .i64 x.2.2], .agg #[.int .i64 y.1, .int .i64 y.2.1, .int .i64 y.2.2]] W fun e w' => e = .returned (.int .i64 (cmpS x y)) ∧ ∃ q os', w' = Sort.grow (W.drewN q) os' := by
  obtain ⟨xr, xf, xt⟩ := x
  obtain ⟨yr, yf, yt⟩ := y
  unfold cmpS
  simp only
  have HC := Lib.hid (fun a b V => p_Compare a b V)
  have HO := Lib.hid (fun a b k V hV => p_Or2 a b k V hV)
  generalize cmpZ = cz at HC ⊢
  have HO := Lib.hid (fun k V hV => HO.out (cz xf yf) (cz xr yr) k V hV)
  generalize (if cz xf yf = 0 then cz xr yr else cz xf yf) = r at HO ⊢
  have H0 : Hid (((W.alloc (spO xr xf xt)).alloc (spO yr yf yt)).heap[W.heap.size]? = some (spO xr xf xt) ∧ ((W.alloc (spO xr xf xt)).alloc (spO yr yf yt)).heap[W.heap.size + 1]? = some (spO yr yf yt)) := Lib.hid (by
    have h2 := World.alloc_heap_new (W.alloc (spO xr xf xt)) (spO yr yf yt)
    rw [World.size_alloc] at h2
    exact ⟨kept_allocM (World.alloc_heap_new W _) _, h2⟩)
  go_enter Tryd.func41, Tryd.ntmps41
  go_wp2
  refine wp_region_held_drew (S := fun W' => W'.heap[W.heap.size]? = some (spO xr xf xt) ∧ W'.heap[W.heap.size + 1]? = some (spO yr yf yt)) (by kernel_rfl) ⟨H0.out.1, H0.out.2⟩ (fun hHeld => ?_)
  have HW : Hid (∃ q os', ((W.alloc (spO xr xf xt)).alloc (spO yr yf yt)).drew = Sort.grow (W.drewN q) os') := Lib.hid ⟨1, #[spO xr xf xt] ++ #[spO yr yf yt], by rw [alloc_eq_grow, alloc_eq_grow, grow_grow, drew_grow]; rfl⟩
  clear H0
  generalize ((W.alloc (spO xr xf xt)).alloc (spO yr yf yt)).drew = Y at HW hHeld ⊢
  refine wpAnyH_take (i := 0) (v := ?_) rfl (by kernel_rfl) (by kernel_rfl) (by kernel_rfl) (fun _ _ _ h => h) (Or.inl ⟨by rfl, ?_⟩) (by assumption) ?_
  rotate_left
  · intro wS hSw
    (have d0 := cellM hSw.1 0 rfl; have d1 := cellM hSw.1 1 rfl; have d2 := cellM hSw.2 0 rfl; have d3 := cellM hSw.2 1 rfl)
    go_simp
    all_goals with_reducible rfl
  (try simp only [List.getElem_toArray, List.getElem_cons_zero, List.getElem_cons_succ, Act.put, List.setIfInBounds_toArray, List.set_cons_zero, List.set_cons_succ])
  refine wpAnyH_take (i := 1) (v := ?_) rfl (by kernel_rfl) (by kernel_rfl) (by kernel_rfl) (fun _ _ _ h => h) (Or.inl ⟨by rfl, ?_⟩) (by assumption) ?_
  rotate_left
  · intro wS hSw
    (have d0 := cellM hSw.1 0 rfl; have d1 := cellM hSw.1 1 rfl; have d2 := cellM hSw.2 0 rfl; have d3 := cellM hSw.2 1 rfl)
    go_simp
    all_goals with_reducible rfl
  (try simp only [List.getElem_toArray, List.getElem_cons_zero, List.getElem_cons_succ, Act.put, List.setIfInBounds_toArray, List.set_cons_zero, List.set_cons_succ])
  refine wpAnyH_take (i := 2) (v := ?_) rfl (by kernel_rfl) (by kernel_rfl) (by kernel_rfl) (fun _ _ _ h => h) (Or.inl ⟨by rfl, ?_⟩) (by assumption) ?_
  rotate_left
  · intro wS hSw
    (have d0 := cellM hSw.1 0 rfl; have d1 := cellM hSw.1 1 rfl; have d2 := cellM hSw.2 0 rfl; have d3 := cellM hSw.2 1 rfl)
    go_simp
    all_goals with_reducible rfl
  (try simp only [List.getElem_toArray, List.getElem_cons_zero, List.getElem_cons_succ, Act.put, List.setIfInBounds_toArray, List.set_cons_zero, List.set_cons_succ])
  refine wpAnyH_take (i := 3) (v := ?_) rfl (by kernel_rfl) (by kernel_rfl) (by kernel_rfl) (fun _ _ _ h => h) (Or.inl ⟨by rfl, ?_⟩) (by assumption) ?_
  rotate_left
  · intro wS hSw
    (have d0 := cellM hSw.1 0 rfl; have d1 := cellM hSw.1 1 rfl; have d2 := cellM hSw.2 0 rfl; have d3 := cellM hSw.2 1 rfl)
    go_simp
    all_goals with_reducible rfl
  (try simp only [List.getElem_toArray, List.getElem_cons_zero, List.getElem_cons_succ, Act.put, List.setIfInBounds_toArray, List.set_cons_zero, List.set_cons_succ])
  refine wpAnyH_take (i := 5) (v := ?_) rfl (by kernel_rfl) (by kernel_rfl) (by kernel_rfl) (fun _ _ _ h => h) (Or.inl ⟨by rfl, ?_⟩) (by assumption) ?_
  rotate_left
  · intro wS hSw
    (have d0 := cellM hSw.1 0 rfl; have d1 := cellM hSw.1 1 rfl; have d2 := cellM hSw.2 0 rfl; have d3 := cellM hSw.2 1 rfl)
    go_simp
    all_goals with_reducible rfl
  (try simp only [List.getElem_toArray, List.getElem_cons_zero, List.getElem_cons_succ, Act.put, List.setIfInBounds_toArray, List.set_cons_zero, List.set_cons_succ])
  refine wpAnyH_take (i := 6) (v := ?_) rfl (by kernel_rfl) (by kernel_rfl) (by kernel_rfl) (fun _ _ _ h => h) (Or.inl ⟨by rfl, ?_⟩) (by assumption) ?_
  rotate_left
  · intro wS hSw
    (have d0 := cellM hSw.1 0 rfl; have d1 := cellM hSw.1 1 rfl; have d2 := cellM hSw.2 0 rfl; have d3 := cellM hSw.2 1 rfl)
    go_simp
    all_goals with_reducible rfl
  (try simp only [List.getElem_toArray, List.getElem_cons_zero, List.getElem_cons_succ, Act.put, List.setIfInBounds_toArray, List.set_cons_zero, List.set_cons_succ])
  refine wpAnyH_take (i := 7) (v := ?_) rfl (by kernel_rfl) (by kernel_rfl) (by kernel_rfl) (fun _ _ _ h => h) (Or.inl ⟨by rfl, ?_⟩) (by assumption) ?_
  rotate_left
  · intro wS hSw
    (have d0 := cellM hSw.1 0 rfl; have d1 := cellM hSw.1 1 rfl; have d2 := cellM hSw.2 0 rfl; have d3 := cellM hSw.2 1 rfl)
    go_simp
    all_goals with_reducible rfl
  (try simp only [List.getElem_toArray, List.getElem_cons_zero, List.getElem_cons_succ, Act.put, List.setIfInBounds_toArray, List.set_cons_zero, List.set_cons_succ])
  refine wpAnyH_take (i := 8) (v := ?_) rfl (by kernel_rfl) (by kernel_rfl) (by kernel_rfl) (fun _ _ _ h => h) (Or.inl ⟨by rfl, ?_⟩) (by assumption) ?_
  rotate_left
  · intro wS hSw
    (have d0 := cellM hSw.1 0 rfl; have d1 := cellM hSw.1 1 rfl; have d2 := cellM hSw.2 0 rfl; have d3 := cellM hSw.2 1 rfl)
    go_simp
    all_goals with_reducible rfl
  (try simp only [List.getElem_toArray, List.getElem_cons_zero, List.getElem_cons_succ, Act.put, List.setIfInBounds_toArray, List.set_cons_zero, List.set_cons_succ])
  refine held_one (i := 4) (by kernel_rfl) rfl (fun K hK => ?_)
  go_simp
  go_at_call 43
  refine (HC.out _ _ _).mono ?_
  rintro e w2 ⟨rfl, rfl⟩
  refine hK.out _ _ hHeld (fun hH1 => ?_)
  clear hK K
  (try simp only [Act.put, List.setIfInBounds_toArray, List.set_cons_zero, List.set_cons_succ, List.getElem_toArray, List.getElem_cons_zero, List.getElem_cons_succ])
  refine held_one (i := 9) (by kernel_rfl) rfl (fun K hK => ?_)
  go_simp
  go_at_call 43
  refine (HC.out _ _ _).mono ?_
  rintro e w2 ⟨rfl, rfl⟩
  refine hK.out _ _ hH1 (fun hH2 => ?_)
  clear hK K
  (try simp only [Act.put, List.setIfInBounds_toArray, List.set_cons_zero, List.set_cons_succ, List.getElem_toArray, List.getElem_cons_zero, List.getElem_cons_succ])
  have hne : W.heap.size < w2.heap.size := (Array.getElem?_eq_some_iff.1 hH2.1).1
  have HA : Hid ((w2.alloc (.cells #[.int .i64 (cz xf yf), .int .i64 (cz xr yr)] 3)).heap[W.heap.size]? = some (spO xr xf xt) ∧ (w2.alloc (.cells #[.int .i64 (cz xf yf), .int .i64 (cz xr yr)] 3)).heap[W.heap.size + 1]? = some (spO yr yf yt)) := Lib.hid ⟨kept_allocM hH2.1 _, kept_allocM hH2.2 _⟩
  have HB := Lib.hid (World.alloc_heap_new w2 (.cells #[.int .i64 (cz xf yf), .int .i64 (cz xr yr)] 3))
  have HW2 : Hid (∃ q os', w2.alloc (.cells #[.int .i64 (cz xf yf), .int .i64 (cz xr yr)] 3) = Sort.grow (W.drewN q) os') := Lib.hid (by
    obtain ⟨q, os, e⟩ := HW.out
    exact ⟨q, os ++ #[.cells #[.int .i64 (cz xf yf), .int .i64 (cz xr yr)] 3], by rw [e, alloc_eq_grow, grow_grow]⟩)
  refine held_one (i := 10) (by kernel_rfl) rfl (fun K hK => ?_)
  go_simp
  refine hK.out _ _ HA.out (fun hH3 => ?_)
  clear hK K
  (try simp only [Act.put, List.setIfInBounds_toArray, List.set_cons_zero, List.set_cons_succ, List.getElem_toArray, List.getElem_cons_zero, List.getElem_cons_succ])
  refine held_one (i := 11) (by kernel_rfl) rfl (fun K hK => ?_)
  go_simp
  go_at_call 42
  refine (HO.out _ _ HB.out).mono ?_
  rintro e w3 ⟨rfl, rfl⟩
  refine hK.out _ _ hH3 (fun hH4 => ?_)
  clear hK K
  (try simp only [Act.put, List.setIfInBounds_toArray, List.set_cons_zero, List.set_cons_succ, List.getElem_toArray, List.getElem_cons_zero, List.getElem_cons_succ])
  refine wpAnyH_take (i := 12) (v := ?_) rfl (by kernel_rfl) (by kernel_rfl) (by kernel_rfl) (fun _ _ _ h => h) (Or.inl ⟨by rfl, ?_⟩) (by assumption) ?_
  rotate_left
  · intro wS hSw
    (skip)
    go_simp
    all_goals with_reducible rfl
  (try simp only [List.getElem_toArray, List.getElem_cons_zero, List.getElem_cons_succ, Act.put, List.setIfInBounds_toArray, List.set_cons_zero, List.set_cons_succ])
  refine wpAnyH_done (by kernel_rfl) ?_ _
  go_wp2
  go_ret
  exact ⟨rfl, HW2.out⟩
end Go.Proofs.YtoajommeiocfpaaDoor
namespace Go.Proofs.YtoajommeiocfpaaDoor
open Go Go.RowKit
set_option linter.unusedSimpArgs false
set_option linter.unusedVariables false
set_option maxRecDepth 100000

theorem under_ms : Tryd.prog.underlying 66 = some (.map 3 45) := Tryd.underlying66
theorem info_span : (Tryd.prog.info? 45).map (fun i => (i.zero, i.size, i.bytes)) = some (some (.agg #[.int .i64 0, .int .i64 0, .int .i64 0]), 3, 24) := by kernel_rfl
theorem int_key_inv {key : Value} {kl : Lit} (h : keyOf Tryd.prog 3 key = some kl) : ∃ z : Int, key = .int .i64 z ∧ kl = .int .i64 z := by
  obtain ⟨x, h1, h2, _⟩ := Go.Maps.keyOf_int_inv Tryd.underlying3 h
  exact ⟨x, h1, h2⟩
theorem same_keyL {k r : Nat} (hk : k ≤ 1000000) (hr : r ≤ 1000000) : (Lit.int .i64 (k : Int)).sameKey (Lit.int .i64 (r : Int)) = decide (k = r) := by
  have h1 := key_int k hk
  have h2 := key_int r hr
  by_cases e : k = r
  · subst e
    rw [decide_eq_true rfl]; exact Go.WideAt.sameKey_self (i64_keyedL.key h1)
  · rw [decide_eq_false e]
    cases h : (Lit.int .i64 (k : Int)).sameKey (Lit.int .i64 (r : Int)) with
    | false => rfl
    | true =>
      have := i64_keyedL.inj h1 (by rw [Go.WideAt.sameKey_eq h]; exact h2)
      injection this with _ this
      omega
theorem spV_inv {S : Nat → Option (Nat × Nat)} {z : Int} {v : Value} (h : spV S (.int .i64 z) = some v) : ∃ r f t : Nat, z = (r : Int) ∧ S r = some (f, t) ∧ v = .agg #[.int .i64 (r : Int), .int .i64 (f : Int), .int .i64 (t : Int)] := by
  unfold spV at h
  simp only at h
  by_cases g : 0 ≤ z
  · rw [if_pos g] at h
    cases hs : S z.toNat with
    | none => rw [hs] at h; cases h
    | some p =>
      rw [hs] at h
      injection h with h
      exact ⟨z.toNat, p.1, p.2, by omega, hs, by rw [← h, show z = (z.toNat : Int) by omega]; simp⟩
  · rw [if_neg g] at h; cases h
/-- Spans as they lie. -/
def spansL (xs : List Spx) : List Value := xs.flatMap encS
theorem spansL_snoc (xs : List Spx) (x : Spx) : spansL (xs ++ [x]) = spansL xs ++ encS x := by unfold spansL; rw [List.flatMap_append]; simp
/-- Some of a map's spans, each but once. -/
structure SomeS (S : Nat → Option (Nat × Nat)) (xs : List Spx) : Prop where
  all : ∀ x ∈ xs, ∃ r f t : Nat, x = ((r : Int), (f : Int), (t : Int)) ∧ S r = some (f, t)
  nodup : (xs.map (·.1)).Nodup
/-- Under way. -/
structure CoAt (w : World) (mb n : Nat) (S : Nat → Option (Nat × Nat)) (wr : World) (v : Value) (xs : List Spx) (left : Lit → Bool) (cnt : Nat) : Prop where
  rg : MapRg Tryd.prog 3 wr mb w.heap.size n (spV S) left cnt
  own : wr.ownsRow (w.heap.size + 1) 45 3 v xs.length (spansL xs)
  some_ : SomeS S xs
  left : ∀ r : Nat, r ≤ 1000000 → (left (.int .i64 (r : Int)) = true ↔ S r ≠ none ∧ ((r : Int)) ∉ xs.map (·.1))
  bel : Below w.heap.size w wr
theorem new3 (V : World) (x : Spx) : ∀ j u, (encS x)[j]? = some u → (V.alloc (spO x.1 x.2.1 x.2.2)).cell? ((⟨V.heap.size, 0, none⟩ : Addr).add j) = some u := fun j u hj => by
  rw [addr_add, Nat.zero_add]
  exact cellM (World.alloc_heap_new V (spO x.1 x.2.1 x.2.2)) j (by simpa [encS] using hj)
theorem CoAt.more {w wr w2 W3 W4 : World} {mb n : Nat} {S : Nat → Option (Nat × Nat)} {v v' : Value} {xs : List Spx} {left : Lit → Bool} {cnt cnt2 : Nat} (h : CoAt w mb n S wr v xs left cnt) (hmb : mb < w.heap.size) {r f t : Nat} (hr : r ≤ 1000000) (hS : S r = some (f, t)) (hl : left (.int .i64 (r : Int)) = true)
    (h2 : MapRg Tryd.prog 3 w2 mb w.heap.size n (spV S) (fun z => left z && !z.sameKey (.int .i64 (r : Int))) cnt2) (hg : wr.grownBy w2 (some w.heap.size)) (h3 : Below w2.heap.size w2 W3)
    (ho : W4.ownsRow (w.heap.size + 1) 45 3 v' (xs.length + 1) (spansL xs ++ encS ((r : Int), (f : Int), (t : Int)))) (hg4 : W3.grownBy W4 v.ownBlock) :
    CoAt w mb n S W4 v' (xs ++ [((r : Int), (f : Int), (t : Int))]) (fun z => left z && !z.sameKey (.int .i64 (r : Int))) cnt2 := by
  have hown2 : w2.ownsRow (w.heap.size + 1) 45 3 v xs.length (spansL xs) := h.own.kept hg (by
    by_cases e : v.ownBlock = none
    · exact .inl e
    · refine .inr (fun e2 => ?_)
      have := (h.own.lt _ e2).1
      omega)
  have hlo : ∀ k, v.ownBlock = some k → w.heap.size + 1 ≤ k := fun k e => (h.own.lt k e).1
  have hrg3 : MapRg Tryd.prog 3 W3 mb w.heap.size n (spV S) (fun z => left z && !z.sameKey (.int .i64 (r : Int))) cnt2 := h2.kept (row := none) ⟨h3.os, h3.tape, h3.output, h3.size, fun k hk _ => h3.block k hk⟩ (by simp) (by simp)
  refine ⟨hrg3.kept hg4 (fun e => by have := hlo _ e.symm; omega) (fun e => by have := hlo _ e.symm; omega), ?_, ⟨fun x hx => ?_, ?_⟩, fun k hk => ?_, ?_⟩
  · rw [spansL_snoc, List.length_append]; exact ho
  · rcases List.mem_append.1 hx with hx | hx
    · exact h.some_.all x hx
    · rw [List.mem_singleton.1 hx]; exact ⟨r, f, t, rfl, hS⟩
  · rw [List.map_append, List.nodup_append]
    refine ⟨h.some_.nodup, by simp, fun a ha b hb => ?_⟩
    rw [List.mem_singleton.1 hb]
    intro e
    rw [e] at ha
    exact ((h.left r hr).1 hl).2 ha
  · rw [same_keyL hk hr, List.map_append]
    have := h.left k hk
    by_cases e : k = r
    · subst e; simp
    · have e2 : ¬ (k : Int) = (r : Int) := by omega
      rw [decide_eq_false e, Bool.not_false, Bool.and_true, this]
      simp only [List.mem_append, List.map_cons, List.map_nil, List.mem_singleton, not_or]
      exact ⟨fun g => ⟨g.1, g.2, e2⟩, fun g => ⟨g.1, g.2.1⟩⟩
  · have hb2 : Below w.heap.size w w2 := h.bel.grown hg h.bel.size (fun k e => by injection e with e; omega)
    exact (onM hb2 h3).grown hg4 (onM hb2 h3).size (fun k e => by have := hlo k e; omega)
/-- All of a map's spans, before they are sorted. -/
def AllS (S : Nat → Option (Nat × Nat)) (xs : List Spx) : Prop := SomeS S xs ∧ ∀ r : Nat, r ≤ 1000000 → (S r ≠ none ↔ ((r : Int)) ∈ xs.map (·.1))
end Go.Proofs.YtoajommeiocfpaaDoor
namespace Go.Proofs.YtoajommeiocfpaaDoor
open Go Go.RowKit
set_option linter.unusedSimpArgs false
set_option linter.unusedVariables false
set_option maxRecDepth 100000

theorem nodup_subL : ∀ {l M : List Nat}, l.Nodup → (∀ x ∈ l, x ∈ M) → l.length ≤ M.length
  | [], M, _, _ => Nat.zero_le _
  | a :: t, M, hn, hs => by
    have h' := List.nodup_cons.1 hn
    have ha := hs a (by simp)
    have h1 := nodup_subL (l := t) (M := M.erase a) h'.2 fun x hx => (List.mem_erase_of_ne (by intro e; rw [e] at hx; exact h'.1 hx)).2 (hs x (List.mem_cons_of_mem _ hx))
    have h2 := List.length_erase_of_mem ha
    have h3 := List.length_pos_of_mem ha
    simp only [List.length_cons]; omega
theorem SomeS.few {S : Nat → Option (Nat × Nat)} {xs : List Spx} (h : SomeS S xs) (h64 : ∀ r, S r ≠ none → r < 64) : xs.length ≤ 64 := by
  have hm : ∀ x ∈ xs, ∃ r : Nat, x.1 = (r : Int) ∧ r < 64 := fun x hx => by
    obtain ⟨r, f, t, rfl, hs⟩ := h.all x hx
    exact ⟨r, rfl, h64 r (by rw [hs]; simp)⟩
  have h1 : (xs.map (fun x => x.1.toNat)).Nodup := by
    rw [List.nodup_iff_pairwise_ne, List.pairwise_map]
    have h2 := h.nodup
    rw [List.nodup_iff_pairwise_ne, List.pairwise_map] at h2
    refine List.Pairwise.imp_of_mem ?_ h2
    intro a b ha hb hne e
    obtain ⟨r, e1, _⟩ := hm a ha
    obtain ⟨q, e2, _⟩ := hm b hb
    apply hne
    rw [e1, e2] at e ⊢
    simp at e
    rw [e]
  have h3 := nodup_subL (M := List.range 64) h1 (fun x hx => by
    obtain ⟨y, hy, rfl⟩ := List.mem_map.1 hx
    obtain ⟨r, e1, hr⟩ := hm y hy
    rw [e1]; simp; exact hr)
  simpa using h3
theorem size_allocL (V : World) (o : Obj) : (V.alloc o).heap.size = V.heap.size + 1 := Array.size_push _
theorem new3b (V : World) (o : Obj) (x : Spx) : ∀ j u, (encS x)[j]? = some u → ((V.alloc o).alloc (spO x.1 x.2.1 x.2.2)).cell? ((⟨V.heap.size + 1, 0, none⟩ : Addr).add j) = some u := by
  have h := new3 (V.alloc o) x
  have e : (V.alloc o).heap.size = V.heap.size + 1 := size_allocL V o
  rw [e] at h
  exact h
theorem CoAt.own3 {w wr w2 W3 : World} {mb n : Nat} {S : Nat → Option (Nat × Nat)} {v : Value} {xs : List Spx} {left : Lit → Bool} {cnt : Nat} (h : CoAt w mb n S wr v xs left cnt) (hg : wr.grownBy w2 (some w.heap.size)) (h3 : Below w2.heap.size w2 W3) :
    W3.ownsRow (w.heap.size + 1) 45 3 v xs.length (spansL xs) := by
  refine own_below (b := w2) (h.own.kept hg ?_) h3
  by_cases e : v.ownBlock = none
  · exact .inl e
  · refine .inr (fun e2 => ?_)
    have := (h.own.lt _ e2).1
    omega

set_option maxHeartbeats 8000000 in
theorem p_inOrder (mb n : Nat) (S : Nat → Option (Nat × Nat)) (w : World) (h : MapIs Tryd.prog 3 w mb n (spV S)) (h64 : ∀ r, S r ≠ none → r < 64) (Post : List Spx → World → Ending → World → Prop)
    (HS : ∀ (V : World) (v : Value) (xs : List Spx), AllS S xs → V.ownsRow (w.heap.size + 1) 45 3 v xs.length (spansL xs) → Below w.heap.size w V → Calls Tryd.prog 40 #[v, .func (.func 41) #[] #[]] V fun e w' => e = .returned (.tuple #[]) ∧ Post xs w (.returned v) w') :
    Calls Tryd.prog 23 #[.map (some mb)] w fun e w' => ∃ xs, AllS S xs ∧ Post xs w e w' := by
  have HM := Lib.hid h
  have hmb := h.lt
  have H64 := Lib.hid h64
  have HSo := Lib.hid HS
  have hk1 : ∀ r : Nat, r ≤ 1000000 → keyOf Tryd.prog 3 (.int .i64 (r : Int)) = some (.int .i64 (r : Int)) := key_int
  clear h h64 HS
  go_enter Tryd.func23, Tryd.ntmps23
  go_wp2_with (at_range; refine wpList_range8 HM.out i64_keyedL under_ms rfl (.tmp 6) rfl rfl ?_; intro w1 left cnt h1 h2 h3 h4; have H1 : Hid (CoAt w mb n S w1 (.slice none 0 0) [] left cnt) := Lib.hid ⟨h1, World.ownsRow_nil _ _ _ _, ⟨fun x hx => (by cases hx), List.nodup_nil⟩, fun r hr => (by
    rw [h2 _ _ (hk1 r hr), spV_at]
    cases S r <;> simp), ⟨h3.os, h3.tape, h3.output, h3.size, fun k hk => h3.block k hk (by simp)⟩⟩; clear h1 h2 h3 h4)
  go_frame
  go_loopw [3] (fun v wr => ∃ xs left cnt, CoAt w mb n S wr v xs left cnt) (fun _ wr => wr.rangeLeft mb w.heap.size)
  case atStart => exact ⟨_, _, _, H1.out⟩
  case round =>
    obtain ⟨xs, left', cnt', hD⟩ := hrel
    have HD := Lib.hid hD
    obtain ⟨A3, c3, rfl⟩ := own_formM hD.own
    clear H1 hD
    go_wp2_with (at_next; refine wpList_next8 HD.out.rg i64_keyedL rfl (.tmp 7) rfl rfl ?done ?more)
    case done =>
      intro _ hl
      have HE : Hid (AllS S xs) := Lib.hid ⟨HD.out.some_, fun r hr => by
        have := HD.out.left r hr
        rw [hl] at this
        constructor
        · intro g
          exact Decidable.byContradiction fun g2 => by have := this.2 ⟨g, g2⟩; cases this
        · intro g
          obtain ⟨x, hx, he⟩ := List.mem_map.1 g
          obtain ⟨r', f, t, rfl, hs⟩ := HD.out.some_.all x hx
          have : r' = r := by simp at he; omega
          rw [← this, hs]; simp⟩
      have HC := Lib.hid (HSo.out wr (.slice A3 xs.length c3) xs HE.out HD.out.own HD.out.bel)
      clear hl
      go_wp2_with (go_at_call 40; (refine HC.out.mono ?_); rintro e w3 ⟨rfl, hp⟩; have H3 := Lib.hid hp; clear hp)
      go_ret
      exact ⟨xs, HE.out, H3.out⟩
    case more =>
      intro key v kl w2 cnt2 hk hl hf hrg hlt hgr hsz hen
      obtain ⟨z, rfl, rfl⟩ := int_key_inv hk
      obtain ⟨r, f, t, rfl, hS, rfl⟩ := spV_inv hf
      have hr64 := H64.out r (by rw [hS]; simp)
      have HX := Lib.hid (And.intro hrg (And.intro hgr (And.intro hS hl)))
      have HLT := Lib.hid hlt
      have hxl : xs.length ≤ 64 := HD.out.some_.few H64.out
      have HLO := Lib.hid hxl
      have HR64 := Lib.hid hr64
      have HB : Hid (Below w2.heap.size w2 ((w2.alloc (spO r f t)).alloc (spO r f t))) := Lib.hid (onM (lboxM w2 _) (lboxM (w2.alloc (spO r f t)) _))
      have HSZ : Hid (wr.heap.size ≤ w2.heap.size) := Lib.hid HX.out.2.1.size
      clear hrg hgr hsz hf hk hl hS hlt hxl hr64
      go_wp2_with (at_builtin; refine wpList_append_own _ rfl (.tmp 12) (.tmp 14) 31 rfl 45 (.agg #[.int .i64 0, .int .i64 0, .int .i64 0]) 3 24 Tryd.underlying31 info_span rfl (by decide) (w.heap.size + 1) (.slice A3 xs.length c3) xs.length (spansL xs) rfl (HD.out.own3 HX.out.2.1 HB.out) ⟨w2.heap.size + 1, 0, none⟩ 1 1 (encS ((r : Int), (f : Int), (t : Int))) rfl rfl (new3b w2 _ _) (fun u hu => (by simp [encS] at hu; rcases hu with rfl | rfl | rfl <;> rfl)) (by have := HLO.out; unfold maxLen; omega) (by have := HLO.out; omega) (by have h2 := HD.out.rg.rlt; have h3 := HB.out.size; have h4 := HSZ.out; exact Nat.le_trans (Nat.succ_le_of_lt h2) (Nat.le_trans h4 h3)) ?_; intro v' W4 ho hg hv; have HN := Lib.hid (HD.out.more HM.out.lt (by have := HR64.out; omega) HX.out.2.2.1 HX.out.2.2.2 HX.out.1 HX.out.2.1 HB.out ho hg); clear ho hg hv)
      exact ⟨⟨_, _, _, HN.out⟩, by rw [HN.out.rg.left_eq, HD.out.rg.left_eq]; exact HLT.out⟩
end Go.Proofs.YtoajommeiocfpaaDoor
namespace Go.Proofs.YtoajommeiocfpaaDoor
open Go Go.RowKit Go.Sort Go.Proofs
set_option linter.unusedSimpArgs false
set_option linter.unusedVariables false
set_option maxRecDepth 100000

theorem spansL_len (ys : List Spx) : (spansL ys).length = ys.length * 3 := by
  unfold spansL
  induction ys with
  | nil => rfl
  | cons y ys ih => rw [List.flatMap_cons, List.length_append, ih, List.length_cons]; show 3 + _ = _; omega
theorem spansL_at : ∀ (ys : List Spx) (t : Nat), t < ys.length * 3 → (spansL ys)[t]? = (encS ys[t / 3]!)[t % 3]?
  | [], t, h => by simp at h
  | y :: ys, t, h => by
    have e0 : spansL (y :: ys) = encS y ++ spansL ys := by unfold spansL; rw [List.flatMap_cons]
    rw [e0]
    by_cases g : t < 3
    · rw [List.getElem?_append_left (by simpa [encS] using g), show t / 3 = 0 by omega, show t % 3 = t by omega]; simp
    · rw [List.getElem?_append_right (by simp [encS]; omega)]
      have e := spansL_at ys (t - 3) (by simp at h; omega)
      show (spansL ys)[t - 3]? = _
      rw [e, show t / 3 = (t - 3) / 3 + 1 by omega, show t % 3 = (t - 3) % 3 by omega]; simp
theorem flat_spans (ys : List Spx) : flatK encS 3 ys.toArray = (spansL ys).toArray := by
  refine ext_get! (by simp [spansL_len]) fun t ht => ?_
  have h : t < ys.length * 3 := by simpa using ht
  rw [get_flatK _ _ _ t (by simpa using h)]
  have e := spansL_at ys t h
  have e2 : (spansL ys).toArray[t]! = ((spansL ys)[t]?).getD default := by simp
  rw [e2, e]
  simp
theorem holds_listK {w : World} {g : Nat} {cur : Array Value} {e : TypeId} {L : List Value} (hb : w.heap[g]? = some (.cells cur e (0, 0))) (ht : cur.toList.take L.length = L) : Sort.Holds id w g 0 L.toArray := by
  intro j hj
  have hj' : j < L.length := by simpa using hj
  refine ⟨?_, by simp [World.frozen?, hb]⟩
  have h1 : (cur.toList.take L.length)[j]? = L[j]? := by rw [ht]
  rw [List.getElem?_take_of_lt hj'] at h1
  simp only [World.cell?, hb, Nat.zero_add]
  simp only [Option.isSome_none, Bool.false_eq_true, if_false]
  rw [← Array.getElem?_toList, h1]
  simp [hj']
theorem heap_sortedK {w : World} {g n : Nat} {os : Array Obj} {cur : Array Value} {e : TypeId} {fr : Nat × Nat} (d : Array Value) (hb : w.heap[g]? = some (.cells cur e fr)) :
    (Sort.grow (putRow id (Sort.ahead w n) g 0 d) os).heap[g]? = some (.cells (putCells id 0 d cur) e fr) := by
  have hg : g < w.heap.size := (Array.getElem?_eq_some_iff.1 hb).1
  rw [heap_grow_old _ _ (by simpa using hg)]
  simp [putRow, mapBlock, Sort.ahead, Array.getElem?_modify, hb, onCells]
theorem grownBy_sortedK {w : World} {g n : Nat} {os : Array Obj} (d : Array Value) : w.grownBy (Sort.grow (putRow id (Sort.ahead w n) g 0 d) os) (some g) := by
  refine ⟨rfl, rfl, rfl, by simp, fun k hk hne => ?_⟩
  rw [heap_grow_old _ _ (by simpa using hk)]
  have : g ≠ k := fun e => hne (by rw [e])
  simp [putRow, mapBlock, Sort.ahead, Array.getElem?_modify, this]
theorem take_putCellsK (cur : Array Value) (L : List Value) (h : L.length ≤ cur.size) : (putCells id 0 L.toArray cur).toList.take L.length = L := by
  apply List.ext_getElem?
  intro j
  by_cases hj : j < L.length
  · rw [List.getElem?_take_of_lt hj, Array.getElem?_toList]
    simp [putCells, hj, show j < cur.size by omega]
  · rw [List.getElem?_take_eq_none (by omega), List.getElem?_eq_none (by omega)]
theorem cmpZ_lt (x y : Int) : cmpZ x y < 0 ↔ x < y := by
  unfold cmpZ
  by_cases h : x < y
  · rw [if_pos h]; omega
  · rw [if_neg h]
    by_cases g : y < x
    · rw [if_pos g]; omega
    · rw [if_neg g]; omega
theorem cmpZ_eq (x y : Int) : cmpZ x y = 0 ↔ x = y := by
  unfold cmpZ
  by_cases h : x < y
  · rw [if_pos h]; omega
  · rw [if_neg h]
    by_cases g : y < x
    · rw [if_pos g]; omega
    · rw [if_neg g]; omega
def ltS (x y : Spx) : Prop := x.2.1 < y.2.1 ∨ (x.2.1 = y.2.1 ∧ x.1 < y.1)
theorem cmpS_lt (x y : Spx) : cmpS x y < 0 ↔ ltS x y := by
  unfold cmpS ltS
  by_cases h : x.2.1 = y.2.1
  · rw [if_pos ((cmpZ_eq _ _).2 h), cmpZ_lt]; omega
  · rw [if_neg (fun g => h ((cmpZ_eq _ _).1 g)), cmpZ_lt]; omega
theorem ltOf_S (x y : Spx) : ltOf cmpS x y = true ↔ ltS x y := by unfold ltOf; rw [decide_eq_true_iff, cmpS_lt]
theorem ltOf_Sn (x y : Spx) : ltOf cmpS x y = false ↔ ¬ ltS x y := by unfold ltOf; rw [decide_eq_false_iff_not, cmpS_lt]
theorem swoS : SWO (ltOf cmpS) where
  irrefl x := by rw [ltOf_Sn]; unfold ltS; omega
  trans x y z := by rw [ltOf_S, ltOf_S, ltOf_S]; unfold ltS; omega
  ntrans x y z := by rw [ltOf_Sn, ltOf_Sn, ltOf_Sn]; unfold ltS; omega
/-- All of a map's spans, as they are told. -/
def OrdS (S : Nat → Option (Nat × Nat)) (ys : List Spx) : Prop := AllS S ys ∧ ys.Pairwise ltS
theorem ord_of {S : Nat → Option (Nat × Nat)} {xs : List Spx} (h : AllS S xs) {d : Array Spx} (hp : PermIn 0 xs.length xs.toArray d) (hs : SortedIn (ltOf cmpS) 0 xs.length d) : OrdS S d.toList ∧ d.toList.length = xs.length := by
  have hl : d.size = xs.length := by have := hp.1; simpa using this
  have hpp : d.toList.Perm xs := by
    have := hp.2.2
    rw [show d.extract 0 xs.length = d by rw [← hl]; simp, show xs.toArray.extract 0 xs.length = xs.toArray by simp] at this
    simpa using this
  have hm : (d.toList.map (·.1)).Perm (xs.map (·.1)) := hpp.map _
  have hnd : (d.toList.map (·.1)).Nodup := hm.nodup_iff.2 h.1.nodup
  refine ⟨⟨⟨⟨fun x hx => h.1.all x (hpp.mem_iff.1 hx), hnd⟩, fun r hr => by rw [h.2 r hr, hm.mem_iff]⟩, ?_⟩, by simpa using hl⟩
  rw [List.pairwise_iff_getElem]
  intro i j hi hj hij
  have hi' : i < d.size := by simpa using hi
  have hj' : j < d.size := by simpa using hj
  have h1 := hs i j (Nat.zero_le _) hij (by omega)
  rw [ltOf_Sn, getElem!_pos d j hj', getElem!_pos d i hi'] at h1
  have hne : (d.toList[i]).1 ≠ (d.toList[j]).1 := by
    rw [List.nodup_iff_pairwise_ne, List.pairwise_map, List.pairwise_iff_getElem] at hnd
    exact hnd i j hi hj hij
  rw [Array.getElem_toList, Array.getElem_toList] at hne ⊢
  unfold ltS at h1 ⊢
  omega
theorem ord_same {S : Nat → Option (Nat × Nat)} {xs ys : List Spx} (hS : ∀ r, S r ≠ none → r ≤ 1000000) (hx : OrdS S xs) (hy : OrdS S ys) : xs = ys := by
  have key : ∀ (a b : List Spx), OrdS S a → OrdS S b → ∀ x ∈ a, x ∈ b := fun a b ha hb x h => by
    obtain ⟨r, f, t, rfl, hs⟩ := ha.1.1.all x h
    have := (hb.1.2 r (hS r (by rw [hs]; simp))).1 (by rw [hs]; simp)
    obtain ⟨y, hy, e⟩ := List.mem_map.1 this
    obtain ⟨r', f', t', rfl, hs'⟩ := hb.1.1.all y hy
    have : r' = r := by simp at e; omega
    subst this
    rw [hs] at hs'
    injection hs' with hs'
    injection hs' with h1 h2
    rw [h1, h2]; exact hy
  have nd : ∀ a : List Spx, OrdS S a → a.Nodup := fun a ha => by
    rw [List.nodup_iff_pairwise_ne]
    exact ha.2.imp fun {x y} h e => by rw [e] at h; unfold ltS at h; omega
  have hp : xs.Perm ys := (List.perm_ext_iff_of_nodup (nd _ hx) (nd _ hy)).2 fun x => ⟨key xs ys hx hy x, key ys xs hy hx x⟩
  exact hp.eq_of_pairwise (fun a b _ _ h1 h2 => by unfold ltS at h1 h2; omega) hx.2 hy.2
/-- Behind the sort the same slice owns the sorted spans. -/
theorem owns_sortedS {V : World} {base c : Nat} {A : Option Addr} {xs : List Spx} {e : TypeId} {n : Nat} {d : Array Spx} {os : Array Obj} (hl : d.size = xs.length) {g : Nat} (hA : A = some ⟨g, 0, none⟩) (h : V.ownsRow base e 3 (.slice A xs.length c) xs.length (spansL xs)) :
    (sortWorldK encS 3 V g 0 n d os).ownsRow base e 3 (.slice A xs.length c) xs.length (spansL d.toList) ∧ V.grownBy (sortWorldK encS 3 V g 0 n d os) (some g) ∧ HoldsK encS 3 V g 0 xs.toArray := by
  subst hA
  have e1 : flatK encS 3 d = (spansL d.toList).toArray := by have := flat_spans d.toList; simpa using this
  rcases h.2 with ⟨h0, _⟩ | ⟨g', cap', cur, hv, hg, hb, hn, hcap, hc, ht⟩
  · cases h0
  cases hv
  refine ⟨⟨by rw [spansL_len]; simp [hl], .inr ⟨g, c, putCells id 0 (spansL d.toList).toArray cur, rfl, hg, ?_, hn, hcap, ?_, ?_⟩⟩, ?_, ?_⟩
  · unfold sortWorldK putRowK; rw [e1]; exact heap_sortedK _ hb
  · simp [putCells, hc]
  · have := take_putCellsK cur (spansL d.toList) (by rw [spansL_len, hc]; simp [hl]; omega)
    rw [spansL_len] at this
    simpa [hl] using this
  · unfold sortWorldK putRowK; exact grownBy_sortedK _
  · unfold HoldsK; rw [flat_spans]; exact holds_listK hb (by rw [spansL_len]; exact ht)
theorem encS_one (x : Spx) : ∀ v ∈ encS x, v.oneCell' = true := fun v hv => by simp [encS] at hv; rcases hv with rfl | rfl | rfl <;> rfl
theorem cmpS_lays (g size : Nat) (V : World) : CmpLays Tryd.prog 41 #[] encS 3 cmpS g 0 size V := fun m os dk hs x y => p_cmpS x y _
end Go.Proofs.YtoajommeiocfpaaDoor
namespace Go.Proofs.YtoajommeiocfpaaDoor
open Go Go.RowKit Go.Sort Go.Proofs
set_option linter.unusedSimpArgs false
set_option linter.unusedVariables false
set_option maxRecDepth 100000

/-- From the first place that names it to the last. -/
def SpanIs (q : Nat → Irx) (n k r : Nat) (o : Option (Nat × Nat)) : Prop := match o with
  | none => ∀ m, m < k → (setI q n m).getLsbD r = false
  | some (f, t) => f ≤ t ∧ t < k ∧ (setI q n f).getLsbD r = true ∧ (setI q n t).getLsbD r = true ∧ ∀ m, m < k → (setI q n m).getLsbD r = true → f ≤ m ∧ m ≤ t
theorem spN_is (q : Nat → Irx) (n : Nat) {r : Nat} (hr : r < 64) : ∀ k, SpanIs q n k r (spN q n k r)
  | 0 => fun m hm => absurd hm (Nat.not_lt_zero _)
  | k + 1 => by
    have ih := spN_is q n hr k
    show SpanIs q n (k + 1) r (spP (spN q n k) k (bitsOf (setI q n k)) r)
    unfold spP
    by_cases g : (setI q n k).getLsbD r = true
    · rw [if_pos (mem_bitsTo.2 ⟨hr, g⟩)]
      unfold upS
      cases e : spN q n k r with
      | none =>
        rw [e] at ih
        refine ⟨Nat.le_refl _, Nat.lt_succ_self _, g, g, fun m hm hb => ?_⟩
        by_cases h : m < k
        · rw [ih m h] at hb; cases hb
        · omega
      | some p =>
        rw [e] at ih
        obtain ⟨f, t⟩ := p
        obtain ⟨h1, h2, h3, h4, h5⟩ := ih
        refine ⟨by show f ≤ k; omega, Nat.lt_succ_self _, h3, g, fun m hm hb => ?_⟩
        by_cases h : m < k
        · have := h5 m h hb
          exact ⟨this.1, by omega⟩
        · exact ⟨by show f ≤ m; omega, by omega⟩
    · rw [if_neg (fun h => g (mem_bitsTo.1 h).2)]
      have g0 : (setI q n k).getLsbD r = false := by simpa using g
      cases e : spN q n k r with
      | none =>
        rw [e] at ih
        intro m hm
        by_cases h : m < k
        · exact ih m h
        · obtain rfl : m = k := by omega
          exact g0
      | some p =>
        rw [e] at ih
        obtain ⟨f, t⟩ := p
        obtain ⟨h1, h2, h3, h4, h5⟩ := ih
        refine ⟨h1, by omega, h3, h4, fun m hm hb => ?_⟩
        by_cases h : m < k
        · exact h5 m h hb
        · obtain rfl : m = k := by omega
          rw [g0] at hb; cases hb
theorem spN_64 (q : Nat → Irx) (n : Nat) (r : Nat) : ∀ k, spN q n k r ≠ none → r < 64
  | 0, h => absurd rfl h
  | k + 1, h => by
    change spP (spN q n k) k (bitsOf (setI q n k)) r ≠ none at h
    unfold spP at h
    by_cases g : r ∈ bitsOf (setI q n k)
    · exact (mem_bitsTo.1 g).1
    · rw [if_neg g] at h
      exact spN_64 q n r k h
theorem spN_lt (q : Nat → Irx) (n : Nat) {k r f t : Nat} (h : spN q n k r = some (f, t)) : f ≤ t ∧ t < k := by
  have hr := spN_64 q n r k (by rw [h]; simp)
  have := spN_is q n hr k
  rw [h] at this
  exact ⟨this.1, this.2.1⟩
theorem ret_uses {x : Irx} (h : x.op = 19) : useL x = [x.a] := by
  have e : askN 19 = 1 := by decide
  unfold useL
  rw [h, e]; rfl
/-- Some register lives: the last instruction asks for one. -/
theorem spN_some {regs : Int} {q : Nat → Irx} {n : Nat} (hr : RightM regs q n) : ∃ r, spN q n n r ≠ none := by
  have hl := ret_uses hr.last
  have hu := (use_right hr (i := n - 1) (by have := hr.pos; omega)).1 (q (n - 1)).a (by rw [hl]; simp)
  have hrg := hr.rg
  have hb : (setI q n (n - 1)).getLsbD (q (n - 1)).a.toNat = true := by
    unfold setI
    rw [BitVec.getLsbD_or, BitVec.getLsbD_or]
    have : (usesB (q (n - 1))).getLsbD (q (n - 1)).a.toNat = true := by
      unfold usesB
      rw [hl, orF_bit, List.any_cons, List.any_nil, Bool.or_false, only_bit ⟨hu.1, by omega⟩]
      exact decide_eq_true (by omega)
    rw [this]; simp
  refine ⟨(q (n - 1)).a.toNat, fun e => ?_⟩
  have := spN_is q n (r := (q (n - 1)).a.toNat) (by omega) n
  rw [e] at this
  rw [this (n - 1) (by have := hr.pos; omega)] at hb
  cases hb
end Go.Proofs.YtoajommeiocfpaaDoor
