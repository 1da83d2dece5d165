/-
  'CbpfBehind', where what comes in is of the statement's own bulk at most: for every program, any instructions that are jumped over, and all bytes, the law of layer 3 on what stands ahead returns true, and leaves memory as it was. Condition: the statement's own bound.
-/
import Derived.Test.YtlfbkalpnbjdjaaCbpfHead
import Derived.Test.YtlfbkalpnbjdjaaCbpfJumped
import Derived.Test.YtlfbkalpnbjdjaaPArgs
import Derived.Test.YtlfbkalpnbjdjaaRowsSized
import Derived.OpenShut
import Derived.JoinedCond
namespace Go.Proofs.Ytlfbkalpnbjdjaa.cbpfBehind
open Go Go.ChangeShapes Go.WideShapes Go.ChangeAt Go.RowKit
set_option linter.unusedSimpArgs false
set_option linter.unusedVariables false

theorem bulk_one {H : Type} (d : DataW H) : 1 ≤ Rows.uptoBulk d := by
  cases d with
  | lit l => cases l <;> simp [Rows.uptoBulk]
  | nil => simp [Rows.uptoBulk]
  | ptr d => simp [Rows.uptoBulk]
  | slice elems spare => simp [Rows.uptoBulk]
  | agg parts => simp [Rows.uptoBulk]
  | iface t d => simp [Rows.uptoBulk]
  | map entries => simp [Rows.uptoBulk]
  | held h => simp [Rows.uptoBulk]
theorem bulk_len {H : Type} (l : List (DataW H)) : l.length ≤ Rows.uptoBulkAll l := by
  induction l with
  | nil => simp [Rows.uptoBulkAll]
  | cons x r ih => have := bulk_one x; simp only [Rows.uptoBulkAll, List.length_cons]; omega
theorem bulk_part {H : Type} {d : DataW H} {l : List (DataW H)} (h : d ∈ l) : Rows.uptoBulk d ≤ Rows.uptoBulkAll l := by
  induction l with
  | nil => cases h
  | cons x r ih =>
    simp only [Rows.uptoBulkAll]
    cases List.mem_cons.1 h with
    | inl e => subst e; omega
    | inr e => have := ih e; omega
/-- What the bound gives of a slice: how long it is at most. -/
theorem len_small {H : Type} {ds : List (DataW H)} {d : DataW H} {elems rest : List (DataW H)} (hk : Rows.uptoSmall H ds = true) (hm : d ∈ ds) (hd : d = .slice elems rest) : elems.length + rest.length ≤ 1048576 := by
  have h1 : Rows.uptoBulkAll ds ≤ 1048576 := of_decide_eq_true hk
  have h2 := bulk_part hm
  have h3 := bulk_len elems
  have h4 := bulk_len rest
  rw [hd] at h2
  simp only [Rows.uptoBulk] at h2
  omega

theorem place_step {q : Nat → Ins} {n : Nat} (hok : ∀ i, i < n → (q i).OK) (len : Nat) (word : Nat → BitVec 32) (s : Mach) (hs : s.place ≤ n + 4294967296) : (s.step q n len word).place ≤ n + 4294967296 := by
  unfold Mach.step
  split
  · exact hs
  · split
    · exact hs
    · split
      · exact hs
      · split
        · exact hs
        · have hp : s.place < n := by omega
          have ho := hok _ hp
          have hk := (q s.place).k.isLt
          have hj := ho.2.2.1
          have hf := ho.2.2.2
          have hm := (moves_keeps word s (q s.place)).1
          unfold Mach.does
          simp only
          generalize (if usesX (q s.place).code = true then s.x else (q s.place).k) = bv
          split
          · split
            · exact hs
            · show s.place + 1 ≤ _; omega
          · split
            · show s.place + (1 + if saysN (opN (q s.place).code) s.a bv = true then (q s.place).jt else (q s.place).jf) ≤ _
              split <;> omega
            · split
              · show s.place + (1 + (q s.place).k.toNat) ≤ _; omega
              · split
                · exact hs
                · split
                  · exact hs
                  · show (s.moves word (q s.place)).place + 1 ≤ _; omega
theorem place_iter {q : Nat → Ins} {n : Nat} (hok : ∀ i, i < n → (q i).OK) (len : Nat) (word : Nat → BitVec 32) : ∀ k, (iterS q n len word k).place ≤ n + 4294967296
  | 0 => by show 0 ≤ _; omega
  | k + 1 => place_step hok len word _ (place_iter hok len word k)
/-- Data of another length end each run at once. -/
theorem run_len (q : Nat → Ins) (n len : Nat) (word : Nat → BitVec 32) (h : ¬ len = 64) : runM q n len word = Mach.start.fails 21 := by
  have h1 : iterS q n len word 1 = Mach.start.fails 21 := by
    show Mach.start.step q n len word = _
    unfold Mach.step
    rw [if_neg (by decide), if_pos h]
  have := iter_is_run q n len word (k := 1) (by rw [h1]; rfl) (by omega)
  rw [← this, h1]

/-- A Ja, what it leads over, and a program. -/
def ahead (kk : BitVec 32) (m : Nat) (q1 q : Nat → Ins) (i : Nat) : Ins := if i = 0 then ⟨5, 0, 0, kk⟩ else if i < m + 1 then q1 (i - 1) else q (i - (m + 1))
theorem ahead_prog {w : World} {g t cap m n : Nat} {F F1 : Nat → Value} {kk : BitVec 32} {q1 q : Nat → Ins} (hr : w.rowIs g t (cap * 4) F) (hc : 1 + m + n ≤ cap) (h1 : ∀ k, k < (1 + m) * 4 → F k = F1 k) (h2 : ∀ k, k < n * 4 → F ((1 + m) * 4 + k) = progF q k)
    (g0 : ∀ k, k < 1 * 4 → F1 k = progF (fun _ => ⟨5, 0, 0, kk⟩) k) (g1 : ∀ k, k < m * 4 → F1 (1 * 4 + k) = progF q1 k) : ProgAt w (some ⟨g, 0, none⟩) (n + (m + 1)) (ahead kk m q1 q) := by
  refine prog_of_row hr (fun k hk => ?_) (by omega)
  by_cases a : k < 4
  · rw [h1 k (by omega), g0 k (by omega)]
    unfold progF ahead
    rw [if_pos (by omega)]
  · by_cases b : k < (1 + m) * 4
    · rw [h1 k b]
      have := g1 (k - 4) (by omega)
      rw [show 1 * 4 + (k - 4) = k by omega] at this
      rw [this]
      unfold progF ahead
      rw [if_neg (by omega), if_pos (by omega), show (k - 4) / 4 = k / 4 - 1 by omega, show (k - 4) % 4 = k % 4 by omega]
    · have := h2 (k - (1 + m) * 4) (by omega)
      rw [show (1 + m) * 4 + (k - (1 + m) * 4) = k by omega] at this
      rw [this]
      unfold progF ahead
      rw [if_neg (by omega), if_neg (by omega), show (k - (1 + m) * 4) / 4 = k / 4 - (m + 1) by omega, show (k - (1 + m) * 4) % 4 = k % 4 by omega]
theorem ahead_ok {kk : BitVec 32} {m n : Nat} {q1 q : Nat → Ins} (h1 : ∀ i, i < m → (q1 i).OK) (h : ∀ i, i < n → (q i).OK) (i : Nat) (hi : i < n + (m + 1)) : (ahead kk m q1 q i).OK := by
  unfold ahead
  split
  · exact ⟨show (0 : Int) ≤ 5 by decide, show (5 : Int) < 65536 by decide, show 0 < 256 by decide, show 0 < 256 by decide⟩
  · split
    · exact h1 _ (by omega)
    · exact h _ (by omega)
theorem ja_made {kk : BitVec 32} {m : Nat} (hkk : kk.toNat = m) : ∀ k, k < 4 → (#[Value.int .u16 5, Value.int .u8 0, Value.int .u8 0, Value.int .u32 (m : Int)])[k]? = some (progF (fun _ => ⟨5, 0, 0, kk⟩) k) := by
  subst hkk
  intro k hk
  have : k = 0 ∨ k = 1 ∨ k = 2 ∨ k = 3 := by omega
  rcases this with rfl | rfl | rfl | rfl <;> rfl

theorem walk_far (a0 : Option Addr) (len0 cap0 : Nat) (a1 : Option Addr) (len1 cap1 : Nat) (a2 : Option Addr) (len2 cap2 : Nat) (w : World) (h : 1000 < len1) :
    Calls Try.prog 8 #[.slice a0 len0 cap0, .slice a1 len1 cap1, .slice a2 len2 cap2] w fun e w' => e = .returned (.bool true) ∧ Below w.heap.size w w' := by
  have h' : (1000 : Int) < (len1 : Int) := by omega
  go_enter Try.func8, Try.ntmps8
  go_wp2_with (go_at_call 10; (with_reducible refine (head_is _).mono ?_); rintro e w1 ⟨rfl, hb⟩; have HB1 := Lib.hid hb; clear hb)
  go_ret
  exact ⟨rfl, HB1.out⟩
set_option maxRecDepth 100000 in
set_option maxHeartbeats 8000000 in
theorem walk_other (a0 : Option Addr) (len0 cap0 : Nat) (a1 : Option Addr) (len1 cap1 : Nat) (a2 : Option Addr) (len2 cap2 : Nat) (z : Nat → Int) (q q1 : Nat → Ins) (kk : BitVec 32) (hkk : kk.toNat = len1) (h64 : ¬ len2 = 64) (hv1 : ansV (runM q len0 len2 (wordZ z)) = .tuple #[.int .u32 0, .int .i64 0, .int .i64 21, .int .i64 0]) (hv2 : ansV (runM (ahead kk len1 q1 q) (len0 + (len1 + 1)) len2 (wordZ z)) = .tuple #[.int .u32 0, .int .i64 0, .int .i64 21, .int .i64 0]) (w : World) (h : len1 ≤ 1000) (s0 : len0 ≤ 1048576) (hP : PLies w a0 len0 q a2 len2 z) (hp1 : ProgAt w a1 len1 q1) (ho1 : ∀ i, i < len1 → (q1 i).OK) :
    Calls Try.prog 8 #[.slice a0 len0 cap0, .slice a1 len1 cap1, .slice a2 len2 cap2] w fun e w' => e = .returned (.bool true) ∧ Below w.heap.size w w' := by
  have h' : ¬ (1000 : Int) < (len1 : Int) := by omega
  have HV1 := Lib.hid hv1
  have HV2 := Lib.hid hv2
  clear hv1 hv2
  have h64' : ¬ (len2 : Int) = 64 := by omega
  clear h64
  have hwk : IntKind.u32.wrap (len1 : Int) = (len1 : Int) := by rw [IntKind.wrap_u32]; omega
  have HP := Lib.hid hP
  have HQ := Lib.hid hp1
  have HO := Lib.hid ho1
  clear hP hp1 ho1
  have hsum : 1 + len1 + len0 = len0 + (len1 + 1) := by omega
  go_enter Try.func8, Try.ntmps8
  go_wp2_with (first
    | (go_at_call 10; (with_reducible refine (head_is _).mono ?_); rintro e w1 ⟨rfl, hb⟩; have HB1 := Lib.hid hb; have HP1 := Lib.hid (HP.out.below hb); have HQ1 := Lib.hid ((holds_of_prog (HQ.out.below hb)).below (box_below w1 (.cells #[.int .u16 5, .int .u8 0, .int .u8 0, .int .u32 (len1 : Int)] 43))); clear hb)
    | (at_builtin; refine wpList_append_rows _ rfl (.tmp 27) (.tmp 28) 22 rfl 43 (.agg #[.int .u16 0, .int .u8 0, .int .u8 0, .int .u32 0]) 4 8 Try.underlying22 info_ins rfl (by decide) w1.heap.size 1 1 (progF (fun _ => ⟨5, 0, 0, kk⟩)) rfl (World.rowIs_alloc w1 #[.int .u16 5, .int .u8 0, .int .u8 0, .int .u32 (len1 : Int)] 43 _ (ja_made hkk)) (Nat.le_refl _) (by decide) a1 len1 cap1 (progF q1) rfl HQ1.out (progF_one q1) (by unfold maxLen; omega) (by omega) ?_; intro g1 c1 F1 w2 hr1 hc1 hm1 hF1 hG1 hg1 hgg1; obtain ⟨hb1, hge1⟩ := append_new_below hg1 hgg1; have HR2 := Lib.hid hr1; have HF2 := Lib.hid (And.intro hF1 hG1); have HB2 := Lib.hid (HB1.out.trans (hb1.mono HB1.out.size)); have HP2 := Lib.hid (HP1.out.below hb1); have hge2 := Nat.le_trans HB1.out.size hge1; have HS2 := Lib.hid (holds_of_prog HP2.out.prog); clear hg1 hgg1 hF1 hG1 hr1 hb1 HP1 HQ1 HB1 hge1)
    | (at_builtin; refine wpList_append_rows _ rfl (.tmp 30) (.tmp 31) 22 rfl 43 (.agg #[.int .u16 0, .int .u8 0, .int .u8 0, .int .u32 0]) 4 8 Try.underlying22 info_ins rfl (by decide) g1 (1 + len1) c1 F1 rfl HR2.out hc1 hm1 a0 len0 cap0 (progF q) rfl HS2.out (progF_one q) (by unfold maxLen; omega) (by omega) ?_; intro g2 c2 F2 w3 hr2 hc2 hm2 hF2 hG2 hg2 hgg2; have HB3 := Lib.hid (below_grown HB2.out hg2 hge2 (Nat.le_refl _)); have HP3 := Lib.hid (HP.out.below HB3.out); have HX3 := Lib.hid (show PLies w3 (some ⟨g2, 0, none⟩) (len0 + (len1 + 1)) (ahead kk len1 q1 q) a2 len2 z from ⟨ahead_prog hr2 hc2 hF2 hG2 HF2.out.1 HF2.out.2, HP3.out.data, HP3.out.bytes, by omega, HP3.out.dlen, ahead_ok HO.out HP3.out.ok⟩); clear hg2 hgg2 hF2 hG2 hr2 HB2 HP2 HS2 HR2 HF2; rw [hsum])
    | (go_at_call 18; (with_reducible refine (cbpf_Run _ a0 _ _ q _ _ _ z HP3.out).mono ?_); rintro e w4 ⟨rfl, hb⟩; have HX4 := Lib.hid (HX3.out.below hb); have HB4 := Lib.hid (HB3.out.trans (hb.mono HB3.out.size)); clear hb HX3 HB3 HP3; rw [HV1.out])
    | (go_at_call 18; (with_reducible refine (cbpf_Run _ _ _ _ _ _ _ _ z HX4.out).mono ?_); rintro e w5 ⟨rfl, hb⟩; have HB5 := Lib.hid (HB4.out.trans (hb.mono HB4.out.size)); clear hb HX4 HB4; rw [HV2.out]))
  go_ret
  exact ⟨rfl, HB5.out⟩
set_option maxRecDepth 100000 in
set_option maxHeartbeats 8000000 in
theorem walk_well (a0 : Option Addr) (len0 cap0 : Nat) (a1 : Option Addr) (len1 cap1 : Nat) (a2 : Option Addr) (cap2 : Nat) (z : Nat → Int) (q q1 : Nat → Ins) (kk : BitVec 32) (hkk : kk.toNat = len1) (A N : Int) (hN : 0 ≤ N ∧ N ≤ 1048576) (hv1 : ansV (runM q len0 64 (wordZ z)) = .tuple #[.int .u32 A, .int .i64 N, .int .i64 0, .int .i64 0]) (hv2 : ansV (runM (ahead kk len1 q1 q) (len0 + (len1 + 1)) 64 (wordZ z)) = .tuple #[.int .u32 A, .int .i64 (N + 1), .int .i64 0, .int .i64 0]) (w : World) (h : len1 ≤ 1000) (s0 : len0 ≤ 1048576) (hP : PLies w a0 len0 q a2 64 z) (hp1 : ProgAt w a1 len1 q1) (ho1 : ∀ i, i < len1 → (q1 i).OK) :
    Calls Try.prog 8 #[.slice a0 len0 cap0, .slice a1 len1 cap1, .slice a2 64 cap2] w fun e w' => e = .returned (.bool true) ∧ Below w.heap.size w w' := by
  have h' : ¬ (1000 : Int) < (len1 : Int) := by omega
  have HV1 := Lib.hid hv1
  have HV2 := Lib.hid hv2
  clear hv1 hv2
  have hwn : IntKind.i64.wrap (N + 1) = N + 1 := IntWalk.i64_in _ (by omega)
  have hwk : IntKind.u32.wrap (len1 : Int) = (len1 : Int) := by rw [IntKind.wrap_u32]; omega
  have HP := Lib.hid hP
  have HQ := Lib.hid hp1
  have HO := Lib.hid ho1
  clear hP hp1 ho1
  have hsum : 1 + len1 + len0 = len0 + (len1 + 1) := by omega
  go_enter Try.func8, Try.ntmps8
  go_wp2_with (first
    | (go_at_call 10; (with_reducible refine (head_is _).mono ?_); rintro e w1 ⟨rfl, hb⟩; have HB1 := Lib.hid hb; have HP1 := Lib.hid (HP.out.below hb); have HQ1 := Lib.hid ((holds_of_prog (HQ.out.below hb)).below (box_below w1 (.cells #[.int .u16 5, .int .u8 0, .int .u8 0, .int .u32 (len1 : Int)] 43))); clear hb)
    | (at_builtin; refine wpList_append_rows _ rfl (.tmp 27) (.tmp 28) 22 rfl 43 (.agg #[.int .u16 0, .int .u8 0, .int .u8 0, .int .u32 0]) 4 8 Try.underlying22 info_ins rfl (by decide) w1.heap.size 1 1 (progF (fun _ => ⟨5, 0, 0, kk⟩)) rfl (World.rowIs_alloc w1 #[.int .u16 5, .int .u8 0, .int .u8 0, .int .u32 (len1 : Int)] 43 _ (ja_made hkk)) (Nat.le_refl _) (by decide) a1 len1 cap1 (progF q1) rfl HQ1.out (progF_one q1) (by unfold maxLen; omega) (by omega) ?_; intro g1 c1 F1 w2 hr1 hc1 hm1 hF1 hG1 hg1 hgg1; obtain ⟨hb1, hge1⟩ := append_new_below hg1 hgg1; have HR2 := Lib.hid hr1; have HF2 := Lib.hid (And.intro hF1 hG1); have HB2 := Lib.hid (HB1.out.trans (hb1.mono HB1.out.size)); have HP2 := Lib.hid (HP1.out.below hb1); have hge2 := Nat.le_trans HB1.out.size hge1; have HS2 := Lib.hid (holds_of_prog HP2.out.prog); clear hg1 hgg1 hF1 hG1 hr1 hb1 HP1 HQ1 HB1 hge1)
    | (at_builtin; refine wpList_append_rows _ rfl (.tmp 30) (.tmp 31) 22 rfl 43 (.agg #[.int .u16 0, .int .u8 0, .int .u8 0, .int .u32 0]) 4 8 Try.underlying22 info_ins rfl (by decide) g1 (1 + len1) c1 F1 rfl HR2.out hc1 hm1 a0 len0 cap0 (progF q) rfl HS2.out (progF_one q) (by unfold maxLen; omega) (by omega) ?_; intro g2 c2 F2 w3 hr2 hc2 hm2 hF2 hG2 hg2 hgg2; have HB3 := Lib.hid (below_grown HB2.out hg2 hge2 (Nat.le_refl _)); have HP3 := Lib.hid (HP.out.below HB3.out); have HX3 := Lib.hid (show PLies w3 (some ⟨g2, 0, none⟩) (len0 + (len1 + 1)) (ahead kk len1 q1 q) a2 64 z from ⟨ahead_prog hr2 hc2 hF2 hG2 HF2.out.1 HF2.out.2, HP3.out.data, HP3.out.bytes, by omega, HP3.out.dlen, ahead_ok HO.out HP3.out.ok⟩); clear hg2 hgg2 hF2 hG2 hr2 HB2 HP2 HS2 HR2 HF2; rw [hsum])
    | (go_at_call 18; (with_reducible refine (cbpf_Run _ a0 _ _ q _ _ _ z HP3.out).mono ?_); rintro e w4 ⟨rfl, hb⟩; have HX4 := Lib.hid (HX3.out.below hb); have HB4 := Lib.hid (HB3.out.trans (hb.mono HB3.out.size)); clear hb HX3 HB3 HP3; rw [HV1.out])
    | (go_at_call 18; (with_reducible refine (cbpf_Run _ _ _ _ _ _ _ _ z HX4.out).mono ?_); rintro e w5 ⟨rfl, hb⟩; have HB5 := Lib.hid (HB4.out.trans (hb.mono HB4.out.size)); clear hb HX4 HB4; rw [HV2.out]))
  go_ret
  exact ⟨rfl, HB5.out⟩
set_option maxRecDepth 100000 in
set_option maxHeartbeats 8000000 in
theorem walk_ill (a0 : Option Addr) (len0 cap0 : Nat) (a1 : Option Addr) (len1 cap1 : Nat) (a2 : Option Addr) (cap2 : Nat) (z : Nat → Int) (q q1 : Nat → Ins) (kk : BitVec 32) (hkk : kk.toNat = len1) (N E P : Int) (hN : 0 ≤ N ∧ N ≤ 1048576) (hE : ¬ E = 0) (hPb : 0 ≤ P ∧ P ≤ 10000000000) (hv1 : ansV (runM q len0 64 (wordZ z)) = .tuple #[.int .u32 0, .int .i64 N, .int .i64 E, .int .i64 P]) (hv2 : ansV (runM (ahead kk len1 q1 q) (len0 + (len1 + 1)) 64 (wordZ z)) = .tuple #[.int .u32 0, .int .i64 (N + 1), .int .i64 E, .int .i64 (P + (len1 : Int) + 1)]) (w : World) (h : len1 ≤ 1000) (s0 : len0 ≤ 1048576) (hP : PLies w a0 len0 q a2 64 z) (hp1 : ProgAt w a1 len1 q1) (ho1 : ∀ i, i < len1 → (q1 i).OK) :
    Calls Try.prog 8 #[.slice a0 len0 cap0, .slice a1 len1 cap1, .slice a2 64 cap2] w fun e w' => e = .returned (.bool true) ∧ Below w.heap.size w w' := by
  have h' : ¬ (1000 : Int) < (len1 : Int) := by omega
  have HV1 := Lib.hid hv1
  have HV2 := Lib.hid hv2
  clear hv1 hv2
  have hwn : IntKind.i64.wrap (N + 1) = N + 1 := IntWalk.i64_in _ (by omega)
  have hwp : IntKind.i64.wrap (P + (len1 : Int)) = P + (len1 : Int) := IntWalk.i64_in _ (by omega)
  have hwq : IntKind.i64.wrap (P + (len1 : Int) + 1) = P + (len1 : Int) + 1 := IntWalk.i64_in _ (by omega)
  have hwk : IntKind.u32.wrap (len1 : Int) = (len1 : Int) := by rw [IntKind.wrap_u32]; omega
  have HP := Lib.hid hP
  have HQ := Lib.hid hp1
  have HO := Lib.hid ho1
  clear hP hp1 ho1
  have hsum : 1 + len1 + len0 = len0 + (len1 + 1) := by omega
  go_enter Try.func8, Try.ntmps8
  go_wp2_with (first
    | (go_at_call 10; (with_reducible refine (head_is _).mono ?_); rintro e w1 ⟨rfl, hb⟩; have HB1 := Lib.hid hb; have HP1 := Lib.hid (HP.out.below hb); have HQ1 := Lib.hid ((holds_of_prog (HQ.out.below hb)).below (box_below w1 (.cells #[.int .u16 5, .int .u8 0, .int .u8 0, .int .u32 (len1 : Int)] 43))); clear hb)
    | (at_builtin; refine wpList_append_rows _ rfl (.tmp 27) (.tmp 28) 22 rfl 43 (.agg #[.int .u16 0, .int .u8 0, .int .u8 0, .int .u32 0]) 4 8 Try.underlying22 info_ins rfl (by decide) w1.heap.size 1 1 (progF (fun _ => ⟨5, 0, 0, kk⟩)) rfl (World.rowIs_alloc w1 #[.int .u16 5, .int .u8 0, .int .u8 0, .int .u32 (len1 : Int)] 43 _ (ja_made hkk)) (Nat.le_refl _) (by decide) a1 len1 cap1 (progF q1) rfl HQ1.out (progF_one q1) (by unfold maxLen; omega) (by omega) ?_; intro g1 c1 F1 w2 hr1 hc1 hm1 hF1 hG1 hg1 hgg1; obtain ⟨hb1, hge1⟩ := append_new_below hg1 hgg1; have HR2 := Lib.hid hr1; have HF2 := Lib.hid (And.intro hF1 hG1); have HB2 := Lib.hid (HB1.out.trans (hb1.mono HB1.out.size)); have HP2 := Lib.hid (HP1.out.below hb1); have hge2 := Nat.le_trans HB1.out.size hge1; have HS2 := Lib.hid (holds_of_prog HP2.out.prog); clear hg1 hgg1 hF1 hG1 hr1 hb1 HP1 HQ1 HB1 hge1)
    | (at_builtin; refine wpList_append_rows _ rfl (.tmp 30) (.tmp 31) 22 rfl 43 (.agg #[.int .u16 0, .int .u8 0, .int .u8 0, .int .u32 0]) 4 8 Try.underlying22 info_ins rfl (by decide) g1 (1 + len1) c1 F1 rfl HR2.out hc1 hm1 a0 len0 cap0 (progF q) rfl HS2.out (progF_one q) (by unfold maxLen; omega) (by omega) ?_; intro g2 c2 F2 w3 hr2 hc2 hm2 hF2 hG2 hg2 hgg2; have HB3 := Lib.hid (below_grown HB2.out hg2 hge2 (Nat.le_refl _)); have HP3 := Lib.hid (HP.out.below HB3.out); have HX3 := Lib.hid (show PLies w3 (some ⟨g2, 0, none⟩) (len0 + (len1 + 1)) (ahead kk len1 q1 q) a2 64 z from ⟨ahead_prog hr2 hc2 hF2 hG2 HF2.out.1 HF2.out.2, HP3.out.data, HP3.out.bytes, by omega, HP3.out.dlen, ahead_ok HO.out HP3.out.ok⟩); clear hg2 hgg2 hF2 hG2 hr2 HB2 HP2 HS2 HR2 HF2; rw [hsum])
    | (go_at_call 18; (with_reducible refine (cbpf_Run _ a0 _ _ q _ _ _ z HP3.out).mono ?_); rintro e w4 ⟨rfl, hb⟩; have HX4 := Lib.hid (HX3.out.below hb); have HB4 := Lib.hid (HB3.out.trans (hb.mono HB3.out.size)); clear hb HX3 HB3 HP3; rw [HV1.out])
    | (go_at_call 18; (with_reducible refine (cbpf_Run _ _ _ _ _ _ _ _ z HX4.out).mono ?_); rintro e w5 ⟨rfl, hb⟩; have HB5 := Lib.hid (HB4.out.trans (hb.mono HB4.out.size)); clear hb HX4 HB4; rw [HV2.out]))
  go_ret
  exact ⟨rfl, HB5.out⟩
theorem ans_fails : ansV (Mach.start.fails 21) = .tuple #[.int .u32 0, .int .i64 0, .int .i64 21, .int .i64 0] := rfl
theorem walk (a0 : Option Addr) (len0 cap0 : Nat) (a1 : Option Addr) (len1 cap1 : Nat) (a2 : Option Addr) (len2 cap2 : Nat) (z2 : List Int) (w : World) (w0 : RowsOf [.u16, .u8, .u8, .u32] w a0 len0) (s0 : len0 ≤ 1048576) (w1 : RowsOf [.u16, .u8, .u8, .u32] w a1 len1) (s1 : len1 ≤ 1048576) (w2 : IsRow .u8 w a2 len2 cap2 z2 ∧ cap2 * 1 ≤ 140737488351232) :
    Calls Try.prog 8 #[.slice a0 len0 cap0, .slice a1 len1 cap1, .slice a2 len2 cap2] w fun e w' => e = .returned (.bool true) ∧ Below w.heap.size w w' := by
  by_cases hfar : 1000 < len1
  · exact walk_far a0 len0 cap0 a1 len1 cap1 a2 len2 cap2 w hfar
  · obtain ⟨q, _, hP⟩ := plies_of_args w0 (by omega) w2.1 w2.2
    obtain ⟨q1, hp1, ho1⟩ := prog_of_rows w1
    obtain ⟨kk, hkk⟩ : ∃ kk : BitVec 32, kk.toNat = len1 := ⟨BitVec.ofNat 32 len1, by rw [BitVec.toNat_ofNat]; omega⟩
    have hn1 : len1 ≤ 1000 := by omega
    clear w0 w1 w2
    generalize (fun i => z2.getD i 0) = z at hP
    by_cases h64 : len2 = 64
    · subst h64
      have hbr := behind_run (q := q) (x := ahead kk len1 q1 q) (n := len0) (m := len1) (jt := 0) (jf := 0) (k := kk) (if_pos rfl) hkk (fun i _ => by
        show ahead kk len1 q1 q (i + (len1 + 1)) = q i
        unfold ahead
        rw [if_neg (by omega), if_neg (by omega), Nat.add_sub_cancel]) (wordZ z)
      have hst := run_within q len0 64 (wordZ z)
      have hpl := place_iter hP.ok 64 (wordZ z) (len0 + 1)
      change (runM q len0 64 (wordZ z)).place ≤ _ at hpl
      generalize hs : runM q len0 64 (wordZ z) = s at hbr hst hpl
      by_cases he : s.err = 0
      · refine walk_well a0 len0 cap0 a1 len1 cap1 a2 cap2 z q q1 kk hkk (s.ans.toNat : Int) (s.steps : Int) (by omega) ?_ ?_ w hn1 s0 hP hp1 ho1
        · rw [hs, ansV, ansA, ansP, if_pos he, if_pos he, he]
        · rw [hbr]
          show Value.tuple #[.int .u32 (if s.err = 0 then (s.ans.toNat : Int) else 0), .int .i64 ((s.steps + 1 : Nat) : Int), .int .i64 s.err, .int .i64 (if s.err = 0 then 0 else ((s.place + (len1 + 1) : Nat) : Int))] = _
          rw [if_pos he, if_pos he, he]
          simp
      · refine walk_ill a0 len0 cap0 a1 len1 cap1 a2 cap2 z q q1 kk hkk (s.steps : Int) s.err (s.place : Int) (by omega) he (by omega) ?_ ?_ w hn1 s0 hP hp1 ho1
        · rw [hs, ansV, ansA, ansP, if_neg he, if_neg he]
        · rw [hbr]
          show Value.tuple #[.int .u32 (if s.err = 0 then (s.ans.toNat : Int) else 0), .int .i64 ((s.steps + 1 : Nat) : Int), .int .i64 s.err, .int .i64 (if s.err = 0 then 0 else ((s.place + (len1 + 1) : Nat) : Int))] = _
          rw [if_neg he, if_neg he]
          have e : ((s.place + (len1 + 1) : Nat) : Int) = (s.place : Int) + (len1 : Int) + 1 := by omega
          rw [e]
          simp
    · exact walk_other a0 len0 cap0 a1 len1 cap1 a2 len2 cap2 z q q1 kk hkk h64 (by rw [run_len _ _ _ _ h64, ans_fails]) (by rw [run_len _ _ _ _ h64, ans_fails]) w hn1 s0 hP hp1 ho1

/-! ### The row's step and the statement -/
set_option maxRecDepth 100000 in
theorem lifted (os : Os) (started : os.Started) (H : Type) (enc : TypeId × Value → H) (F : Stop.Interp) :
    ReturnsInHanded {} Try.checked os 8 .any ((Rows.OpenSpec.upto Rows.cbpfBehindSpec).pre6 enc Try.prog Try.f8 Rows.cbpfBehindUptoRow.domain false) (((Rows.OpenSpec.upto Rows.cbpfBehindSpec).at F).post enc Try.prog Try.f8 false true false false) := by
  refine returnsInHanded_of_cond (C := Try.checked) (s := Rows.OpenSpec.upto Rows.cbpfBehindSpec) (k := Rows.uptoSmall) rfl own started (by kernel_rfl) Try.func8
    (OpenSpec.witness (enc := enc) (C := Try.checked) (s := Rows.OpenSpec.upto Rows.cbpfBehindSpec) (k := Rows.uptoSmall) rfl false ⟨#[], #[.slice none 0 0, .slice none 0 0, .slice none 0 0], []⟩ 8 (by kernel_rfl) (by kernel_rfl) (by kernel_rfl)
      (x := ([.nil, .nil, .nil], [], [])) (by kernel_rfl) rfl (by kernel_rfl)) ?_
  intro W base args ds gs before hval0 hW _ hk _
  show Calls _ _ args W fun e W' => ∃ v, e = .returned v ∧ Rows.cbpfBehindSpec.post enc Try.prog _ false true false false W args v W'
  have hval : ∀ (j : Nat) t v, Try.f8.params[j]? = some t → args[j]? = some v → Value.okWide Try.prog W .any base t v := hval0
  have hW' := hW
  obtain ⟨p, q, hA0, hV, rfl, hfz, hnd⟩ := hW
  have hA : DataW.TrodAll enc Try.prog W 0 (fun _ => true) true Try.f8.params.toList args.toList ds p := hA0
  rw [Try.params8] at hA hval
  obtain ⟨v0, vs0, d0, ds0, p0, q0, hargs, rfl, rfl, h0, r0⟩ := trodAll_cons hA
  obtain ⟨v1, vs1, d1, ds1, p1, q1, rfl, rfl, rfl, h1, r1⟩ := trodAll_cons r0
  obtain ⟨v2, vs2, d2, ds2, p2, q2, rfl, rfl, rfl, h2, r2⟩ := trodAll_cons r1
  obtain ⟨rfl, rfl, rfl⟩ := trodAll_nil r2
  obtain rfl : args = #[v0, v1, v2] := by cases args; simp_all
  obtain ⟨rfl, rfl⟩ := trodVars_none hV
  obtain ⟨a0, len0, cap0, rfl⟩ := okWide_slice Try.underlying22 (hval 0 22 v0 rfl rfl)
  have k0 := h0
  have lt0 : ∀ x ∈ p0, x.block < W.heap.size := by obtain ⟨m, hm⟩ := k0; exact DataW.trod_lt m _ _ _ hm
  have w0 : RowsOf [.u16, .u8, .u8, .u32] W a0 len0 := by
    obtain ⟨fuel, hf⟩ := h0
    rcases rows_fields Try.underlying22 Try.underlying43 (by kernel_rfl) (by kernel_rfl) hf with hcs | ⟨x, l, c, hcs, hl, hm, hi⟩
    · simp [Value.cells] at hcs
      obtain ⟨rfl, rfl, rfl⟩ := hcs
      exact .inl ⟨rfl, rfl⟩
    · simp [Value.cells] at hcs
      obtain ⟨rfl, rfl, rfl⟩ := hcs
      refine .inr ⟨_, rfl, Nat.le_trans hl hm, fun i hil j K hK => ?_⟩
      match j, hK with
      | 0, hK =>
        obtain ⟨v, y, n, hc, ht⟩ := hi i hil 0 _ rfl
        obtain ⟨z, e, _, wz⟩ := DataW.trod_int Try.underlying41 ht
        simp only [List.cons.injEq, and_true] at e; subst e
        obtain rfl := Option.some.inj hK
        exact ⟨z, hc, wz⟩
      | 1, hK =>
        obtain ⟨v, y, n, hc, ht⟩ := hi i hil 1 _ rfl
        obtain ⟨z, e, _, wz⟩ := DataW.trod_int Try.underlying5 ht
        simp only [List.cons.injEq, and_true] at e; subst e
        obtain rfl := Option.some.inj hK
        exact ⟨z, hc, wz⟩
      | 2, hK =>
        obtain ⟨v, y, n, hc, ht⟩ := hi i hil 2 _ rfl
        obtain ⟨z, e, _, wz⟩ := DataW.trod_int Try.underlying5 ht
        simp only [List.cons.injEq, and_true] at e; subst e
        obtain rfl := Option.some.inj hK
        exact ⟨z, hc, wz⟩
      | 3, hK =>
        obtain ⟨v, y, n, hc, ht⟩ := hi i hil 3 _ rfl
        obtain ⟨z, e, _, wz⟩ := DataW.trod_int Try.underlying33 ht
        simp only [List.cons.injEq, and_true] at e; subst e
        obtain rfl := Option.some.inj hK
        exact ⟨z, hc, wz⟩
      | _ + 4, hK => exact absurd hK (by simp)
  have s0 : len0 ≤ 1048576 := by
    obtain ⟨fuel, hf⟩ := h0
    rcases rows_sized Try.underlying22 hf with hcs | ⟨x, l, c, elems, rest, hcs, hd, hle⟩
    · simp [Value.cells] at hcs
      obtain ⟨rfl, rfl, rfl⟩ := hcs
      omega
    · simp [Value.cells] at hcs
      obtain ⟨rfl, rfl, rfl⟩ := hcs
      have hr := len_small hk (d := d0) (by simp) hd
      omega
  obtain ⟨a1, len1, cap1, rfl⟩ := okWide_slice Try.underlying22 (hval 1 22 v1 rfl rfl)
  have k1 := h1
  have lt1 : ∀ x ∈ p1, x.block < W.heap.size := by obtain ⟨m, hm⟩ := k1; exact DataW.trod_lt m _ _ _ hm
  have w1 : RowsOf [.u16, .u8, .u8, .u32] W a1 len1 := by
    obtain ⟨fuel, hf⟩ := h1
    rcases rows_fields Try.underlying22 Try.underlying43 (by kernel_rfl) (by kernel_rfl) hf with hcs | ⟨x, l, c, hcs, hl, hm, hi⟩
    · simp [Value.cells] at hcs
      obtain ⟨rfl, rfl, rfl⟩ := hcs
      exact .inl ⟨rfl, rfl⟩
    · simp [Value.cells] at hcs
      obtain ⟨rfl, rfl, rfl⟩ := hcs
      refine .inr ⟨_, rfl, Nat.le_trans hl hm, fun i hil j K hK => ?_⟩
      match j, hK with
      | 0, hK =>
        obtain ⟨v, y, n, hc, ht⟩ := hi i hil 0 _ rfl
        obtain ⟨z, e, _, wz⟩ := DataW.trod_int Try.underlying41 ht
        simp only [List.cons.injEq, and_true] at e; subst e
        obtain rfl := Option.some.inj hK
        exact ⟨z, hc, wz⟩
      | 1, hK =>
        obtain ⟨v, y, n, hc, ht⟩ := hi i hil 1 _ rfl
        obtain ⟨z, e, _, wz⟩ := DataW.trod_int Try.underlying5 ht
        simp only [List.cons.injEq, and_true] at e; subst e
        obtain rfl := Option.some.inj hK
        exact ⟨z, hc, wz⟩
      | 2, hK =>
        obtain ⟨v, y, n, hc, ht⟩ := hi i hil 2 _ rfl
        obtain ⟨z, e, _, wz⟩ := DataW.trod_int Try.underlying5 ht
        simp only [List.cons.injEq, and_true] at e; subst e
        obtain rfl := Option.some.inj hK
        exact ⟨z, hc, wz⟩
      | 3, hK =>
        obtain ⟨v, y, n, hc, ht⟩ := hi i hil 3 _ rfl
        obtain ⟨z, e, _, wz⟩ := DataW.trod_int Try.underlying33 ht
        simp only [List.cons.injEq, and_true] at e; subst e
        obtain rfl := Option.some.inj hK
        exact ⟨z, hc, wz⟩
      | _ + 4, hK => exact absurd hK (by simp)
  have s1 : len1 ≤ 1048576 := by
    obtain ⟨fuel, hf⟩ := h1
    rcases rows_sized Try.underlying22 hf with hcs | ⟨x, l, c, elems, rest, hcs, hd, hle⟩
    · simp [Value.cells] at hcs
      obtain ⟨rfl, rfl, rfl⟩ := hcs
      omega
    · simp [Value.cells] at hcs
      obtain ⟨rfl, rfl, rfl⟩ := hcs
      have hr := len_small hk (d := d1) (by simp) hd
      omega
  obtain ⟨a2, len2, cap2, rfl⟩ := okWide_slice Try.underlying25 (hval 2 25 v2 rfl rfl)
  have k2 := h2
  have lt2 : ∀ x ∈ p2, x.block < W.heap.size := by obtain ⟨m, hm⟩ := k2; exact DataW.trod_lt m _ _ _ hm
  obtain ⟨z2, w2⟩ : ∃ zs, IsRow .u8 W a2 len2 cap2 zs ∧ cap2 * 1 ≤ 140737488351232 := by
    obtain ⟨fuel, hf⟩ := h2
    rcases open_ints Try.underlying25 Try.underlying5 (by kernel_rfl) hf with ⟨hcs, _⟩ | ⟨x, l, c, zs, hcs, _, hl, hm, hz, hx, hcell, hwz⟩
    · simp [Value.cells] at hcs
      obtain ⟨rfl, rfl, rfl⟩ := hcs
      exact ⟨[], ⟨.inl ⟨rfl, rfl, rfl, rfl⟩, by omega⟩⟩
    · simp [Value.cells] at hcs
      obtain ⟨rfl, rfl, rfl⟩ := hcs
      have hd : d2 = _ := congrArg Prod.fst hx
      have hr := len_small hk (d := d2) (by simp) hd
      simp only [lits, List.length_map, List.length_take, List.length_drop] at hr
      have hzl : zs.length = _ := hz
      simp only [if_true] at hzl
      exact ⟨zs, ⟨.inr ⟨_, rfl, hl, hm, by simpa using hz, hcell, hwz⟩, by omega⟩⟩
  clear hA0 hval0
  refine (walk a0 len0 cap0 a1 len1 cap1 a2 len2 cap2 z2 W w0 s0 w1 s1 w2).mono fun e W' ⟨he, bel⟩ => ?_
  subst he
  exact ⟨_, rfl, _, _, _, [], _, [], hW', trodAll_mk1 (shut_bool Try.underlying4 _), (trodAll_cons_mk (Below.trod laidOut (by kernel_rfl) (of_decide_eq_true (by kernel_rfl)) k0 bel lt0) (trodAll_cons_mk (Below.trod laidOut (by kernel_rfl) (of_decide_eq_true (by kernel_rfl)) k1 bel lt1) (trodAll_cons_mk (Below.trod laidOut (by kernel_rfl) (of_decide_eq_true (by kernel_rfl)) k2 bel lt2) trodAll_mk0))), rfl, bel.frame _, fun h => by cases h⟩

theorem over : Rows.cbpfBehindUptoRow.holds Try.pinned (Rows.OpenSpec.upto Rows.cbpfBehindSpec) :=
  OpenClaim.holds_of_cond 8 Try.f8 rfl rfl rfl rfl rfl rfl rfl ⟨rfl, rfl, rfl, rfl, rfl⟩ rfl rfl rfl rfl rfl (by kernel_rfl) Try.func8 (by kernel_rfl)
    (of_decide_eq_true (by kernel_rfl)) (by unfold Func.isWrapper; first | (rw [if_pos (by decide +kernel)]; kernel_rfl) | (rw [if_neg (by decide +kernel)]; exact ⟨rfl, rfl⟩))
    (fun os started H enc _ F => lifted os started H enc F)

/-- The statement. -/
theorem proved : Rows.CbpfBehindUptoSaid := over
end Go.Proofs.Ytlfbkalpnbjdjaa.cbpfBehind
