/-
  A machine of the program from its making to its end: New, Answer, Run of classic BPF: contracts. Conditions: those that each names.
-/
import Derived.Test.YtgpjiflgocgolaaPStep3
import Derived.Test.YtgpjiflgocgolaaCbpfAll
import Derived.Test.YtgpjiflgocgolaaCbpfLent
namespace Go.Proofs.Ytgpjiflgocgolaa
open Go Go.RowKit
set_option linter.unusedSimpArgs false
set_option linter.unusedVariables false
set_option maxRecDepth 100000

theorem nil_eq_ins (c : Nat) (w : World) : (binOp .eql 27 (.slice none 0 c) (.slice none 0 0)).run Try.prog w = .ok (.bool true) w := by kernel_rfl
theorem some_eq_ins (a : Addr) (n c : Nat) (w : World) : (binOp .eql 27 (.slice (some a) n c) (.slice none 0 0)).run Try.prog w = .ok (.bool false) w := by kernel_rfl
theorem nil_eq_u8 (c : Nat) (w : World) : (binOp .eql 43 (.slice none 0 c) (.slice none 0 0)).run Try.prog w = .ok (.bool true) w := by kernel_rfl
theorem some_eq_u8 (a : Addr) (n c : Nat) (w : World) : (binOp .eql 43 (.slice (some a) n c) (.slice none 0 0)).run Try.prog w = .ok (.bool false) w := by kernel_rfl
/-- What a clone leaves: a slice in new memory, or nil. -/
def CloneP (w : World) (n : Nat) (R : World → Option Addr → Prop) (e : Ending) (w' : World) : Prop := ∃ A cap, e = .returned (.slice A n cap) ∧ R w' A ∧ Below w.heap.size w w'

theorem clone_ins (w : World) (A : Option Addr) (n cap : Nat) (q : Nat → Ins) (hn : n * 8 ≤ 140737488351232) (h : ProgAt w A n q) :
    Calls Try.prog 44 #[.slice A n cap] w (CloneP w n fun w' A' => ProgAt w' A' n q) := by
  rcases A with _ | ad
  · have hn0 : n = 0 := by
      rcases Nat.eq_zero_or_pos n with g | g
      · exact g
      · obtain ⟨_, _, e, _⟩ := h g; cases e
    subst hn0
    clear h
    have hq := nil_eq_ins cap
    go_enter Try.func44, Try.ntmps44
    go_wp2
    go_ret
    exact ⟨none, 0, rfl, fun h => absurd h (by omega), Below.refl _ _⟩
  · have HS := Lib.hid ((holds_of_prog h).below (box_below w (.cells #[] 50)))
    have hq := some_eq_ins ad n cap
    clear h
    go_enter Try.func44, Try.ntmps44
    go_wp2_with (at_builtin; refine wpList_append_rows _ rfl (.tmp 5) (.tmp 6) 27 rfl 50 (.agg #[.int .u16 0, .int .u8 0, .int .u8 0, .int .u32 0]) 4 8 Try.underlying27 info_ins rfl (by decide) w.heap.size 0 0 (fun _ => undef) rfl (World.rowIs_alloc w #[] 50 (fun _ => undef) (fun i hi => absurd hi (by simp))) (Nat.le_refl _) (by decide) (some ad) n cap (progF q) rfl HS.out (progF_one q) (by unfold maxLen; omega) (by omega) ?_; intro g1 cap1 F1 w1 hr1 hc1 hm1 _ hF1 hg1 hgg1; simp only [Nat.zero_add, Nat.zero_mul] at hc1 hF1; obtain ⟨hb1, hge1⟩ := append_new_below hg1 hgg1; clear hg1 hgg1; have HF1 := Lib.hid hF1; clear hF1)
    go_ret
    exact ⟨some ⟨g1, 0, none⟩, cap1, by simp, prog_of_row hr1 HF1.out (by omega), hb1⟩

theorem clone_bytes (w : World) (A : Option Addr) (n cap : Nat) (z : Nat → Int) (hn : n ≤ 140737488351232) (h : Holds w A n fun i => .int .u8 (z i)) :
    Calls Try.prog 45 #[.slice A n cap] w (CloneP w n fun w' A' => Holds w' A' n fun i => .int .u8 (z i)) := by
  rcases A with _ | ad
  · have hn0 : n = 0 := by
      rcases Nat.eq_zero_or_pos n with g | g
      · exact g
      · obtain ⟨_, _, e, _⟩ := h g; cases e
    subst hn0
    clear h
    have hq := nil_eq_u8 cap
    go_enter Try.func45, Try.ntmps45
    go_wp2
    go_ret
    exact ⟨none, 0, rfl, fun h => absurd h (by omega), Below.refl _ _⟩
  · have HS := Lib.hid (h.below (box_below w (.cells #[] 5)))
    have hq := some_eq_u8 ad n cap
    clear h
    go_enter Try.func45, Try.ntmps45
    go_wp2_with (at_builtin; refine wpList_append_row _ rfl (.tmp 5) (.tmp 6) 43 rfl 5 (.int .u8 0) 1 Try.underlying43 rfl rfl w.heap.size 0 0 (fun _ => undef) rfl (World.rowIs_alloc w #[] 5 (fun _ => undef) (fun i hi => absurd hi (by simp))) (Nat.le_refl _) (by decide) (some ad) n cap (fun i => .int .u8 (z i)) rfl HS.out (fun _ => rfl) (by unfold maxLen; omega) (by omega) ?_; intro g1 cap1 F1 w1 hr1 hc1 hm1 _ hF1 hg1 hgg1; simp only [Nat.zero_add] at hc1 hF1; obtain ⟨hb1, hge1⟩ := append_new_below hg1 hgg1; clear hg1 hgg1; have HF1 := Lib.hid hF1; clear hF1)
    go_ret
    exact ⟨some ⟨g1, 0, none⟩, cap1, by simp, (holds_of_row hr1 (by omega)).congr HF1.out, hb1⟩

/-- A program and its data, ahead of a run of the program's own. -/
structure PLies (w : World) (qa : Option Addr) (n : Nat) (q : Nat → Ins) (da : Option Addr) (dlen : Nat) (z : Nat → Int) : Prop where
  prog : ProgAt w qa n q
  data : Holds w da dlen fun i => .int .u8 (z i)
  bytes : ∀ i, 0 ≤ z i ∧ z i < 256
  len : n * 8 ≤ 140737488351232
  dlen : dlen ≤ 140737488351232
  ok : ∀ i, i < n → (q i).OK
theorem PLies.below {w w' : World} {qa : Option Addr} {n : Nat} {q : Nat → Ins} {da : Option Addr} {dlen : Nat} {z : Nat → Int} (h : PLies w qa n q da dlen z) (hb : Below w.heap.size w w') : PLies w' qa n q da dlen z :=
  ⟨h.prog.below hb, h.data.below hb, h.bytes, h.len, h.dlen, h.ok⟩
/-- A machine that has been made. -/
def NewP (w : World) (n : Nat) (q : Nat → Ins) (dlen : Nat) (z : Nat → Int) (e : Ending) (w' : World) : Prop :=
  ∃ b qa qcap da dcap mb, e = .returned (.pointer (some ⟨b, 0, none⟩)) ∧ PReady w' b qa n qcap q da dlen dcap z mb Mach.start ∧ Below w.heap.size w w' ∧ w.heap.size ≤ b
theorem cbpf_New (w : World) (qa : Option Addr) (n qcap : Nat) (q : Nat → Ins) (da : Option Addr) (dlen dcap : Nat) (z : Nat → Int) (h : PLies w qa n q da dlen z) :
    Calls Try.prog 21 #[.slice qa n qcap, .slice da dlen dcap] w (NewP w n q dlen z) := by
  have HL := Lib.hid h
  clear h
  go_enter Try.func21, Try.ntmps21
  go_wp2_with (first
    | (go_at_call 44; (with_reducible refine (clone_ins _ _ _ _ q HL.out.len HL.out.prog).mono ?_); rintro e w1 ⟨qa1, qcap1, rfl, hp, hb⟩; have HP1 := Lib.hid hp; have HB1 := Lib.hid hb; have HL1 := Lib.hid (HL.out.below hb); clear hp hb)
    | (go_at_call 45; (with_reducible refine (clone_bytes _ _ _ _ z HL1.out.dlen HL1.out.data).mono ?_); rintro e w2 ⟨da1, dcap1, rfl, hd, hb⟩; have HD2 := Lib.hid hd; have HP2 := Lib.hid (HP1.out.below hb); have HB2 := Lib.hid (HB1.out.trans (hb.mono HB1.out.size)); clear hd hb HP1 HB1 HL1)
    | (go_at_call 46; (with_reducible refine (cbpf_operations _).mono ?_); rintro e w3 ⟨rfl, hm, hb⟩; have HM3 := Lib.hid hm; have HD3 := Lib.hid (HD2.out.below hb); have HP3 := Lib.hid (HP2.out.below hb); have HB3 := Lib.hid (HB2.out.trans (hb.mono HB2.out.size)); clear hm hb HP2 HD2 HB2))
  go_ret
  have hbx := box_below w3 (.cells #[.slice qa1 n qcap1, .slice da1 dlen dcap1, .map (some w2.heap.size), .int .u32 0, .int .u32 0, .int .u32 0, .int .u32 0, .int .u32 0, .int .u32 0, .int .u32 0, .int .u32 0, .int .u32 0, .int .u32 0, .int .u32 0, .int .u32 0, .int .u32 0, .int .u32 0, .int .u32 0, .int .u32 0, .int .u32 0, .int .u32 0, .int .i64 0, .int .i64 0, .bool false, .int .u32 0, .int .i64 0] 88)
  have hml := HM3.out.lt
  refine ⟨w3.heap.size, qa1, qcap1, da1, dcap1, w2.heap.size, rfl, ⟨pmach_new w3 qa1 da1 n qcap1 dlen dcap1 w2.heap.size, HP3.out.below hbx, fun h64 => ?_, fun ad hn e => ?_, fun ad h64 e => ?_, by have := HL.out.len; omega, HL.out.ok, by decide, HM3.out.below hbx hml, Nat.ne_of_lt hml⟩, HB3.out.trans (hbx.mono HB3.out.size), HB3.out.size⟩
  · obtain ⟨db, doff, e, hl, hc⟩ := (HD3.out.below hbx) (by omega)
    exact ⟨db, doff, e, hl, HL.out.bytes, fun i hi => hc i (by omega)⟩
  · obtain ⟨qb, qo, e', hl, _⟩ := HP3.out hn
    rw [e] at e'; injection e' with e'; subst e'; exact Nat.ne_of_lt hl
  · obtain ⟨db, doff, e', hl, _⟩ := HD3.out (by omega)
    rw [e] at e'; injection e' with e'; subst e'; exact Nat.ne_of_lt hl

theorem cbpf_Answer (w : World) (b : Nat) (qv dv mv : Value) (s : Mach) (h : PMAt w b qv dv mv s) :
    Calls Try.prog 23 #[.pointer (some ⟨b, 0, none⟩)] w fun e w' => e = .returned (ansV s) ∧ ∃ m, w' = w.drewN m := by
  have c21 : w.cell? ⟨b, 21, none⟩ = some (.int .i64 (s.place : Int)) := World.rowIs.cell h (i := 21) (by decide)
  have c22 : w.cell? ⟨b, 22, none⟩ = some (.int .i64 (s.steps : Int)) := World.rowIs.cell h (i := 22) (by decide)
  have c24 : w.cell? ⟨b, 24, none⟩ = some (.int .u32 (s.ans.toNat : Int)) := World.rowIs.cell h (i := 24) (by decide)
  have c25 : w.cell? ⟨b, 25, none⟩ = some (.int .i64 s.err) := World.rowIs.cell h (i := 25) (by decide)
  clear h
  by_cases he : s.err = 0
  · have ha : ansA s = (s.ans.toNat : Int) := if_pos he
    have hp : ansP s = 0 := if_pos he
    rw [ansV, ha, hp, he]; clear ha hp
    go_enter Try.func23, Try.ntmps23
    go_wp2
    go_quiet (fail)
    go_wp2
    (try simp only [Exit.inBlock, Exit.then])
    refine bodyPost_ret (results_tmp4 rfl _ _ _) rfl ?_
    exact ⟨rfl, _, rfl⟩
  · have ha : ansA s = 0 := if_neg he
    have hp : ansP s = (s.place : Int) := if_neg he
    rw [ansV, ha, hp]; clear ha hp
    go_enter Try.func23, Try.ntmps23
    go_wp2
    go_quiet (fail)
    go_wp2
    (try simp only [Exit.inBlock, Exit.then])
    refine bodyPost_ret (results_tmp4 rfl _ _ _) rfl ?_
    exact ⟨rfl, _, rfl⟩

/-- How far a machine of the program is from its end. -/
def leftP (n b : Nat) (w : World) : Nat :=
  match w.cell? ⟨b, 23, none⟩ with
  | some (.bool true) => 0
  | _ => match w.cell? ⟨b, 21, none⟩ with
    | some (.int _ p) => n + 1 - p.toNat + 1
    | _ => 0
theorem leftP_on {n b : Nat} {w : World} {qv dv mv : Value} {s : Mach} (h : PMAt w b qv dv mv s) (hd : s.done = false) : leftP n b w = n + 1 - s.place + 1 := by
  have h1 : w.cell? ⟨b, 21, none⟩ = some (.int .i64 (s.place : Int)) := World.rowIs.cell h (i := 21) (by decide)
  have h2 : w.cell? ⟨b, 23, none⟩ = some (.bool false) := by have := World.rowIs.cell h (i := 23) (by decide); rw [this]; exact congrArg (fun x => some (Value.bool x)) hd
  simp [leftP, h1, h2]
def RunP (w : World) (s : Mach) (e : Ending) (w' : World) : Prop := e = .returned (ansV s) ∧ Below w.heap.size w w'
theorem cbpf_Run (w : World) (qa : Option Addr) (n qcap : Nat) (q : Nat → Ins) (da : Option Addr) (dlen dcap : Nat) (z : Nat → Int) (h : PLies w qa n q da dlen z) :
    Calls Try.prog 10 #[.slice qa n qcap, .slice da dlen dcap] w (RunP w (runM q n dlen (wordZ z))) := by
  have HL := Lib.hid h
  clear h
  go_enter Try.func10, Try.ntmps10
  go_wp2_with (go_at_call 21; (with_reducible refine (cbpf_New _ _ _ _ _ _ _ _ _ HL.out).mono ?_); rintro e w1 ⟨b, qa1, qcap1, da1, dcap1, mb, rfl, hr, hb, hge⟩; have HR := Lib.hid hr; have HB := Lib.hid hb; clear hr hb)
  go_loopw [14] (fun t wr => ∃ k : Nat, (iterS q n dlen (wordZ z) k).done = false ∧ PReady wr b qa1 n qcap1 q da1 dlen dcap1 z mb (iterS q n dlen (wordZ z) k) ∧ Below w.heap.size w wr) (fun t wr => leftP n b wr)
  case atStart => exact ⟨0, rfl, HR.out, HB.out⟩
  case round =>
    obtain ⟨k, hdk, hR, hB⟩ := hrel
    clear HR HB
    have hst := iter_steps q n dlen (wordZ z) (k + 1)
    have hgo := iter_going q n dlen (wordZ z) k hdk
    have hrun := iter_is_run q n dlen (wordZ z) (k := k + 1)
    have hnext := step_going q n dlen (wordZ z) (iterS q n dlen (wordZ z) k)
    have hlen := HL.out.len
    have hm0 : leftP n b wr = n + 1 - (iterS q n dlen (wordZ z) k).place + 1 := leftP_on hR.mach hdk
    have HS := Lib.hid (And.intro hst (And.intro hgo (And.intro hrun (And.intro hnext hm0))))
    have HR := Lib.hid hR
    have HB := Lib.hid hB
    clear hst hgo hrun hnext hR hB hm0 hdk
    rcases hd2 : ((iterS q n dlen (wordZ z) k).step q n dlen (wordZ z)).done with _ | _
    · have HD := Lib.hid hd2
      have HV := Lib.hid (hd2 ▸ p_Step wr b qa1 n qcap1 q da1 dlen dcap1 z mb _ HR.out)
      clear hd2
      go_wp2_with (go_at_call 22; (with_reducible refine HV.out.mono ?_); rintro e w2 ⟨rfl, hm2, hg2⟩; have HM := Lib.hid (And.intro hm2 hg2); clear hm2 hg2)
      go_roundw
      case rel => exact ⟨k + 1, HD.out, HR.out.after HM.out.1 HM.out.2 (by have := HS.out.1; have := HS.out.2.1.2.1; show (iterS q n dlen (wordZ z) (k + 1)).steps < _; omega), below_grown HB.out HM.out.2 hge (Nat.le_refl _)⟩
      case measure =>
        rw [HS.out.2.2.2.2, leftP_on HM.out.1 HD.out]
        have h3 := HS.out.2.2.2.1 HD.out
        have := h3.2.1
        have := h3.2.2.1
        omega
    · have HD := Lib.hid hd2
      have HV := Lib.hid (hd2 ▸ p_Step wr b qa1 n qcap1 q da1 dlen dcap1 z mb _ HR.out)
      clear hd2
      go_wp2_with (first
        | (go_at_call 22; (with_reducible refine HV.out.mono ?_); rintro e w2 ⟨rfl, hm2, hg2⟩; have HM := Lib.hid (And.intro hm2 hg2); clear hm2 hg2)
        | (go_at_call 23; (with_reducible refine (cbpf_Answer _ _ _ _ _ _ HM.out.1).mono ?_); rintro e w3 ⟨rfl, m, rfl⟩))
      (try simp only [Exit.inBlock, Exit.then])
      refine bodyPost_ret (results_tmp4 rfl _ _ _) rfl ?_
      have he := HS.out.2.2.1 HD.out (by have := HS.out.2.1.2.1; omega)
      rw [← he]
      exact ⟨rfl, below_drawn (below_grown HB.out HM.out.2 hge (Nat.le_refl _)) _⟩
end Go.Proofs.Ytgpjiflgocgolaa
