/-
  A program of classic BPF from its start to its end, by the document: as plain functions, and what New, Answer and Run answer. Conditions: those that each names.
-/
import Derived.Test.YtoajommeiocfpaaGreatCbpfStepped
namespace Go.Proofs.YtoajommeiocfpaaGreat
open Go Go.RowKit
set_option linter.unusedSimpArgs false
set_option linter.unusedVariables false

section
variable (q : Nat → Ins) (n len : Nat) (word : Nat → BitVec 32)
/-- Behind k steps. -/
def iterS : Nat → Mach
  | 0 => Mach.start
  | k + 1 => (iterS k).step q n len word
theorem step_of_done (s : Mach) (h : s.done = true) : s.step q n len word = s := by simp [Mach.step, h]
theorem step_going (s : Mach) (h : (s.step q n len word).done = false) : s.done = false ∧ s.place < n ∧ s.place < (s.step q n len word).place ∧ (s.step q n len word).steps = s.steps + 1 := by
  rcases hd : s.done with _ | _
  · by_cases hl : len = 64
    · by_cases hp : n ≤ s.place
      · rw [show s.step q n len word = s.fails 33 by simp [Mach.step, hd, hl, hp]] at h; cases h
      · by_cases hw : wrongE (q s.place).code (q s.place).k = 0
        · have e : s.step q n len word = s.does word (q s.place) := by simp [Mach.step, hd, hl, hp, hw]
          rw [e] at h ⊢
          refine ⟨rfl, by omega, ?_⟩
          have on : ∀ (s' : Mach) m, s'.place = s.place → s'.steps = s.steps → 1 ≤ m → s.place < (s'.on m).place ∧ (s'.on m).steps = s.steps + 1 := fun s' m h1 h2 h3 => by
            show s.place < s'.place + m ∧ s'.steps + 1 = s.steps + 1
            omega
          unfold Mach.does at h ⊢
          simp only at h ⊢
          rcases ha : aluC (q s.place).code with _ | _
          · rw [ha] at h
            simp only [Bool.false_eq_true, if_false] at h ⊢
            rcases hj : jumpC (q s.place).code with _ | _
            · rw [hj] at h
              simp only [Bool.false_eq_true, if_false] at h ⊢
              by_cases h5 : (q s.place).code = 5
              · rw [if_pos h5]; exact on _ _ rfl rfl (by omega)
              · rw [if_neg h5] at h ⊢
                by_cases h6 : (q s.place).code = 6
                · rw [if_pos h6] at h; cases h
                · rw [if_neg h6] at h ⊢
                  by_cases h22 : (q s.place).code = 22
                  · rw [if_pos h22] at h; cases h
                  · rw [if_neg h22]
                    have hk := moves_keeps word s (q s.place)
                    exact on _ _ hk.1 hk.2 (by omega)
            · simp only [if_true]
              exact on _ _ rfl rfl (by omega)
          · rw [ha] at h
            simp only [if_true] at h ⊢
            by_cases h6 : (q s.place).code = 60 ∧ (if usesX (q s.place).code = true then s.x else (q s.place).k) = 0#32
            · rw [if_pos h6] at h; cases h
            · rw [if_neg h6]; exact on _ _ rfl rfl (by omega)
        · rw [show s.step q n len word = s.fails (wrongE (q s.place).code (q s.place).k) by simp [Mach.step, hd, hl, hp, hw]] at h; cases h
    · rw [show s.step q n len word = s.fails 21 by simp [Mach.step, hd, hl]] at h; cases h
  · rw [step_of_done q n len word s hd, hd] at h; cases h
theorem step_steps (s : Mach) : (s.step q n len word).steps ≤ s.steps + 1 := by
  have h1 : ∀ e, (s.fails e).steps ≤ s.steps + 1 := fun e => by show s.steps ≤ _; omega
  have h2 : ∀ v, (s.ends v).steps ≤ s.steps + 1 := fun v => Nat.le_refl _
  have h3 : ∀ (s' : Mach) m, s'.steps = s.steps → (s'.on m).steps ≤ s.steps + 1 := fun s' m e => by show s'.steps + 1 ≤ _; omega
  unfold Mach.step
  split
  · omega
  · split
    · exact h1 _
    · split
      · exact h1 _
      · split
        · exact h1 _
        · unfold Mach.does
          simp only
          generalize (if usesX (q s.place).code = true then s.x else (q s.place).k) = bv
          split
          · split
            · exact h2 _
            · exact h3 _ _ rfl
          · split
            · exact h3 _ _ rfl
            · split
              · exact h3 _ _ rfl
              · split
                · exact h2 _
                · split
                  · exact h2 _
                  · exact h3 _ _ (moves_keeps word s _).2
theorem iter_steps : ∀ k, (iterS q n len word k).steps ≤ k
  | 0 => Nat.le_refl _
  | k + 1 => by have := iter_steps k; have := step_steps q n len word (iterS q n len word k); show ((iterS q n len word k).step q n len word).steps ≤ _; omega
theorem iter_going : ∀ k, (iterS q n len word k).done = false → k ≤ (iterS q n len word k).place ∧ k ≤ n ∧ (iterS q n len word k).steps = k
  | 0, _ => ⟨Nat.zero_le _, Nat.zero_le _, rfl⟩
  | k + 1, h => by
    obtain ⟨h1, h2, h3, h4⟩ := step_going q n len word _ h
    obtain ⟨g1, g2, g3⟩ := iter_going k h1
    show k + 1 ≤ ((iterS q n len word k).step q n len word).place ∧ k + 1 ≤ n ∧ ((iterS q n len word k).step q n len word).steps = k + 1
    omega
/-- A program's end. -/
def runM : Mach := iterS q n len word (n + 1)
theorem run_done : (runM q n len word).done = true := by
  rcases h : (runM q n len word).done with _ | _
  · have := (iter_going q n len word _ h).2.1; omega
  · rfl
theorem iter_stays {k : Nat} (h : (iterS q n len word k).done = true) : ∀ m, iterS q n len word (k + m) = iterS q n len word k
  | 0 => rfl
  | m + 1 => by
    show (iterS q n len word (k + m)).step q n len word = _
    rw [iter_stays h m]; exact step_of_done q n len word _ h
theorem iter_is_run {k : Nat} (h : (iterS q n len word k).done = true) (hk : k ≤ n + 1) : iterS q n len word k = runM q n len word := by
  have := iter_stays q n len word h (n + 1 - k)
  rw [show k + (n + 1 - k) = n + 1 by omega] at this
  exact this.symm
end

/-- What a machine answers. -/
def ansA (s : Mach) : Int := if s.err = 0 then (s.ans.toNat : Int) else 0
def ansP (s : Mach) : Int := if s.err = 0 then 0 else (s.place : Int)
abbrev ansV (s : Mach) : Value := .tuple #[.int .u32 (ansA s), .int .i64 (s.steps : Int), .int .i64 s.err, .int .i64 (ansP s)]
theorem results_tmp4 {fn : Func} {t u v x : Tmp} (h : fn.results = #[.tmp t, .tmp u, .tmp v, .tmp x]) (tmps : Array Value) (P : Program) (w : World) :
    (results fn tmps).run P w = .ok (.tuple #[tmps.getD t undef, tmps.getD u undef, tmps.getD v undef, tmps.getD x undef]) w := by
  simp [results, h]
theorem mach_new (w : World) (qa da : Option Addr) (n qcap dlen dcap : Nat) : MachAt (w.alloc (.cells #[.slice qa n qcap, .slice da dlen dcap, .int .u32 0, .int .u32 0, .int .u32 0, .int .u32 0, .int .u32 0, .int .u32 0, .int .u32 0, .int .u32 0, .int .u32 0, .int .u32 0, .int .u32 0, .int .u32 0, .int .u32 0, .int .u32 0, .int .u32 0, .int .u32 0, .int .u32 0, .int .u32 0, .int .i64 0, .int .i64 0, .bool false, .int .u32 0, .int .i64 0] 77)) w.heap.size (.slice qa n qcap) (.slice da dlen dcap) Mach.start :=
  World.rowIs_alloc w #[.slice qa n qcap, .slice da dlen dcap, .int .u32 0, .int .u32 0, .int .u32 0, .int .u32 0, .int .u32 0, .int .u32 0, .int .u32 0, .int .u32 0, .int .u32 0, .int .u32 0, .int .u32 0, .int .u32 0, .int .u32 0, .int .u32 0, .int .u32 0, .int .u32 0, .int .u32 0, .int .u32 0, .int .i64 0, .int .i64 0, .bool false, .int .u32 0, .int .i64 0] 77 _ (by
    iterate 25 (refine lt_more ?_ rfl)
    exact lt_zero)
theorem ref_Answer (w : World) (b : Nat) (qv dv : Value) (s : Mach) (h : MachAt w b qv dv s) :
    Calls Tryz.prog 16 #[.pointer (some ⟨b, 0, none⟩)] w fun e w' => e = .returned (ansV s) ∧ ∃ m, w' = w.drewN m := by
  have c20 : w.cell? ⟨b, 20, none⟩ = some (.int .i64 (s.place : Int)) := World.rowIs.cell h (i := 20) (by decide)
  have c21 : w.cell? ⟨b, 21, none⟩ = some (.int .i64 (s.steps : Int)) := World.rowIs.cell h (i := 21) (by decide)
  have c23 : w.cell? ⟨b, 23, none⟩ = some (.int .u32 (s.ans.toNat : Int)) := World.rowIs.cell h (i := 23) (by decide)
  have c24 : w.cell? ⟨b, 24, none⟩ = some (.int .i64 s.err) := World.rowIs.cell h (i := 24) (by decide)
  clear h
  by_cases he : s.err = 0
  · have ha : ansA s = (s.ans.toNat : Int) := if_pos he
    have hp : ansP s = 0 := if_pos he
    rw [ansV, ha, hp, he]; clear ha hp
    go_enter Tryz.func16, Tryz.ntmps16
    go_wp2
    go_quiet (fail)
    go_wp2
    (try simp only [Exit.inBlock, Exit.then])
    refine bodyPost_ret (results_tmp4 rfl _ _ _) rfl ?_
    exact ⟨rfl, _, rfl⟩
  · have ha : ansA s = 0 := if_neg he
    have hp : ansP s = (s.place : Int) := if_neg he
    rw [ansV, ha, hp]; clear ha hp
    go_enter Tryz.func16, Tryz.ntmps16
    go_wp2
    go_quiet (fail)
    go_wp2
    (try simp only [Exit.inBlock, Exit.then])
    refine bodyPost_ret (results_tmp4 rfl _ _ _) rfl ?_
    exact ⟨rfl, _, rfl⟩

theorem ref_New (w : World) (qa da : Option Addr) (n qcap dlen dcap : Nat) : Calls Tryz.prog 14 #[.slice qa n qcap, .slice da dlen dcap] w fun e w' => e = .returned (.pointer (some ⟨w.heap.size, 0, none⟩)) ∧ MachAt w' w.heap.size (.slice qa n qcap) (.slice da dlen dcap) Mach.start ∧ Below w.heap.size w w' := by
  go_enter Tryz.func14, Tryz.ntmps14
  go_wp2
  go_ret
  exact ⟨rfl, mach_new w qa da n qcap dlen dcap, box_below w _⟩

/-- How far a machine is from its end. -/
def leftW (n b : Nat) (t : Value) (w : World) : Nat :=
  match t with
  | .bool true => 0
  | _ => match w.cell? ⟨b, 20, none⟩ with
    | some (.int _ p) => n + 1 - p.toNat + 1
    | _ => 0
theorem left_on {n b : Nat} {w : World} {qv dv : Value} {s : Mach} (h : MachAt w b qv dv s) : leftW n b (.bool false) w = n + 1 - s.place + 1 := by
  have : w.cell? ⟨b, 20, none⟩ = some (.int .i64 (s.place : Int)) := World.rowIs.cell h (i := 20) (by decide)
  simp [leftW, this]

/-- A program and its data, ahead of a run. -/
structure Lies (w : World) (qa : Option Addr) (n : Nat) (q : Nat → Ins) (da : Option Addr) (dlen : Nat) (z : Nat → Int) : Prop where
  prog : ProgAt w qa n q
  data : dlen = 64 → ∃ db doff, da = some ⟨db, doff, none⟩ ∧ Bytes64 w db doff z
  len : n ≤ 140737488351232
  ok : ∀ i, i < n → (q i).OK
theorem Lies.below {w w' : World} {qa : Option Addr} {n : Nat} {q : Nat → Ins} {da : Option Addr} {dlen : Nat} {z : Nat → Int} (h : Lies w qa n q da dlen z) (hb : Below w.heap.size w w') : Lies w' qa n q da dlen z :=
  ⟨h.prog.below hb, fun h64 => by
    obtain ⟨db, doff, rfl, hz⟩ := h.data h64
    exact ⟨db, doff, rfl, hz.below hb hz.1⟩, h.len, h.ok⟩
theorem Lies.ready {w w' : World} {qa : Option Addr} {n qcap : Nat} {q : Nat → Ins} {da : Option Addr} {dlen dcap : Nat} {z : Nat → Int} (h : Lies w qa n q da dlen z) (hb : Below w.heap.size w w') (hm : MachAt w' w.heap.size (.slice qa n qcap) (.slice da dlen dcap) Mach.start) :
    Ready w' w.heap.size qa n qcap q da dlen dcap z Mach.start :=
  ⟨hm, h.prog.below hb, fun h64 => by
    obtain ⟨db, doff, rfl, hz⟩ := h.data h64
    exact ⟨db, doff, rfl, hz.below hb hz.1⟩, fun ad hn e => by
    obtain ⟨qb, qo, e', hl, _⟩ := h.prog hn
    rw [e] at e'; injection e' with e'; subst e'; exact Nat.ne_of_lt hl, fun ad h64 e => by
    obtain ⟨db, doff, e', hz⟩ := h.data h64
    rw [e] at e'; injection e' with e'; subst e'; exact Nat.ne_of_lt hz.1, h.len, h.ok, by decide⟩

theorem ref_Run (w : World) (qa : Option Addr) (n qcap : Nat) (q : Nat → Ins) (da : Option Addr) (dlen dcap : Nat) (z : Nat → Int) (h : Lies w qa n q da dlen z) :
    Calls Tryz.prog 7 #[.slice qa n qcap, .slice da dlen dcap] w fun e w' => e = .returned (ansV (runM q n dlen (wordZ z))) ∧ Below w.heap.size w w' := by
  have HL := Lib.hid h
  clear h
  go_enter Tryz.func7, Tryz.ntmps7
  go_wp2_with (go_at_call 14; (with_reducible refine (ref_New _ _ _ _ _ _ _).mono ?_); rintro e w1 ⟨rfl, hm, hb⟩; have HR := Lib.hid (HL.out.ready hb hm); have HB := Lib.hid hb; clear hm hb)
  go_loopw [9] (fun t wr => ∃ k : Nat, t = .bool (iterS q n dlen (wordZ z) k).done ∧ k ≤ n + 1 ∧ Ready wr w.heap.size qa n qcap q da dlen dcap z (iterS q n dlen (wordZ z) k) ∧ Below w.heap.size w wr) (fun t wr => leftW n w.heap.size t wr)
  case atStart => exact ⟨0, rfl, by omega, HR.out, HB.out⟩
  case round =>
    obtain ⟨k, rfl, hk, hR, hB⟩ := hrel
    clear HR HB
    have hst := iter_steps q n dlen (wordZ z) (k + 1)
    have hgo := iter_going q n dlen (wordZ z) k
    have hrun := iter_is_run q n dlen (wordZ z) (k := k)
    have hnext := step_going q n dlen (wordZ z) (iterS q n dlen (wordZ z) k)
    have hm : (iterS q n dlen (wordZ z) k).done = false → leftW n w.heap.size (.bool false) wr = n + 1 - (iterS q n dlen (wordZ z) k).place + 1 := fun _ => left_on hR.mach
    have hlen := HL.out.len
    have HS := Lib.hid (And.intro hst (And.intro hgo (And.intro hrun (And.intro hnext hm))))
    have HR := Lib.hid hR
    have HB := Lib.hid hB
    clear hst hgo hrun hnext hm hR hB
    rcases hd : (iterS q n dlen (wordZ z) k).done with _ | _
    · have HD := Lib.hid hd
      clear hd
      go_wp2_with (go_at_call 15; (with_reducible refine (ref_Step _ _ _ _ _ _ _ _ _ _ _ HR.out).mono ?_); rintro e w2 ⟨rfl, hm2, hg2⟩; have HM := Lib.hid (And.intro hm2 hg2); clear hm2 hg2)
      go_roundw
      case rel => exact ⟨k + 1, rfl, by have := (HS.out.2.1 HD.out).2.1; omega, HR.out.after HM.out.1 HM.out.2 (by have := HS.out.1; show (iterS q n dlen (wordZ z) (k + 1)).steps < _; omega), below_grown HB.out HM.out.2 (Nat.le_refl _) (Nat.le_refl _)⟩
      case measure =>
        rw [HS.out.2.2.2.2 HD.out]
        rcases hd2 : ((iterS q n dlen (wordZ z) k).step q n dlen (wordZ z)).done with _ | _
        · rw [left_on HM.out.1]
          have := HS.out.2.2.2.1 hd2
          omega
        · show 0 < _
          omega
    · have HD := Lib.hid hd
      clear hd
      go_wp2_with (go_at_call 16; (with_reducible refine (ref_Answer _ _ _ _ _ HR.out.mach).mono ?_); rintro e w2 ⟨rfl, m, rfl⟩)
      (try simp only [Exit.inBlock, Exit.then])
      refine bodyPost_ret (results_tmp4 rfl _ _ _) rfl ?_
      have he := HS.out.2.2.1 HD.out hk
      rw [← he]
      exact ⟨rfl, below_drawn HB.out _⟩
end Go.Proofs.YtoajommeiocfpaaGreat
