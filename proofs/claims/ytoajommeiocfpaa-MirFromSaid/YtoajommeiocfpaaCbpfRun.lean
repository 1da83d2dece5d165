/-
  A program of classic BPF from its start to its end, by the document: as plain functions, and what New, Answer and Run answer. Conditions: those that each names.
-/
import Derived.Test.YtoajommeiocfpaaCbpfStepped
namespace Go.Proofs.Ytoajommeiocfpaa
open Go Go.RowKit
set_option linter.unusedSimpArgs false
set_option linter.unusedVariables false

section
variable (q : Nat → Ins) (n len : Nat) (word : Nat → BitVec 32)
/-- Behind k steps. -/
def iterS : Nat → Mach
  | 0 => Mach.start
  | k + 1 => (iterS k).step q n len word
theorem step_of_done (s : Mach) (h : s.done = true) : s.step q n len word = s := by simp [Mach.step, h]
theorem step_going (s : Mach) (h : (s.step q n len word).done = false) : s.done = false ∧ s.place < n ∧ s.place < (s.step q n len word).place ∧ (s.step q n len word).steps = s.steps + 1 := by
  rcases hd : s.done with _ | _
  · by_cases hl : len = 64
    · by_cases hp : n ≤ s.place
      · rw [show s.step q n len word = s.fails 33 by simp [Mach.step, hd, hl, hp]] at h; cases h
      · by_cases hw : wrongE (q s.place).code (q s.place).k = 0
        · have e : s.step q n len word = s.does word (q s.place) := by simp [Mach.step, hd, hl, hp, hw]
          rw [e] at h ⊢
          refine ⟨rfl, by omega, ?_⟩
          have on : ∀ (s' : Mach) m, s'.place = s.place → s'.steps = s.steps → 1 ≤ m → s.place < (s'.on m).place ∧ (s'.on m).steps = s.steps + 1 := fun s' m h1 h2 h3 => by
            show s.place < s'.place + m ∧ s'.steps + 1 = s.steps + 1
            omega
          unfold Mach.does at h ⊢
          simp only at h ⊢
          rcases ha : aluC (q s.place).code with _ | _
          · rw [ha] at h
            simp only [Bool.false_eq_true, if_false] at h ⊢
            rcases hj : jumpC (q s.place).code with _ | _
            · rw [hj] at h
              simp only [Bool.false_eq_true, if_false] at h ⊢
              by_cases h5 : (q s.place).code = 5
              · rw [if_pos h5]; exact on _ _ rfl rfl (by omega)
              · rw [if_neg h5] at h ⊢
                by_cases h6 : (q s.place).code = 6
                · rw [if_pos h6] at h; cases h
                · rw [if_neg h6] at h ⊢
                  by_cases h22 : (q s.place).code = 22
                  · rw [if_pos h22] at h; cases h
                  · rw [if_neg h22]
                    have hk := moves_keeps word s (q s.place)
                    exact on _ _ hk.1 hk.2 (by omega)
            · simp only [if_true]
              exact on _ _ rfl rfl (by omega)
          · rw [ha] at h
            simp only [if_true] at h ⊢
            by_cases h6 : (q s.place).code = 60 ∧ (if usesX (q s.place).code = true then s.x else (q s.place).k) = 0#32
            · rw [if_pos h6] at h; cases h
            · rw [if_neg h6]; exact on _ _ rfl rfl (by omega)
        · rw [show s.step q n len word = s.fails (wrongE (q s.place).code (q s.place).k) by simp [Mach.step, hd, hl, hp, hw]] at h; cases h
    · rw [show s.step q n len word = s.fails 21 by simp [Mach.step, hd, hl]] at h; cases h
  · rw [step_of_done q n len word s hd, hd] at h; cases h
theorem step_steps (s : Mach) : (s.step q n len word).steps ≤ s.steps + 1 := by
  have h1 : ∀ e, (s.fails e).steps ≤ s.steps + 1 := fun e => by show s.steps ≤ _; omega
  have h2 : ∀ v, (s.ends v).steps ≤ s.steps + 1 := fun v => Nat.le_refl _
  have h3 : ∀ (s' : Mach) m, s'.steps = s.steps → (s'.on m).steps ≤ s.steps + 1 := fun s' m e => by show s'.steps + 1 ≤ _; omega
  unfold Mach.step
  split
  · omega
  · split
    · exact h1 _
    · split
      · exact h1 _
      · split
        · exact h1 _
        · unfold Mach.does
          simp only
          generalize (if usesX (q s.place).code = true then s.x else (q s.place).k) = bv
          split
          · split
            · exact h2 _
            · exact h3 _ _ rfl
          · split
            · exact h3 _ _ rfl
            · split
              · exact h3 _ _ rfl
              · split
                · exact h2 _
                · split
                  · exact h2 _
                  · exact h3 _ _ (moves_keeps word s _).2
theorem iter_steps : ∀ k, (iterS q n len word k).steps ≤ k
  | 0 => Nat.le_refl _
  | k + 1 => by have := iter_steps k; have := step_steps q n len word (iterS q n len word k); show ((iterS q n len word k).step q n len word).steps ≤ _; omega
theorem iter_going : ∀ k, (iterS q n len word k).done = false → k ≤ (iterS q n len word k).place ∧ k ≤ n ∧ (iterS q n len word k).steps = k
  | 0, _ => ⟨Nat.zero_le _, Nat.zero_le _, rfl⟩
  | k + 1, h => by
    obtain ⟨h1, h2, h3, h4⟩ := step_going q n len word _ h
    obtain ⟨g1, g2, g3⟩ := iter_going k h1
    show k + 1 ≤ ((iterS q n len word k).step q n len word).place ∧ k + 1 ≤ n ∧ ((iterS q n len word k).step q n len word).steps = k + 1
    omega
/-- A program's end. -/
def runM : Mach := iterS q n len word (n + 1)
theorem run_done : (runM q n len word).done = true := by
  rcases h : (runM q n len word).done with _ | _
  · have := (iter_going q n len word _ h).2.1; omega
  · rfl
theorem iter_stays {k : Nat} (h : (iterS q n len word k).done = true) : ∀ m, iterS q n len word (k + m) = iterS q n len word k
  | 0 => rfl
  | m + 1 => by
    show (iterS q n len word (k + m)).step q n len word = _
    rw [iter_stays h m]; exact step_of_done q n len word _ h
theorem iter_is_run {k : Nat} (h : (iterS q n len word k).done = true) (hk : k ≤ n + 1) : iterS q n len word k = runM q n len word := by
  have := iter_stays q n len word h (n + 1 - k)
  rw [show k + (n + 1 - k) = n + 1 by omega] at this
  exact this.symm
end

/-- What a machine answers. -/
def ansA (s : Mach) : Int := if s.err = 0 then (s.ans.toNat : Int) else 0
def ansP (s : Mach) : Int := if s.err = 0 then 0 else (s.place : Int)
abbrev ansV (s : Mach) : Value := .tuple #[.int .u32 (ansA s), .int .i64 (s.steps : Int), .int .i64 s.err, .int .i64 (ansP s)]
theorem results_tmp4 {fn : Func} {t u v x : Tmp} (h : fn.results = #[.tmp t, .tmp u, .tmp v, .tmp x]) (tmps : Array Value) (P : Program) (w : World) :
    (results fn tmps).run P w = .ok (.tuple #[tmps.getD t undef, tmps.getD u undef, tmps.getD v undef, tmps.getD x undef]) w := by
  simp [results, h]
/-- How far a machine is from its end. -/
def leftW (n b : Nat) (t : Value) (w : World) : Nat :=
  match t with
  | .bool true => 0
  | _ => match w.cell? ⟨b, 20, none⟩ with
    | some (.int _ p) => n + 1 - p.toNat + 1
    | _ => 0
/-- A program and its data, ahead of a run. -/
structure Lies (w : World) (qa : Option Addr) (n : Nat) (q : Nat → Ins) (da : Option Addr) (dlen : Nat) (z : Nat → Int) : Prop where
  prog : ProgAt w qa n q
  data : dlen = 64 → ∃ db doff, da = some ⟨db, doff, none⟩ ∧ Bytes64 w db doff z
  len : n ≤ 140737488351232
  ok : ∀ i, i < n → (q i).OK
theorem Lies.below {w w' : World} {qa : Option Addr} {n : Nat} {q : Nat → Ins} {da : Option Addr} {dlen : Nat} {z : Nat → Int} (h : Lies w qa n q da dlen z) (hb : Below w.heap.size w w') : Lies w' qa n q da dlen z :=
  ⟨h.prog.below hb, fun h64 => by
    obtain ⟨db, doff, rfl, hz⟩ := h.data h64
    exact ⟨db, doff, rfl, hz.below hb hz.1⟩, h.len, h.ok⟩
end Go.Proofs.Ytoajommeiocfpaa
