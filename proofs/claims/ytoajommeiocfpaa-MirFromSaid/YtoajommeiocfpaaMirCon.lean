/-
  Which constants a program may hand on, as the statement tells it; whether a program is accepted, as the document tells it: contracts. Conditions: those that each names.
-/
import Derived.Test.YtoajommeiocfpaaMirBuild
import Derived.Test.YtoajommeiocfpaaCheckRef
namespace Go.Proofs.Ytoajommeiocfpaa
open Go Go.RowKit
set_option linter.unusedSimpArgs false
set_option linter.unusedVariables false
set_option maxRecDepth 100000

theorem r_IsM (w : World) (A : Option Addr) (n cap : Nat) (q : Nat → Ins) (h : ProgAt w A n q) (hok : ∀ i, i < n → (q i).OK) : Calls Try.prog 8 #[.slice A n cap] w fun e w' => e = .returned (.bool (checkE q n == 0)) ∧ Below w.heap.size w w' := by
  have HC := Lib.hid (ref_Check w A n cap q h hok)
  unfold CheckP at HC
  clear h hok
  generalize checkE q n = E at HC ⊢
  generalize checkP q n = P at HC
  go_enter Try.func8, Try.ntmps8
  go_wp2_with (go_at_call 15; (with_reducible refine HC.out.mono ?_); rintro e w1 ⟨rfl, hb⟩; have H1 := Lib.hid hb; clear hb)
  go_ret
  exact ⟨rfl, H1.out⟩
abbrev cl7 (c : Int) : Int := bits BinOp.and IntKind.u16 c 7
abbrev cl8 (c : Int) : Int := bits BinOp.and IntKind.u16 c 8
/-- A code's kind, as far as constants go. -/
theorem con_kinds {c : Int} (hx : aluC c = true ∨ (aluC c = false ∧ jumpC c = true) ∨ (aluC c = false ∧ jumpC c = false ∧ restC c = true)) :
    c = 6 ∨ c = 0 ∨ c = 1 ∨ c = 132 ∨ c = 5 ∨
    ((cl7 c = 4 ∧ (cl8 c == 0) = true ∧ (c != 132) = true ∧ (c == 6) = false ∧ (c == 0) = false ∧ (c == 1) = false) ∨
     (cl7 c = 4 ∧ (cl8 c == 0) = false ∧ mineC c = false ∧ (c == 6) = false ∧ (c == 0) = false ∧ (c == 1) = false) ∨
     (cl7 c = 5 ∧ (cl8 c == 0) = true ∧ (c != 5) = true ∧ (c == 6) = false ∧ (c == 0) = false ∧ (c == 1) = false) ∨
     (cl7 c = 5 ∧ (cl8 c == 0) = false ∧ mineC c = false ∧ (c == 6) = false ∧ (c == 0) = false ∧ (c == 1) = false) ∨
     ((cl7 c == 4) = false ∧ (cl7 c == 5) = false ∧ mineC c = false ∧ (c == 6) = false ∧ (c == 0) = false ∧ (c == 1) = false)) := by
  rcases hx with h | ⟨_, h⟩ | ⟨_, _, h⟩
  · rcases alu_cs h with rfl | rfl | rfl | rfl | rfl | rfl | rfl | rfl | rfl | rfl | rfl | rfl | rfl | rfl | rfl | rfl | rfl | rfl
    · exact .inr (.inr (.inr (.inr (.inr (.inl ⟨by kernel_rfl, by kernel_rfl, by kernel_rfl, by kernel_rfl, by kernel_rfl, by kernel_rfl⟩)))))
    · exact .inr (.inr (.inr (.inr (.inr (.inl ⟨by kernel_rfl, by kernel_rfl, by kernel_rfl, by kernel_rfl, by kernel_rfl, by kernel_rfl⟩)))))
    · exact .inr (.inr (.inr (.inr (.inr (.inl ⟨by kernel_rfl, by kernel_rfl, by kernel_rfl, by kernel_rfl, by kernel_rfl, by kernel_rfl⟩)))))
    · exact .inr (.inr (.inr (.inr (.inr (.inl ⟨by kernel_rfl, by kernel_rfl, by kernel_rfl, by kernel_rfl, by kernel_rfl, by kernel_rfl⟩)))))
    · exact .inr (.inr (.inr (.inr (.inr (.inl ⟨by kernel_rfl, by kernel_rfl, by kernel_rfl, by kernel_rfl, by kernel_rfl, by kernel_rfl⟩)))))
    · exact .inr (.inr (.inr (.inr (.inr (.inl ⟨by kernel_rfl, by kernel_rfl, by kernel_rfl, by kernel_rfl, by kernel_rfl, by kernel_rfl⟩)))))
    · exact .inr (.inr (.inr (.inr (.inr (.inl ⟨by kernel_rfl, by kernel_rfl, by kernel_rfl, by kernel_rfl, by kernel_rfl, by kernel_rfl⟩)))))
    · exact .inr (.inr (.inr (.inr (.inr (.inl ⟨by kernel_rfl, by kernel_rfl, by kernel_rfl, by kernel_rfl, by kernel_rfl, by kernel_rfl⟩)))))
    · exact .inr (.inr (.inr (.inr (.inr (.inl ⟨by kernel_rfl, by kernel_rfl, by kernel_rfl, by kernel_rfl, by kernel_rfl, by kernel_rfl⟩)))))
    · exact .inr (.inr (.inr (.inr (.inr (.inr (.inl ⟨by kernel_rfl, by kernel_rfl, by kernel_rfl, by kernel_rfl, by kernel_rfl, by kernel_rfl⟩))))))
    · exact .inr (.inr (.inr (.inr (.inr (.inr (.inl ⟨by kernel_rfl, by kernel_rfl, by kernel_rfl, by kernel_rfl, by kernel_rfl, by kernel_rfl⟩))))))
    · exact .inr (.inr (.inr (.inr (.inr (.inr (.inl ⟨by kernel_rfl, by kernel_rfl, by kernel_rfl, by kernel_rfl, by kernel_rfl, by kernel_rfl⟩))))))
    · exact .inr (.inr (.inr (.inr (.inr (.inr (.inl ⟨by kernel_rfl, by kernel_rfl, by kernel_rfl, by kernel_rfl, by kernel_rfl, by kernel_rfl⟩))))))
    · exact .inr (.inr (.inr (.inr (.inr (.inr (.inl ⟨by kernel_rfl, by kernel_rfl, by kernel_rfl, by kernel_rfl, by kernel_rfl, by kernel_rfl⟩))))))
    · exact .inr (.inr (.inr (.inr (.inr (.inr (.inl ⟨by kernel_rfl, by kernel_rfl, by kernel_rfl, by kernel_rfl, by kernel_rfl, by kernel_rfl⟩))))))
    · exact .inr (.inr (.inr (.inr (.inr (.inr (.inl ⟨by kernel_rfl, by kernel_rfl, by kernel_rfl, by kernel_rfl, by kernel_rfl, by kernel_rfl⟩))))))
    · exact .inr (.inr (.inr (.inr (.inr (.inr (.inl ⟨by kernel_rfl, by kernel_rfl, by kernel_rfl, by kernel_rfl, by kernel_rfl, by kernel_rfl⟩))))))
    · exact .inr (.inr (.inr (.inr (.inr (.inr (.inl ⟨by kernel_rfl, by kernel_rfl, by kernel_rfl, by kernel_rfl, by kernel_rfl, by kernel_rfl⟩))))))
  · rcases jump_cs h with rfl | rfl | rfl | rfl | rfl | rfl | rfl | rfl
    · exact .inr (.inr (.inr (.inr (.inr (.inr (.inr (.inl ⟨by kernel_rfl, by kernel_rfl, by kernel_rfl, by kernel_rfl, by kernel_rfl, by kernel_rfl⟩)))))))
    · exact .inr (.inr (.inr (.inr (.inr (.inr (.inr (.inl ⟨by kernel_rfl, by kernel_rfl, by kernel_rfl, by kernel_rfl, by kernel_rfl, by kernel_rfl⟩)))))))
    · exact .inr (.inr (.inr (.inr (.inr (.inr (.inr (.inl ⟨by kernel_rfl, by kernel_rfl, by kernel_rfl, by kernel_rfl, by kernel_rfl, by kernel_rfl⟩)))))))
    · exact .inr (.inr (.inr (.inr (.inr (.inr (.inr (.inl ⟨by kernel_rfl, by kernel_rfl, by kernel_rfl, by kernel_rfl, by kernel_rfl, by kernel_rfl⟩)))))))
    · exact .inr (.inr (.inr (.inr (.inr (.inr (.inr (.inr (.inl ⟨by kernel_rfl, by kernel_rfl, by kernel_rfl, by kernel_rfl, by kernel_rfl, by kernel_rfl⟩))))))))
    · exact .inr (.inr (.inr (.inr (.inr (.inr (.inr (.inr (.inl ⟨by kernel_rfl, by kernel_rfl, by kernel_rfl, by kernel_rfl, by kernel_rfl, by kernel_rfl⟩))))))))
    · exact .inr (.inr (.inr (.inr (.inr (.inr (.inr (.inr (.inl ⟨by kernel_rfl, by kernel_rfl, by kernel_rfl, by kernel_rfl, by kernel_rfl, by kernel_rfl⟩))))))))
    · exact .inr (.inr (.inr (.inr (.inr (.inr (.inr (.inr (.inl ⟨by kernel_rfl, by kernel_rfl, by kernel_rfl, by kernel_rfl, by kernel_rfl, by kernel_rfl⟩))))))))
  · have K : ∀ {c : Int}, ((cl7 c == 4) = false ∧ (cl7 c == 5) = false ∧ mineC c = false ∧ (c == 6) = false ∧ (c == 0) = false ∧ (c == 1) = false) → c = 6 ∨ c = 0 ∨ c = 1 ∨ c = 132 ∨ c = 5 ∨
    ((cl7 c = 4 ∧ (cl8 c == 0) = true ∧ (c != 132) = true ∧ (c == 6) = false ∧ (c == 0) = false ∧ (c == 1) = false) ∨
     (cl7 c = 4 ∧ (cl8 c == 0) = false ∧ mineC c = false ∧ (c == 6) = false ∧ (c == 0) = false ∧ (c == 1) = false) ∨
     (cl7 c = 5 ∧ (cl8 c == 0) = true ∧ (c != 5) = true ∧ (c == 6) = false ∧ (c == 0) = false ∧ (c == 1) = false) ∨
     (cl7 c = 5 ∧ (cl8 c == 0) = false ∧ mineC c = false ∧ (c == 6) = false ∧ (c == 0) = false ∧ (c == 1) = false) ∨
     ((cl7 c == 4) = false ∧ (cl7 c == 5) = false ∧ mineC c = false ∧ (c == 6) = false ∧ (c == 0) = false ∧ (c == 1) = false)) := fun g => .inr (.inr (.inr (.inr (.inr (.inr (.inr (.inr (.inr g))))))))
    rcases rest_cases h with rfl | rfl | rfl | rfl | rfl | rfl | rfl | rfl | rfl | rfl | rfl | rfl | rfl | rfl | rfl
    · exact K ⟨by kernel_rfl, by kernel_rfl, by kernel_rfl, by kernel_rfl, by kernel_rfl, by kernel_rfl⟩
    · exact K ⟨by kernel_rfl, by kernel_rfl, by kernel_rfl, by kernel_rfl, by kernel_rfl, by kernel_rfl⟩
    · exact K ⟨by kernel_rfl, by kernel_rfl, by kernel_rfl, by kernel_rfl, by kernel_rfl, by kernel_rfl⟩
    · exact .inr (.inl rfl)
    · exact .inr (.inr (.inl rfl))
    · exact K ⟨by kernel_rfl, by kernel_rfl, by kernel_rfl, by kernel_rfl, by kernel_rfl, by kernel_rfl⟩
    · exact K ⟨by kernel_rfl, by kernel_rfl, by kernel_rfl, by kernel_rfl, by kernel_rfl, by kernel_rfl⟩
    · exact K ⟨by kernel_rfl, by kernel_rfl, by kernel_rfl, by kernel_rfl, by kernel_rfl, by kernel_rfl⟩
    · exact K ⟨by kernel_rfl, by kernel_rfl, by kernel_rfl, by kernel_rfl, by kernel_rfl, by kernel_rfl⟩
    · exact .inr (.inr (.inr (.inl rfl)))
    · exact .inr (.inr (.inr (.inr (.inl rfl))))
    · exact .inl rfl
    · exact K ⟨by kernel_rfl, by kernel_rfl, by kernel_rfl, by kernel_rfl, by kernel_rfl, by kernel_rfl⟩
    · exact K ⟨by kernel_rfl, by kernel_rfl, by kernel_rfl, by kernel_rfl, by kernel_rfl, by kernel_rfl⟩
    · exact K ⟨by kernel_rfl, by kernel_rfl, by kernel_rfl, by kernel_rfl, by kernel_rfl, by kernel_rfl⟩
/-- What the statement asks of a constant. -/
def MayK (q : Nat → Ins) (n : Nat) (k : BitVec 32) : Prop := k = 0#32 ∨ k = 64#32 ∨ ∃ i, i < n ∧ mineC (q i).code = true ∧ (q i).k = k
set_option maxHeartbeats 8000000 in
theorem r_constM (w : World) (A : Option Addr) (n cap : Nat) (q : Nat → Ins) (h : ProgAt w A n q) (ha : Accepted q n) (k : BitVec 32) (hk : MayK q n k) :
    Calls Try.prog 10 #[.slice A n cap, .int .u32 (k.toNat : Int)] w fun e w' => e = .returned (.bool true) ∧ w' = w := by
  by_cases h0 : k = 0#32
  · subst h0
    clear h
    have h0 : ((0#32 : BitVec 32).toNat : Int) = 0 := rfl
    rw [h0]
    go_enter Try.func10, Try.ntmps10
    go_wp2
    go_ret
    exact ⟨rfl, rfl⟩
  by_cases h64 : k = 64#32
  · subst h64
    clear h
    have h0 : ((64#32 : BitVec 32).toNat : Int) = 64 := rfl
    rw [h0]
    go_enter Try.func10, Try.ntmps10
    go_wp2
    go_ret
    exact ⟨rfl, rfl⟩
  have e0 : ((k.toNat : Int) == 0) = false := beq_false_of_ne fun g => h0 (BitVec.eq_of_toNat_eq (by simpa using g))
  have e64 : ((k.toNat : Int) == 64) = false := beq_false_of_ne fun g => h64 (BitVec.eq_of_toNat_eq (by simp; omega))
  have HK : Hid (∃ i, i < n ∧ mineC (q i).code = true ∧ (q i).k = k) := Lib.hid (by
    rcases hk with g | g | g
    · exact absurd g h0
    · exact absurd g h64
    · exact g)
  have hmax := ha.max
  have HA := Lib.hid (And.intro h ha)
  clear h ha hk h0 h64
  go_enter Try.func10, Try.ntmps10
  go_wp2
  go_loopw [5] (fun i wr => ∃ m : Nat, i = .int .i64 (m : Int) ∧ m ≤ n ∧ wr = w ∧ ∀ j, j < m → ¬ (mineC (q j).code = true ∧ (q j).k = k)) (fun i _ => n - (intOf i).toNat)
  case atStart => exact ⟨0, rfl, Nat.zero_le _, rfl, fun j hj => absurd hj (by omega)⟩
  case round =>
    obtain ⟨m, rfl, hm, rfl, hno⟩ := hrel
    have HNo := Lib.hid hno
    clear hno
    by_cases hlt : m < n
    · have hlt' : (m : Int) < (n : Int) := by omega
      obtain ⟨qb, qo, rfl, hl, hc⟩ := HA.out.1 (by omega)
      obtain ⟨i0, i1, i2, i3⟩ := hc m hlt
      clear hc i1 i2
      have hwm : IntKind.i64.wrap ((m : Int) + 1) = (m : Int) + 1 := IntWalk.i64_in _ (by omega)
      have hx := seals_three (k := (q m).k) (one_ok.1 (HA.out.2.all m hlt)).wrong
      have HS : Hid (¬ (mineC (q m).code = true ∧ (q m).k = k) → ∀ j, j < m + 1 → ¬ (mineC (q j).code = true ∧ (q j).k = k)) := Lib.hid fun g j hj => by
        rcases Nat.lt_or_ge j m with g1 | g1
        · exact HNo.out j g1
        · rw [show j = m by omega]; exact g
      clear HNo HK
      generalize hqc : (q m).code = c at *
      by_cases heq : (q m).k = k
      · have heq' : ((q m).k.toNat : Int) = (k.toNat : Int) := by rw [heq]
        rw [heq'] at i3
        rcases con_kinds hx with rfl | rfl | rfl | rfl | rfl | ⟨g1, g2, g3, g4, g5, g6⟩ | ⟨g1, g2, hmine, g4, g5, g6⟩ | ⟨g1, g2, g3, g4, g5, g6⟩ | ⟨g1, g2, hmine, g4, g5, g6⟩ | ⟨g1, g2, hmine, g4, g5, g6⟩
        · clear hx
          go_wp2
          go_ret
          exact ⟨rfl, rfl⟩
        · clear hx
          go_wp2
          go_ret
          exact ⟨rfl, rfl⟩
        · clear hx
          go_wp2
          go_ret
          exact ⟨rfl, rfl⟩
        · clear hx
          go_wp2
          exact ⟨⟨m + 1, rfl, by omega, trivial, HS.out (fun g => by have := g.1; revert this; decide)⟩, by simp [intOf]; omega⟩
        · clear hx
          go_wp2
          exact ⟨⟨m + 1, rfl, by omega, trivial, HS.out (fun g => by have := g.1; revert this; decide)⟩, by simp [intOf]; omega⟩
        · clear hx
          go_wp2
          go_ret
          exact ⟨rfl, rfl⟩
        · clear hx
          go_wp2
          exact ⟨⟨m + 1, rfl, by omega, trivial, HS.out (fun g => by have := g.1; rw [hmine] at this; cases this)⟩, by simp [intOf]; omega⟩
        · clear hx
          go_wp2
          go_ret
          exact ⟨rfl, rfl⟩
        · clear hx
          go_wp2
          exact ⟨⟨m + 1, rfl, by omega, trivial, HS.out (fun g => by have := g.1; rw [hmine] at this; cases this)⟩, by simp [intOf]; omega⟩
        · clear hx
          go_wp2
          exact ⟨⟨m + 1, rfl, by omega, trivial, HS.out (fun g => by have := g.1; rw [hmine] at this; cases this)⟩, by simp [intOf]; omega⟩
      · have heq' : (((q m).k.toNat : Int) == (k.toNat : Int)) = false := beq_false_of_ne fun g => heq (BitVec.eq_of_toNat_eq (by omega))
        rcases con_kinds hx with rfl | rfl | rfl | rfl | rfl | ⟨g1, g2, g3, g4, g5, g6⟩ | ⟨g1, g2, hmine, g4, g5, g6⟩ | ⟨g1, g2, g3, g4, g5, g6⟩ | ⟨g1, g2, hmine, g4, g5, g6⟩ | ⟨g1, g2, hmine, g4, g5, g6⟩
        · clear hx
          go_wp2
          exact ⟨⟨m + 1, rfl, by omega, trivial, HS.out (fun g => heq g.2)⟩, by simp [intOf]; omega⟩
        · clear hx
          go_wp2
          exact ⟨⟨m + 1, rfl, by omega, trivial, HS.out (fun g => heq g.2)⟩, by simp [intOf]; omega⟩
        · clear hx
          go_wp2
          exact ⟨⟨m + 1, rfl, by omega, trivial, HS.out (fun g => heq g.2)⟩, by simp [intOf]; omega⟩
        · clear hx
          go_wp2
          exact ⟨⟨m + 1, rfl, by omega, trivial, HS.out (fun g => heq g.2)⟩, by simp [intOf]; omega⟩
        · clear hx
          go_wp2
          exact ⟨⟨m + 1, rfl, by omega, trivial, HS.out (fun g => heq g.2)⟩, by simp [intOf]; omega⟩
        · clear hx
          go_wp2
          exact ⟨⟨m + 1, rfl, by omega, trivial, HS.out (fun g => heq g.2)⟩, by simp [intOf]; omega⟩
        · clear hx
          go_wp2
          exact ⟨⟨m + 1, rfl, by omega, trivial, HS.out (fun g => heq g.2)⟩, by simp [intOf]; omega⟩
        · clear hx
          go_wp2
          exact ⟨⟨m + 1, rfl, by omega, trivial, HS.out (fun g => heq g.2)⟩, by simp [intOf]; omega⟩
        · clear hx
          go_wp2
          exact ⟨⟨m + 1, rfl, by omega, trivial, HS.out (fun g => heq g.2)⟩, by simp [intOf]; omega⟩
        · clear hx
          go_wp2
          exact ⟨⟨m + 1, rfl, by omega, trivial, HS.out (fun g => heq g.2)⟩, by simp [intOf]; omega⟩
    · obtain rfl : m = n := by omega
      exfalso
      obtain ⟨i, hi, h1, h2⟩ := HK.out
      exact HNo.out i hi ⟨h1, h2⟩
end Go.Proofs.Ytoajommeiocfpaa
