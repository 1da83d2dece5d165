/-
  What keeps the program's machine from doing its next instruction: a contract for its 'fault'. Conditions: those that each names.
-/
import Derived.Test.YtgpjiflgocgolaaPTable
import Derived.Test.YtgpjiflgocgolaaPMach
import Derived.Test.YtgpjiflgocgolaaCbpfAll
namespace Go.Proofs.Ytgpjiflgocgolaa
open Go Go.RowKit
set_option linter.unusedSimpArgs false
set_option linter.unusedVariables false
set_option maxRecDepth 100000

section
variable (w : World) (b : Nat) (qv dv mv : Value) (s : Mach) (c : Int) (jt jf : Nat) (k : BitVec 32)
/-- What a look at an instruction leaves: memory as it was, but for new blocks. -/
def FaultP (w : World) (E : Int) (e : Ending) (w' : World) : Prop := e = .returned (.int .i64 E) ∧ Below w.heap.size w w'
theorem of_load (db doff dcap : Nat) (z : Nat → Int) (hd : Bytes64 w db doff z) (h : PMAt w b qv (.slice (some ⟨db, doff, none⟩) 64 dcap) mv s) (hk : k.toNat ≤ 60) (hk4 : k.toNat % 4 = 0) : Calls Try.prog 88 #[.pointer (some ⟨b, 0, none⟩), .agg #[.int .u16 32, .int .u8 (jt : Int), .int .u8 (jf : Int), .int .u32 (k.toNat : Int)]] w (FaultP w 0) := by
  have hkl := k.isLt
  have hwk : IntKind.i64.wrap (k.toNat : Int) = (k.toNat : Int) := IntWalk.i64_in _ (by omega)
  have hlt := World.rowIs.lt h
  have HM1 := Lib.hid (h.alloc (insO 32 jt jf k))
  have HD1 := Lib.hid (hd.below (box_below w (insO 32 jt jf k)) hd.1)
  have d3 : (w.alloc (insO 32 jt jf k)).cell? ⟨w.heap.size, 3, none⟩ = some (.int .u32 (k.toNat : Int)) := by simp
  have B1 := Lib.hid (box_below w (insO 32 jt jf k))
  have HK := Lib.hid hk4
  clear hk4
  clear h hd
  go_enter Try.func88, Try.ntmps88
  go_wp2
  generalize w.alloc (insO 32 jt jf k) = W1 at HM1 HD1 d3 B1 ⊢
  have u1 : W1.cell? ⟨b, 1, none⟩ = some (.slice (some ⟨db, doff, none⟩) 64 dcap) := World.rowIs.cell HM1.out (i := 1) (by decide)
  go_quiet ((go_at_call 92; exact quietL (secdata_Word db doff dcap z k.toNat hk HK.out _ HD1.out)))
  go_wp2
  go_ret
  exact ⟨rfl, below_drawn B1.out _⟩
theorem of_load_no (db doff dcap : Nat) (z : Nat → Int) (hd : Bytes64 w db doff z) (h : PMAt w b qv (.slice (some ⟨db, doff, none⟩) 64 dcap) mv s) (hk : ¬ (k.toNat ≤ 60 ∧ k.toNat % 4 = 0)) : Calls Try.prog 88 #[.pointer (some ⟨b, 0, none⟩), .agg #[.int .u16 32, .int .u8 (jt : Int), .int .u8 (jf : Int), .int .u32 (k.toNat : Int)]] w (FaultP w 34) := by
  have hkl := k.isLt
  have hwk : IntKind.i64.wrap (k.toNat : Int) = (k.toNat : Int) := IntWalk.i64_in _ (by omega)
  have hlt := World.rowIs.lt h
  have HM1 := Lib.hid (h.alloc (insO 32 jt jf k))
  have HD1 := Lib.hid (hd.below (box_below w (insO 32 jt jf k)) hd.1)
  have d3 : (w.alloc (insO 32 jt jf k)).cell? ⟨w.heap.size, 3, none⟩ = some (.int .u32 (k.toNat : Int)) := by simp
  have B1 := Lib.hid (box_below w (insO 32 jt jf k))
  have HK : Hid (¬ (0 ≤ (k.toNat : Int) ∧ (k.toNat : Int) ≤ 60 ∧ (k.toNat : Int) % 4 = 0)) := Lib.hid (by omega)
  clear hk
  clear h hd
  go_enter Try.func88, Try.ntmps88
  go_wp2
  generalize w.alloc (insO 32 jt jf k) = W1 at HM1 HD1 d3 B1 ⊢
  have u1 : W1.cell? ⟨b, 1, none⟩ = some (.slice (some ⟨db, doff, none⟩) 64 dcap) := World.rowIs.cell HM1.out (i := 1) (by decide)
  go_quiet ((go_at_call 92; exact quietL (secdata_Word_at (some ⟨db, doff, none⟩) dcap (k.toNat : Int) HK.out _)))
  go_wp2
  go_ret
  exact ⟨rfl, below_drawn B1.out _⟩
theorem of_mem_96 (hk : k.toNat < 16) : Calls Try.prog 88 #[.pointer (some ⟨b, 0, none⟩), .agg #[.int .u16 96, .int .u8 (jt : Int), .int .u8 (jf : Int), .int .u32 (k.toNat : Int)]] w (FaultP w 0) := by
  have hk' : ¬ (16 : Int) ≤ (k.toNat : Int) := by omega
  have hk2 : (k.toNat : Int) < 16 := by omega
  go_enter Try.func88, Try.ntmps88
  go_wp2
  go_ret
  exact ⟨rfl, box_below w _⟩
theorem of_mem_no_96 (hk : ¬ k.toNat < 16) : Calls Try.prog 88 #[.pointer (some ⟨b, 0, none⟩), .agg #[.int .u16 96, .int .u8 (jt : Int), .int .u8 (jf : Int), .int .u32 (k.toNat : Int)]] w (FaultP w 35) := by
  have hk' : (16 : Int) ≤ (k.toNat : Int) := by omega
  go_enter Try.func88, Try.ntmps88
  go_wp2
  go_ret
  exact ⟨rfl, box_below w _⟩
theorem of_mem_97 (hk : k.toNat < 16) : Calls Try.prog 88 #[.pointer (some ⟨b, 0, none⟩), .agg #[.int .u16 97, .int .u8 (jt : Int), .int .u8 (jf : Int), .int .u32 (k.toNat : Int)]] w (FaultP w 0) := by
  have hk' : ¬ (16 : Int) ≤ (k.toNat : Int) := by omega
  have hk2 : (k.toNat : Int) < 16 := by omega
  go_enter Try.func88, Try.ntmps88
  go_wp2
  go_ret
  exact ⟨rfl, box_below w _⟩
theorem of_mem_no_97 (hk : ¬ k.toNat < 16) : Calls Try.prog 88 #[.pointer (some ⟨b, 0, none⟩), .agg #[.int .u16 97, .int .u8 (jt : Int), .int .u8 (jf : Int), .int .u32 (k.toNat : Int)]] w (FaultP w 35) := by
  have hk' : (16 : Int) ≤ (k.toNat : Int) := by omega
  go_enter Try.func88, Try.ntmps88
  go_wp2
  go_ret
  exact ⟨rfl, box_below w _⟩
theorem of_mem_2 (hk : k.toNat < 16) : Calls Try.prog 88 #[.pointer (some ⟨b, 0, none⟩), .agg #[.int .u16 2, .int .u8 (jt : Int), .int .u8 (jf : Int), .int .u32 (k.toNat : Int)]] w (FaultP w 0) := by
  have hk' : ¬ (16 : Int) ≤ (k.toNat : Int) := by omega
  have hk2 : (k.toNat : Int) < 16 := by omega
  go_enter Try.func88, Try.ntmps88
  go_wp2
  go_ret
  exact ⟨rfl, box_below w _⟩
theorem of_mem_no_2 (hk : ¬ k.toNat < 16) : Calls Try.prog 88 #[.pointer (some ⟨b, 0, none⟩), .agg #[.int .u16 2, .int .u8 (jt : Int), .int .u8 (jf : Int), .int .u32 (k.toNat : Int)]] w (FaultP w 35) := by
  have hk' : (16 : Int) ≤ (k.toNat : Int) := by omega
  go_enter Try.func88, Try.ntmps88
  go_wp2
  go_ret
  exact ⟨rfl, box_below w _⟩
theorem of_mem_3 (hk : k.toNat < 16) : Calls Try.prog 88 #[.pointer (some ⟨b, 0, none⟩), .agg #[.int .u16 3, .int .u8 (jt : Int), .int .u8 (jf : Int), .int .u32 (k.toNat : Int)]] w (FaultP w 0) := by
  have hk' : ¬ (16 : Int) ≤ (k.toNat : Int) := by omega
  have hk2 : (k.toNat : Int) < 16 := by omega
  go_enter Try.func88, Try.ntmps88
  go_wp2
  go_ret
  exact ⟨rfl, box_below w _⟩
theorem of_mem_no_3 (hk : ¬ k.toNat < 16) : Calls Try.prog 88 #[.pointer (some ⟨b, 0, none⟩), .agg #[.int .u16 3, .int .u8 (jt : Int), .int .u8 (jf : Int), .int .u32 (k.toNat : Int)]] w (FaultP w 35) := by
  have hk' : (16 : Int) ≤ (k.toNat : Int) := by omega
  go_enter Try.func88, Try.ntmps88
  go_wp2
  go_ret
  exact ⟨rfl, box_below w _⟩
theorem of_div (hk : ¬ k = 0#32) : Calls Try.prog 88 #[.pointer (some ⟨b, 0, none⟩), .agg #[.int .u16 52, .int .u8 (jt : Int), .int .u8 (jf : Int), .int .u32 (k.toNat : Int)]] w (FaultP w 0) := by
  have hk' : ¬ (k.toNat : Int) = 0 := fun g => hk (BitVec.eq_of_toNat_eq (by simpa using g))
  clear hk
  go_enter Try.func88, Try.ntmps88
  go_wp2
  go_ret
  exact ⟨rfl, box_below w _⟩
theorem of_div_no (hk : k = 0#32) : Calls Try.prog 88 #[.pointer (some ⟨b, 0, none⟩), .agg #[.int .u16 52, .int .u8 (jt : Int), .int .u8 (jf : Int), .int .u32 (k.toNat : Int)]] w (FaultP w 36) := by
  have hk' : (k.toNat : Int) = 0 := by rw [hk]; rfl
  clear hk
  go_enter Try.func88, Try.ntmps88
  go_wp2
  go_ret
  exact ⟨rfl, box_below w _⟩
theorem of_rest (h1 : ¬ c = 32) (h2 : ¬ c = 96) (h3 : ¬ c = 97) (h4 : ¬ c = 2) (h5 : ¬ c = 3) (h6 : ¬ c = 52) : Calls Try.prog 88 #[.pointer (some ⟨b, 0, none⟩), .agg #[.int .u16 c, .int .u8 (jt : Int), .int .u8 (jf : Int), .int .u32 (k.toNat : Int)]] w (FaultP w 0) := by
  go_enter Try.func88, Try.ntmps88
  go_wp2
  go_ret
  exact ⟨rfl, box_below w _⟩
/-- .. all in one. -/
theorem p_operandFault (db doff dcap : Nat) (z : Nat → Int) (hd : Bytes64 w db doff z) (h : PMAt w b qv (.slice (some ⟨db, doff, none⟩) 64 dcap) mv s) (hs : sealsC c = true) : Calls Try.prog 88 #[.pointer (some ⟨b, 0, none⟩), .agg #[.int .u16 c, .int .u8 (jt : Int), .int .u8 (jf : Int), .int .u32 (k.toNat : Int)]] w (FaultP w (wrongE c k)) := by
  have hs' : ¬ sealsC c = false := by rw [hs]; simp
  unfold wrongE
  rw [if_neg hs']
  by_cases h32 : c = 32
  · subst h32
    by_cases hk : k.toNat ≤ 60 ∧ k.toNat % 4 = 0
    · rw [if_neg (by omega), if_neg (by simp), if_neg (by simp)]
      exact of_load w b qv mv s jt jf k db doff dcap z hd h hk.1 hk.2
    · rw [if_pos ⟨rfl, by omega⟩]
      exact of_load_no w b qv mv s jt jf k db doff dcap z hd h hk
  · rw [if_neg (fun g => h32 g.1)]
    by_cases hm : c = 96 ∨ c = 97 ∨ c = 2 ∨ c = 3
    · by_cases hk : k.toNat < 16
      · rw [if_neg (by omega), if_neg (by rintro ⟨rfl, _⟩; simp at hm)]
        rcases hm with rfl | rfl | rfl | rfl
        · exact of_mem_96 w b jt jf k hk
        · exact of_mem_97 w b jt jf k hk
        · exact of_mem_2 w b jt jf k hk
        · exact of_mem_3 w b jt jf k hk
      · rw [if_pos ⟨hm, by omega⟩]
        rcases hm with rfl | rfl | rfl | rfl
        · exact of_mem_no_96 w b jt jf k hk
        · exact of_mem_no_97 w b jt jf k hk
        · exact of_mem_no_2 w b jt jf k hk
        · exact of_mem_no_3 w b jt jf k hk
    · rw [if_neg (fun g => hm g.1)]
      by_cases h52 : c = 52
      · subst h52
        by_cases hk : k = 0#32
        · rw [if_pos ⟨rfl, hk⟩]
          exact of_div_no w b jt jf k hk
        · rw [if_neg (fun g => hk g.2)]
          exact of_div w b jt jf k hk
      · rw [if_neg (fun g => h52 g.1)]
        exact of_rest w b c jt jf k h32 (fun g => hm (.inl g)) (fun g => hm (.inr (.inl g))) (fun g => hm (.inr (.inr (.inl g)))) (fun g => hm (.inr (.inr (.inr g)))) h52
end
end Go.Proofs.Ytgpjiflgocgolaa
