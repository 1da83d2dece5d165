/-
  A decision's program in memory, as a machine of classic BPF takes it; a word of the data in the decision's words. Conditions: those that each names.
-/
import Derived.Test.YtgpjiflgocgolaaLowSim
import Derived.Test.YtgpjiflgocgolaaLowSame
namespace Go.Proofs.Ytgpjiflgocgolaa
open Go Go.RowKit
set_option linter.unusedSimpArgs false
set_option linter.unusedVariables false

/-- An instruction's numbers fit its fields. -/
def I4OK (x : I4) : Prop := x.1 < 65536 ∧ x.2.1 < 256 ∧ x.2.2.1 < 256 ∧ x.2.2.2 < 4294967296
theorem u32N_lt (z : Int) : u32N z < 4294967296 := by unfold u32N; omega
theorem u8N_lt (z : Int) : u8N z < 256 := by unfold u8N; omega
theorem codeN_lt (o : Int) : codeN o < 65536 := by unfold codeN; split <;> (try split) <;> (try split) <;> omega
theorem ins_fit {nd : Nat → Nd} (lg : Ways) (i : Nat) (hB : NdB (nd i)) : ∀ x ∈ insN nd lg i, I4OK x := by
  intro x hx
  unfold insN at hx
  split at hx
  · rw [List.mem_singleton] at hx; subst hx
    exact ⟨by show 6 < 65536; decide, by show 0 < 256; decide, by show 0 < 256; decide, hB.word⟩
  · rcases List.mem_append.1 hx with h | h
    · unfold headN at h
      split at h
      · rw [List.mem_singleton] at h; subst h
        exact ⟨by show 32 < 65536; decide, by show 0 < 256; decide, by show 0 < 256; decide, u32N_lt _⟩
      · rcases List.mem_cons.1 h with h | h
        · subst h; exact ⟨by show 32 < 65536; decide, by show 0 < 256; decide, by show 0 < 256; decide, u32N_lt _⟩
        · rw [List.mem_singleton] at h; subst h
          exact ⟨by show 84 < 65536; decide, by show 0 < 256; decide, by show 0 < 256; decide, hB.mask⟩
    · rcases List.mem_append.1 h with h | h
      · rw [List.mem_singleton] at h; subst h
        exact ⟨codeN_lt _, u8N_lt _, u8N_lt _, hB.k⟩
      · rcases List.mem_append.1 h with h | h
        · unfold wayT at h
          split at h
          · rw [List.mem_singleton] at h; subst h
            exact ⟨by show 5 < 65536; decide, by show 0 < 256; decide, by show 0 < 256; decide, u32N_lt _⟩
          · cases h
        · unfold wayF at h
          split at h
          · rw [List.mem_singleton] at h; subst h
            exact ⟨by show 5 < 65536; decide, by show 0 < 256; decide, by show 0 < 256; decide, u32N_lt _⟩
          · cases h
theorem emit_fit {nd : Nat → Nd} (lg : Ways) : ∀ m, (∀ i, i < m → NdB (nd i)) → ∀ x ∈ emitN nd lg m, I4OK x
  | 0, _, x, hx => by cases hx
  | m + 1, hB, x, hx => by
    rw [emitN] at hx
    rcases List.mem_append.1 hx with h | h
    · exact emit_fit lg m (fun i hi => hB i (by omega)) x h
    · exact ins_fit lg m (hB m (by omega)) x h
theorem prog_fit {xs : List I4} (h : ∀ x ∈ xs, I4OK x) : ∀ i, i < xs.length → (progI xs i).OK := fun i hi => by
  have hx := h _ (List.getElem_mem hi)
  unfold progI
  rw [List.getD_eq_getElem?_getD, List.getElem?_eq_getElem hi]
  exact ⟨by show (0 : Int) ≤ ((xs[i]).1 : Int); omega, by show ((xs[i]).1 : Int) < 65536; have := hx.1; omega, hx.2.1, hx.2.2.1⟩
/-- Instructions in a slice are a program. -/
theorem prog_of_own {w : World} {B : Nat} {A : Option Addr} {c : Nat} {xs : List I4} (h : w.ownsRow B 50 4 (.slice A xs.length c) xs.length (i4L xs)) (hx : ∀ x ∈ xs, I4OK x) : ProgAt w A xs.length (progI xs) := fun hn => by
  obtain ⟨g, c', e, hB, hg, hc, hcell⟩ := own_cells h hn
  injection e with e _ _
  subst e
  refine ⟨g, 0, rfl, hg, fun i hi => ?_⟩
  have hxi : xs[i]? = some xs[i] := List.getElem?_eq_getElem hi
  have hok := hx _ (List.getElem_mem hi)
  have e0 : progI xs i = toIns xs[i] := by unfold progI; rw [List.getD_eq_getElem?_getD, hxi]; rfl
  rw [e0, Nat.zero_add]
  have hk : ((BitVec.ofNat 32 (xs[i]).2.2.2).toNat : Int) = ((xs[i]).2.2.2 : Int) := by
    rw [BitVec.toNat_ofNat, Nat.mod_eq_of_lt hok.2.2.2]
  refine ⟨hcell _ _ (i4L_get xs i 0 _ hxi (by omega)), hcell _ _ (i4L_get xs i 1 _ hxi (by omega)), hcell _ _ (i4L_get xs i 2 _ hxi (by omega)), ?_⟩
  show w.cell? ⟨g, i * 4 + 3, none⟩ = some (.int .u32 ((BitVec.ofNat 32 (xs[i]).2.2.2).toNat : Int))
  rw [hk]
  exact hcell _ _ (i4L_get xs i 3 _ hxi (by omega))
/-! ### A test, as the decision's Run asks it -/
end Go.Proofs.Ytgpjiflgocgolaa
