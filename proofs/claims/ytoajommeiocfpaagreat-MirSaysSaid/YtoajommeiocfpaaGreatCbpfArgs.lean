/-
  A program of classic BPF and its data that came in as arguments: what the statements' own conditions say of them, in the walks' words. No condition but those that each names.
-/
import Derived.Test.YtoajommeiocfpaaGreatCbpfRun
namespace Go.Proofs.YtoajommeiocfpaaGreat
open Go Go.RowKit
set_option linter.unusedSimpArgs false
set_option linter.unusedVariables false

theorem ins_of_cells {w : World} {b o : Nat} {c jt jf k : Int} (c0 : w.cell? ⟨b, o, none⟩ = some (.int .u16 c)) (c1 : w.cell? ⟨b, o + 1, none⟩ = some (.int .u8 jt)) (c2 : w.cell? ⟨b, o + 2, none⟩ = some (.int .u8 jf)) (c3 : w.cell? ⟨b, o + 3, none⟩ = some (.int .u32 k))
    (h0 : 0 ≤ c ∧ c ≤ 65535) (h1 : 0 ≤ jt ∧ jt ≤ 255) (h2 : 0 ≤ jf ∧ jf ≤ 255) (h3 : 0 ≤ k ∧ k ≤ 4294967295) : ∃ x : Ins, InsCells w b o x ∧ x.OK := by
  refine ⟨⟨c, jt.toNat, jf.toNat, BitVec.ofNat 32 k.toNat⟩, ⟨c0, ?_, ?_, ?_⟩, ⟨h0.1, by show c < 65536; omega, by show jt.toNat < 256; omega, by show jf.toNat < 256; omega⟩⟩
  · show _ = some (Value.int .u8 ((jt.toNat : Nat) : Int)); rw [c1, Int.toNat_of_nonneg h1.1]
  · show _ = some (Value.int .u8 ((jf.toNat : Nat) : Int)); rw [c2, Int.toNat_of_nonneg h2.1]
  · show _ = some (Value.int .u32 ((BitVec.ofNat 32 k.toNat).toNat : Int))
    rw [c3, BitVec.toNat_ofNat, Nat.mod_eq_of_lt (by omega), Int.toNat_of_nonneg h3.1]

theorem prog_of_rows {w : World} {a : Option Addr} {len : Nat} (h : RowsOf [.u16, .u8, .u8, .u32] w a len) : ∃ q : Nat → Ins, ProgAt w a len q ∧ ∀ i, i < len → (q i).OK := by
  rcases h with ⟨rfl, rfl⟩ | ⟨x, rfl, hl, hc⟩
  · exact ⟨fun _ => ⟨0, 0, 0, 0#32⟩, fun h => absurd h (by omega), fun i hi => absurd hi (by omega)⟩
  · by_cases h0 : len = 0
    · subst h0
      exact ⟨fun _ => ⟨0, 0, 0, 0#32⟩, fun h => absurd h (by omega), fun i hi => absurd hi (by omega)⟩
    · obtain ⟨b, off, spot⟩ := x
      obtain ⟨_, hc0, _⟩ := hc 0 (by omega) 0 _ rfl
      have hspot : spot = none := by simpa [Addr.add] using World.cell?_spot hc0
      subst hspot
      rw [addr_add] at hc0
      have each : ∀ i, ∃ x : Ins, i < len → InsCells w b (off + i * 4) x ∧ x.OK := fun i => by
        by_cases hi : i < len
        · obtain ⟨z0, c0, f0⟩ := hc i hi 0 _ rfl
          obtain ⟨z1, c1, f1⟩ := hc i hi 1 _ rfl
          obtain ⟨z2, c2, f2⟩ := hc i hi 2 _ rfl
          obtain ⟨z3, c3, f3⟩ := hc i hi 3 _ rfl
          rw [addr_add] at c0 c1 c2 c3
          have b0 : 0 ≤ z0 ∧ z0 ≤ 65535 := by simpa [Lit.wf, IntKind.min, IntKind.max, IntKind.bits, IntKind.signed] using f0
          have b1 : 0 ≤ z1 ∧ z1 ≤ 255 := by simpa [Lit.wf, IntKind.min, IntKind.max, IntKind.bits, IntKind.signed] using f1
          have b2 : 0 ≤ z2 ∧ z2 ≤ 255 := by simpa [Lit.wf, IntKind.min, IntKind.max, IntKind.bits, IntKind.signed] using f2
          have b3 : 0 ≤ z3 ∧ z3 ≤ 4294967295 := by simpa [Lit.wf, IntKind.min, IntKind.max, IntKind.bits, IntKind.signed] using f3
          obtain ⟨x, hx⟩ := ins_of_cells (o := off + i * 4) c0 c1 c2 c3 b0 b1 b2 b3
          exact ⟨x, fun _ => hx⟩
        · exact ⟨⟨0, 0, 0, 0#32⟩, fun h => absurd h hi⟩
      exact ⟨fun i => Classical.choose (each i), fun _ => ⟨b, off, rfl, cell_lt hc0, fun i hi => (Classical.choose_spec (each i) hi).1⟩, fun i hi => (Classical.choose_spec (each i) hi).2⟩

theorem data_of_row {w : World} {a : Option Addr} {len cap : Nat} {zs : List Int} (h : IsRow .u8 w a len cap zs) : len = 64 → ∃ db doff, a = some ⟨db, doff, none⟩ ∧ Bytes64 w db doff (fun i => zs.getD i 0) := fun h64 => by
  obtain ⟨b, off, rfl, hl, hc⟩ := holds_of_isRow h (by omega)
  exact ⟨b, off, rfl, hl, isRow_byte h, fun i hi => hc i (by omega)⟩
end Go.Proofs.YtoajommeiocfpaaGreat
