/-
  A program of classic BPF and its data that came in as arguments: what the statements' own conditions say of them, for runs of the program's own too. No condition but those that each names.
-/
import Derived.Test.YtnhfipedhbeajaaCbpfArgs
import Derived.Test.YtnhfipedhbeajaaPRun
namespace Go.Proofs.Ytnhfipedhbeajaa
open Go Go.RowKit
set_option linter.unusedSimpArgs false
set_option linter.unusedVariables false

theorem plies_of_args {w : World} {a a' : Option Addr} {n len cap : Nat} {zs : List Int} (h : RowsOf [.u16, .u8, .u8, .u32] w a n) (hn : n * 8 ≤ 140737488351232) (h' : IsRow .u8 w a' len cap zs) (hc : cap * 1 ≤ 140737488351232) :
    ∃ q, Lies w a n q a' len (fun i => zs.getD i 0) ∧ PLies w a n q a' len (fun i => zs.getD i 0) := by
  obtain ⟨q, hp, ho⟩ := prog_of_rows h
  exact ⟨q, ⟨hp, data_of_row h', by omega, ho⟩, ⟨hp, holds_of_isRow h', isRow_byte h', hn, by have := isRow_len h'; omega, ho⟩⟩
end Go.Proofs.Ytnhfipedhbeajaa
