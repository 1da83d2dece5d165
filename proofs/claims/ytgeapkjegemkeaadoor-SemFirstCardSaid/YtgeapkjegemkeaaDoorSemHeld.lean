/-
  Holds of both sides: contracts. Conditions: those that each names.
-/
import Derived.Test.YtgeapkjegemkeaaDoorSemRefH
namespace Go.Proofs.YtgeapkjegemkeaaDoor
open Go Go.RowKit
set_option linter.unusedSimpArgs false
set_option linter.unusedVariables false

/-- What Holds answers. -/
def heldF (d : Dat) (x : Ex) : Bool := if exF 0 x = 0 then holdsF d x else false
/-- Both boxes in memory. -/
def TwoAt (w : World) (b : Nat) (x : Ex) (A : Option Addr) (cap : Nat) (d : Dat) : Prop := w.heap[b]? = some (exCell x A cap) ∧ w.heap[b + 1]? = some (datO d)
theorem TwoAt.up {w w1 : World} {b : Nat} {x : Ex} {A : Option Addr} {cap : Nat} {d : Dat} (h : TwoAt w b x A cap d) (hb : Below w.heap.size w w1) : TwoAt w1 b x A cap d :=
  ⟨(hb.block _ (Array.getElem?_eq_some_iff.1 h.1).1).trans h.1, (hb.block _ (Array.getElem?_eq_some_iff.1 h.2).1).trans h.2⟩
theorem twoAt_new (W : World) (x : Ex) (A : Option Addr) (cap : Nat) (d : Dat) : TwoAt ((W.alloc (exCell x A cap)).alloc (datO d)) W.heap.size x A cap d :=
  ⟨kept_alloc (World.alloc_heap_new W _) _, by
    have := World.alloc_heap_new (W.alloc (exCell x A cap)) (datO d)
    simpa using this⟩
theorem two_x {w : World} {b : Nat} {x : Ex} {A : Option Addr} {cap : Nat} {d : Dat} (h : TwoAt w b x A cap d) :
    w.cell? ⟨b, 0, none⟩ = some (.int .i64 x.op) ∧ w.cell? ⟨b, 1, none⟩ = some (.slice A x.args.length cap) ∧ w.cell? ⟨b, 2, none⟩ = some (.int .i64 x.field) ∧ w.cell? ⟨b, 3, none⟩ = some (.int .u64 (x.mask : Int)) ∧ w.cell? ⟨b, 4, none⟩ = some (.int .i64 x.rel) ∧ w.cell? ⟨b, 5, none⟩ = some (.int .u64 (x.value : Int)) :=
  ⟨cell6 h.1 0 rfl, cell6 h.1 1 rfl, cell6 h.1 2 rfl, cell6 h.1 3 rfl, cell6 h.1 4 rfl, cell6 h.1 5 rfl⟩
theorem two_d {w : World} {b : Nat} {x : Ex} {A : Option Addr} {cap : Nat} {d : Dat} (h : TwoAt w b x A cap d) :
    w.cell? ⟨b + 1, 0, none⟩ = some (.int .u32 (d.nr : Int)) ∧ w.cell? ⟨b + 1, 1, none⟩ = some (.int .u32 (d.arch : Int)) ∧ w.cell? ⟨b + 1, 2, none⟩ = some (.int .u64 (d.ip : Int)) ∧ w.cell? ⟨b + 1, 3, none⟩ = some (.int .u64 (d.args 0 : Int)) ∧ w.cell? ⟨b + 1, 4, none⟩ = some (.int .u64 (d.args 1 : Int)) ∧ w.cell? ⟨b + 1, 5, none⟩ = some (.int .u64 (d.args 2 : Int)) ∧ w.cell? ⟨b + 1, 6, none⟩ = some (.int .u64 (d.args 3 : Int)) ∧ w.cell? ⟨b + 1, 7, none⟩ = some (.int .u64 (d.args 4 : Int)) ∧ w.cell? ⟨b + 1, 8, none⟩ = some (.int .u64 (d.args 5 : Int)) :=
  ⟨cell6 h.2 0 rfl, cell6 h.2 1 rfl, cell6 h.2 2 rfl, cell6 h.2 3 rfl, cell6 h.2 4 rfl, cell6 h.2 5 rfl, cell6 h.2 6 rfl, cell6 h.2 7 rfl, cell6 h.2 8 rfl⟩
end Go.Proofs.YtgeapkjegemkeaaDoor
