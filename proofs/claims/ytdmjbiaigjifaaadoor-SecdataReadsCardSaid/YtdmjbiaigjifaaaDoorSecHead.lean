/-
  The live question of each statement of layer 2, and the table of the kinds out of what the row lists. Conditions: those that each names.
-/
import Derived.Test.YtdmjbiaigjifaaaDoorSecData
import Derived.Test.YtdmjbiaigjifaaaDoorLaid
import Derived.Test.YtdmjbiaigjifaaaDoorTie
namespace Go.Proofs.YtdmjbiaigjifaaaDoor
open Go Go.RowKit Go.ChangeShapes Go.WideShapes Go.ChangeAt
set_option linter.unusedSimpArgs false
set_option linter.unusedVariables false

theorem tab_of_laid {W : World} (h : laidMetH Tryd.prog [("ravelin/secdata.rows", Rows.laid_ravelin_secdata_rows)] W) : Tab W := by
  obtain ⟨cs, fuel, p, hc, hd⟩ := laid_first (g := 0) (t := 64) (by kernel_rfl) h (by kernel_rfl) (by kernel_rfl)
  obtain ⟨rows, hx, hl, hr⟩ := laid_rows Tryd.underlying64 Tryd.underlying63 (by kernel_rfl) (by kernel_rfl) hd
  have hrows : rows = [[.lit (.int .i64 1), .lit (.int .u32 2147483648), .lit (.bool false)], [.lit (.int .i64 2), .lit (.int .u32 0), .lit (.bool false)], [.lit (.int .i64 3), .lit (.int .u32 196608), .lit (.bool true)], [.lit (.int .i64 4), .lit (.int .u32 327680), .lit (.bool true)], [.lit (.int .i64 5), .lit (.int .u32 2143289344), .lit (.bool false)], [.lit (.int .i64 6), .lit (.int .u32 2146435072), .lit (.bool true)], [.lit (.int .i64 7), .lit (.int .u32 2147221504), .lit (.bool false)], [.lit (.int .i64 8), .lit (.int .u32 2147418112), .lit (.bool false)]] := by
    have inj : ∀ a b : List (List (DataW Unit)), a.map DataW.agg = b.map DataW.agg → a = b := fun a b e => (List.map_inj_right (fun x y h => by injection h)).1 e
    apply inj
    have : DataW.agg (rows.map DataW.agg) = Rows.laid_ravelin_secdata_rows := hx.symm
    injection this
  subst hrows
  have int : ∀ (i j : Nat) (r : List (DataW Unit)) (k : IntKind) (n : Int) (t : TypeId) (f : Field), f.type = t → Tryd.prog.underlying t = some (.int k) → _ → _ → _ → W.cell? ⟨0, i * 3 + j, none⟩ = some (.int k n) := fun i j r k n t f hft hu h1 h2 h3 => by
    obtain ⟨v, m, q, hcs, htr⟩ := hr i r h1 j (.lit (.int k n)) f h2 h3
    rw [hft] at htr
    obtain ⟨n', e1, e2, _⟩ := DataW.trod_int hu htr
    simp only [List.cons.injEq, and_true] at e1
    simp only [Prod.mk.injEq, DataW.lit.injEq, Lit.int.injEq] at e2
    obtain ⟨⟨_, rfl⟩, _⟩ := e2
    rw [hc, ← e1]; exact hcs
  have bool : ∀ (i : Nat) (r : List (DataW Unit)) (b : Bool) (f : Field), f.type = 4 → _ → _ → _ → W.cell? ⟨0, i * 3 + 2, none⟩ = some (.bool b) := fun i r b f hft h1 h2 h3 => by
    obtain ⟨v, m, q, hcs, htr⟩ := hr i r h1 2 (.lit (.bool b)) f h2 h3
    rw [hft] at htr
    obtain ⟨b', e1, e2⟩ := DataW.trod_bool Tryd.underlying4 htr
    simp only [List.cons.injEq, and_true] at e1
    simp only [Prod.mk.injEq, DataW.lit.injEq, Lit.bool.injEq] at e2
    obtain ⟨rfl, _⟩ := e2
    rw [hc, ← e1]; exact hcs
  have row : ∀ k, k < 8 → W.cell? ⟨0, k * 3, none⟩ = some (.int .i64 ((k : Int) + 1)) ∧ W.cell? ⟨0, k * 3 + 1, none⟩ = some (.int .u32 (rowW k)) ∧ W.cell? ⟨0, k * 3 + 2, none⟩ = some (.bool (rowH k)) := by
    intro k hk
    match k, hk with
    | 0, _ => exact ⟨int 0 0 _ _ _ _ _ rfl Tryd.underlying44 rfl rfl rfl, int 0 1 _ _ _ _ _ rfl Tryd.underlying22 rfl rfl rfl, bool 0 _ _ _ rfl rfl rfl rfl⟩
    | 1, _ => exact ⟨int 1 0 _ _ _ _ _ rfl Tryd.underlying44 rfl rfl rfl, int 1 1 _ _ _ _ _ rfl Tryd.underlying22 rfl rfl rfl, bool 1 _ _ _ rfl rfl rfl rfl⟩
    | 2, _ => exact ⟨int 2 0 _ _ _ _ _ rfl Tryd.underlying44 rfl rfl rfl, int 2 1 _ _ _ _ _ rfl Tryd.underlying22 rfl rfl rfl, bool 2 _ _ _ rfl rfl rfl rfl⟩
    | 3, _ => exact ⟨int 3 0 _ _ _ _ _ rfl Tryd.underlying44 rfl rfl rfl, int 3 1 _ _ _ _ _ rfl Tryd.underlying22 rfl rfl rfl, bool 3 _ _ _ rfl rfl rfl rfl⟩
    | 4, _ => exact ⟨int 4 0 _ _ _ _ _ rfl Tryd.underlying44 rfl rfl rfl, int 4 1 _ _ _ _ _ rfl Tryd.underlying22 rfl rfl rfl, bool 4 _ _ _ rfl rfl rfl rfl⟩
    | 5, _ => exact ⟨int 5 0 _ _ _ _ _ rfl Tryd.underlying44 rfl rfl rfl, int 5 1 _ _ _ _ _ rfl Tryd.underlying22 rfl rfl rfl, bool 5 _ _ _ rfl rfl rfl rfl⟩
    | 6, _ => exact ⟨int 6 0 _ _ _ _ _ rfl Tryd.underlying44 rfl rfl rfl, int 6 1 _ _ _ _ _ rfl Tryd.underlying22 rfl rfl rfl, bool 6 _ _ _ rfl rfl rfl rfl⟩
    | 7, _ => exact ⟨int 7 0 _ _ _ _ _ rfl Tryd.underlying44 rfl rfl rfl, int 7 1 _ _ _ _ _ rfl Tryd.underlying22 rfl rfl rfl, bool 7 _ _ _ rfl rfl rfl rfl⟩
  exact ⟨by have := cell_lt (row 0 (by decide)).1; omega, row⟩

theorem bytes_one (w : World) : Calls Tryd.prog 11 #[.agg #[.int .u32 1, .int .u32 0, .int .u64 0, .int .u64 0, .int .u64 0, .int .u64 0, .int .u64 0, .int .u64 0, .int .u64 0]] w (MadeV w 64 (fun k => .int .u8 (dbyte 1 0 0 (fun _ => 0) k))) :=
  secdata_Bytes 1 0 0 (fun _ => 0) (by decide) (by decide) (by decide) (fun _ => by decide) w
theorem code_fault (w : World) (hT : Tab w) : Calls Tryd.prog 19 #[.agg #[.int .i64 4, .int .u16 13]] w fun e w' => e = .returned (.tuple #[.int .u32 327693, .int .i64 0]) ∧ Below w.heap.size w w' :=
  (secdata_Code 4 13 (by decide) (by decide) w hT).mono fun e w' h => ⟨by rw [h.1, show codeW 4 13 = 327693 by decide, show codeE 4 13 = 0 by decide], h.2⟩
theorem first_byte : some (Value.int .u8 (dbyte 1 0 0 (fun _ => 0) 0)) = some (.int .u8 1) := congrArg (fun x => some (Value.int .u8 x)) (by decide)
def TrueP (w : World) (e : Ending) (w' : World) : Prop := e = .returned (.bool true) ∧ Below w.heap.size w w'
theorem head_true (w : World) (hT : Tab w) : Calls Tryd.prog 10 #[] w (TrueP w) := by
  have HT := Lib.hid hT
  clear hT
  go_enter Tryd.func10, Tryd.ntmps10
  go_wp2_with (first
    | (go_at_call 11; (with_reducible refine (bytes_one _).mono ?_); rintro e w1 ⟨v, rfl, g, cap, F, rfl, hr, hc, hm, hF, hb, hg⟩; have c0 : w1.cell? ⟨g, 0, none⟩ = some (.int .u8 1) := (hr.cell (by omega)).trans ((congrArg some (hF 0 (by decide))).trans first_byte); have HB := Lib.hid hb; have hl := hr.lt; have HT1 := Lib.hid (HT.out.below hb HT.out.1); clear hr hF hb)
    | (go_at_call 19; (with_reducible refine (code_fault _ HT1.out).mono ?_); rintro e w2 ⟨rfl, hb2⟩; have c1 := (hb2.cell (p := ⟨g, 0, none⟩) hl).trans c0; have HB2 := Lib.hid (HB.out.trans (hb2.mono HB.out.size)); clear hb2))
  go_ret
  exact ⟨rfl, HB2.out⟩
end Go.Proofs.YtdmjbiaigjifaaaDoor
