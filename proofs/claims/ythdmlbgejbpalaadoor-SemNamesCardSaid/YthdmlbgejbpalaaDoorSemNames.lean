/-
  'SemNames': the law of layer 7 on the examples and the errors by their numbers returns true, and leaves memory as it was. Condition: the table of the kinds reads as the program's text lays it (the card ties it).
-/
import Derived.Test.YthdmlbgejbpalaaDoorGSemEnd
import Derived.Test.YthdmlbgejbpalaaDoorCards
import Derived.SevenTiedAt
import Derived.ChangeMaps5
namespace Go.Proofs.YthdmlbgejbpalaaDoor.semNames
open Go Go.ChangeShapes Go.WideShapes Go.ChangeAt Go.RowKit
set_option linter.unusedSimpArgs false
set_option linter.unusedVariables false

def headT : ByteArray := ⟨#[97, 114, 99, 104, 32, 120, 56, 54, 95, 54, 52, 59, 102, 111, 114, 101, 105, 103, 110, 32, 108, 111, 103, 59, 100, 101, 102, 97, 117, 108, 116, 32, 108, 111, 103, 59, 111, 110, 32]⟩
def badT : Nat → ByteArray
  | 0 => ⟨#[98, 111, 103, 117, 115, 32, 100, 111, 32, 108, 111, 103, 59]⟩
  | 1 => ⟨#[48, 44, 32, 114, 101, 97, 100, 32, 100, 111, 32, 108, 111, 103, 59]⟩
  | 2 => ⟨#[52, 50, 57, 52, 57, 54, 55, 50, 57, 54, 32, 100, 111, 32, 108, 111, 103, 59]⟩
  | 3 => ⟨#[49, 32, 119, 104, 101, 110, 32, 97, 114, 103, 48, 32, 38, 32, 51, 32, 61, 61, 32, 52, 32, 100, 111, 32, 108, 111, 103, 59]⟩
  | 4 => ⟨#[49, 32, 119, 104, 101, 110, 32, 97, 114, 103, 48, 32, 38, 32, 48, 32, 61, 61, 32, 48, 32, 100, 111, 32, 108, 111, 103, 59]⟩
  | 5 => ⟨#[49, 32, 100, 111, 32, 101, 114, 114, 110, 111, 32, 52, 48, 57, 54, 59]⟩
  | _ => ⟨#[]⟩
def fullT : Nat → ByteArray
  | 0 => ⟨#[97, 114, 99, 104, 32, 120, 56, 54, 95, 54, 52, 59, 102, 111, 114, 101, 105, 103, 110, 32, 108, 111, 103, 59, 100, 101, 102, 97, 117, 108, 116, 32, 108, 111, 103, 59, 111, 110, 32, 98, 111, 103, 117, 115, 32, 100, 111, 32, 108, 111, 103, 59]⟩
  | 1 => ⟨#[97, 114, 99, 104, 32, 120, 56, 54, 95, 54, 52, 59, 102, 111, 114, 101, 105, 103, 110, 32, 108, 111, 103, 59, 100, 101, 102, 97, 117, 108, 116, 32, 108, 111, 103, 59, 111, 110, 32, 48, 44, 32, 114, 101, 97, 100, 32, 100, 111, 32, 108, 111, 103, 59]⟩
  | 2 => ⟨#[97, 114, 99, 104, 32, 120, 56, 54, 95, 54, 52, 59, 102, 111, 114, 101, 105, 103, 110, 32, 108, 111, 103, 59, 100, 101, 102, 97, 117, 108, 116, 32, 108, 111, 103, 59, 111, 110, 32, 52, 50, 57, 52, 57, 54, 55, 50, 57, 54, 32, 100, 111, 32, 108, 111, 103, 59]⟩
  | 3 => ⟨#[97, 114, 99, 104, 32, 120, 56, 54, 95, 54, 52, 59, 102, 111, 114, 101, 105, 103, 110, 32, 108, 111, 103, 59, 100, 101, 102, 97, 117, 108, 116, 32, 108, 111, 103, 59, 111, 110, 32, 49, 32, 119, 104, 101, 110, 32, 97, 114, 103, 48, 32, 38, 32, 51, 32, 61, 61, 32, 52, 32, 100, 111, 32, 108, 111, 103, 59]⟩
  | 4 => ⟨#[97, 114, 99, 104, 32, 120, 56, 54, 95, 54, 52, 59, 102, 111, 114, 101, 105, 103, 110, 32, 108, 111, 103, 59, 100, 101, 102, 97, 117, 108, 116, 32, 108, 111, 103, 59, 111, 110, 32, 49, 32, 119, 104, 101, 110, 32, 97, 114, 103, 48, 32, 38, 32, 48, 32, 61, 61, 32, 48, 32, 100, 111, 32, 108, 111, 103, 59]⟩
  | 5 => ⟨#[97, 114, 99, 104, 32, 120, 56, 54, 95, 54, 52, 59, 102, 111, 114, 101, 105, 103, 110, 32, 108, 111, 103, 59, 100, 101, 102, 97, 117, 108, 116, 32, 108, 111, 103, 59, 111, 110, 32, 49, 32, 100, 111, 32, 101, 114, 114, 110, 111, 32, 52, 48, 57, 54, 59]⟩
  | _ => ⟨#[]⟩
def wantN : Nat → Int
  | 0 => 73
  | 1 => 74
  | 2 => 73
  | 3 => 75
  | 4 => 75
  | 5 => 72
  | _ => 0
abbrev badO : Obj := .cells #[.string ⟨#[98, 111, 103, 117, 115, 32, 100, 111, 32, 108, 111, 103, 59]⟩, .string ⟨#[48, 44, 32, 114, 101, 97, 100, 32, 100, 111, 32, 108, 111, 103, 59]⟩, .string ⟨#[52, 50, 57, 52, 57, 54, 55, 50, 57, 54, 32, 100, 111, 32, 108, 111, 103, 59]⟩, .string ⟨#[49, 32, 119, 104, 101, 110, 32, 97, 114, 103, 48, 32, 38, 32, 51, 32, 61, 61, 32, 52, 32, 100, 111, 32, 108, 111, 103, 59]⟩, .string ⟨#[49, 32, 119, 104, 101, 110, 32, 97, 114, 103, 48, 32, 38, 32, 48, 32, 61, 61, 32, 48, 32, 100, 111, 32, 108, 111, 103, 59]⟩, .string ⟨#[49, 32, 100, 111, 32, 101, 114, 114, 110, 111, 32, 52, 48, 57, 54, 59]⟩] 9
abbrev wantO : Obj := .cells #[.int .i64 73, .int .i64 74, .int .i64 73, .int .i64 75, .int .i64 75, .int .i64 72] 37
def pol (s : ByteArray) : Po := (resPo (policyF s)).1
theorem want0 : checkF (pol (fullT 0)) = (73, 0) := by kernel_rfl
theorem want1 : checkF (pol (fullT 1)) = (74, 0) := by kernel_rfl
theorem want2 : checkF (pol (fullT 2)) = (73, 0) := by kernel_rfl
theorem want3 : checkF (pol (fullT 3)) = (75, 0) := by kernel_rfl
theorem want4 : checkF (pol (fullT 4)) = (75, 0) := by kernel_rfl
theorem want5 : checkF (pol (fullT 5)) = (72, 0) := by kernel_rfl
theorem want_is : ∀ k, k < 6 → checkF (pol (fullT k)) = (wantN k, 0)
  | 0, _ => want0
  | 1, _ => want1
  | 2, _ => want2
  | 3, _ => want3
  | 4, _ => want4
  | 5, _ => want5
theorem full_is : ∀ k, k < 6 → headT ++ badT k = fullT k
  | 0, _ => by kernel_rfl
  | 1, _ => by kernel_rfl
  | 2, _ => by kernel_rfl
  | 3, _ => by kernel_rfl
  | 4, _ => by kernel_rfl
  | 5, _ => by kernel_rfl
theorem bad_small : ∀ k, k < 6 → (badT k).size ≤ 100
  | 0, _ => by decide
  | 1, _ => by decide
  | 2, _ => by decide
  | 3, _ => by decide
  | 4, _ => by decide
  | 5, _ => by decide
theorem bad_at : ∀ k, k < 6 → (#[.string ⟨#[98, 111, 103, 117, 115, 32, 100, 111, 32, 108, 111, 103, 59]⟩, .string ⟨#[48, 44, 32, 114, 101, 97, 100, 32, 100, 111, 32, 108, 111, 103, 59]⟩, .string ⟨#[52, 50, 57, 52, 57, 54, 55, 50, 57, 54, 32, 100, 111, 32, 108, 111, 103, 59]⟩, .string ⟨#[49, 32, 119, 104, 101, 110, 32, 97, 114, 103, 48, 32, 38, 32, 51, 32, 61, 61, 32, 52, 32, 100, 111, 32, 108, 111, 103, 59]⟩, .string ⟨#[49, 32, 119, 104, 101, 110, 32, 97, 114, 103, 48, 32, 38, 32, 48, 32, 61, 61, 32, 48, 32, 100, 111, 32, 108, 111, 103, 59]⟩, .string ⟨#[49, 32, 100, 111, 32, 101, 114, 114, 110, 111, 32, 52, 48, 57, 54, 59]⟩] : Array Value)[k]? = some (.string (badT k))
  | 0, _ => rfl
  | 1, _ => rfl
  | 2, _ => rfl
  | 3, _ => rfl
  | 4, _ => rfl
  | 5, _ => rfl
theorem want_at : ∀ k, k < 6 → (#[.int .i64 73, .int .i64 74, .int .i64 73, .int .i64 75, .int .i64 75, .int .i64 72] : Array Value)[k]? = some (.int .i64 (wantN k))
  | 0, _ => rfl
  | 1, _ => rfl
  | 2, _ => rfl
  | 3, _ => rfl
  | 4, _ => rfl
  | 5, _ => rfl
def dt (arch ip : Nat) : Dat := ⟨257, arch, ip, fun k => if k = 1 then 3 else if k = 2 then 4 else 0⟩
theorem ev1 : evalF someP (dt 3221225534 5000) = 2147221504 := by kernel_rfl
theorem ev2 : evalF someP (dt 3221225534 4095) = 327681 := by kernel_rfl
theorem ev3 : evalF someP (dt 3221225715 4095) = 2147483648 := by kernel_rfl
def armP : Po := ⟨⟨#[97, 114, 109]⟩, someP.foreign_, someP.default_, someP.rules⟩
theorem arm_ck : checkF armP = (71, -1) := by kernel_rfl
theorem parse7 (s : ByteArray) (w : World) (hm : s.size ≤ maxLen) : Calls Tryd.prog 13 #[.string s] w fun e w' => ∃ A cap, (∃ er pl : Int, e = .returned (.tuple #[poA (pol s) A cap, .int .i64 er, .int .i64 pl])) ∧ RulesL w' (pol s).rules A ∧ Below w.heap.size w w' := by
  refine (u_po (rd6_Parse s w hm)).mono fun e w' ⟨R, he, hr, hb⟩ => ?_
  obtain ⟨A, cap, hv, hl⟩ := rulesL_of (sm_resPo s) hr
  subst hv
  exact ⟨A, cap, ⟨_, _, he⟩, hl, hb⟩
/-- What is at hand, behind W0: a policy's box, and data's. -/
structure SnAt (w W0 W : World) (p : Po) (A : Option Addr) (cap : Nat) (d : Dat) : Prop where
  below : Below w.heap.size w W0
  b0 : Below W0.heap.size W0 W
  po : W.heap[W0.heap.size]? = some (poO7 p A cap)
  dat : W.heap[W0.heap.size + 1]? = some (datO d)
  r0 : RulesL W0 p.rules A
  t0 : Tab W0
section
variable {w W0 W W' : World} {p : Po} {A : Option Addr} {cap : Nat} {d : Dat}
theorem SnAt.up (h : SnAt w W0 W p A cap d) (hb : Below W.heap.size W W') : SnAt w W0 W' p A cap d := ⟨h.below, on7 h.b0 hb, keep7 h.po hb, keep7 h.dat hb, h.r0, h.t0⟩
theorem SnAt.rules (h : SnAt w W0 W p A cap d) : RulesL W p.rules A := h.r0.below h.b0
theorem SnAt.tab (h : SnAt w W0 W p A cap d) : Tab W := h.t0.up h.b0
theorem SnAt.all (h : SnAt w W0 W p A cap d) : Below w.heap.size w W := on7 h.below h.b0
theorem snAt_new (d : Dat) (hr : RulesL W p.rules A) (hb : Below w.heap.size w W) (ht : Tab W) : SnAt w W ((W.alloc (poO7 p A cap)).alloc (datO d)) p A cap d :=
  ⟨hb, below_of W _ (datO d) (lbox W (poO7 p A cap)), kept_alloc (World.alloc_heap_new W _) _, by simpa using World.alloc_heap_new (W.alloc (poO7 p A cap)) (datO d), hr, ht⟩
theorem SnAt.ip (a i i' : Nat) (h : SnAt w W0 W p A cap (dt a i)) : SnAt w W0 (W.setCell ⟨W0.heap.size + 1, 2, none⟩ (.int .u64 (i' : Int))) p A cap (dt a i') :=
  ⟨h.below, h.b0.setCell (p := ⟨W0.heap.size + 1, 2, none⟩) (Nat.le_succ _) _, kept_set h.po (by omega) 2 _, heap_set1 h.dat 2 _, h.r0, h.t0⟩
theorem SnAt.arch (a a' i : Nat) (h : SnAt w W0 W p A cap (dt a i)) : SnAt w W0 (W.setCell ⟨W0.heap.size + 1, 1, none⟩ (.int .u32 (a' : Int))) p A cap (dt a' i) :=
  ⟨h.below, h.b0.setCell (p := ⟨W0.heap.size + 1, 1, none⟩) (Nat.le_succ _) _, kept_set h.po (by omega) 1 _, heap_set1 h.dat 1 _, h.r0, h.t0⟩
end
theorem dt_cells {W : World} {b a i : Nat} (A I : Int) (ha : (a : Int) = A) (hi : (i : Int) = I) (h : W.heap[b]? = some (datO (dt a i))) :
    W.cell? ⟨b, 0, none⟩ = some (.int .u32 257) ∧ W.cell? ⟨b, 1, none⟩ = some (.int .u32 A) ∧ W.cell? ⟨b, 2, none⟩ = some (.int .u64 I) ∧ W.cell? ⟨b, 3, none⟩ = some (.int .u64 0) ∧ W.cell? ⟨b, 4, none⟩ = some (.int .u64 3) ∧ W.cell? ⟨b, 5, none⟩ = some (.int .u64 4) ∧ W.cell? ⟨b, 6, none⟩ = some (.int .u64 0) ∧ W.cell? ⟨b, 7, none⟩ = some (.int .u64 0) ∧ W.cell? ⟨b, 8, none⟩ = some (.int .u64 0) := by
  subst ha; subst hi
  exact dat_cells h
set_option maxRecDepth 100000 in
set_option maxHeartbeats 16000000 in
theorem walk (w : World) (hTab : Tab w) :
    Calls Tryd.prog 3 #[] w fun e w' => e = .returned (.bool true) ∧ Below w.heap.size w w' := by
  have HL := Lib.hid (fun V hV => lives7 V hV)
  have HS := Lib.hid (fun V => some7 V)
  have HE1 : Hid (∀ A cap V, RulesL V someP.rules A → Tab V → Calls Tryd.prog 12 #[poA someP A cap, .agg #[.int .u32 257, .int .u32 3221225534, .int .u64 5000, .int .u64 0, .int .u64 3, .int .u64 4, .int .u64 0, .int .u64 0, .int .u64 0]] V fun e w' => e = .returned (.int .u32 2147221504) ∧ Below V.heap.size V w') := Lib.hid (fun A cap V hr ht => by
    have := p_Eval7 someP (dt 3221225534 5000) A cap V hr ht
    rw [ev1] at this
    exact this)
  have HE2 : Hid (∀ A cap V, RulesL V someP.rules A → Tab V → Calls Tryd.prog 12 #[poA someP A cap, .agg #[.int .u32 257, .int .u32 3221225534, .int .u64 4095, .int .u64 0, .int .u64 3, .int .u64 4, .int .u64 0, .int .u64 0, .int .u64 0]] V fun e w' => e = .returned (.int .u32 327681) ∧ Below V.heap.size V w') := Lib.hid (fun A cap V hr ht => by
    have := p_Eval7 someP (dt 3221225534 4095) A cap V hr ht
    rw [ev2] at this
    exact this)
  have HE3 : Hid (∀ A cap V, RulesL V someP.rules A → Tab V → Calls Tryd.prog 12 #[poA someP A cap, .agg #[.int .u32 257, .int .u32 3221225715, .int .u64 4095, .int .u64 0, .int .u64 3, .int .u64 4, .int .u64 0, .int .u64 0, .int .u64 0]] V fun e w' => e = .returned (.int .u32 2147483648) ∧ Below V.heap.size V w') := Lib.hid (fun A cap V hr ht => by
    have := p_Eval7 someP (dt 3221225715 4095) A cap V hr ht
    rw [ev3] at this
    exact this)
  have HA : Hid (∀ A cap V, RulesL V someP.rules A → Tab V → Calls Tryd.prog 14 #[.agg #[.string ⟨#[97, 114, 109]⟩, .int .i64 someP.foreign_.1, .int .u64 (someP.foreign_.2 : Int), .int .i64 someP.default_.1, .int .u64 (someP.default_.2 : Int), .slice A someP.rules.length cap]] V fun e w' => e = .returned (.tuple #[.int .i64 71, .int .i64 (-1)]) ∧ Below V.heap.size V w') := Lib.hid (fun A cap V hr ht => by
    have := p_Check7 armP A cap V hr ht
    rw [arm_ck] at this
    exact this)
  have HX : Hid (∀ V, Calls Tryd.prog 15 #[.agg #[.int .i64 3, .slice none 0 0, .int .i64 0, .int .u64 0, .int .i64 0, .int .u64 0]] V fun e w' => e = .returned (.int .i64 76) ∧ Below V.heap.size V w') := Lib.hid (fun V => p_Expr7 (.mk 3 [] 0 0 0 0) none 0 V ⟨Nat.zero_le _, .inl rfl⟩)
  have HP := Lib.hid (fun k (hk : k < 6) V => parse7 (fullT k) V (by rw [← full_is k hk, ByteArray.size_append]; have := bad_small k hk; unfold maxLen; have : headT.size = 39 := rfl; omega))
  have HC := Lib.hid (fun k (hk : k < 6) A cap V hr ht => by have := p_Check7 (pol (fullT k)) A cap V hr ht; rw [want_is k hk] at this; exact this)
  have HT := Lib.hid hTab
  clear hTab
  generalize someP = p at HS HE1 HE2 HE3 HA
  go_enter Tryd.func3, Tryd.ntmps3
  go_wp2_with (first
    | (go_at_call 10; (with_reducible refine (HL.out _ HT.out).mono ?_); rintro e w1 ⟨rfl, hb⟩; have HB1 := Lib.hid (And.intro hb (HT.out.up hb)); clear hb)
    | (go_at_call 11; (with_reducible refine (HS.out _).mono ?_); rintro e w2 ⟨A, cap, rfl, hr, hb⟩; have hb2 := on7 HB1.out.1 hb; have ht2 := HB1.out.2.up hb; have HB2 : Hid (SnAt w w2 ((w2.alloc (poO7 p A cap)).alloc (.cells #[.int .u32 257, .int .u32 3221225534, .int .u64 5000, .int .u64 0, .int .u64 3, .int .u64 4, .int .u64 0, .int .u64 0, .int .u64 0] 34)) p A cap (dt 3221225534 5000)) := Lib.hid (@snAt_new w w2 p A cap (dt 3221225534 5000) hr hb2 ht2); clear hb hr hb2 ht2; obtain ⟨x0, x1, x2, x3, x4, x5⟩ := po_cells HB2.out.po)
    | (go_at_call 12; (with_reducible refine (HE1.out _ _ _ HB2.out.rules HB2.out.tab).mono ?_); rintro e w3 ⟨rfl, hb⟩; have hb3 := SnAt.up HB2.out hb; have HB3 : Hid (SnAt w w2 (w3.setCell ⟨w2.heap.size + 1, 2, none⟩ (.int .u64 4095)) p A cap (dt 3221225534 4095)) := Lib.hid (SnAt.ip 3221225534 5000 4095 hb3); obtain ⟨y0, y1, y2, y3, y4, y5⟩ := po_cells hb3.po; obtain ⟨z0, z1, z2, z3, z4, z5, z6, z7, z8⟩ := dt_cells 3221225534 5000 rfl rfl hb3.dat; have f2 := frozen6 hb3.dat 2; clear hb hb3)
    | (go_at_call 12; (with_reducible refine (HE2.out _ _ _ HB3.out.rules HB3.out.tab).mono ?_); rintro e w4 ⟨rfl, hb⟩; have hb4 := SnAt.up HB3.out hb; have HB4 : Hid (SnAt w w2 (w4.setCell ⟨w2.heap.size + 1, 1, none⟩ (.int .u32 3221225715)) p A cap (dt 3221225715 4095)) := Lib.hid (SnAt.arch 3221225534 3221225715 4095 hb4); obtain ⟨q0, q1, q2, q3, q4, q5⟩ := po_cells hb4.po; obtain ⟨g0, g1, g2, g3, g4, g5, g6, g7, g8⟩ := dt_cells 3221225534 4095 rfl rfl hb4.dat; have f3 := frozen6 hb4.dat 1; clear hb hb4)
    | (go_at_call 12; (with_reducible refine (HE3.out _ _ _ HB4.out.rules HB4.out.tab).mono ?_); rintro e w5 ⟨rfl, hb⟩; have HB5 := Lib.hid (SnAt.up HB4.out hb); clear hb))
  clear x0 x1 x2 x3 x4 x5 y0 y1 y2 y3 y4 y5 z0 z1 z2 z3 z4 z5 z6 z7 z8 q0 q1 q2 q3 q4 q5 g0 g1 g2 g3 g4 g5 g6 g7 g8 f2 f3
  have HB6 : Hid (SnAt w w2 ((w5.alloc badO).alloc wantO) p A cap (dt 3221225715 4095) ∧ ((w5.alloc badO).alloc wantO).heap[w5.heap.size]? = some badO ∧ ((w5.alloc badO).alloc wantO).heap[w5.heap.size + 1]? = some wantO) := Lib.hid ⟨SnAt.up HB5.out (below_of _ _ _ (lbox _ _)), kept_alloc (World.alloc_heap_new w5 _) _, by simpa using World.alloc_heap_new (w5.alloc badO) wantO⟩
  go_loopw [10] (fun v wr => ∃ k : Nat, k ≤ 6 ∧ v = .int .i64 (k : Int) ∧ SnAt w w2 wr p A cap (dt 3221225715 4095) ∧ wr.heap[w5.heap.size]? = some badO ∧ wr.heap[w5.heap.size + 1]? = some wantO) (fun v _ => 6 - (intOf v).toNat)
  case atStart => exact ⟨0, by omega, rfl, HB6.out⟩
  case round =>
    obtain ⟨k, hk, rfl, hS⟩ := hrel
    by_cases hlt : k < 6
    · have hlt' : (k : Int) < 6 := by omega
      have hw : IntKind.i64.wrap ((k : Int) + 1) = ((k + 1 : Nat) : Int) := by rw [IntWalk.i64_in _ (by omega)]; omega
      have c0 := cell6 hS.2.1 k (bad_at k hlt)
      have HW := Lib.hid (fun (V : World) (hV : V.heap[w5.heap.size + 1]? = some wantO) => cell6 hV k (want_at k hlt))
      have hpk := HP.out k hlt
      have HCK := Lib.hid (HC.out k hlt)
      have hxs := bad_small k hlt
      have hfu := full_is k hlt
      generalize pol (fullT k) = q at hpk HCK
      rw [← hfu] at hpk
      clear hfu
      generalize badT k = x at c0 hpk hxs
      generalize wantN k = wn at HW HCK
      unfold headT at hpk
      have HPK := Lib.hid hpk
      have hsz : 39 + x.size ≤ 9223372036854775807 := by omega
      have HV := Lib.hid hS
      clear hpk hS HP HC
      have qw : (wn != wn) = false := by simp
      go_wp2_with (first
        | (go_at_call 13; (with_reducible refine (HPK.out _).mono ?_); rintro e w6 ⟨A1, cap1, ⟨er, pl, rfl⟩, hr, hb⟩; have hb2 := below_of _ _ (poO7 q A1 cap1) hb; have HV6 := Lib.hid (And.intro (SnAt.up HV.out.1 hb2) (And.intro (keep7 HV.out.2.1 hb2) (And.intro (keep7 HV.out.2.2 hb2) (RulesL.below hr (lbox w6 (poO7 q A1 cap1)))))); clear hr hb hb2)
        | (go_at_call 14; (with_reducible refine (HCK.out _ _ _ HV6.out.2.2.2 HV6.out.1.tab).mono ?_); rintro e w7 ⟨rfl, hb⟩; have HV7 := Lib.hid (And.intro (SnAt.up HV6.out.1 hb) (And.intro (keep7 HV6.out.2.1 hb) (keep7 HV6.out.2.2.1 hb))); clear hb; have d0 := HW.out _ HV7.out.2.2))
      exact ⟨⟨k + 1, by omega, by go_num, HV7.out⟩, by simp [intOf]; omega⟩
    · have hlt' : ¬ (k : Int) < 6 := by omega
      have HV := Lib.hid hS.1
      clear hS HP HC
      obtain ⟨x0, x1, x2, x3, x4, x5⟩ := po_cells HV.out.po
      have f0 := frozen6 HV.out.po 0
      have HBA : Hid (RulesL (wr.setCell ⟨w2.heap.size, 0, none⟩ (.string ⟨#[97, 114, 109]⟩)) p.rules A ∧ Tab (wr.setCell ⟨w2.heap.size, 0, none⟩ (.string ⟨#[97, 114, 109]⟩)) ∧ Below w.heap.size w (wr.setCell ⟨w2.heap.size, 0, none⟩ (.string ⟨#[97, 114, 109]⟩))) := Lib.hid (by
        have hb := HV.out.b0.setCell (p := ⟨w2.heap.size, 0, none⟩) (Nat.le_refl _) (.string ⟨#[97, 114, 109]⟩)
        exact ⟨HV.out.r0.below hb, HV.out.t0.up hb, on7 HV.out.below hb⟩)
      go_wp2_with (first
        | (go_at_call 14; (with_reducible refine (HA.out _ _ _ HBA.out.1 HBA.out.2.1).mono ?_); rintro e w7 ⟨rfl, hb⟩; have HB7 := Lib.hid (on7 HBA.out.2.2 hb); clear hb)
        | (go_at_call 15; (with_reducible refine (HX.out _).mono ?_); rintro e w8 ⟨rfl, hb⟩; have HB8 := Lib.hid (on7 HB7.out hb); clear hb))
      go_ret
      exact ⟨rfl, HB8.out⟩

/-! ### The row's step, the statement, and the card -/
theorem door_met (os : Os) (args : Array Value) : laidMetH Tryd.prog [("ravelin/secdata.rows", Rows.laid_ravelin_secdata_rows)] ((World.doorLaid Tryd.prog 400 os).forCall (fun _ _ => 0) ⟨#[], args, []⟩).memory :=
  laidMetH_of_parts3 (fuel := 8) (laidMet_of_run' 8 (by kernel_rfl) (by kernel_rfl)) (by kernel_rfl) (by kernel_rfl)

set_option maxRecDepth 100000 in
theorem lifted (os : Os) (started : os.Started) (H : Type) (enc : TypeId × Value → H) :
    ReturnsInHanded {} Tryd.checked os 3 .any (fun w args => (Rows.semNamesSpec.pre enc Tryd.prog Tryd.f3 [] false w args ∧ laidMetH Tryd.prog [("ravelin/secdata.rows", Rows.laid_ravelin_secdata_rows)] w) ∧ sizedMet enc Tryd.prog Tryd.f3 (OpenSpec.ofChange Rows.semNamesSpec) false w args)
      (Rows.semNamesSpec.post enc Tryd.prog Tryd.f3 false true false false) := by
  refine returnsInHanded_of_change_and (C := Tryd.checked) (X := fun w _ => laidMetH Tryd.prog [("ravelin/secdata.rows", Rows.laid_ravelin_secdata_rows)] w) (fun _ _ _ hh h => h.of_heap hh) own started (by kernel_rfl) Tryd.func3
    (ChangeSpec.witness_shaped (enc := enc) (C := Tryd.checked) (os := os) (X := fun w _ => laidMetH Tryd.prog [("ravelin/secdata.rows", Rows.laid_ravelin_secdata_rows)] w) false (World.doorLaid Tryd.prog 400 os) #[] 8 rfl (World.shaped_of_RefB (by kernel_rfl) (by kernel_rfl)) (by kernel_rfl) (by kernel_rfl) (by kernel_rfl) (door_met os _)) ?_
  intro W base args ds gs before hval0 hW _ _ hL _
  have hval : ∀ (j : Nat) t v, Tryd.f3.params[j]? = some t → args[j]? = some v → Value.okWide Tryd.prog W .any base t v := hval0
  have hW' := hW
  obtain ⟨p, q, hA0, hV, rfl, hfz, hnd⟩ := hW
  have hA : DataW.TrodAll enc Tryd.prog W 0 (fun _ => true) true Tryd.f3.params.toList args.toList ds p := hA0
  rw [Tryd.params3] at hA hval
  obtain ⟨hargs, rfl, rfl⟩ := trodAll_nil hA
  obtain rfl : args = #[] := by cases args; simp_all
  obtain ⟨rfl, rfl⟩ := trodVars_none hV
  clear hA0 hval0
  refine (walk  W  (tab_of_laid hL)).mono fun e W' ⟨he, bel⟩ => ?_
  subst he
  exact ⟨_, rfl, _, _, _, [], _, [], hW', trodAll_mk1 (shut_bool Tryd.underlying4 _), trodAll_mk0, rfl, bel.frame _, fun h => by cases h⟩

theorem over : Rows.semNamesRow.holds Tryd.pinned (OpenSpec.ofChange Rows.semNamesSpec) :=
  OpenClaim.holds_of_wide 3 Tryd.f3 rfl rfl rfl rfl rfl rfl rfl ⟨rfl, rfl, rfl, rfl, rfl⟩ rfl rfl rfl rfl rfl (by kernel_rfl) Tryd.func3 (by kernel_rfl)
    (of_decide_eq_true (by kernel_rfl)) (by unfold Func.isWrapper; first | (rw [if_pos (by decide +kernel)]; kernel_rfl) | (rw [if_neg (by decide +kernel)]; exact ⟨rfl, rfl⟩))
    (fun os started H enc _ => lifted os started H enc)

/-- The statement: the row's card, what it lists tied to the program's text. -/
theorem proved : Rows.SemNamesCardSaid :=
  Claim7.holds_tied_plain_at .later [] [.data] true Rows.semNamesCard.stood.harness Rows.semNamesCard.stood.looks
    over (fun _ h => by cases h) (by kernel_rfl) (fun _ h => by cases h) semNames_row_tie rfl ⟨rfl, rfl⟩ (by kernel_rfl) rfl
    (fun f fn hf hfn => by
      obtain rfl : f = 3 := Option.some.inj ((show Tryd.prog.funcNamed "ravelin/ravelinlaw07.SemNames" = some 3 by kernel_rfl).symm.trans hf) |>.symm
      obtain rfl : fn = Tryd.f3 := (Option.some.inj (Tryd.func3.symm.trans hfn)).symm
      exact ⟨by kernel_rfl, fun j t ht => by
        have hm : t ∈ Tryd.f3.params.toList := by
          have := Array.mem_of_getElem? ht
          simp at this
        have hall : (Tryd.f3.params.toList.all fun u => !Tryd.prog.wantsStandIn u) = true := by kernel_rfl
        exact (show Tryd.prog.wantsStandIn t = false by simpa using List.all_eq_true.1 hall t hm)⟩)
    (by kernel_rfl)
end Go.Proofs.YthdmlbgejbpalaaDoor.semNames
