/-
  What PolicyBack keeps at hand, and the document's Same of a policy with none: contracts. Conditions: those that each names.
-/
import Derived.Test.YtgeapkjegemkeaaGreatDoorZGr
import Derived.Test.YtgeapkjegemkeaaGreatDoorZStr
import Derived.Test.YtgeapkjegemkeaaGreatDoorZWrb
namespace Go.Proofs.YtgeapkjegemkeaaGreatDoor
open Go Go.RowKit
set_option linter.unusedSimpArgs false
set_option linter.unusedVariables false

theorem long_size : 65536 < (⟨(List.replicate 65537 (32 : UInt8)).toArray⟩ : ByteArray).size := by
  show 65536 < (List.replicate 65537 (32 : UInt8)).toArray.size
  rw [List.size_toArray, List.length_replicate]
  omega
theorem sm_zero : SmEx .zero := by
  have := sm_resEx ⟨(List.replicate 65537 (32 : UInt8)).toArray⟩
  rwa [long_resEx long_size] at this
theorem sm_zeroPo : SmPo zeroPo := by
  have := sm_resPo ⟨(List.replicate 65537 (32 : UInt8)).toArray⟩
  rwa [long_resPo long_size] at this
theorem arch_ne {s : ByteArray} (h : NameB s) : (s.toList == zeroPo.arch.toList) = false := by
  exact text_ne (fun e => nameB_ne h e)
theorem up9b {w W W' : World} (h : Below w.heap.size w W) (hb : Below W.heap.size W W') : Below w.heap.size w W' := h.trans (hb.mono h.size)
/-- A policy in its box. -/
structure BkP (w W : World) (b : Nat) (p : Po) (A : Option Addr) (cap lo : Nat) : Prop where
  below : Below w.heap.size w W
  tbl : Tbl W
  box : W.heap[b]? = some (poO9 p A cap)
  rp : RulesP lo p.rules (.slice A p.rules.length cap) W
  rl : RulesL W p.rules A
theorem BkP.up {w W W' : World} {b : Nat} {p : Po} {A : Option Addr} {cap lo : Nat} (h : BkP w W b p A cap lo) (hb : Below W.heap.size W W') : BkP w W' b p A cap lo :=
  ⟨up9b h.below hb, h.tbl.up hb, (hb.block _ (Array.getElem?_eq_some_iff.1 h.box).1).trans h.box, rules_below h.rp hb, h.rl.below hb⟩
/-- An expression in its box. -/
structure BkE (w W : World) (b : Nat) (x : Ex) (A : Option Addr) (cap lo : Nat) : Prop where
  below : Below w.heap.size w W
  tbl : Tbl W
  box : W.heap[b]? = some (exCells x A cap)
  ein : ExIn W (fun k => lo ≤ k) x A cap
  exl : ExL W x A cap
theorem BkE.up {w W W' : World} {b : Nat} {x : Ex} {A : Option Addr} {cap lo : Nat} (h : BkE w W b x A cap lo) (hb : Below W.heap.size W W') : BkE w W' b x A cap lo :=
  ⟨up9b h.below hb, h.tbl.up hb, (hb.block _ (Array.getElem?_eq_some_iff.1 h.box).1).trans h.box, ex_below h.ein hb, h.exl.below hb⟩
set_option maxRecDepth 100000 in
theorem ref_Same0 {a b : ByteArray} (hab : (a.toList == b.toList) = false) (f d f' d' : Int) (n m n' m' : Int) (R R' : Value) (W : World) :
    Calls Tryz.prog 19 #[poV a f n d m R, poV b f' n' d' m' R'] W fun e w' => e = .returned (.bool false) ∧ Below W.heap.size W w' := by
  have HB := Lib.hid ((lbox W (.cells #[.string a, .int .i64 f, .int .u64 n, .int .i64 d, .int .u64 m, R] 29)).trans ((lbox (W.alloc (.cells #[.string a, .int .i64 f, .int .u64 n, .int .i64 d, .int .u64 m, R] 29)) (.cells #[.string b, .int .i64 f', .int .u64 n', .int .i64 d', .int .u64 m', R'] 29)).mono (by simp)))
  go_enter Tryz.func19, Tryz.ntmps19
  go_wp2
  go_ret
  exact ⟨rfl, HB.out⟩
set_option maxRecDepth 100000 in
theorem ref_SameE0 {o o' : Int} (hne : o ≠ o') (S f m r v S' f' m' r' v' : Value) (W : World) :
    Calls Tryz.prog 20 #[.agg #[.int .i64 o, S, f, m, r, v], .agg #[.int .i64 o', S', f', m', r', v']] W fun e w' => e = .returned (.bool false) ∧ Below W.heap.size W w' := by
  have hq : (o == o') = false := beq_false_of_ne hne
  have HB := Lib.hid ((lbox W (.cells #[.int .i64 o, S, f, m, r, v] 39)).trans ((lbox (W.alloc (.cells #[.int .i64 o, S, f, m, r, v] 39)) (.cells #[.int .i64 o', S', f', m', r', v'] 39)).mono (by simp)))
  go_enter Tryz.func20, Tryz.ntmps20
  go_wp2
  go_ret
  exact ⟨rfl, HB.out⟩
end Go.Proofs.YtgeapkjegemkeaaGreatDoor
