/-
  The document's reader's one: its contract, of contracts of what it hands on to. Conditions: those that it names.
-/
import Derived.Test.YtgeapkjegemkeaaGreatDoorPolDVerd
import Derived.Test.YtgeapkjegemkeaaGreatDoorPolIs
import Derived.Test.YtgeapkjegemkeaaGreatDoorPPolOne
import Derived.Test.YtgeapkjegemkeaaGreatDoorPolSame
namespace Go.Proofs.YtgeapkjegemkeaaGreatDoor
open Go Go.RowKit
set_option linter.unusedSimpArgs false
set_option linter.unusedVariables false

abbrev tkO (q : Nx) : Obj := .cells #[.int .i64 q.kind, .string q.text, .int .u64 (q.num : Int), .int .i64 (q.pos : Int)] 77
/-- One under way: its token's box, its expression's. -/
structure OneAt (w W : World) (b : Nat) (A : Option Addr) (cap : Nat) (S : Src) (r : Rd) (T : Nat) (q : Nx) (x : Ex) (Ae : Option Addr) (ce : Nat) : Prop where
  rd : RdAt W b A cap S r
  gr : w.grownBy W (some b)
  res : W.heap[w.heap.size]? = some (exO 0 0 0 0 0)
  tk : W.heap[T]? = some (tkO q)
  ex : W.heap[T + 1]? = some (exCell x Ae ce)
  lo : w.heap.size < T
  bw : b < w.heap.size
  xin : ExIn W (fun k => T + 1 < k) x Ae ce
namespace OneAt
variable {w W : World} {b : Nat} {A : Option Addr} {cap : Nat} {S : Src} {r : Rd} {T : Nat} {q : Nx} {x : Ex} {Ae : Option Addr} {ce : Nat}
theorem size (h : OneAt w W b A cap S r T q x Ae ce) : T + 1 < W.heap.size := (Array.getElem?_eq_some_iff.1 h.ex).1
theorem call {W' : World} {r' : Rd} (h : OneAt w W b A cap S r T q x Ae ce) (hr : RdAt W' b A cap S r') (hg : W.grownBy W' (some b)) : OneAt w W' b A cap S r' T q x Ae ce := by
  have := h.lo; have := h.bw
  exact ⟨hr, grown_trans h.gr hg, kept_box h.res hg (by omega), kept_box h.tk hg (by omega), kept_box h.ex hg (by omega), h.lo, h.bw, h.xin.keep hg.size (fun _ hk => hk) (fun c hc hl => hg.block c hl (fun e => by injection e with e; omega))⟩
theorem setEx {x' : Ex} {A' : Option Addr} {c' : Nat} (h : OneAt w W b A cap S r T q x Ae ce) (hx : ExIn W (fun k => T + 1 < k) x' A' c') :
    OneAt w ((((((W.setCell ⟨T + 1, 0, none⟩ (.int .i64 x'.op)).setCell ⟨T + 1, 1, none⟩ (.slice A' x'.args.length c')).setCell ⟨T + 1, 2, none⟩ (.int .i64 x'.field)).setCell ⟨T + 1, 3, none⟩ (.int .u64 (x'.mask : Int))).setCell ⟨T + 1, 4, none⟩ (.int .i64 x'.rel)).setCell ⟨T + 1, 5, none⟩ (.int .u64 (x'.value : Int))) b A cap S r T q x' A' c' := by
  have := h.lo; have := h.bw
  exact ⟨(((((h.rd.new (by omega) 0 _).new (by omega) 1 _).new (by omega) 2 _).new (by omega) 3 _).new (by omega) 4 _).new (by omega) 5 _, gset6 h.gr (by omega) _ _ _ _ _ _,
    kept_set (kept_set (kept_set (kept_set (kept_set (kept_set h.res (by omega) 0 _) (by omega) 1 _) (by omega) 2 _) (by omega) 3 _) (by omega) 4 _) (by omega) 5 _,
    kept_set (kept_set (kept_set (kept_set (kept_set (kept_set h.tk (by omega) 0 _) (by omega) 1 _) (by omega) 2 _) (by omega) 3 _) (by omega) 4 _) (by omega) 5 _,
    heap_set1 (heap_set1 (heap_set1 (heap_set1 (heap_set1 (heap_set1 h.ex 0 _) 1 _) 2 _) 3 _) 4 _) 5 _, h.lo, h.bw, ex_set6 hx (fun k hk => by omega) _ _ _ _ _ _⟩
theorem up (h : OneAt w W b A cap S r T q x Ae ce) : OneAt w (W.setCell ⟨b, 4, none⟩ (.int .i64 (r.deep - 1))) b A cap S (up r) T q x Ae ce := by
  have := h.lo; have := h.bw
  exact ⟨h.rd.set_deep (r.deep - 1), grown_set h.gr 4 _, kept_set h.res (by omega) 4 _, kept_set h.tk (by omega) 4 _, kept_set h.ex (by omega) 4 _, h.lo, h.bw, ex_set h.xin (fun k hk => by omega) 4 _⟩
end OneAt
end Go.Proofs.YtgeapkjegemkeaaGreatDoor
