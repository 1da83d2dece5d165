/-
  The document's Size of nodes: a contract. Conditions: those that it names.
-/
import Derived.Test.YtfeeainhelegjaaLowRef
import Derived.Test.YtfeeainhelegjaaLowLong
namespace Go.Proofs.Ytfeeainhelegjaa
open Go Go.RowKit
set_option linter.unusedSimpArgs false
set_option linter.unusedVariables false

set_option maxHeartbeats 1000000 in
set_option maxRecDepth 100000 in
theorem r_Size (w : World) (A : Option Addr) (n cap : Nat) (nd : Nat → Nd) (h : NdAt w A n nd) :
    Calls Try.prog 7 #[.slice A n cap] w fun e w' => e = .returned (.tuple #[.int .i64 (sizeR nd n).1, .int .i64 (sizeR nd n).2]) ∧ Below w.heap.size w w' := by
  have HC := Lib.hid (r_Check w A n cap nd h)
  have HN := Lib.hid h
  clear h
  unfold sizeR
  by_cases h0 : (chkN nd n).1 = 0
  · rw [if_pos h0]
    have hv := chk_ok nd n h0
    have hlt1 : (n : Int) < (n : Int) + 1 := by omega
    have HLO := Lib.hid (fun V hV => r_Long (W := V) (A := A) (cap := cap) hV hv)
    have HV := Lib.hid hv
    rw [h0] at HC
    generalize (chkN nd n).2 = z at HC
    clear h0 hv
    go_enter Try.func7, Try.ntmps7
    go_wp2_with (first
      | (go_at_call 15; (with_reducible refine (r_places (HN.out.below H2.out.2) H2.out.1 HV.out.le).mono ?_); rintro e w3 ⟨v, rfl, ho3, hb3⟩; obtain ⟨g, c9, rfl, hgB, hgl, hgc, hcell⟩ := own_cells ho3 (by omega); have H3 := Lib.hid (H2.out.2.trans (hb3.mono H2.out.2.size)); have x0 := hcell n _ (firL_get nd _ (by omega)); clear hb3 ho3 hgB hgl hgc hcell)
      | (go_at_call 16; (with_reducible refine (HLO.out _ H1.out.2).mono ?_); rintro e w2 ⟨fb, rfl, hfb, hfa, hb2⟩; have H2 := Lib.hid (And.intro hfa (H1.out.1.trans (hb2.mono H1.out.1.size))); clear hfa hb2 hfb)
      | (go_at_call 14; (with_reducible refine HC.out.mono ?_); rintro e w1 ⟨rfl, hb1⟩; have H1 := Lib.hid (And.intro hb1 (HN.out.below hb1)); clear hb1))
    go_ret2
    exact ⟨rfl, H3.out⟩
  · rw [if_neg h0]
    have h0b : ((chkN nd n).1 == 0) = false := beq_false_of_ne h0
    clear h0
    generalize (chkN nd n).1 = c at HC h0b ⊢
    generalize (chkN nd n).2 = z at HC
    go_enter Try.func7, Try.ntmps7
    go_wp2_with (go_at_call 14; (with_reducible refine HC.out.mono ?_); rintro e w1 ⟨rfl, hb1⟩; have H1 := Lib.hid hb1; clear hb1)
    go_ret2
    exact ⟨rfl, H1.out⟩
/-- What the document has laid so far, beside a node in a block of its own. -/
structure OutAt (B : Nat) (Z V : World) (nb : Nat) (A : Option Addr) (c m : Nat) (ys : List I4) (x : Nd) : Prop where
  own : V.ownsRow B 39 4 (.slice A m c) m (i4L ys)
  len : ys.length = m
  box : V.heap[nb]? = some (ndO x)
  ne : (Value.slice A m c).ownBlock ≠ some nb
  bel : Below B Z V
  le : B ≤ Z.heap.size
/-- An instruction more. -/
theorem out_step {B : Nat} {Z V V' : World} {nb : Nat} {A : Option Addr} {c m : Nat} {ys : List I4} {x : Nd} {i : I4} {v' : Value} (h : OutAt B Z V nb A c m ys x) (ho : V'.ownsRow B 39 4 v' (m + 1) (i4L ys ++ i4C i))
    (hg : (V.alloc (i4O i)).grownBy V' (Value.slice A m c).ownBlock) (hb : v'.ownBlock = (Value.slice A m c).ownBlock ∨ v'.ownBlock = some (V.alloc (i4O i)).heap.size) : ∃ A' c' m', v' = .slice A' m' c' ∧ m' = m + 1 ∧ OutAt B Z V' nb A' c' m' (ys ++ [i]) x := by
  obtain ⟨A', c', rfl⟩ := own_formL ho
  have hnb := (Array.getElem?_eq_some_iff.1 h.box).1
  have hal := lboxL V (i4O i)
  refine ⟨A', c', m + 1, rfl, rfl, ⟨by rw [i4L_append]; exact ho, by rw [List.length_append, h.len]; rfl, ?_, fun e => ?_, ?_, h.le⟩⟩
  · exact (hg.block nb (Nat.lt_of_lt_of_le hnb hal.size) (fun e => h.ne e.symm)).trans ((hal.block nb hnb).trans h.box)
  · rcases hb with q | q
    · exact h.ne (q.symm.trans e)
    · rw [q] at e; injection e with e
      have := hal.size; omega
  · exact below_own (h.bel.trans (hal.mono (Nat.le_trans h.le h.bel.size))) (own_below h.own hal) hg h.le
theorem i4_new (V : World) (i : I4) : ∀ j u, (i4C i)[j]? = some u → (V.alloc (i4O i)).cell? ((⟨V.heap.size, 0, none⟩ : Addr).add j) = some u := fun j u hj => by
  rw [addr_add, Nat.zero_add]
  exact cellL (World.alloc_heap_new V (i4O i)) j (v := u) (by simpa using hj)
theorem i4_one (i : I4) : ∀ u ∈ i4C i, u.oneCell' = true := fun u hu => by
  simp only [List.mem_cons, List.not_mem_nil, or_false] at hu
  rcases hu with rfl | rfl | rfl | rfl <;> rfl
/-- A test's ways, told from the place of its jump. -/
theorem over_at (nd : Nat → Nd) (lg : Ways) (i : Nat) (hl : (nd i).leaf = false) {m : Nat} (hm : m = firstN nd lg i + jumpAt (nd i)) {t f : Nat} (ht : (nd i).t = (t : Int)) (hf : (nd i).f = (f : Int)) :
    overT nd lg i = (firstN nd lg t : Int) - (m : Int) - 1 ∧ overF nd lg i = (firstN nd lg f : Int) - (m : Int) - 1 := by
  unfold overT overF
  rw [beh_at nd lg i hl, ht, hf, Int.toNat_natCast, Int.toNat_natCast]
  omega
end Go.Proofs.Ytfeeainhelegjaa
