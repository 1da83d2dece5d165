/-
  append onto a row of wide elements (structs) that the call itself made, from a slice whose cells are known: what is left is such a row again. No condition but those that each names.
-/
import Derived.Test.YtoajommeiocfpaaDoorMemory
namespace Go.Proofs.YtoajommeiocfpaaDoor
open Go Go.RowKit
set_option linter.unusedSimpArgs false
set_option linter.unusedVariables false

theorem append_rows {P : Program} (w : World) (t ty e : TypeId) (i : TypeInfo) (z : Value) (sz bytes : Nat) (ht : P.underlying t = some (.slice e)) (hi : P.info? e = some i) (hz : i.zero = some z)
    (hsize : i.size = sz) (hby : i.bytes = bytes) (hzs : z.cells.size = sz) (hpos : 0 < sz) (g n0 c0 : Nat) (F : Nat → Value) (hr : w.rowIs g e (c0 * sz) F) (h0 : n0 ≤ c0) (hm : c0 ≤ maxLen)
    (A : Option Addr) (n c : Nat) (Z : Nat → Value) (hs : Holds w A (n * sz) Z) (h1 : ∀ k, (Z k).oneCell' = true) (hlen : n0 + n ≤ maxLen) (hbytes : (n0 + n) * bytes ≤ 140737488355328) :
    ∃ g' cap' F' w', (Builtin.append_ #[t, t] ty #[.slice (some ⟨g, 0, none⟩) n0 c0, .slice A n c]).run P w = .ok (.slice (some ⟨g', 0, none⟩) (n0 + n) cap') w' ∧
      w'.rowIs g' e (cap' * sz) F' ∧ n0 + n ≤ cap' ∧ cap' ≤ maxLen ∧ (∀ k, k < n0 * sz → F' k = F k) ∧ (∀ k, k < n * sz → F' (n0 * sz + k) = Z k) ∧ w.grownBy w' (some g) ∧ (g' = g ∨ g' = w.heap.size) := by
  obtain ⟨cur, hg, hcs, hcF⟩ := hr
  have h0s : n0 * sz ≤ c0 * sz := Nat.mul_le_mul_right _ h0
  have hadd : (n0 + n) * sz = n0 * sz + n * sz := Nat.add_mul _ _ _
  have hown : w.ownsRow 0 e sz (.slice (some ⟨g, 0, none⟩) n0 c0) n0 (cur.toList.take (n0 * sz)) :=
    ⟨by rw [List.length_take, Array.length_toList, hcs]; omega, .inr ⟨g, c0, cur, rfl, Nat.zero_le _, hg, h0, hm, by omega, rfl⟩⟩
  have fin : ∀ (v' : Value) (w' : World), w'.ownsRow 0 e sz v' (n0 + n) (cur.toList.take (n0 * sz) ++ (List.range (n * sz)).map Z) → v' ≠ .slice none 0 0 → (v'.ownBlock = some g ∨ v'.ownBlock = some w.heap.size) →
      ∃ g' cap' F', v' = .slice (some ⟨g', 0, none⟩) (n0 + n) cap' ∧ w'.rowIs g' e (cap' * sz) F' ∧ n0 + n ≤ cap' ∧ cap' ≤ maxLen ∧ (∀ k, k < n0 * sz → F' k = F k) ∧ (∀ k, k < n * sz → F' (n0 * sz + k) = Z k) ∧ (g' = g ∨ g' = w.heap.size) := by
    intro v' w' ho hn hb
    rcases ho.2 with ⟨rfl, _⟩ | ⟨g', cap', cur', rfl, _, hh, hnc, hcm, hsz, htk⟩
    · exact absurd rfl hn
    · have hcap : (n0 + n) * sz ≤ cap' * sz := Nat.mul_le_mul_right _ hnc
      have hat : ∀ k, k < (n0 + n) * sz → cur'[k]? = (cur.toList.take (n0 * sz) ++ (List.range (n * sz)).map Z)[k]? := fun k hk => by
        rw [← htk, List.getElem?_take, if_pos hk, Array.getElem?_toList]
      have hl : (cur.toList.take (n0 * sz)).length = n0 * sz := by rw [List.length_take, Array.length_toList, hcs]; omega
      refine ⟨g', cap', fun k => cur'.getD k undef, rfl, ⟨cur', hh, hsz, fun k hk => by show cur'[k]? = some (cur'.getD k undef); rw [Array.getD_eq_getD_getElem?, Array.getElem?_eq_getElem (show k < cur'.size by omega)]; rfl⟩, hnc, hcm, fun k hk => ?_, fun k hk => ?_, by simpa [Value.ownBlock] using hb⟩
      · show cur'.getD k undef = F k
        rw [Array.getD_eq_getD_getElem?, hat k (by omega), List.getElem?_append_left (by omega), List.getElem?_take, if_pos hk, Array.getElem?_toList, hcF k (by omega)]; rfl
      · show cur'.getD (n0 * sz + k) undef = Z k
        rw [Array.getD_eq_getD_getElem?, hat (n0 * sz + k) (by omega), List.getElem?_append_right (by omega), hl, Nat.add_sub_cancel_left, List.getElem?_map, List.getElem?_range hk]; rfl
  rcases A with _ | ad
  · have hn : n = 0 := by
      rcases Nat.eq_zero_or_pos n with h | h
      · exact h
      · obtain ⟨_, _, e, _⟩ := hs (Nat.mul_pos h hpos); cases e
    subst hn
    have hrun : (Builtin.append_ #[t, t] ty #[.slice (some ⟨g, 0, none⟩) n0 c0, .slice none 0 c]).run P w = .ok (.slice (some ⟨g, 0, none⟩) n0 c0) w := by
      simp [Builtin.append_, run_underlying ht, sizeOf, typeInfo, hi, Builtin.lenOf, Builtin.firstCells, h0, storeCells]
    exact ⟨g, c0, F, w, hrun, ⟨cur, hg, hcs, hcF⟩, h0, hm, fun _ _ => rfl, fun k hk => absurd hk (by omega), World.grownBy.refl w _, .inl rfl⟩
  · have hnews : ∀ j u, ((List.range (n * sz)).map Z)[j]? = some u → w.cell? (ad.add j) = some u := fun j u hj => by
      have hjn : j < n * sz := by
        rcases Nat.lt_or_ge j (n * sz) with h | h
        · exact h
        · rw [List.getElem?_eq_none (by simpa using h)] at hj; cases hj
      obtain ⟨b, off, e', _, hc⟩ := hs (by omega)
      injection e' with e'; subst e'
      rw [addr_add, hc j hjn, ← hj, List.getElem?_map, List.getElem?_range hjn]; rfl
    obtain ⟨v', w', hrun, ho, hgr, hnil, hblk⟩ := run_append_own_at (P := P) w 0 t ty e i z sz bytes ht hi hz hsize hby hzs hpos _ n0 _ hown ad n c ((List.range (n * sz)).map Z) (by simp) hnews
      (fun u hu => by obtain ⟨k, _, rfl⟩ := List.mem_map.1 hu; exact h1 k) hlen hbytes (Nat.zero_le _)
    obtain ⟨g', cap', F', rfl, a1, a2, a3, a4, a5, a6⟩ := fin v' w' ho (fun h => by cases (hnil.1 h).1) (by simpa [Value.ownBlock] using hblk)
    exact ⟨g', cap', F', w', hrun, a1, a2, a3, a4, a5, by simpa [Value.ownBlock] using hgr, a6⟩

theorem info_partsN {P : Program} {e : TypeId} {z : Value} {sz bytes : Nat} (h : (P.info? e).map (fun i => (i.zero, i.size, i.bytes)) = some (some z, sz, bytes)) : ∃ i, P.info? e = some i ∧ i.zero = some z ∧ i.size = sz ∧ i.bytes = bytes := by
  rcases hi : P.info? e with _ | i
  · rw [hi] at h; cases h
  · rw [hi] at h
    simp only [Option.map_some, Option.some.injEq, Prod.mk.injEq] at h
    exact ⟨i, rfl, h.1, h.2.1, h.2.2⟩
/-- .. as a law of the walk. -/
theorem wpList_append_rows {P : Program} (w : World) {ops : Array Oper} {rest : List Oper} {o : Oper} {a : Act} {Q : Exit → Act → World → Prop} (hgd : o.guard = none) (s x : Operand) (t : TypeId)
    (ho : o.op = .call { callee := .builtin .append, args := #[s, x], argTypes := #[t, t] }) (e : TypeId) (z : Value) (sz bytes : Nat) (ht : P.underlying t = some (.slice e))
    (hinfo : (P.info? e).map (fun i => (i.zero, i.size, i.bytes)) = some (some z, sz, bytes)) (hzs : z.cells.size = sz) (hpos : 0 < sz) (g n0 c0 : Nat) (F : Nat → Value) (hv : a.eval s = .slice (some ⟨g, 0, none⟩) n0 c0) (hr : w.rowIs g e (c0 * sz) F) (h0 : n0 ≤ c0) (hm : c0 ≤ maxLen)
    (A : Option Addr) (n c : Nat) (Z : Nat → Value) (hu : a.eval x = .slice A n c) (hs : Holds w A (n * sz) Z) (h1 : ∀ k, (Z k).oneCell' = true) (hlen : n0 + n ≤ maxLen) (hbytes : (n0 + n) * bytes ≤ 140737488355328)
    (h : ∀ (g' cap' : Nat) (F' : Nat → Value) (w' : World), w'.rowIs g' e (cap' * sz) F' → n0 + n ≤ cap' → cap' ≤ maxLen → (∀ k, k < n0 * sz → F' k = F k) → (∀ k, k < n * sz → F' (n0 * sz + k) = Z k) → w.grownBy w' (some g) → (g' = g ∨ g' = w.heap.size) →
      wpList P ops Q rest (a.put o.dst (.slice (some ⟨g', 0, none⟩) (n0 + n) cap')) w') : wpList P ops Q (o :: rest) a w :=
  wpList_plain hgd fun _ hK => by
    obtain ⟨i, hi, hz, hsize, hby⟩ := info_partsN hinfo
    obtain ⟨g', cap', F', w', hrun, b1, b2, b3, b4, b5, b6, b7⟩ := append_rows w t o.type e i z sz bytes ht hi hz hsize hby hzs hpos g n0 c0 F hr h0 hm A n c Z hs h1 hlen hbytes
    unfold Oper.wp execOp
    simp only [ho, resolve, invoke, builtin, Sem.run_bind, Sem.run_pure, Result.andThen_ok, List.map_toArray, List.map_cons, List.map_nil, hv, hu, hrun]
    exact hK _ _ (h g' cap' F' w' b1 b2 b3 b4 b5 b6 b7)
end Go.Proofs.YtoajommeiocfpaaDoor
