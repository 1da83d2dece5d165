/-
  What the document's functions on data answer (layer 2): contracts. Conditions: those that each contract names.
-/
import Derived.Test.YtdmjbiaigjifaaaDoorSecData
namespace Go.Proofs.YtdmjbiaigjifaaaDoor
open Go Go.RowKit
set_option linter.unusedSimpArgs false
set_option linter.unusedVariables false

/-- The lowest bytes of a number, as cells. -/
def bytesL (x : Int) (m : Nat) : List Value := (List.range m).map (fun j => .int .u8 (byteI x j))
theorem bytesL_zero (x : Int) : bytesL x 0 = [] := rfl
theorem bytesL_succ (x : Int) (m : Nat) : bytesL x (m + 1) = bytesL x m ++ [.int .u8 (byteI x m)] := by unfold bytesL; rw [List.range_succ, List.map_append]; rfl
theorem bytesL_len (x : Int) (m : Nat) : (bytesL x m).length = m := by simp [bytesL]

def PutP (w : World) (B n : Nat) (xs : List Value) (e : Ending) (w' : World) : Prop := ∃ v, e = .returned v ∧ w'.ownsRow B 5 1 v n xs ∧ Below B w w'

theorem below_own {B : Nat} {w w' : World} {v : Value} {n : Nat} {xs : List Value} (h : w.ownsRow B 5 1 v n xs) (hg : w.grownBy w' v.ownBlock) (hB : B ≤ w.heap.size) : Below B w w' :=
  (Below.refl B w).grown hg hB (fun k hk => (h.lt k hk).1)

theorem ref_put (v : Value) (x : Int) (mi : Int) (m n B : Nat) (xs : List Value) (hmi : mi = m) (hx : 0 ≤ x ∧ x < 18446744073709551616) (hm : m ≤ 8) (hn : n ≤ 64) (w : World) (hB : B ≤ w.heap.size) (ho : w.ownsRow B 5 1 v n xs) :
    Calls Tryd.prog 25 #[v, .int .u64 x, .int .i64 mi] w (PutP w B (n + m) (xs ++ bytesL x m)) := by
  subst hmi
  have HO := Lib.hid ho
  clear ho
  go_enter Tryd.func25, Tryd.ntmps25
  go_wp2
  go_loopw [0, 7] (fun b i wr => ∃ k : Nat, k ≤ m ∧ i = .int .i64 (k : Int) ∧ wr.ownsRow B 5 1 b (n + k) (xs ++ bytesL x k) ∧ Below B w wr) (fun _ i _ => m - (intOf i).toNat)
  case atStart => exact ⟨0, by omega, rfl, by rw [bytesL_zero, List.append_nil]; exact HO.out, Below.refl _ _⟩
  case round =>
    obtain ⟨k, hk, rfl, hown, hb⟩ := hrel
    have HW := Lib.hid hown
    have HB := Lib.hid hb
    clear hown hb HO
    by_cases hlt : k < m
    · obtain ⟨i8, hi8, hz8, hs8, hb8⟩ := info_parts info_u8
      have HI := Lib.hid hi8
      clear hi8
      go_wp2_with (at_builtin; refine wpList_append_own_at _ rfl (.tmp 13) (.tmp 20) 28 rfl B 5 i8 (.int .u8 0) 1 1 Tryd.underlying28 HI.out hz8 hs8 hb8 rfl (by decide) _ _ _ rfl (HW.out.alloc _) ⟨wr.heap.size, 0, none⟩ 1 1 [.int .u8 (byteI x k)] rfl rfl (cell_one_new _ _ _) (by intro u hu; simp only [List.mem_singleton] at hu; subst hu; rfl) (by unfold maxLen; omega) (by omega) (by simp; have := HB.out.size; omega) ?_; intro v' w' hown' hg' hnil' hat'; have HN := Lib.hid (And.intro hown' ((HB.out.alloc (Nat.le_trans hB HB.out.size) _).trans (below_own (HW.out.alloc _) hg' (by simp; have := HB.out.size; omega)))); clear hown' hg' hnil' hat')
      refine ⟨⟨k + 1, by omega, by go_num, ?_, HN.out.2⟩, by simp [intOf]; omega⟩
      rw [bytesL_succ, ← List.append_assoc]
      exact HN.out.1
    · go_wp2
      go_ret
      obtain rfl : k = m := by omega
      exact ⟨_, rfl, HW.out, HB.out⟩

/-- The data's bytes, as the document lays them. -/
def dataL (nr arch ip : Int) (a : Nat → Int) : Nat → List Value
  | 0 => bytesL nr 4 ++ bytesL arch 4 ++ bytesL ip 8
  | k + 1 => dataL nr arch ip a k ++ bytesL (a k) 8
theorem dataL_len (nr arch ip : Int) (a : Nat → Int) : ∀ k, (dataL nr arch ip a k).length = 16 + k * 8
  | 0 => by simp [dataL, bytesL_len]
  | k + 1 => by rw [dataL, List.length_append, dataL_len nr arch ip a k, bytesL_len]; omega
theorem bytesL_get (x : Int) (m j : Nat) (h : j < m) : (bytesL x m)[j]? = some (.int .u8 (byteI x j)) := by simp [bytesL, h]
theorem dataL_get (nr arch ip : Int) (a : Nat → Int) : ∀ k j, j < 16 + k * 8 → (dataL nr arch ip a k)[j]? = some (.int .u8 (dbyte nr arch ip a j))
  | 0, j, h => by
    unfold dataL
    by_cases h4 : j < 4
    · rw [List.append_assoc, List.getElem?_append_left (by rw [bytesL_len]; exact h4), bytesL_get _ _ _ h4, dbyte_nr nr arch ip a j h4, Nat.zero_add]
    · by_cases h8 : j < 8
      · rw [List.getElem?_append_left (by simp [bytesL_len]; omega), List.getElem?_append_right (by rw [bytesL_len]; omega), bytesL_len, bytesL_get _ _ _ (by omega), dbyte_arch nr arch ip a (j - 4) (by omega), show 4 + (j - 4) = j by omega]
      · have hl : (bytesL nr 4 ++ bytesL arch 4).length = 8 := by simp [bytesL_len]
        rw [List.getElem?_append_right (by rw [hl]; omega), hl, bytesL_get _ _ _ (by omega), dbyte_ip nr arch ip a (j - 8) (by omega), show 8 + (j - 8) = j by omega]
  | k + 1, j, h => by
    rw [dataL]
    by_cases hj : j < 16 + k * 8
    · rw [List.getElem?_append_left (by rw [dataL_len]; exact hj), dataL_get nr arch ip a k j hj]
    · rw [List.getElem?_append_right (by rw [dataL_len]; omega), dataL_len, bytesL_get _ _ _ (by omega), dbyte_arg nr arch ip a k (j - (16 + k * 8)) (by omega), show 16 + k * 8 + (j - (16 + k * 8)) = j by omega]

/-- A row of the call's own that is not empty, as 'Made' says it. -/
theorem made_of_own {w w' : World} {v : Value} {n : Nat} {xs : List Value} {F : Nat → Value} (hn : 0 < n) (h : w'.ownsRow w.heap.size 5 1 v n xs) (hb : Below w.heap.size w w') (hF : ∀ k, k < n → xs[k]? = some (F k)) : Made w w' v n F := by
  rcases h.2 with ⟨_, h0⟩ | ⟨g, cap, cur, rfl, hge, hh, hnc, hcm, hsz, htk⟩
  · omega
  · have hsz' : cur.size = cap := by omega
    rw [Nat.mul_one] at htk
    refine ⟨g, cap, fun k => cur.getD k undef, rfl, ⟨cur, hh, hsz', fun k hk => by show cur[k]? = some (cur.getD k undef); rw [Array.getD_eq_getD_getElem?, Array.getElem?_eq_getElem (show k < cur.size by omega)]; rfl⟩, hnc, hcm, fun k hk => ?_, hb, hge⟩
    have : cur[k]? = some (F k) := by
      rw [← hF k hk, ← htk, List.getElem?_take, if_pos hk, Array.getElem?_toList]
    show cur.getD k undef = F k
    rw [Array.getD_eq_getD_getElem?, this]; rfl

/-- While the document's bytes are laid. -/
def Building (w wr : World) (v : Value) (n : Nat) (xs : List Value) (nr arch ip : Int) (a : Nat → Int) : Prop :=
  Box wr w.heap.size nr arch ip a ∧ wr.ownsRow (w.heap.size + 1) 5 1 v n xs ∧ Below w.heap.size w wr
theorem building_put {w wr : World} {v : Value} {n : Nat} {xs : List Value} {nr arch ip : Int} {a : Nat → Int} (h : Building w wr v n xs nr arch ip a) (x mi : Int) (m : Nat) (hmi : mi = m) (hx : 0 ≤ x ∧ x < 18446744073709551616) (hm : m ≤ 8) (hn : n ≤ 64) :
    Calls Tryd.prog 25 #[v, .int .u64 x, .int .i64 mi] wr fun e w' => ∃ v', e = .returned v' ∧ Building w w' v' (n + m) (xs ++ bytesL x m) nr arch ip a := by
  obtain ⟨hx0, ho, hb⟩ := h
  refine (ref_put v x mi m n (w.heap.size + 1) xs hmi hx hm hn wr hx0.1 ho).mono ?_
  rintro e w' ⟨v', rfl, ho', hb'⟩
  exact ⟨v', rfl, hx0.below hb' (by omega), ho', hb.trans (hb'.mono (by omega))⟩
theorem building_new (w : World) (t : TypeId) (nr arch ip : Int) (a : Nat → Int) :
    Building w (w.alloc (.cells #[.int .u32 nr, .int .u32 arch, .int .u64 ip, .int .u64 (a 0), .int .u64 (a 1), .int .u64 (a 2), .int .u64 (a 3), .int .u64 (a 4), .int .u64 (a 5)] t)) (.slice none 0 0) 0 [] nr arch ip a :=
  ⟨Box.new w t nr arch ip a, World.ownsRow_nil _ _ _ _, below_box w _⟩
def BuildP (w : World) (n : Nat) (xs : List Value) (nr arch ip : Int) (a : Nat → Int) (e : Ending) (w' : World) : Prop := ∃ v', e = .returned v' ∧ Building w w' v' n xs nr arch ip a
theorem building_nr {w wr : World} {v : Value} {nr arch ip : Int} {a : Nat → Int} (h : Building w wr v 0 [] nr arch ip a) (hx : 0 ≤ nr ∧ nr < 4294967296) :
    Calls Tryd.prog 25 #[v, .int .u64 nr, .int .i64 4] wr (BuildP w 4 (bytesL nr 4) nr arch ip a) :=
  building_put h nr 4 4 rfl (by omega) (by decide) (by decide)
theorem building_arch {w wr : World} {v : Value} {nr arch ip : Int} {a : Nat → Int} (h : Building w wr v 4 (bytesL nr 4) nr arch ip a) (hx : 0 ≤ arch ∧ arch < 4294967296) :
    Calls Tryd.prog 25 #[v, .int .u64 arch, .int .i64 4] wr (BuildP w 8 (bytesL nr 4 ++ bytesL arch 4) nr arch ip a) :=
  building_put h arch 4 4 rfl (by omega) (by decide) (by decide)
theorem building_ip {w wr : World} {v : Value} {nr arch ip : Int} {a : Nat → Int} (h : Building w wr v 8 (bytesL nr 4 ++ bytesL arch 4) nr arch ip a) (hx : 0 ≤ ip ∧ ip < 18446744073709551616) :
    Calls Tryd.prog 25 #[v, .int .u64 ip, .int .i64 8] wr (BuildP w 16 (dataL nr arch ip a 0) nr arch ip a) :=
  building_put h ip 8 8 rfl hx (by decide) (by decide)
theorem building_arg {w wr : World} {v : Value} {k : Nat} {nr arch ip : Int} {a : Nat → Int} (h : Building w wr v (16 + k * 8) (dataL nr arch ip a k) nr arch ip a) (hk : k < 6) (hx : 0 ≤ a k ∧ a k < 18446744073709551616) :
    Calls Tryd.prog 25 #[v, .int .u64 (a k), .int .i64 8] wr (BuildP w (16 + (k + 1) * 8) (dataL nr arch ip a (k + 1)) nr arch ip a) := by
  have h' := building_put h (a k) 8 8 rfl hx (by decide) (by omega)
  rwa [show 16 + k * 8 + 8 = 16 + (k + 1) * 8 by omega] at h'

theorem ref2_Bytes (nr arch ip : Int) (a : Nat → Int) (hnr : 0 ≤ nr ∧ nr < 4294967296) (har : 0 ≤ arch ∧ arch < 4294967296) (hip : 0 ≤ ip ∧ ip < 18446744073709551616) (ha : ∀ i, 0 ≤ a i ∧ a i < 18446744073709551616) (w : World) :
    Calls Tryd.prog 12 #[.agg #[.int .u32 nr, .int .u32 arch, .int .u64 ip, .int .u64 (a 0), .int .u64 (a 1), .int .u64 (a 2), .int .u64 (a 3), .int .u64 (a 4), .int .u64 (a 5)]] w (MadeV w 64 (fun k => .int .u8 (dbyte nr arch ip a k))) := by
  have HA := Lib.hid ha
  have B0 := Lib.hid (building_new w 26 nr arch ip a)
  clear ha
  go_enter Tryd.func12, Tryd.ntmps12
  go_wp2_with (first
    | (go_at_call 25; (with_reducible refine (building_nr B0.out hnr).mono ?_); rintro e w2 ⟨v2, rfl, L⟩; have B1 := Lib.hid L; have c1 := B1.out.1.2.2.1; clear L)
    | (go_at_call 25; (with_reducible refine (building_arch B1.out har).mono ?_); rintro e w3 ⟨v3, rfl, L⟩; have B2 := Lib.hid L; have c2 := B2.out.1.2.2.2.1; clear c1 L)
    | (go_at_call 25; (with_reducible refine (building_ip B2.out hip).mono ?_); rintro e w4 ⟨v4, rfl, L⟩; have B3 := Lib.hid L; clear c2 L B0 B1 B2))
  go_loopw [3, 4] (fun b i wr => ∃ k : Nat, k ≤ 6 ∧ i = .int .i64 (k : Int) ∧ Building w wr b (16 + k * 8) (dataL nr arch ip a k) nr arch ip a) (fun _ i _ => 6 - (intOf i).toNat)
  case atStart => exact ⟨0, by omega, rfl, B3.out⟩
  case round =>
    obtain ⟨k, hk, rfl, hL⟩ := hrel
    clear B3
    have HL := Lib.hid hL
    clear hL
    by_cases hlt : k < 6
    · have hlt' : (k : Int) < 6 := by omega
      have ca := HL.out.1.2.2.2.2 k hlt
      go_wp2_with (go_at_call 25; (with_reducible refine (building_arg HL.out hlt (HA.out k)).mono ?_); rintro e w5 ⟨v5, rfl, L⟩; have L6 := Lib.hid L; clear L)
      exact ⟨⟨k + 1, by omega, by go_num, L6.out⟩, by simp [intOf]; omega⟩
    · go_wp2
      go_ret
      obtain rfl : k = 6 := by omega
      obtain ⟨_, ho, hb⟩ := HL.out
      have ho' : World.ownsRow _ w.heap.size 5 1 _ 64 _ := ⟨ho.1, ho.2.imp id fun ⟨g, cap, cur, e, hge, r⟩ => ⟨g, cap, cur, e, by omega, r⟩⟩
      exact ⟨_, rfl, made_of_own (by decide) ho' hb (dataL_get nr arch ip a 6)⟩
end Go.Proofs.YtdmjbiaigjifaaaDoor
