/-
  The document's Emit of nodes: a contract. Conditions: those that it names.
-/
import Derived.Test.YtfeeainhelegjaaLowRSize
import Derived.Test.YtfeeainhelegjaaLowEm
namespace Go.Proofs.Ytfeeainhelegjaa
open Go Go.RowKit
set_option linter.unusedSimpArgs false
set_option linter.unusedVariables false

theorem OutAt.drew {B : Nat} {Z V : World} {nb : Nat} {A : Option Addr} {c m : Nat} {ys : List I4} {x : Nd} (h : OutAt B Z V nb A c m ys x) : OutAt B Z V.drew nb A c m ys x :=
  ⟨h.own.drew, h.len, h.box, h.ne, h.bel.drew, h.le⟩
theorem OutAt.alloc {B : Nat} {Z V : World} {nb : Nat} {A : Option Addr} {c m : Nat} {ys : List I4} {x : Nd} (h : OutAt B Z V nb A c m ys x) (o : Obj) : (V.alloc o).heap[nb]? = some (ndO x) :=
  ((lboxL V o).block nb (Array.getElem?_eq_some_iff.1 h.box).1).trans h.box
theorem own_lower9 {w : World} {B B' : Nat} {e : TypeId} {sz : Nat} {v : Value} {n : Nat} {xs : List Value} (h : w.ownsRow B e sz v n xs) (hB : B' ≤ B) : w.ownsRow B' e sz v n xs := by
  obtain ⟨h1, h⟩ := h
  refine ⟨h1, ?_⟩
  rcases h with h | ⟨g, c, cur, e1, e2, e3⟩
  · exact .inl h
  · exact .inr ⟨g, c, cur, e1, Nat.le_trans hB e2, e3⟩
set_option maxHeartbeats 8000000 in
set_option maxRecDepth 100000 in
theorem r_Emit (w : World) (A : Option Addr) (n cap : Nat) (nd : Nat → Nd) (h : NdAt w A n nd) :
    Calls Try.prog 9 #[.slice A n cap] w fun e w' => ∃ v, e = .returned (.tuple #[v, .int .i64 (emitR nd n).2]) ∧ w'.ownsRow w.heap.size 39 4 v (emitR nd n).1.length (i4L (emitR nd n).1) ∧ Below w.heap.size w w' := by
  have HS := Lib.hid (r_Size w A n cap nd h)
  have HN := Lib.hid h
  clear h
  unfold emitR
  by_cases h0 : (chkN nd n).1 = 0
  · rw [if_pos h0]
    have hv := chk_ok nd n h0
    have hsr : sizeR nd n = ((firstN nd (longN nd n) n : Int), 0) := if_pos h0
    rw [hsr] at HS
    clear hsr
    by_cases hl : 4096 < firstN nd (longN nd n) n
    · rw [if_pos hl]
      have hl' : (4096 : Int) < (firstN nd (longN nd n) n : Int) := by omega
      clear hl h0
      go_enter Try.func9, Try.ntmps9
      go_wp2_with (go_at_call 7; (with_reducible refine HS.out.mono ?_); rintro e w1 ⟨rfl, hb1⟩; have H1 := Lib.hid hb1; clear hb1)
      go_ret2
      exact ⟨_, rfl, ⟨by simp [i4L], .inl ⟨rfl, rfl⟩⟩, H1.out⟩
    · rw [if_neg hl]
      have hl' : ¬ (4096 : Int) < (firstN nd (longN nd n) n : Int) := by omega
      have HFN := Lib.hid hl
      clear hl h0
      have HLO := Lib.hid (fun V hV => r_Long (W := V) (A := A) (cap := cap) hV hv)
      have HV := Lib.hid hv
      clear hv
      generalize longN nd n = lg at HLO HFN HS hl' ⊢
      go_enter Try.func9, Try.ntmps9
      go_wp2_with (first
        | (go_at_call 15; (with_reducible refine (r_places (HN.out.below H2.out.2) H2.out.1 HV.out.le).mono ?_); rintro e w3 ⟨v, rfl, ho3, hb3⟩; obtain ⟨g, c9, rfl, hgB, hgl, hgc, hcell⟩ := own_cells ho3 (by omega); have H3 : Hid (NdAt w3 A n nd ∧ FarAt w3 fb n lg ∧ AtC w3 g n nd lg ∧ Below w.heap.size w w3) := Lib.hid ⟨HN.out.below (H2.out.2.trans (hb3.mono H2.out.2.size)), H2.out.1.below hb3, ⟨hgl, fun j hj => hcell j _ (firL_get nd _ (by omega))⟩, H2.out.2.trans (hb3.mono H2.out.2.size)⟩; clear hb3 ho3 hgB hgl hgc hcell)
        | (go_at_call 16; (with_reducible refine (HLO.out _ (HN.out.below H1.out)).mono ?_); rintro e w2 ⟨fb, rfl, hfb, hfa, hb2⟩; have H2 := Lib.hid (And.intro hfa (H1.out.trans (hb2.mono H1.out.size))); clear hfa hb2 hfb)
        | (go_at_call 7; (with_reducible refine HS.out.mono ?_); rintro e w1 ⟨rfl, hb1⟩; have H1 := Lib.hid hb1; clear hb1))
      clear HS HLO H1 H2 HN
      obtain ⟨B, hB⟩ : ∃ B, w3.heap.size = B := ⟨_, rfl⟩
      have HBB := Lib.hid hB
      clear hB
      go_loopw [8, 9] (fun s i wr => ∃ k : Nat, k ≤ n ∧ i = .int .i64 (k : Int) ∧ ∃ Ao co mo, s = .slice Ao mo co ∧ wr.ownsRow B 39 4 (.slice Ao mo co) mo (i4L (emitN nd lg k)) ∧ (emitN nd lg k).length = mo ∧ Below B w3 wr) (fun _ i _ => n - (intOf i).toNat)
      case atStart => exact ⟨0, by omega, rfl, none, 0, 0, rfl, ⟨rfl, .inl ⟨rfl, rfl⟩⟩, rfl, Below.refl _ _⟩
      case round =>
        obtain ⟨k, hk, rfl, Ao, co, mo, rfl, ho, hlen, hb⟩ := hrel
        by_cases hlt : k < n
        · have hlt' : (k : Int) < (n : Int) := by omega
          have hn4 := HV.out.le
          have hw1 : IntKind.i64.wrap ((k : Int) + 1) = ((k + 1 : Nat) : Int) := by rw [IntWalk.i64_in _ (by omega)]; omega
          have HRb : Hid (mo ≤ 20480) := Lib.hid (by have := first_le nd lg k; have := HV.out.le; rw [emit_len] at hlen; omega)
          have HR : Hid (OutAt B w3 (wr.alloc (ndO (nd k))) wr.heap.size Ao co mo (emitN nd lg k) (nd k)) := Lib.hid (by
            have q := lboxL wr (ndO (nd k))
            have hBw : B ≤ wr.heap.size := Nat.le_trans (Nat.le_of_eq HBB.out.symm) hb.size
            exact ⟨own_below ho q, hlen, World.alloc_heap_new wr _, fun e => by have := ho.lt _ e; omega, hb.trans (q.mono hBw), Nat.le_of_eq HBB.out.symm⟩)
          have HW := Lib.hid hb
          have HNX : Hid (emitN nd lg (k + 1) = emitN nd lg k ++ insN nd lg k) := Lib.hid rfl
          have HBW : Hid (∀ V, Below B w3 V → NdAt V A n nd ∧ FarAt V fb n lg ∧ AtC V g n nd lg) := Lib.hid (fun V hV => by
            have q : Below w3.heap.size w3 V := by rw [HBB.out]; exact hV
            exact ⟨H3.out.1.below q, H3.out.2.1.below q, H3.out.2.2.1.below q⟩)
          obtain ⟨ab, ao, rfl, hl, c0, c1, c2, c3, c4, c5, c6, c7⟩ := nd_at (HBW.out _ hb).1 hlt
          clear ho hlen hb hl
          have HI : Hid (insN nd lg k = if (nd k).leaf = true then [(6, 0, 0, (nd k).word)] else headN (nd k) ++ ([jumpN nd lg k] ++ (wayT nd lg k ++ wayF nd lg k))) := Lib.hid rfl
          by_cases hlf : (nd k).leaf = true
          · rw [if_pos hlf] at HI
            rw [hlf] at c0
            generalize nd k = x at c1 c2 c3 c4 c5 c6 c7 HR HI hlf
            obtain ⟨leaf, word, off, mask, op, kk, t, f⟩ := x
            dsimp only at hlf c1 c2 c3 c4 c5 c6 c7
            subst hlf
            go_upto_region 13 with fail
            rename_i K7 hK7
            generalize wr.alloc _ = V0 at HR ⊢
            generalize wr.heap.size = nb at HR ⊢
            clear c0 c1 c2 c3 c4 c5 c6 c7
            have d0 := cellL HR.out.box 0 (v := .bool true) rfl
            have d1 := cellL HR.out.box 1 (v := .int .u32 (word : Int)) rfl
            go_wp2_with (at_builtin; refine wpList_append_own _ rfl (.tmp 42) (.tmp 46) 29 rfl 39 _ 4 8 Try.underlying29 info_insL rfl (by decide) B (.slice Ao mo co) mo (i4L (emitN nd lg k)) rfl (own_below HR.out.own (lboxL _ _)) ⟨V0.heap.size, 0, none⟩ 1 1 (i4C (6, 0, 0, word)) rfl rfl (i4_new _ _) (i4_one _) (by have q := HRb.out; unfold maxLen; omega) (by have q := HRb.out; omega) (Nat.le_trans (Nat.le_trans HR.out.le HR.out.bel.size) (lboxL _ _).size) ?_; intro v' V1 ho hg hb; obtain ⟨A1, c1, m1, rfl, hm9, hO9⟩ := out_step HR.out ho hg hb; have H4 := Lib.hid hO9; have H4m := Lib.hid hm9; have H4b : Hid (m1 ≤ 20481) := Lib.hid (by have q := HRb.out; omega) ; clear ho hg hb hO9 hm9; skip)
            exact ⟨⟨k + 1, by omega, by go_num, A1, c1, m1, rfl, by rw [HNX.out, HI.out]; exact H4.out.own, by rw [HNX.out, HI.out]; exact H4.out.len, H4.out.bel⟩, by simp [intOf]; omega⟩
          · have hlf' : (nd k).leaf = false := by cases hh : (nd k).leaf; rfl; exact absurd hh hlf
            have hways := HV.out.ways k hlt hlf'
            obtain ⟨t, ht⟩ : ∃ t : Nat, (nd k).t = (t : Int) := ⟨(nd k).t.toNat, by omega⟩
            obtain ⟨f, hf⟩ : ∃ f : Nat, (nd k).f = (f : Int) := ⟨(nd k).f.toNat, by omega⟩
            have ht1 : (t : Int) < (n : Int) + 1 := by omega
            have hf1 : (f : Int) < (n : Int) + 1 := by omega
            have HTF : Hid (t ≤ n ∧ f ≤ n) := Lib.hid (by omega)
            have HFB : Hid (firstN nd lg t ≤ 30000 ∧ firstN nd lg f ≤ 30000) := Lib.hid (by have := first_le nd lg t; have := first_le nd lg f; omega)
            have HOV := Lib.hid (fun m hm => over_at nd lg k hlf' (m := m) hm ht hf)
            rw [if_neg hlf] at HI
            have HJ : Hid (jumpN nd lg k = (codeN (nd k).op, u8N (if (lg k).1 = true then 0 else overT nd lg k), u8N (if (lg k).2 = true then (manyN (lg k) : Int) - 1 else overF nd lg k), (nd k).k)) := Lib.hid rfl
            have HWT : Hid (wayT nd lg k = if (lg k).1 = true then [(5, 0, 0, u32N (overT nd lg k - 1))] else []) := Lib.hid rfl
            have HWF : Hid (wayF nd lg k = if (lg k).2 = true then [(5, 0, 0, u32N (overF nd lg k - (manyN (lg k) : Int)))] else []) := Lib.hid rfl
            have HHD : Hid (headN (nd k) = if (nd k).mask = 4294967295 then [(32, 0, 0, u32N (nd k).off)] else [(32, 0, 0, u32N (nd k).off), (84, 0, 0, (nd k).mask)]) := Lib.hid rfl
            have HJA : Hid (jumpAt (nd k) = if (nd k).mask = 4294967295 then 1 else 2) := Lib.hid rfl
            have HC := Lib.hid (fun w => r_code (nd k).op w)
            have hfar := fun V hV => far_cells (HBW.out V hV).2.1 hlt
            have hat := fun V hV j hj => (HBW.out V hV).2.2.2 j hj
            rw [hlf'] at c0
            generalize nd k = x at c0 c1 c2 c3 c4 c5 c6 c7 HR HI HJ HHD HJA HC HOV ht hf hlf'
            obtain ⟨leaf, word, off, mask, op, kk, t', f'⟩ := x
            dsimp only at hlf' c0 c1 c2 c3 c4 c5 c6 c7 ht hf HJ HHD HJA HC
            subst hlf' ht hf
            dsimp only [ndO] at HR
            have HFA := Lib.hid hfar
            have HAT : Hid (∀ V, Below B w3 V → V.cell? ⟨g, t, none⟩ = some (.int .i64 (firstN nd lg t : Int)) ∧ V.cell? ⟨g, f, none⟩ = some (.int .i64 (firstN nd lg f : Int))) := Lib.hid (fun V hV => ⟨hat V hV t HTF.out.1, hat V hV f HTF.out.2⟩)
            clear hways hlf hfar hat
            go_upto_region 13 with fail
            rename_i K7 hK7
            generalize wr.alloc _ = V0 at HR ⊢
            generalize wr.heap.size = nb at HR ⊢
            clear c0 c1 c2 c3 c4 c5 c6 c7
            have d0 := cellL HR.out.box 0 (v := .bool false) rfl
            have d2 := cellL HR.out.box 2 (v := .int .i64 off) rfl
            have hwo := u32_wrap off
            generalize u32N off = uo at hwo HHD
            generalize codeN op = cop at HC HJ
            generalize firstN nd lg t = fT at HFB HOV HAT
            generalize firstN nd lg f = fF at HFB HOV HAT
            have HLN : Hid (mo = firstN nd lg k) := Lib.hid (by rw [← emit_len]; exact HR.out.len.symm)
            obtain ⟨a1, ha1⟩ : ∃ z, (lg k).1 = z := ⟨_, rfl⟩
            obtain ⟨a2, ha2⟩ : ∃ z, (lg k).2 = z := ⟨_, rfl⟩
            have HLK : Hid (lg k = (a1, a2)) := Lib.hid (by rw [← ha1, ← ha2])
            rw [HLK.out] at HJ HWT HWF HFA
            clear ha1 ha2
            by_cases hk9 : mask = 4294967295
            · have HK9 := Lib.hid hk9
              have hkb : ((mask : Int) != 4294967295) = false := by rw [hk9]; rfl
              clear hk9
              cases a1 with
              | true =>
                cases a2 with
                | true =>
                  go_upto_region 27 with (first
                    | (at_builtin; refine wpList_append_own _ rfl (.tmp 48) (.tmp 53) 29 rfl 39 _ 4 8 Try.underlying29 info_insL rfl (by decide) B (.slice Ao mo co) mo (i4L (emitN nd lg k)) rfl (own_below HR.out.own (lboxL _ _)) ⟨V0.heap.size, 0, none⟩ 1 1 (i4C (32, 0, 0, uo)) rfl rfl (i4_new _ _) (i4_one _) (by have q := HRb.out; unfold maxLen; omega) (by have q := HRb.out; omega) (Nat.le_trans (Nat.le_trans HR.out.le HR.out.bel.size) (lboxL _ _).size) ?_; intro v' V1 ho hg hb; obtain ⟨A1, c1, m1, rfl, hm9, hO9⟩ := out_step HR.out ho hg hb; have H4 := Lib.hid hO9; have H4m := Lib.hid hm9; have H4b : Hid (m1 ≤ 20481) := Lib.hid (by have q := HRb.out; omega) ; clear ho hg hb hO9 hm9; clear d0 d2; have d3 := cellL H4.out.box 3 (v := .int .u32 (mask : Int)) rfl; have d6 := cellL H4.out.box 6 (v := .int .i64 (t : Int)) rfl; have d7 := cellL H4.out.box 7 (v := .int .i64 (f : Int)) rfl; have g0 : V1.cell? ⟨fb, k * 2, none⟩ = some (.bool true) := (HFA.out V1 H4.out.bel).1; have g1 : V1.cell? ⟨fb, k * 2 + 1, none⟩ = some (.bool true) := (HFA.out V1 H4.out.bel).2; have q1 := (HAT.out V1 H4.out.bel).1; have q2 := (HAT.out V1 H4.out.bel).2; have hwT : IntKind.i64.wrap ((fT : Int) - (m1 : Int)) = (fT : Int) - (m1 : Int) := IntWalk.i64_in _ (by have q := HFB.out; have q9 := H4b.out; omega); have hwF : IntKind.i64.wrap ((fF : Int) - (m1 : Int)) = (fF : Int) - (m1 : Int) := IntWalk.i64_in _ (by have q := HFB.out; have q9 := H4b.out; omega); have hwT1 : IntKind.i64.wrap ((fT : Int) - (m1 : Int) - 1) = (fT : Int) - (m1 : Int) - 1 := IntWalk.i64_in _ (by have q := HFB.out; have q9 := H4b.out; omega); have hwF1 : IntKind.i64.wrap ((fF : Int) - (m1 : Int) - 1) = (fF : Int) - (m1 : Int) - 1 := IntWalk.i64_in _ (by have q := HFB.out; have q9 := H4b.out; omega)))
                  rename_i K8 hK8
                  have hx8 : IntKind.u8.wrap (0 : Int) = ((u8N (0) : Nat) : Int) := u8_wrap _
                  have hy8 : IntKind.u8.wrap (1 : Int) = ((u8N (1) : Nat) : Int) := u8_wrap _
                  clear d3 d6 d7 g0 g1 q1 q2 hwT hwF hwT1 hwF1
                  refine wp_region_held_drew (S := fun W' => W'.heap[nb]? = some (ndO ⟨false, word, off, mask, op, kk, (t : Int), (f : Int)⟩)) (by kernel_rfl) H4.out.box (fun hHeld => ?_)
                  have H6 := Lib.hid H4.out.drew
                  generalize V1.drew = Y at H6 hHeld ⊢
                  refine wpAnyH_take (i := 0) (v := ?_) rfl (by kernel_rfl) (by kernel_rfl) (by kernel_rfl) (fun _ _ _ h => h) (Or.inl ⟨by rfl, ?_⟩) (by assumption) ?_
                  rotate_left
                  · intro wS hSw
                    (have d4 := cellL hSw 4 (v := .int .i64 op) rfl; have d5 := cellL hSw 5 (v := .int .u32 (kk : Int)) rfl)
                    go_simp
                    all_goals with_reducible rfl
                  (try simp only [List.getElem_toArray, List.getElem_cons_zero, List.getElem_cons_succ, Act.put, List.setIfInBounds_toArray, List.set_cons_zero, List.set_cons_succ])
                  refine wpAnyH_take (i := 1) (v := ?_) rfl (by kernel_rfl) (by kernel_rfl) (by kernel_rfl) (fun _ _ _ h => h) (Or.inl ⟨by rfl, ?_⟩) (by assumption) ?_
                  rotate_left
                  · intro wS hSw
                    (have d4 := cellL hSw 4 (v := .int .i64 op) rfl; have d5 := cellL hSw 5 (v := .int .u32 (kk : Int)) rfl)
                    go_simp
                    all_goals with_reducible rfl
                  (try simp only [List.getElem_toArray, List.getElem_cons_zero, List.getElem_cons_succ, Act.put, List.setIfInBounds_toArray, List.set_cons_zero, List.set_cons_succ])
                  refine wpAnyH_take (i := 2) (v := ?_) rfl (by kernel_rfl) (by kernel_rfl) (by kernel_rfl) (fun _ _ _ h => h) (Or.inl ⟨by rfl, ?_⟩) (by assumption) ?_
                  rotate_left
                  · intro wS hSw
                    (have d4 := cellL hSw 4 (v := .int .i64 op) rfl; have d5 := cellL hSw 5 (v := .int .u32 (kk : Int)) rfl)
                    go_simp
                    all_goals with_reducible rfl
                  (try simp only [List.getElem_toArray, List.getElem_cons_zero, List.getElem_cons_succ, Act.put, List.setIfInBounds_toArray, List.set_cons_zero, List.set_cons_succ])
                  refine wpAnyH_take (i := 4) (v := ?_) rfl (by kernel_rfl) (by kernel_rfl) (by kernel_rfl) (fun _ _ _ h => h) (Or.inl ⟨by rfl, ?_⟩) (by assumption) ?_
                  rotate_left
                  · intro wS hSw
                    (have d4 := cellL hSw 4 (v := .int .i64 op) rfl; have d5 := cellL hSw 5 (v := .int .u32 (kk : Int)) rfl)
                    go_simp
                    all_goals with_reducible rfl
                  (try simp only [List.getElem_toArray, List.getElem_cons_zero, List.getElem_cons_succ, Act.put, List.setIfInBounds_toArray, List.set_cons_zero, List.set_cons_succ])
                  refine wpAnyH_take (i := 5) (v := ?_) rfl (by kernel_rfl) (by kernel_rfl) (by kernel_rfl) (fun _ _ _ h => h) (Or.inl ⟨by rfl, ?_⟩) (by assumption) ?_
                  rotate_left
                  · intro wS hSw
                    (have d4 := cellL hSw 4 (v := .int .i64 op) rfl; have d5 := cellL hSw 5 (v := .int .u32 (kk : Int)) rfl)
                    go_simp
                    all_goals with_reducible rfl
                  (try simp only [List.getElem_toArray, List.getElem_cons_zero, List.getElem_cons_succ, Act.put, List.setIfInBounds_toArray, List.set_cons_zero, List.set_cons_succ])
                  refine wpAnyH_take (i := 6) (v := ?_) rfl (by kernel_rfl) (by kernel_rfl) (by kernel_rfl) (fun _ _ _ h => h) (Or.inl ⟨by rfl, ?_⟩) (by assumption) ?_
                  rotate_left
                  · intro wS hSw
                    (have d4 := cellL hSw 4 (v := .int .i64 op) rfl; have d5 := cellL hSw 5 (v := .int .u32 (kk : Int)) rfl)
                    go_simp
                    all_goals with_reducible rfl
                  (try simp only [List.getElem_toArray, List.getElem_cons_zero, List.getElem_cons_succ, Act.put, List.setIfInBounds_toArray, List.set_cons_zero, List.set_cons_succ])
                  refine wpAnyH_take (i := 7) (v := ?_) rfl (by kernel_rfl) (by kernel_rfl) (by kernel_rfl) (fun _ _ _ h => h) (Or.inl ⟨by rfl, ?_⟩) (by assumption) ?_
                  rotate_left
                  · intro wS hSw
                    (have d4 := cellL hSw 4 (v := .int .i64 op) rfl; have d5 := cellL hSw 5 (v := .int .u32 (kk : Int)) rfl)
                    go_simp
                    all_goals with_reducible rfl
                  (try simp only [List.getElem_toArray, List.getElem_cons_zero, List.getElem_cons_succ, Act.put, List.setIfInBounds_toArray, List.set_cons_zero, List.set_cons_succ])
                  refine wpAnyH_take (i := 8) (v := ?_) rfl (by kernel_rfl) (by kernel_rfl) (by kernel_rfl) (fun _ _ _ h => h) (Or.inl ⟨by rfl, ?_⟩) (by assumption) ?_
                  rotate_left
                  · intro wS hSw
                    (have d4 := cellL hSw 4 (v := .int .i64 op) rfl; have d5 := cellL hSw 5 (v := .int .u32 (kk : Int)) rfl)
                    go_simp
                    all_goals with_reducible rfl
                  (try simp only [List.getElem_toArray, List.getElem_cons_zero, List.getElem_cons_succ, Act.put, List.setIfInBounds_toArray, List.set_cons_zero, List.set_cons_succ])
                  refine wpAnyH_take (i := 9) (v := ?_) rfl (by kernel_rfl) (by kernel_rfl) (by kernel_rfl) (fun _ _ _ h => h) (Or.inl ⟨by rfl, ?_⟩) (by assumption) ?_
                  rotate_left
                  · intro wS hSw
                    (have d4 := cellL hSw 4 (v := .int .i64 op) rfl; have d5 := cellL hSw 5 (v := .int .u32 (kk : Int)) rfl)
                    go_simp
                    all_goals with_reducible rfl
                  (try simp only [List.getElem_toArray, List.getElem_cons_zero, List.getElem_cons_succ, Act.put, List.setIfInBounds_toArray, List.set_cons_zero, List.set_cons_succ])
                  refine held_one (i := 3) (by kernel_rfl) rfl (fun K hK => ?_)
                  go_simp
                  go_at_call 18
                  refine (HC.out _).mono ?_
                  rintro e w9 ⟨rfl, rfl⟩
                  refine hK.out _ _ H6.out.box (fun hH2 => ?_)
                  clear hK K hHeld
                  (try simp only [Act.put, List.setIfInBounds_toArray, List.set_cons_zero, List.set_cons_succ, List.getElem_toArray, List.getElem_cons_zero, List.getElem_cons_succ])
                  refine wpAnyH_take (i := 10) (v := ?_) rfl (by kernel_rfl) (by kernel_rfl) (by kernel_rfl) (fun _ _ _ h => h) (Or.inl ⟨by rfl, ?_⟩) (by assumption) ?_
                  rotate_left
                  · intro wS hSw
                    (skip)
                    go_simp
                    all_goals with_reducible rfl
                  (try simp only [List.getElem_toArray, List.getElem_cons_zero, List.getElem_cons_succ, Act.put, List.setIfInBounds_toArray, List.set_cons_zero, List.set_cons_succ])
                  refine held_one (i := 11) (by kernel_rfl) rfl (fun K hK => ?_)
                  go_simp
                  refine hK.out _ _ (H6.out.alloc _) (fun hH3 => ?_)
                  clear hK K hH2
                  (try simp only [Act.put, List.setIfInBounds_toArray, List.set_cons_zero, List.set_cons_succ, List.getElem_toArray, List.getElem_cons_zero, List.getElem_cons_succ])
                  obtain ⟨i8, hi8, hz8, hs8, hb8⟩ := info_parts6 info_insL
                  refine held_one (i := 12) (by kernel_rfl) rfl (fun K hK => ?_)
                  rw [if_pos (by kernel_rfl)]
                  refine oper_append6 (.tmp 93) (.tmp 104) 29 rfl B 39 i8 _ 4 8 Try.underlying29 hi8 hz8 hs8 hb8 rfl (by decide) (.slice A1 m1 c1) m1 (i4L (emitN nd lg k ++ [(32, 0, 0, uo)])) rfl (own_below H6.out.own (lboxL _ _)) ⟨w9.heap.size, 0, none⟩ 1 1 (i4C (cop, u8N (0), u8N (1), kk)) rfl rfl (i4_new _ _) (i4_one _) (by have q := H4b.out; unfold maxLen; omega) (by have q := H4b.out; omega) (Nat.le_trans (Nat.le_trans H6.out.le H6.out.bel.size) (lboxL _ _).size) ?_
                  intro v' V7 ho hg hb
                  obtain ⟨A7, c7, m7, rfl, hm9, hO9⟩ := out_step H6.out ho hg hb
                  have H7 := Lib.hid hO9
                  have H7m := Lib.hid hm9
                  have H7b : Hid (m7 ≤ 20482) := Lib.hid (by have q := H4b.out; omega)
                  refine hK.out _ _ H7.out.box (fun hH4 => ?_)
                  clear hK K hH3 ho hg hb hO9 hm9 hx8 hy8
                  (try simp only [Act.put, List.setIfInBounds_toArray, List.set_cons_zero, List.set_cons_succ, List.getElem_toArray, List.getElem_cons_zero, List.getElem_cons_succ])
                  refine wpAnyH_take (i := 13) (v := ?_) rfl (by kernel_rfl) (by kernel_rfl) (by kernel_rfl) (fun _ _ _ h => h) (Or.inl ⟨by rfl, ?_⟩) (by assumption) ?_
                  rotate_left
                  · intro wS hSw
                    (skip)
                    go_simp
                    all_goals with_reducible rfl
                  (try simp only [List.getElem_toArray, List.getElem_cons_zero, List.getElem_cons_succ, Act.put, List.setIfInBounds_toArray, List.set_cons_zero, List.set_cons_succ])
                  refine wpAnyH_done (by kernel_rfl) ?_ _
                  refine hK8 _ _ ?_
                  clear hK8 K8 hH4 H6
                  have d6 := cellL H7.out.box 6 (v := .int .i64 (t : Int)) rfl
                  have d7 := cellL H7.out.box 7 (v := .int .i64 (f : Int)) rfl
                  have g0 : V7.cell? ⟨fb, k * 2, none⟩ = some (.bool true) := (HFA.out V7 H7.out.bel).1
                  have g1 : V7.cell? ⟨fb, k * 2 + 1, none⟩ = some (.bool true) := (HFA.out V7 H7.out.bel).2
                  have q1 := (HAT.out V7 H7.out.bel).1
                  have q2 := (HAT.out V7 H7.out.bel).2
                  have hwT : IntKind.i64.wrap ((fT : Int) - (m7 : Int)) = (fT : Int) - (m7 : Int) := IntWalk.i64_in _ (by have q := HFB.out; have q9 := H7b.out; omega)
                  have hwT1 : IntKind.i64.wrap ((fT : Int) - (m7 : Int) - 1) = (fT : Int) - (m7 : Int) - 1 := IntWalk.i64_in _ (by have q := HFB.out; have q9 := H7b.out; omega)
                  have hu1 := u32_wrap ((fT : Int) - (m7 : Int) - 1)
                  go_wp2_with (first
                    | (at_builtin; refine wpList_append_own _ rfl (.tmp 130) (.tmp 142) 29 rfl 39 _ 4 8 Try.underlying29 info_insL rfl (by decide) B (.slice A8 m8 c8) m8 (i4L (emitN nd lg k ++ [(32, 0, 0, uo)] ++ [(cop, u8N (0), u8N (1), kk)] ++ [(5, 0, 0, u32N ((fT : Int) - (m7 : Int) - 1))])) rfl (own_below H8.out.own (lboxL _ _)) ⟨V8.heap.size, 0, none⟩ 1 1 (i4C (5, 0, 0, u32N ((fF : Int) - (m8 : Int) - 1))) rfl rfl (i4_new _ _) (i4_one _) (by have q := H8b.out; unfold maxLen; omega) (by have q := H8b.out; omega) (Nat.le_trans (Nat.le_trans H8.out.le H8.out.bel.size) (lboxL _ _).size) ?_; intro v' V9 ho hg hb; obtain ⟨A9, c9x, m9, rfl, hm9, hO9⟩ := out_step H8.out ho hg hb; have H9 := Lib.hid hO9; have H9m := Lib.hid hm9; have H9b : Hid (m9 ≤ 20484) := Lib.hid (by have q := H8b.out; omega) ; clear ho hg hb hO9 hm9; skip)
                    | (at_builtin; refine wpList_append_own _ rfl (.tmp 111) (.tmp 123) 29 rfl 39 _ 4 8 Try.underlying29 info_insL rfl (by decide) B (.slice A7 m7 c7) m7 (i4L (emitN nd lg k ++ [(32, 0, 0, uo)] ++ [(cop, u8N (0), u8N (1), kk)])) rfl (own_below H7.out.own (lboxL _ _)) ⟨V7.heap.size, 0, none⟩ 1 1 (i4C (5, 0, 0, u32N ((fT : Int) - (m7 : Int) - 1))) rfl rfl (i4_new _ _) (i4_one _) (by have q := H7b.out; unfold maxLen; omega) (by have q := H7b.out; omega) (Nat.le_trans (Nat.le_trans H7.out.le H7.out.bel.size) (lboxL _ _).size) ?_; intro v' V8 ho hg hb; obtain ⟨A8, c8, m8, rfl, hm9, hO9⟩ := out_step H7.out ho hg hb; have H8 := Lib.hid hO9; have H8m := Lib.hid hm9; have H8b : Hid (m8 ≤ 20483) := Lib.hid (by have q := H7b.out; omega) ; clear ho hg hb hO9 hm9; clear hwT hwT1 hu1 d6 d7 g0 g1 q1 q2; have d7 := cellL H8.out.box 7 (v := .int .i64 (f : Int)) rfl; have g1 : V8.cell? ⟨fb, k * 2 + 1, none⟩ = some (.bool true) := (HFA.out V8 H8.out.bel).2; have q2 := (HAT.out V8 H8.out.bel).2; have hwF : IntKind.i64.wrap ((fF : Int) - (m8 : Int)) = (fF : Int) - (m8 : Int) := IntWalk.i64_in _ (by have q := HFB.out; have q9 := H8b.out; omega); have hwF1 : IntKind.i64.wrap ((fF : Int) - (m8 : Int) - 1) = (fF : Int) - (m8 : Int) - 1 := IntWalk.i64_in _ (by have q := HFB.out; have q9 := H8b.out; omega); have hu2 := u32_wrap ((fF : Int) - (m8 : Int) - 1)))
                  have heq : emitN nd lg (k + 1) = emitN nd lg k ++ [(32, 0, 0, uo)] ++ [(cop, u8N (0), u8N (1), kk)] ++ [(5, 0, 0, u32N ((fT : Int) - (m7 : Int) - 1))] ++ [(5, 0, 0, u32N ((fF : Int) - (m8 : Int) - 1))] := by
                    have hov := HOV.out m1 (by have z1 := H4m.out; have z3 := HLN.out; have z4 := HJA.out; rw [if_pos HK9.out] at z4; omega)
                    have e1 : overT nd lg k - 1 = (fT : Int) - (m7 : Int) - 1 := by have z := H7m.out; rw [hov.1]; omega
                    have e2 : overF nd lg k - 2 = (fF : Int) - (m8 : Int) - 1 := by have z := H7m.out; have z8 := H8m.out; rw [hov.2]; omega
                    have ej : jumpN nd lg k = (cop, u8N (0), u8N (1), kk) := by rw [HJ.out]; skip; rfl
                    have et : wayT nd lg k = [(5, 0, 0, u32N ((fT : Int) - (m7 : Int) - 1))] := by rw [HWT.out]; rw [← e1]; rfl
                    have ef : wayF nd lg k = [(5, 0, 0, u32N ((fF : Int) - (m8 : Int) - 1))] := by rw [HWF.out]; rw [← e2]; rfl
                    rw [HNX.out, HI.out, HHD.out, if_pos HK9.out, ej, et, ef]
                    simp only [List.append_assoc, List.cons_append, List.nil_append, List.append_nil]
                  exact ⟨⟨k + 1, by omega, by go_num, A9, c9x, m9, rfl, by rw [heq]; exact H9.out.own, by rw [heq]; exact H9.out.len, H9.out.bel⟩, by simp [intOf]; omega⟩
                | false =>
                  go_upto_region 27 with (first
                    | (at_builtin; refine wpList_append_own _ rfl (.tmp 48) (.tmp 53) 29 rfl 39 _ 4 8 Try.underlying29 info_insL rfl (by decide) B (.slice Ao mo co) mo (i4L (emitN nd lg k)) rfl (own_below HR.out.own (lboxL _ _)) ⟨V0.heap.size, 0, none⟩ 1 1 (i4C (32, 0, 0, uo)) rfl rfl (i4_new _ _) (i4_one _) (by have q := HRb.out; unfold maxLen; omega) (by have q := HRb.out; omega) (Nat.le_trans (Nat.le_trans HR.out.le HR.out.bel.size) (lboxL _ _).size) ?_; intro v' V1 ho hg hb; obtain ⟨A1, c1, m1, rfl, hm9, hO9⟩ := out_step HR.out ho hg hb; have H4 := Lib.hid hO9; have H4m := Lib.hid hm9; have H4b : Hid (m1 ≤ 20481) := Lib.hid (by have q := HRb.out; omega) ; clear ho hg hb hO9 hm9; clear d0 d2; have d3 := cellL H4.out.box 3 (v := .int .u32 (mask : Int)) rfl; have d6 := cellL H4.out.box 6 (v := .int .i64 (t : Int)) rfl; have d7 := cellL H4.out.box 7 (v := .int .i64 (f : Int)) rfl; have g0 : V1.cell? ⟨fb, k * 2, none⟩ = some (.bool true) := (HFA.out V1 H4.out.bel).1; have g1 : V1.cell? ⟨fb, k * 2 + 1, none⟩ = some (.bool false) := (HFA.out V1 H4.out.bel).2; have q1 := (HAT.out V1 H4.out.bel).1; have q2 := (HAT.out V1 H4.out.bel).2; have hwT : IntKind.i64.wrap ((fT : Int) - (m1 : Int)) = (fT : Int) - (m1 : Int) := IntWalk.i64_in _ (by have q := HFB.out; have q9 := H4b.out; omega); have hwF : IntKind.i64.wrap ((fF : Int) - (m1 : Int)) = (fF : Int) - (m1 : Int) := IntWalk.i64_in _ (by have q := HFB.out; have q9 := H4b.out; omega); have hwT1 : IntKind.i64.wrap ((fT : Int) - (m1 : Int) - 1) = (fT : Int) - (m1 : Int) - 1 := IntWalk.i64_in _ (by have q := HFB.out; have q9 := H4b.out; omega); have hwF1 : IntKind.i64.wrap ((fF : Int) - (m1 : Int) - 1) = (fF : Int) - (m1 : Int) - 1 := IntWalk.i64_in _ (by have q := HFB.out; have q9 := H4b.out; omega)))
                  rename_i K8 hK8
                  have hx8 : IntKind.u8.wrap (0 : Int) = ((u8N (0) : Nat) : Int) := u8_wrap _
                  have hy8 : IntKind.u8.wrap ((fF : Int) - (m1 : Int) - 1) = ((u8N ((fF : Int) - (m1 : Int) - 1) : Nat) : Int) := u8_wrap _
                  clear d3 d6 d7 g0 g1 q1 q2 hwT hwF hwT1 hwF1
                  refine wp_region_held_drew (S := fun W' => W'.heap[nb]? = some (ndO ⟨false, word, off, mask, op, kk, (t : Int), (f : Int)⟩)) (by kernel_rfl) H4.out.box (fun hHeld => ?_)
                  have H6 := Lib.hid H4.out.drew
                  generalize V1.drew = Y at H6 hHeld ⊢
                  refine wpAnyH_take (i := 0) (v := ?_) rfl (by kernel_rfl) (by kernel_rfl) (by kernel_rfl) (fun _ _ _ h => h) (Or.inl ⟨by rfl, ?_⟩) (by assumption) ?_
                  rotate_left
                  · intro wS hSw
                    (have d4 := cellL hSw 4 (v := .int .i64 op) rfl; have d5 := cellL hSw 5 (v := .int .u32 (kk : Int)) rfl)
                    go_simp
                    all_goals with_reducible rfl
                  (try simp only [List.getElem_toArray, List.getElem_cons_zero, List.getElem_cons_succ, Act.put, List.setIfInBounds_toArray, List.set_cons_zero, List.set_cons_succ])
                  refine wpAnyH_take (i := 1) (v := ?_) rfl (by kernel_rfl) (by kernel_rfl) (by kernel_rfl) (fun _ _ _ h => h) (Or.inl ⟨by rfl, ?_⟩) (by assumption) ?_
                  rotate_left
                  · intro wS hSw
                    (have d4 := cellL hSw 4 (v := .int .i64 op) rfl; have d5 := cellL hSw 5 (v := .int .u32 (kk : Int)) rfl)
                    go_simp
                    all_goals with_reducible rfl
                  (try simp only [List.getElem_toArray, List.getElem_cons_zero, List.getElem_cons_succ, Act.put, List.setIfInBounds_toArray, List.set_cons_zero, List.set_cons_succ])
                  refine wpAnyH_take (i := 2) (v := ?_) rfl (by kernel_rfl) (by kernel_rfl) (by kernel_rfl) (fun _ _ _ h => h) (Or.inl ⟨by rfl, ?_⟩) (by assumption) ?_
                  rotate_left
                  · intro wS hSw
                    (have d4 := cellL hSw 4 (v := .int .i64 op) rfl; have d5 := cellL hSw 5 (v := .int .u32 (kk : Int)) rfl)
                    go_simp
                    all_goals with_reducible rfl
                  (try simp only [List.getElem_toArray, List.getElem_cons_zero, List.getElem_cons_succ, Act.put, List.setIfInBounds_toArray, List.set_cons_zero, List.set_cons_succ])
                  refine wpAnyH_take (i := 4) (v := ?_) rfl (by kernel_rfl) (by kernel_rfl) (by kernel_rfl) (fun _ _ _ h => h) (Or.inl ⟨by rfl, ?_⟩) (by assumption) ?_
                  rotate_left
                  · intro wS hSw
                    (have d4 := cellL hSw 4 (v := .int .i64 op) rfl; have d5 := cellL hSw 5 (v := .int .u32 (kk : Int)) rfl)
                    go_simp
                    all_goals with_reducible rfl
                  (try simp only [List.getElem_toArray, List.getElem_cons_zero, List.getElem_cons_succ, Act.put, List.setIfInBounds_toArray, List.set_cons_zero, List.set_cons_succ])
                  refine wpAnyH_take (i := 5) (v := ?_) rfl (by kernel_rfl) (by kernel_rfl) (by kernel_rfl) (fun _ _ _ h => h) (Or.inl ⟨by rfl, ?_⟩) (by assumption) ?_
                  rotate_left
                  · intro wS hSw
                    (have d4 := cellL hSw 4 (v := .int .i64 op) rfl; have d5 := cellL hSw 5 (v := .int .u32 (kk : Int)) rfl)
                    go_simp
                    all_goals with_reducible rfl
                  (try simp only [List.getElem_toArray, List.getElem_cons_zero, List.getElem_cons_succ, Act.put, List.setIfInBounds_toArray, List.set_cons_zero, List.set_cons_succ])
                  refine wpAnyH_take (i := 6) (v := ?_) rfl (by kernel_rfl) (by kernel_rfl) (by kernel_rfl) (fun _ _ _ h => h) (Or.inl ⟨by rfl, ?_⟩) (by assumption) ?_
                  rotate_left
                  · intro wS hSw
                    (have d4 := cellL hSw 4 (v := .int .i64 op) rfl; have d5 := cellL hSw 5 (v := .int .u32 (kk : Int)) rfl)
                    go_simp
                    all_goals with_reducible rfl
                  (try simp only [List.getElem_toArray, List.getElem_cons_zero, List.getElem_cons_succ, Act.put, List.setIfInBounds_toArray, List.set_cons_zero, List.set_cons_succ])
                  refine wpAnyH_take (i := 7) (v := ?_) rfl (by kernel_rfl) (by kernel_rfl) (by kernel_rfl) (fun _ _ _ h => h) (Or.inl ⟨by rfl, ?_⟩) (by assumption) ?_
                  rotate_left
                  · intro wS hSw
                    (have d4 := cellL hSw 4 (v := .int .i64 op) rfl; have d5 := cellL hSw 5 (v := .int .u32 (kk : Int)) rfl)
                    go_simp
                    all_goals with_reducible rfl
                  (try simp only [List.getElem_toArray, List.getElem_cons_zero, List.getElem_cons_succ, Act.put, List.setIfInBounds_toArray, List.set_cons_zero, List.set_cons_succ])
                  refine wpAnyH_take (i := 8) (v := ?_) rfl (by kernel_rfl) (by kernel_rfl) (by kernel_rfl) (fun _ _ _ h => h) (Or.inl ⟨by rfl, ?_⟩) (by assumption) ?_
                  rotate_left
                  · intro wS hSw
                    (have d4 := cellL hSw 4 (v := .int .i64 op) rfl; have d5 := cellL hSw 5 (v := .int .u32 (kk : Int)) rfl)
                    go_simp
                    all_goals with_reducible rfl
                  (try simp only [List.getElem_toArray, List.getElem_cons_zero, List.getElem_cons_succ, Act.put, List.setIfInBounds_toArray, List.set_cons_zero, List.set_cons_succ])
                  refine wpAnyH_take (i := 9) (v := ?_) rfl (by kernel_rfl) (by kernel_rfl) (by kernel_rfl) (fun _ _ _ h => h) (Or.inl ⟨by rfl, ?_⟩) (by assumption) ?_
                  rotate_left
                  · intro wS hSw
                    (have d4 := cellL hSw 4 (v := .int .i64 op) rfl; have d5 := cellL hSw 5 (v := .int .u32 (kk : Int)) rfl)
                    go_simp
                    all_goals with_reducible rfl
                  (try simp only [List.getElem_toArray, List.getElem_cons_zero, List.getElem_cons_succ, Act.put, List.setIfInBounds_toArray, List.set_cons_zero, List.set_cons_succ])
                  refine held_one (i := 3) (by kernel_rfl) rfl (fun K hK => ?_)
                  go_simp
                  go_at_call 18
                  refine (HC.out _).mono ?_
                  rintro e w9 ⟨rfl, rfl⟩
                  refine hK.out _ _ H6.out.box (fun hH2 => ?_)
                  clear hK K hHeld
                  (try simp only [Act.put, List.setIfInBounds_toArray, List.set_cons_zero, List.set_cons_succ, List.getElem_toArray, List.getElem_cons_zero, List.getElem_cons_succ])
                  refine wpAnyH_take (i := 10) (v := ?_) rfl (by kernel_rfl) (by kernel_rfl) (by kernel_rfl) (fun _ _ _ h => h) (Or.inl ⟨by rfl, ?_⟩) (by assumption) ?_
                  rotate_left
                  · intro wS hSw
                    (skip)
                    go_simp
                    all_goals with_reducible rfl
                  (try simp only [List.getElem_toArray, List.getElem_cons_zero, List.getElem_cons_succ, Act.put, List.setIfInBounds_toArray, List.set_cons_zero, List.set_cons_succ])
                  refine held_one (i := 11) (by kernel_rfl) rfl (fun K hK => ?_)
                  go_simp
                  refine hK.out _ _ (H6.out.alloc _) (fun hH3 => ?_)
                  clear hK K hH2
                  (try simp only [Act.put, List.setIfInBounds_toArray, List.set_cons_zero, List.set_cons_succ, List.getElem_toArray, List.getElem_cons_zero, List.getElem_cons_succ])
                  obtain ⟨i8, hi8, hz8, hs8, hb8⟩ := info_parts6 info_insL
                  refine held_one (i := 12) (by kernel_rfl) rfl (fun K hK => ?_)
                  rw [if_pos (by kernel_rfl)]
                  refine oper_append6 (.tmp 93) (.tmp 104) 29 rfl B 39 i8 _ 4 8 Try.underlying29 hi8 hz8 hs8 hb8 rfl (by decide) (.slice A1 m1 c1) m1 (i4L (emitN nd lg k ++ [(32, 0, 0, uo)])) rfl (own_below H6.out.own (lboxL _ _)) ⟨w9.heap.size, 0, none⟩ 1 1 (i4C (cop, u8N (0), u8N ((fF : Int) - (m1 : Int) - 1), kk)) rfl rfl (i4_new _ _) (i4_one _) (by have q := H4b.out; unfold maxLen; omega) (by have q := H4b.out; omega) (Nat.le_trans (Nat.le_trans H6.out.le H6.out.bel.size) (lboxL _ _).size) ?_
                  intro v' V7 ho hg hb
                  obtain ⟨A7, c7, m7, rfl, hm9, hO9⟩ := out_step H6.out ho hg hb
                  have H7 := Lib.hid hO9
                  have H7m := Lib.hid hm9
                  have H7b : Hid (m7 ≤ 20482) := Lib.hid (by have q := H4b.out; omega)
                  refine hK.out _ _ H7.out.box (fun hH4 => ?_)
                  clear hK K hH3 ho hg hb hO9 hm9 hx8 hy8
                  (try simp only [Act.put, List.setIfInBounds_toArray, List.set_cons_zero, List.set_cons_succ, List.getElem_toArray, List.getElem_cons_zero, List.getElem_cons_succ])
                  refine wpAnyH_take (i := 13) (v := ?_) rfl (by kernel_rfl) (by kernel_rfl) (by kernel_rfl) (fun _ _ _ h => h) (Or.inl ⟨by rfl, ?_⟩) (by assumption) ?_
                  rotate_left
                  · intro wS hSw
                    (skip)
                    go_simp
                    all_goals with_reducible rfl
                  (try simp only [List.getElem_toArray, List.getElem_cons_zero, List.getElem_cons_succ, Act.put, List.setIfInBounds_toArray, List.set_cons_zero, List.set_cons_succ])
                  refine wpAnyH_done (by kernel_rfl) ?_ _
                  refine hK8 _ _ ?_
                  clear hK8 K8 hH4 H6
                  have d6 := cellL H7.out.box 6 (v := .int .i64 (t : Int)) rfl
                  have d7 := cellL H7.out.box 7 (v := .int .i64 (f : Int)) rfl
                  have g0 : V7.cell? ⟨fb, k * 2, none⟩ = some (.bool true) := (HFA.out V7 H7.out.bel).1
                  have g1 : V7.cell? ⟨fb, k * 2 + 1, none⟩ = some (.bool false) := (HFA.out V7 H7.out.bel).2
                  have q1 := (HAT.out V7 H7.out.bel).1
                  have q2 := (HAT.out V7 H7.out.bel).2
                  have hwT : IntKind.i64.wrap ((fT : Int) - (m7 : Int)) = (fT : Int) - (m7 : Int) := IntWalk.i64_in _ (by have q := HFB.out; have q9 := H7b.out; omega)
                  have hwT1 : IntKind.i64.wrap ((fT : Int) - (m7 : Int) - 1) = (fT : Int) - (m7 : Int) - 1 := IntWalk.i64_in _ (by have q := HFB.out; have q9 := H7b.out; omega)
                  have hu1 := u32_wrap ((fT : Int) - (m7 : Int) - 1)
                  go_wp2_with (first
                    | (at_builtin; refine wpList_append_own _ rfl (.tmp 111) (.tmp 123) 29 rfl 39 _ 4 8 Try.underlying29 info_insL rfl (by decide) B (.slice A7 m7 c7) m7 (i4L (emitN nd lg k ++ [(32, 0, 0, uo)] ++ [(cop, u8N (0), u8N ((fF : Int) - (m1 : Int) - 1), kk)])) rfl (own_below H7.out.own (lboxL _ _)) ⟨V7.heap.size, 0, none⟩ 1 1 (i4C (5, 0, 0, u32N ((fT : Int) - (m7 : Int) - 1))) rfl rfl (i4_new _ _) (i4_one _) (by have q := H7b.out; unfold maxLen; omega) (by have q := H7b.out; omega) (Nat.le_trans (Nat.le_trans H7.out.le H7.out.bel.size) (lboxL _ _).size) ?_; intro v' V8 ho hg hb; obtain ⟨A8, c8, m8, rfl, hm9, hO9⟩ := out_step H7.out ho hg hb; have H8 := Lib.hid hO9; have H8m := Lib.hid hm9; have H8b : Hid (m8 ≤ 20483) := Lib.hid (by have q := H7b.out; omega) ; clear ho hg hb hO9 hm9; clear hwT hwT1 hu1 d6 d7 g0 g1 q1 q2; have d7 := cellL H8.out.box 7 (v := .int .i64 (f : Int)) rfl; have g1 : V8.cell? ⟨fb, k * 2 + 1, none⟩ = some (.bool false) := (HFA.out V8 H8.out.bel).2; have q2 := (HAT.out V8 H8.out.bel).2))
                  have heq : emitN nd lg (k + 1) = emitN nd lg k ++ [(32, 0, 0, uo)] ++ [(cop, u8N (0), u8N ((fF : Int) - (m1 : Int) - 1), kk)] ++ [(5, 0, 0, u32N ((fT : Int) - (m7 : Int) - 1))] := by
                    have hov := HOV.out m1 (by have z1 := H4m.out; have z3 := HLN.out; have z4 := HJA.out; rw [if_pos HK9.out] at z4; omega)
                    have e1 : overT nd lg k - 1 = (fT : Int) - (m7 : Int) - 1 := by have z := H7m.out; rw [hov.1]; omega
                    have ej : jumpN nd lg k = (cop, u8N (0), u8N ((fF : Int) - (m1 : Int) - 1), kk) := by rw [HJ.out]; rw [hov.2]; rfl
                    have et : wayT nd lg k = [(5, 0, 0, u32N ((fT : Int) - (m7 : Int) - 1))] := by rw [HWT.out]; rw [← e1]; rfl
                    have ef : wayF nd lg k = [] := by rw [HWF.out]; rfl
                    rw [HNX.out, HI.out, HHD.out, if_pos HK9.out, ej, et, ef]
                    simp only [List.append_assoc, List.cons_append, List.nil_append, List.append_nil]
                  exact ⟨⟨k + 1, by omega, by go_num, A8, c8, m8, rfl, by rw [heq]; exact H8.out.own, by rw [heq]; exact H8.out.len, H8.out.bel⟩, by simp [intOf]; omega⟩
              | false =>
                cases a2 with
                | true =>
                  go_upto_region 27 with (first
                    | (at_builtin; refine wpList_append_own _ rfl (.tmp 48) (.tmp 53) 29 rfl 39 _ 4 8 Try.underlying29 info_insL rfl (by decide) B (.slice Ao mo co) mo (i4L (emitN nd lg k)) rfl (own_below HR.out.own (lboxL _ _)) ⟨V0.heap.size, 0, none⟩ 1 1 (i4C (32, 0, 0, uo)) rfl rfl (i4_new _ _) (i4_one _) (by have q := HRb.out; unfold maxLen; omega) (by have q := HRb.out; omega) (Nat.le_trans (Nat.le_trans HR.out.le HR.out.bel.size) (lboxL _ _).size) ?_; intro v' V1 ho hg hb; obtain ⟨A1, c1, m1, rfl, hm9, hO9⟩ := out_step HR.out ho hg hb; have H4 := Lib.hid hO9; have H4m := Lib.hid hm9; have H4b : Hid (m1 ≤ 20481) := Lib.hid (by have q := HRb.out; omega) ; clear ho hg hb hO9 hm9; clear d0 d2; have d3 := cellL H4.out.box 3 (v := .int .u32 (mask : Int)) rfl; have d6 := cellL H4.out.box 6 (v := .int .i64 (t : Int)) rfl; have d7 := cellL H4.out.box 7 (v := .int .i64 (f : Int)) rfl; have g0 : V1.cell? ⟨fb, k * 2, none⟩ = some (.bool false) := (HFA.out V1 H4.out.bel).1; have g1 : V1.cell? ⟨fb, k * 2 + 1, none⟩ = some (.bool true) := (HFA.out V1 H4.out.bel).2; have q1 := (HAT.out V1 H4.out.bel).1; have q2 := (HAT.out V1 H4.out.bel).2; have hwT : IntKind.i64.wrap ((fT : Int) - (m1 : Int)) = (fT : Int) - (m1 : Int) := IntWalk.i64_in _ (by have q := HFB.out; have q9 := H4b.out; omega); have hwF : IntKind.i64.wrap ((fF : Int) - (m1 : Int)) = (fF : Int) - (m1 : Int) := IntWalk.i64_in _ (by have q := HFB.out; have q9 := H4b.out; omega); have hwT1 : IntKind.i64.wrap ((fT : Int) - (m1 : Int) - 1) = (fT : Int) - (m1 : Int) - 1 := IntWalk.i64_in _ (by have q := HFB.out; have q9 := H4b.out; omega); have hwF1 : IntKind.i64.wrap ((fF : Int) - (m1 : Int) - 1) = (fF : Int) - (m1 : Int) - 1 := IntWalk.i64_in _ (by have q := HFB.out; have q9 := H4b.out; omega)))
                  rename_i K8 hK8
                  have hx8 : IntKind.u8.wrap ((fT : Int) - (m1 : Int) - 1) = ((u8N ((fT : Int) - (m1 : Int) - 1) : Nat) : Int) := u8_wrap _
                  have hy8 : IntKind.u8.wrap (0 : Int) = ((u8N (0) : Nat) : Int) := u8_wrap _
                  clear d3 d6 d7 g0 g1 q1 q2 hwT hwF hwT1 hwF1
                  refine wp_region_held_drew (S := fun W' => W'.heap[nb]? = some (ndO ⟨false, word, off, mask, op, kk, (t : Int), (f : Int)⟩)) (by kernel_rfl) H4.out.box (fun hHeld => ?_)
                  have H6 := Lib.hid H4.out.drew
                  generalize V1.drew = Y at H6 hHeld ⊢
                  refine wpAnyH_take (i := 0) (v := ?_) rfl (by kernel_rfl) (by kernel_rfl) (by kernel_rfl) (fun _ _ _ h => h) (Or.inl ⟨by rfl, ?_⟩) (by assumption) ?_
                  rotate_left
                  · intro wS hSw
                    (have d4 := cellL hSw 4 (v := .int .i64 op) rfl; have d5 := cellL hSw 5 (v := .int .u32 (kk : Int)) rfl)
                    go_simp
                    all_goals with_reducible rfl
                  (try simp only [List.getElem_toArray, List.getElem_cons_zero, List.getElem_cons_succ, Act.put, List.setIfInBounds_toArray, List.set_cons_zero, List.set_cons_succ])
                  refine wpAnyH_take (i := 1) (v := ?_) rfl (by kernel_rfl) (by kernel_rfl) (by kernel_rfl) (fun _ _ _ h => h) (Or.inl ⟨by rfl, ?_⟩) (by assumption) ?_
                  rotate_left
                  · intro wS hSw
                    (have d4 := cellL hSw 4 (v := .int .i64 op) rfl; have d5 := cellL hSw 5 (v := .int .u32 (kk : Int)) rfl)
                    go_simp
                    all_goals with_reducible rfl
                  (try simp only [List.getElem_toArray, List.getElem_cons_zero, List.getElem_cons_succ, Act.put, List.setIfInBounds_toArray, List.set_cons_zero, List.set_cons_succ])
                  refine wpAnyH_take (i := 2) (v := ?_) rfl (by kernel_rfl) (by kernel_rfl) (by kernel_rfl) (fun _ _ _ h => h) (Or.inl ⟨by rfl, ?_⟩) (by assumption) ?_
                  rotate_left
                  · intro wS hSw
                    (have d4 := cellL hSw 4 (v := .int .i64 op) rfl; have d5 := cellL hSw 5 (v := .int .u32 (kk : Int)) rfl)
                    go_simp
                    all_goals with_reducible rfl
                  (try simp only [List.getElem_toArray, List.getElem_cons_zero, List.getElem_cons_succ, Act.put, List.setIfInBounds_toArray, List.set_cons_zero, List.set_cons_succ])
                  refine wpAnyH_take (i := 4) (v := ?_) rfl (by kernel_rfl) (by kernel_rfl) (by kernel_rfl) (fun _ _ _ h => h) (Or.inl ⟨by rfl, ?_⟩) (by assumption) ?_
                  rotate_left
                  · intro wS hSw
                    (have d4 := cellL hSw 4 (v := .int .i64 op) rfl; have d5 := cellL hSw 5 (v := .int .u32 (kk : Int)) rfl)
                    go_simp
                    all_goals with_reducible rfl
                  (try simp only [List.getElem_toArray, List.getElem_cons_zero, List.getElem_cons_succ, Act.put, List.setIfInBounds_toArray, List.set_cons_zero, List.set_cons_succ])
                  refine wpAnyH_take (i := 5) (v := ?_) rfl (by kernel_rfl) (by kernel_rfl) (by kernel_rfl) (fun _ _ _ h => h) (Or.inl ⟨by rfl, ?_⟩) (by assumption) ?_
                  rotate_left
                  · intro wS hSw
                    (have d4 := cellL hSw 4 (v := .int .i64 op) rfl; have d5 := cellL hSw 5 (v := .int .u32 (kk : Int)) rfl)
                    go_simp
                    all_goals with_reducible rfl
                  (try simp only [List.getElem_toArray, List.getElem_cons_zero, List.getElem_cons_succ, Act.put, List.setIfInBounds_toArray, List.set_cons_zero, List.set_cons_succ])
                  refine wpAnyH_take (i := 6) (v := ?_) rfl (by kernel_rfl) (by kernel_rfl) (by kernel_rfl) (fun _ _ _ h => h) (Or.inl ⟨by rfl, ?_⟩) (by assumption) ?_
                  rotate_left
                  · intro wS hSw
                    (have d4 := cellL hSw 4 (v := .int .i64 op) rfl; have d5 := cellL hSw 5 (v := .int .u32 (kk : Int)) rfl)
                    go_simp
                    all_goals with_reducible rfl
                  (try simp only [List.getElem_toArray, List.getElem_cons_zero, List.getElem_cons_succ, Act.put, List.setIfInBounds_toArray, List.set_cons_zero, List.set_cons_succ])
                  refine wpAnyH_take (i := 7) (v := ?_) rfl (by kernel_rfl) (by kernel_rfl) (by kernel_rfl) (fun _ _ _ h => h) (Or.inl ⟨by rfl, ?_⟩) (by assumption) ?_
                  rotate_left
                  · intro wS hSw
                    (have d4 := cellL hSw 4 (v := .int .i64 op) rfl; have d5 := cellL hSw 5 (v := .int .u32 (kk : Int)) rfl)
                    go_simp
                    all_goals with_reducible rfl
                  (try simp only [List.getElem_toArray, List.getElem_cons_zero, List.getElem_cons_succ, Act.put, List.setIfInBounds_toArray, List.set_cons_zero, List.set_cons_succ])
                  refine wpAnyH_take (i := 8) (v := ?_) rfl (by kernel_rfl) (by kernel_rfl) (by kernel_rfl) (fun _ _ _ h => h) (Or.inl ⟨by rfl, ?_⟩) (by assumption) ?_
                  rotate_left
                  · intro wS hSw
                    (have d4 := cellL hSw 4 (v := .int .i64 op) rfl; have d5 := cellL hSw 5 (v := .int .u32 (kk : Int)) rfl)
                    go_simp
                    all_goals with_reducible rfl
                  (try simp only [List.getElem_toArray, List.getElem_cons_zero, List.getElem_cons_succ, Act.put, List.setIfInBounds_toArray, List.set_cons_zero, List.set_cons_succ])
                  refine wpAnyH_take (i := 9) (v := ?_) rfl (by kernel_rfl) (by kernel_rfl) (by kernel_rfl) (fun _ _ _ h => h) (Or.inl ⟨by rfl, ?_⟩) (by assumption) ?_
                  rotate_left
                  · intro wS hSw
                    (have d4 := cellL hSw 4 (v := .int .i64 op) rfl; have d5 := cellL hSw 5 (v := .int .u32 (kk : Int)) rfl)
                    go_simp
                    all_goals with_reducible rfl
                  (try simp only [List.getElem_toArray, List.getElem_cons_zero, List.getElem_cons_succ, Act.put, List.setIfInBounds_toArray, List.set_cons_zero, List.set_cons_succ])
                  refine held_one (i := 3) (by kernel_rfl) rfl (fun K hK => ?_)
                  go_simp
                  go_at_call 18
                  refine (HC.out _).mono ?_
                  rintro e w9 ⟨rfl, rfl⟩
                  refine hK.out _ _ H6.out.box (fun hH2 => ?_)
                  clear hK K hHeld
                  (try simp only [Act.put, List.setIfInBounds_toArray, List.set_cons_zero, List.set_cons_succ, List.getElem_toArray, List.getElem_cons_zero, List.getElem_cons_succ])
                  refine wpAnyH_take (i := 10) (v := ?_) rfl (by kernel_rfl) (by kernel_rfl) (by kernel_rfl) (fun _ _ _ h => h) (Or.inl ⟨by rfl, ?_⟩) (by assumption) ?_
                  rotate_left
                  · intro wS hSw
                    (skip)
                    go_simp
                    all_goals with_reducible rfl
                  (try simp only [List.getElem_toArray, List.getElem_cons_zero, List.getElem_cons_succ, Act.put, List.setIfInBounds_toArray, List.set_cons_zero, List.set_cons_succ])
                  refine held_one (i := 11) (by kernel_rfl) rfl (fun K hK => ?_)
                  go_simp
                  refine hK.out _ _ (H6.out.alloc _) (fun hH3 => ?_)
                  clear hK K hH2
                  (try simp only [Act.put, List.setIfInBounds_toArray, List.set_cons_zero, List.set_cons_succ, List.getElem_toArray, List.getElem_cons_zero, List.getElem_cons_succ])
                  obtain ⟨i8, hi8, hz8, hs8, hb8⟩ := info_parts6 info_insL
                  refine held_one (i := 12) (by kernel_rfl) rfl (fun K hK => ?_)
                  rw [if_pos (by kernel_rfl)]
                  refine oper_append6 (.tmp 93) (.tmp 104) 29 rfl B 39 i8 _ 4 8 Try.underlying29 hi8 hz8 hs8 hb8 rfl (by decide) (.slice A1 m1 c1) m1 (i4L (emitN nd lg k ++ [(32, 0, 0, uo)])) rfl (own_below H6.out.own (lboxL _ _)) ⟨w9.heap.size, 0, none⟩ 1 1 (i4C (cop, u8N ((fT : Int) - (m1 : Int) - 1), u8N (0), kk)) rfl rfl (i4_new _ _) (i4_one _) (by have q := H4b.out; unfold maxLen; omega) (by have q := H4b.out; omega) (Nat.le_trans (Nat.le_trans H6.out.le H6.out.bel.size) (lboxL _ _).size) ?_
                  intro v' V7 ho hg hb
                  obtain ⟨A7, c7, m7, rfl, hm9, hO9⟩ := out_step H6.out ho hg hb
                  have H7 := Lib.hid hO9
                  have H7m := Lib.hid hm9
                  have H7b : Hid (m7 ≤ 20482) := Lib.hid (by have q := H4b.out; omega)
                  refine hK.out _ _ H7.out.box (fun hH4 => ?_)
                  clear hK K hH3 ho hg hb hO9 hm9 hx8 hy8
                  (try simp only [Act.put, List.setIfInBounds_toArray, List.set_cons_zero, List.set_cons_succ, List.getElem_toArray, List.getElem_cons_zero, List.getElem_cons_succ])
                  refine wpAnyH_take (i := 13) (v := ?_) rfl (by kernel_rfl) (by kernel_rfl) (by kernel_rfl) (fun _ _ _ h => h) (Or.inl ⟨by rfl, ?_⟩) (by assumption) ?_
                  rotate_left
                  · intro wS hSw
                    (skip)
                    go_simp
                    all_goals with_reducible rfl
                  (try simp only [List.getElem_toArray, List.getElem_cons_zero, List.getElem_cons_succ, Act.put, List.setIfInBounds_toArray, List.set_cons_zero, List.set_cons_succ])
                  refine wpAnyH_done (by kernel_rfl) ?_ _
                  refine hK8 _ _ ?_
                  clear hK8 K8 hH4 H6
                  have d6 := cellL H7.out.box 6 (v := .int .i64 (t : Int)) rfl
                  have d7 := cellL H7.out.box 7 (v := .int .i64 (f : Int)) rfl
                  have g0 : V7.cell? ⟨fb, k * 2, none⟩ = some (.bool false) := (HFA.out V7 H7.out.bel).1
                  have g1 : V7.cell? ⟨fb, k * 2 + 1, none⟩ = some (.bool true) := (HFA.out V7 H7.out.bel).2
                  have q1 := (HAT.out V7 H7.out.bel).1
                  have q2 := (HAT.out V7 H7.out.bel).2
                  have hwF : IntKind.i64.wrap ((fF : Int) - (m7 : Int)) = (fF : Int) - (m7 : Int) := IntWalk.i64_in _ (by have q := HFB.out; have q9 := H7b.out; omega)
                  have hwF1 : IntKind.i64.wrap ((fF : Int) - (m7 : Int) - 1) = (fF : Int) - (m7 : Int) - 1 := IntWalk.i64_in _ (by have q := HFB.out; have q9 := H7b.out; omega)
                  have hu2 := u32_wrap ((fF : Int) - (m7 : Int) - 1)
                  go_wp2_with (first
                    | (at_builtin; refine wpList_append_own _ rfl (.tmp 130) (.tmp 142) 29 rfl 39 _ 4 8 Try.underlying29 info_insL rfl (by decide) B (.slice A7 m7 c7) m7 (i4L (emitN nd lg k ++ [(32, 0, 0, uo)] ++ [(cop, u8N ((fT : Int) - (m1 : Int) - 1), u8N (0), kk)])) rfl (own_below H7.out.own (lboxL _ _)) ⟨V7.heap.size, 0, none⟩ 1 1 (i4C (5, 0, 0, u32N ((fF : Int) - (m7 : Int) - 1))) rfl rfl (i4_new _ _) (i4_one _) (by have q := H7b.out; unfold maxLen; omega) (by have q := H7b.out; omega) (Nat.le_trans (Nat.le_trans H7.out.le H7.out.bel.size) (lboxL _ _).size) ?_; intro v' V9 ho hg hb; obtain ⟨A9, c9x, m9, rfl, hm9, hO9⟩ := out_step H7.out ho hg hb; have H9 := Lib.hid hO9; have H9m := Lib.hid hm9; have H9b : Hid (m9 ≤ 20483) := Lib.hid (by have q := H7b.out; omega) ; clear ho hg hb hO9 hm9; skip))
                  have heq : emitN nd lg (k + 1) = emitN nd lg k ++ [(32, 0, 0, uo)] ++ [(cop, u8N ((fT : Int) - (m1 : Int) - 1), u8N (0), kk)] ++ [(5, 0, 0, u32N ((fF : Int) - (m7 : Int) - 1))] := by
                    have hov := HOV.out m1 (by have z1 := H4m.out; have z3 := HLN.out; have z4 := HJA.out; rw [if_pos HK9.out] at z4; omega)
                    have e2 : overF nd lg k - 1 = (fF : Int) - (m7 : Int) - 1 := by have z := H7m.out; rw [hov.2]; omega
                    have ej : jumpN nd lg k = (cop, u8N ((fT : Int) - (m1 : Int) - 1), u8N (0), kk) := by rw [HJ.out]; rw [hov.1]; rfl
                    have et : wayT nd lg k = [] := by rw [HWT.out]; rfl
                    have ef : wayF nd lg k = [(5, 0, 0, u32N ((fF : Int) - (m7 : Int) - 1))] := by rw [HWF.out]; rw [← e2]; rfl
                    rw [HNX.out, HI.out, HHD.out, if_pos HK9.out, ej, et, ef]
                    simp only [List.append_assoc, List.cons_append, List.nil_append, List.append_nil]
                  exact ⟨⟨k + 1, by omega, by go_num, A9, c9x, m9, rfl, by rw [heq]; exact H9.out.own, by rw [heq]; exact H9.out.len, H9.out.bel⟩, by simp [intOf]; omega⟩
                | false =>
                  go_upto_region 27 with (first
                    | (at_builtin; refine wpList_append_own _ rfl (.tmp 48) (.tmp 53) 29 rfl 39 _ 4 8 Try.underlying29 info_insL rfl (by decide) B (.slice Ao mo co) mo (i4L (emitN nd lg k)) rfl (own_below HR.out.own (lboxL _ _)) ⟨V0.heap.size, 0, none⟩ 1 1 (i4C (32, 0, 0, uo)) rfl rfl (i4_new _ _) (i4_one _) (by have q := HRb.out; unfold maxLen; omega) (by have q := HRb.out; omega) (Nat.le_trans (Nat.le_trans HR.out.le HR.out.bel.size) (lboxL _ _).size) ?_; intro v' V1 ho hg hb; obtain ⟨A1, c1, m1, rfl, hm9, hO9⟩ := out_step HR.out ho hg hb; have H4 := Lib.hid hO9; have H4m := Lib.hid hm9; have H4b : Hid (m1 ≤ 20481) := Lib.hid (by have q := HRb.out; omega) ; clear ho hg hb hO9 hm9; clear d0 d2; have d3 := cellL H4.out.box 3 (v := .int .u32 (mask : Int)) rfl; have d6 := cellL H4.out.box 6 (v := .int .i64 (t : Int)) rfl; have d7 := cellL H4.out.box 7 (v := .int .i64 (f : Int)) rfl; have g0 : V1.cell? ⟨fb, k * 2, none⟩ = some (.bool false) := (HFA.out V1 H4.out.bel).1; have g1 : V1.cell? ⟨fb, k * 2 + 1, none⟩ = some (.bool false) := (HFA.out V1 H4.out.bel).2; have q1 := (HAT.out V1 H4.out.bel).1; have q2 := (HAT.out V1 H4.out.bel).2; have hwT : IntKind.i64.wrap ((fT : Int) - (m1 : Int)) = (fT : Int) - (m1 : Int) := IntWalk.i64_in _ (by have q := HFB.out; have q9 := H4b.out; omega); have hwF : IntKind.i64.wrap ((fF : Int) - (m1 : Int)) = (fF : Int) - (m1 : Int) := IntWalk.i64_in _ (by have q := HFB.out; have q9 := H4b.out; omega); have hwT1 : IntKind.i64.wrap ((fT : Int) - (m1 : Int) - 1) = (fT : Int) - (m1 : Int) - 1 := IntWalk.i64_in _ (by have q := HFB.out; have q9 := H4b.out; omega); have hwF1 : IntKind.i64.wrap ((fF : Int) - (m1 : Int) - 1) = (fF : Int) - (m1 : Int) - 1 := IntWalk.i64_in _ (by have q := HFB.out; have q9 := H4b.out; omega)))
                  rename_i K8 hK8
                  have hx8 : IntKind.u8.wrap ((fT : Int) - (m1 : Int) - 1) = ((u8N ((fT : Int) - (m1 : Int) - 1) : Nat) : Int) := u8_wrap _
                  have hy8 : IntKind.u8.wrap ((fF : Int) - (m1 : Int) - 1) = ((u8N ((fF : Int) - (m1 : Int) - 1) : Nat) : Int) := u8_wrap _
                  clear d3 d6 d7 g0 g1 q1 q2 hwT hwF hwT1 hwF1
                  refine wp_region_held_drew (S := fun W' => W'.heap[nb]? = some (ndO ⟨false, word, off, mask, op, kk, (t : Int), (f : Int)⟩)) (by kernel_rfl) H4.out.box (fun hHeld => ?_)
                  have H6 := Lib.hid H4.out.drew
                  generalize V1.drew = Y at H6 hHeld ⊢
                  refine wpAnyH_take (i := 0) (v := ?_) rfl (by kernel_rfl) (by kernel_rfl) (by kernel_rfl) (fun _ _ _ h => h) (Or.inl ⟨by rfl, ?_⟩) (by assumption) ?_
                  rotate_left
                  · intro wS hSw
                    (have d4 := cellL hSw 4 (v := .int .i64 op) rfl; have d5 := cellL hSw 5 (v := .int .u32 (kk : Int)) rfl)
                    go_simp
                    all_goals with_reducible rfl
                  (try simp only [List.getElem_toArray, List.getElem_cons_zero, List.getElem_cons_succ, Act.put, List.setIfInBounds_toArray, List.set_cons_zero, List.set_cons_succ])
                  refine wpAnyH_take (i := 1) (v := ?_) rfl (by kernel_rfl) (by kernel_rfl) (by kernel_rfl) (fun _ _ _ h => h) (Or.inl ⟨by rfl, ?_⟩) (by assumption) ?_
                  rotate_left
                  · intro wS hSw
                    (have d4 := cellL hSw 4 (v := .int .i64 op) rfl; have d5 := cellL hSw 5 (v := .int .u32 (kk : Int)) rfl)
                    go_simp
                    all_goals with_reducible rfl
                  (try simp only [List.getElem_toArray, List.getElem_cons_zero, List.getElem_cons_succ, Act.put, List.setIfInBounds_toArray, List.set_cons_zero, List.set_cons_succ])
                  refine wpAnyH_take (i := 2) (v := ?_) rfl (by kernel_rfl) (by kernel_rfl) (by kernel_rfl) (fun _ _ _ h => h) (Or.inl ⟨by rfl, ?_⟩) (by assumption) ?_
                  rotate_left
                  · intro wS hSw
                    (have d4 := cellL hSw 4 (v := .int .i64 op) rfl; have d5 := cellL hSw 5 (v := .int .u32 (kk : Int)) rfl)
                    go_simp
                    all_goals with_reducible rfl
                  (try simp only [List.getElem_toArray, List.getElem_cons_zero, List.getElem_cons_succ, Act.put, List.setIfInBounds_toArray, List.set_cons_zero, List.set_cons_succ])
                  refine wpAnyH_take (i := 4) (v := ?_) rfl (by kernel_rfl) (by kernel_rfl) (by kernel_rfl) (fun _ _ _ h => h) (Or.inl ⟨by rfl, ?_⟩) (by assumption) ?_
                  rotate_left
                  · intro wS hSw
                    (have d4 := cellL hSw 4 (v := .int .i64 op) rfl; have d5 := cellL hSw 5 (v := .int .u32 (kk : Int)) rfl)
                    go_simp
                    all_goals with_reducible rfl
                  (try simp only [List.getElem_toArray, List.getElem_cons_zero, List.getElem_cons_succ, Act.put, List.setIfInBounds_toArray, List.set_cons_zero, List.set_cons_succ])
                  refine wpAnyH_take (i := 5) (v := ?_) rfl (by kernel_rfl) (by kernel_rfl) (by kernel_rfl) (fun _ _ _ h => h) (Or.inl ⟨by rfl, ?_⟩) (by assumption) ?_
                  rotate_left
                  · intro wS hSw
                    (have d4 := cellL hSw 4 (v := .int .i64 op) rfl; have d5 := cellL hSw 5 (v := .int .u32 (kk : Int)) rfl)
                    go_simp
                    all_goals with_reducible rfl
                  (try simp only [List.getElem_toArray, List.getElem_cons_zero, List.getElem_cons_succ, Act.put, List.setIfInBounds_toArray, List.set_cons_zero, List.set_cons_succ])
                  refine wpAnyH_take (i := 6) (v := ?_) rfl (by kernel_rfl) (by kernel_rfl) (by kernel_rfl) (fun _ _ _ h => h) (Or.inl ⟨by rfl, ?_⟩) (by assumption) ?_
                  rotate_left
                  · intro wS hSw
                    (have d4 := cellL hSw 4 (v := .int .i64 op) rfl; have d5 := cellL hSw 5 (v := .int .u32 (kk : Int)) rfl)
                    go_simp
                    all_goals with_reducible rfl
                  (try simp only [List.getElem_toArray, List.getElem_cons_zero, List.getElem_cons_succ, Act.put, List.setIfInBounds_toArray, List.set_cons_zero, List.set_cons_succ])
                  refine wpAnyH_take (i := 7) (v := ?_) rfl (by kernel_rfl) (by kernel_rfl) (by kernel_rfl) (fun _ _ _ h => h) (Or.inl ⟨by rfl, ?_⟩) (by assumption) ?_
                  rotate_left
                  · intro wS hSw
                    (have d4 := cellL hSw 4 (v := .int .i64 op) rfl; have d5 := cellL hSw 5 (v := .int .u32 (kk : Int)) rfl)
                    go_simp
                    all_goals with_reducible rfl
                  (try simp only [List.getElem_toArray, List.getElem_cons_zero, List.getElem_cons_succ, Act.put, List.setIfInBounds_toArray, List.set_cons_zero, List.set_cons_succ])
                  refine wpAnyH_take (i := 8) (v := ?_) rfl (by kernel_rfl) (by kernel_rfl) (by kernel_rfl) (fun _ _ _ h => h) (Or.inl ⟨by rfl, ?_⟩) (by assumption) ?_
                  rotate_left
                  · intro wS hSw
                    (have d4 := cellL hSw 4 (v := .int .i64 op) rfl; have d5 := cellL hSw 5 (v := .int .u32 (kk : Int)) rfl)
                    go_simp
                    all_goals with_reducible rfl
                  (try simp only [List.getElem_toArray, List.getElem_cons_zero, List.getElem_cons_succ, Act.put, List.setIfInBounds_toArray, List.set_cons_zero, List.set_cons_succ])
                  refine wpAnyH_take (i := 9) (v := ?_) rfl (by kernel_rfl) (by kernel_rfl) (by kernel_rfl) (fun _ _ _ h => h) (Or.inl ⟨by rfl, ?_⟩) (by assumption) ?_
                  rotate_left
                  · intro wS hSw
                    (have d4 := cellL hSw 4 (v := .int .i64 op) rfl; have d5 := cellL hSw 5 (v := .int .u32 (kk : Int)) rfl)
                    go_simp
                    all_goals with_reducible rfl
                  (try simp only [List.getElem_toArray, List.getElem_cons_zero, List.getElem_cons_succ, Act.put, List.setIfInBounds_toArray, List.set_cons_zero, List.set_cons_succ])
                  refine held_one (i := 3) (by kernel_rfl) rfl (fun K hK => ?_)
                  go_simp
                  go_at_call 18
                  refine (HC.out _).mono ?_
                  rintro e w9 ⟨rfl, rfl⟩
                  refine hK.out _ _ H6.out.box (fun hH2 => ?_)
                  clear hK K hHeld
                  (try simp only [Act.put, List.setIfInBounds_toArray, List.set_cons_zero, List.set_cons_succ, List.getElem_toArray, List.getElem_cons_zero, List.getElem_cons_succ])
                  refine wpAnyH_take (i := 10) (v := ?_) rfl (by kernel_rfl) (by kernel_rfl) (by kernel_rfl) (fun _ _ _ h => h) (Or.inl ⟨by rfl, ?_⟩) (by assumption) ?_
                  rotate_left
                  · intro wS hSw
                    (skip)
                    go_simp
                    all_goals with_reducible rfl
                  (try simp only [List.getElem_toArray, List.getElem_cons_zero, List.getElem_cons_succ, Act.put, List.setIfInBounds_toArray, List.set_cons_zero, List.set_cons_succ])
                  refine held_one (i := 11) (by kernel_rfl) rfl (fun K hK => ?_)
                  go_simp
                  refine hK.out _ _ (H6.out.alloc _) (fun hH3 => ?_)
                  clear hK K hH2
                  (try simp only [Act.put, List.setIfInBounds_toArray, List.set_cons_zero, List.set_cons_succ, List.getElem_toArray, List.getElem_cons_zero, List.getElem_cons_succ])
                  obtain ⟨i8, hi8, hz8, hs8, hb8⟩ := info_parts6 info_insL
                  refine held_one (i := 12) (by kernel_rfl) rfl (fun K hK => ?_)
                  rw [if_pos (by kernel_rfl)]
                  refine oper_append6 (.tmp 93) (.tmp 104) 29 rfl B 39 i8 _ 4 8 Try.underlying29 hi8 hz8 hs8 hb8 rfl (by decide) (.slice A1 m1 c1) m1 (i4L (emitN nd lg k ++ [(32, 0, 0, uo)])) rfl (own_below H6.out.own (lboxL _ _)) ⟨w9.heap.size, 0, none⟩ 1 1 (i4C (cop, u8N ((fT : Int) - (m1 : Int) - 1), u8N ((fF : Int) - (m1 : Int) - 1), kk)) rfl rfl (i4_new _ _) (i4_one _) (by have q := H4b.out; unfold maxLen; omega) (by have q := H4b.out; omega) (Nat.le_trans (Nat.le_trans H6.out.le H6.out.bel.size) (lboxL _ _).size) ?_
                  intro v' V7 ho hg hb
                  obtain ⟨A7, c7, m7, rfl, hm9, hO9⟩ := out_step H6.out ho hg hb
                  have H7 := Lib.hid hO9
                  have H7m := Lib.hid hm9
                  have H7b : Hid (m7 ≤ 20482) := Lib.hid (by have q := H4b.out; omega)
                  refine hK.out _ _ H7.out.box (fun hH4 => ?_)
                  clear hK K hH3 ho hg hb hO9 hm9 hx8 hy8
                  (try simp only [Act.put, List.setIfInBounds_toArray, List.set_cons_zero, List.set_cons_succ, List.getElem_toArray, List.getElem_cons_zero, List.getElem_cons_succ])
                  refine wpAnyH_take (i := 13) (v := ?_) rfl (by kernel_rfl) (by kernel_rfl) (by kernel_rfl) (fun _ _ _ h => h) (Or.inl ⟨by rfl, ?_⟩) (by assumption) ?_
                  rotate_left
                  · intro wS hSw
                    (skip)
                    go_simp
                    all_goals with_reducible rfl
                  (try simp only [List.getElem_toArray, List.getElem_cons_zero, List.getElem_cons_succ, Act.put, List.setIfInBounds_toArray, List.set_cons_zero, List.set_cons_succ])
                  refine wpAnyH_done (by kernel_rfl) ?_ _
                  refine hK8 _ _ ?_
                  clear hK8 K8 hH4 H6
                  have d6 := cellL H7.out.box 6 (v := .int .i64 (t : Int)) rfl
                  have d7 := cellL H7.out.box 7 (v := .int .i64 (f : Int)) rfl
                  have g0 : V7.cell? ⟨fb, k * 2, none⟩ = some (.bool false) := (HFA.out V7 H7.out.bel).1
                  have g1 : V7.cell? ⟨fb, k * 2 + 1, none⟩ = some (.bool false) := (HFA.out V7 H7.out.bel).2
                  have q1 := (HAT.out V7 H7.out.bel).1
                  have q2 := (HAT.out V7 H7.out.bel).2
                  go_wp2
                  have heq : emitN nd lg (k + 1) = emitN nd lg k ++ [(32, 0, 0, uo)] ++ [(cop, u8N ((fT : Int) - (m1 : Int) - 1), u8N ((fF : Int) - (m1 : Int) - 1), kk)] := by
                    have hov := HOV.out m1 (by have z1 := H4m.out; have z3 := HLN.out; have z4 := HJA.out; rw [if_pos HK9.out] at z4; omega)
                    have ej : jumpN nd lg k = (cop, u8N ((fT : Int) - (m1 : Int) - 1), u8N ((fF : Int) - (m1 : Int) - 1), kk) := by rw [HJ.out]; rw [hov.1, hov.2]; rfl
                    have et : wayT nd lg k = [] := by rw [HWT.out]; rfl
                    have ef : wayF nd lg k = [] := by rw [HWF.out]; rfl
                    rw [HNX.out, HI.out, HHD.out, if_pos HK9.out, ej, et, ef]
                    simp only [List.append_assoc, List.cons_append, List.nil_append, List.append_nil]
                  exact ⟨⟨k + 1, by omega, by go_num, A7, c7, m7, rfl, by rw [heq]; exact H7.out.own, by rw [heq]; exact H7.out.len, H7.out.bel⟩, by simp [intOf]; omega⟩
            · have HK9 := Lib.hid hk9
              have hkb : ((mask : Int) != 4294967295) = true := by
                have : ((mask : Int) == 4294967295) = false := beq_false_of_ne (by omega)
                rw [bne, this]; rfl
              clear hk9
              cases a1 with
              | true =>
                cases a2 with
                | true =>
                  go_upto_region 27 with (first
                    | (at_builtin; refine wpList_append_own _ rfl (.tmp 58) (.tmp 62) 29 rfl 39 _ 4 8 Try.underlying29 info_insL rfl (by decide) B (.slice A1 m1 c1) m1 (i4L (emitN nd lg k ++ [(32, 0, 0, uo)])) rfl (own_below H4.out.own (lboxL _ _)) ⟨V1.heap.size, 0, none⟩ 1 1 (i4C (84, 0, 0, mask)) rfl rfl (i4_new _ _) (i4_one _) (by have q := H4b.out; unfold maxLen; omega) (by have q := H4b.out; omega) (Nat.le_trans (Nat.le_trans H4.out.le H4.out.bel.size) (lboxL _ _).size) ?_; intro v' V2 ho hg hb; obtain ⟨A2, c2, m2, rfl, hm9, hO9⟩ := out_step H4.out ho hg hb; have H5 := Lib.hid hO9; have H5m := Lib.hid hm9; have H5b : Hid (m2 ≤ 20482) := Lib.hid (by have q := H4b.out; omega) ; clear ho hg hb hO9 hm9; clear d3; have d6 := cellL H5.out.box 6 (v := .int .i64 (t : Int)) rfl; have d7 := cellL H5.out.box 7 (v := .int .i64 (f : Int)) rfl; have g0 : V2.cell? ⟨fb, k * 2, none⟩ = some (.bool true) := (HFA.out V2 H5.out.bel).1; have g1 : V2.cell? ⟨fb, k * 2 + 1, none⟩ = some (.bool true) := (HFA.out V2 H5.out.bel).2; have q1 := (HAT.out V2 H5.out.bel).1; have q2 := (HAT.out V2 H5.out.bel).2; have hwT : IntKind.i64.wrap ((fT : Int) - (m2 : Int)) = (fT : Int) - (m2 : Int) := IntWalk.i64_in _ (by have q := HFB.out; have q9 := H5b.out; omega); have hwF : IntKind.i64.wrap ((fF : Int) - (m2 : Int)) = (fF : Int) - (m2 : Int) := IntWalk.i64_in _ (by have q := HFB.out; have q9 := H5b.out; omega); have hwT1 : IntKind.i64.wrap ((fT : Int) - (m2 : Int) - 1) = (fT : Int) - (m2 : Int) - 1 := IntWalk.i64_in _ (by have q := HFB.out; have q9 := H5b.out; omega); have hwF1 : IntKind.i64.wrap ((fF : Int) - (m2 : Int) - 1) = (fF : Int) - (m2 : Int) - 1 := IntWalk.i64_in _ (by have q := HFB.out; have q9 := H5b.out; omega))
                    | (at_builtin; refine wpList_append_own _ rfl (.tmp 48) (.tmp 53) 29 rfl 39 _ 4 8 Try.underlying29 info_insL rfl (by decide) B (.slice Ao mo co) mo (i4L (emitN nd lg k)) rfl (own_below HR.out.own (lboxL _ _)) ⟨V0.heap.size, 0, none⟩ 1 1 (i4C (32, 0, 0, uo)) rfl rfl (i4_new _ _) (i4_one _) (by have q := HRb.out; unfold maxLen; omega) (by have q := HRb.out; omega) (Nat.le_trans (Nat.le_trans HR.out.le HR.out.bel.size) (lboxL _ _).size) ?_; intro v' V1 ho hg hb; obtain ⟨A1, c1, m1, rfl, hm9, hO9⟩ := out_step HR.out ho hg hb; have H4 := Lib.hid hO9; have H4m := Lib.hid hm9; have H4b : Hid (m1 ≤ 20481) := Lib.hid (by have q := HRb.out; omega) ; clear ho hg hb hO9 hm9; clear d0 d2; have d3 := cellL H4.out.box 3 (v := .int .u32 (mask : Int)) rfl))
                  rename_i K8 hK8
                  have hx8 : IntKind.u8.wrap (0 : Int) = ((u8N (0) : Nat) : Int) := u8_wrap _
                  have hy8 : IntKind.u8.wrap (1 : Int) = ((u8N (1) : Nat) : Int) := u8_wrap _
                  clear d6 d7 g0 g1 q1 q2 hwT hwF hwT1 hwF1
                  refine wp_region_held_drew (S := fun W' => W'.heap[nb]? = some (ndO ⟨false, word, off, mask, op, kk, (t : Int), (f : Int)⟩)) (by kernel_rfl) H5.out.box (fun hHeld => ?_)
                  have H6 := Lib.hid H5.out.drew
                  generalize V2.drew = Y at H6 hHeld ⊢
                  refine wpAnyH_take (i := 0) (v := ?_) rfl (by kernel_rfl) (by kernel_rfl) (by kernel_rfl) (fun _ _ _ h => h) (Or.inl ⟨by rfl, ?_⟩) (by assumption) ?_
                  rotate_left
                  · intro wS hSw
                    (have d4 := cellL hSw 4 (v := .int .i64 op) rfl; have d5 := cellL hSw 5 (v := .int .u32 (kk : Int)) rfl)
                    go_simp
                    all_goals with_reducible rfl
                  (try simp only [List.getElem_toArray, List.getElem_cons_zero, List.getElem_cons_succ, Act.put, List.setIfInBounds_toArray, List.set_cons_zero, List.set_cons_succ])
                  refine wpAnyH_take (i := 1) (v := ?_) rfl (by kernel_rfl) (by kernel_rfl) (by kernel_rfl) (fun _ _ _ h => h) (Or.inl ⟨by rfl, ?_⟩) (by assumption) ?_
                  rotate_left
                  · intro wS hSw
                    (have d4 := cellL hSw 4 (v := .int .i64 op) rfl; have d5 := cellL hSw 5 (v := .int .u32 (kk : Int)) rfl)
                    go_simp
                    all_goals with_reducible rfl
                  (try simp only [List.getElem_toArray, List.getElem_cons_zero, List.getElem_cons_succ, Act.put, List.setIfInBounds_toArray, List.set_cons_zero, List.set_cons_succ])
                  refine wpAnyH_take (i := 2) (v := ?_) rfl (by kernel_rfl) (by kernel_rfl) (by kernel_rfl) (fun _ _ _ h => h) (Or.inl ⟨by rfl, ?_⟩) (by assumption) ?_
                  rotate_left
                  · intro wS hSw
                    (have d4 := cellL hSw 4 (v := .int .i64 op) rfl; have d5 := cellL hSw 5 (v := .int .u32 (kk : Int)) rfl)
                    go_simp
                    all_goals with_reducible rfl
                  (try simp only [List.getElem_toArray, List.getElem_cons_zero, List.getElem_cons_succ, Act.put, List.setIfInBounds_toArray, List.set_cons_zero, List.set_cons_succ])
                  refine wpAnyH_take (i := 4) (v := ?_) rfl (by kernel_rfl) (by kernel_rfl) (by kernel_rfl) (fun _ _ _ h => h) (Or.inl ⟨by rfl, ?_⟩) (by assumption) ?_
                  rotate_left
                  · intro wS hSw
                    (have d4 := cellL hSw 4 (v := .int .i64 op) rfl; have d5 := cellL hSw 5 (v := .int .u32 (kk : Int)) rfl)
                    go_simp
                    all_goals with_reducible rfl
                  (try simp only [List.getElem_toArray, List.getElem_cons_zero, List.getElem_cons_succ, Act.put, List.setIfInBounds_toArray, List.set_cons_zero, List.set_cons_succ])
                  refine wpAnyH_take (i := 5) (v := ?_) rfl (by kernel_rfl) (by kernel_rfl) (by kernel_rfl) (fun _ _ _ h => h) (Or.inl ⟨by rfl, ?_⟩) (by assumption) ?_
                  rotate_left
                  · intro wS hSw
                    (have d4 := cellL hSw 4 (v := .int .i64 op) rfl; have d5 := cellL hSw 5 (v := .int .u32 (kk : Int)) rfl)
                    go_simp
                    all_goals with_reducible rfl
                  (try simp only [List.getElem_toArray, List.getElem_cons_zero, List.getElem_cons_succ, Act.put, List.setIfInBounds_toArray, List.set_cons_zero, List.set_cons_succ])
                  refine wpAnyH_take (i := 6) (v := ?_) rfl (by kernel_rfl) (by kernel_rfl) (by kernel_rfl) (fun _ _ _ h => h) (Or.inl ⟨by rfl, ?_⟩) (by assumption) ?_
                  rotate_left
                  · intro wS hSw
                    (have d4 := cellL hSw 4 (v := .int .i64 op) rfl; have d5 := cellL hSw 5 (v := .int .u32 (kk : Int)) rfl)
                    go_simp
                    all_goals with_reducible rfl
                  (try simp only [List.getElem_toArray, List.getElem_cons_zero, List.getElem_cons_succ, Act.put, List.setIfInBounds_toArray, List.set_cons_zero, List.set_cons_succ])
                  refine wpAnyH_take (i := 7) (v := ?_) rfl (by kernel_rfl) (by kernel_rfl) (by kernel_rfl) (fun _ _ _ h => h) (Or.inl ⟨by rfl, ?_⟩) (by assumption) ?_
                  rotate_left
                  · intro wS hSw
                    (have d4 := cellL hSw 4 (v := .int .i64 op) rfl; have d5 := cellL hSw 5 (v := .int .u32 (kk : Int)) rfl)
                    go_simp
                    all_goals with_reducible rfl
                  (try simp only [List.getElem_toArray, List.getElem_cons_zero, List.getElem_cons_succ, Act.put, List.setIfInBounds_toArray, List.set_cons_zero, List.set_cons_succ])
                  refine wpAnyH_take (i := 8) (v := ?_) rfl (by kernel_rfl) (by kernel_rfl) (by kernel_rfl) (fun _ _ _ h => h) (Or.inl ⟨by rfl, ?_⟩) (by assumption) ?_
                  rotate_left
                  · intro wS hSw
                    (have d4 := cellL hSw 4 (v := .int .i64 op) rfl; have d5 := cellL hSw 5 (v := .int .u32 (kk : Int)) rfl)
                    go_simp
                    all_goals with_reducible rfl
                  (try simp only [List.getElem_toArray, List.getElem_cons_zero, List.getElem_cons_succ, Act.put, List.setIfInBounds_toArray, List.set_cons_zero, List.set_cons_succ])
                  refine wpAnyH_take (i := 9) (v := ?_) rfl (by kernel_rfl) (by kernel_rfl) (by kernel_rfl) (fun _ _ _ h => h) (Or.inl ⟨by rfl, ?_⟩) (by assumption) ?_
                  rotate_left
                  · intro wS hSw
                    (have d4 := cellL hSw 4 (v := .int .i64 op) rfl; have d5 := cellL hSw 5 (v := .int .u32 (kk : Int)) rfl)
                    go_simp
                    all_goals with_reducible rfl
                  (try simp only [List.getElem_toArray, List.getElem_cons_zero, List.getElem_cons_succ, Act.put, List.setIfInBounds_toArray, List.set_cons_zero, List.set_cons_succ])
                  refine held_one (i := 3) (by kernel_rfl) rfl (fun K hK => ?_)
                  go_simp
                  go_at_call 18
                  refine (HC.out _).mono ?_
                  rintro e w9 ⟨rfl, rfl⟩
                  refine hK.out _ _ H6.out.box (fun hH2 => ?_)
                  clear hK K hHeld
                  (try simp only [Act.put, List.setIfInBounds_toArray, List.set_cons_zero, List.set_cons_succ, List.getElem_toArray, List.getElem_cons_zero, List.getElem_cons_succ])
                  refine wpAnyH_take (i := 10) (v := ?_) rfl (by kernel_rfl) (by kernel_rfl) (by kernel_rfl) (fun _ _ _ h => h) (Or.inl ⟨by rfl, ?_⟩) (by assumption) ?_
                  rotate_left
                  · intro wS hSw
                    (skip)
                    go_simp
                    all_goals with_reducible rfl
                  (try simp only [List.getElem_toArray, List.getElem_cons_zero, List.getElem_cons_succ, Act.put, List.setIfInBounds_toArray, List.set_cons_zero, List.set_cons_succ])
                  refine held_one (i := 11) (by kernel_rfl) rfl (fun K hK => ?_)
                  go_simp
                  refine hK.out _ _ (H6.out.alloc _) (fun hH3 => ?_)
                  clear hK K hH2
                  (try simp only [Act.put, List.setIfInBounds_toArray, List.set_cons_zero, List.set_cons_succ, List.getElem_toArray, List.getElem_cons_zero, List.getElem_cons_succ])
                  obtain ⟨i8, hi8, hz8, hs8, hb8⟩ := info_parts6 info_insL
                  refine held_one (i := 12) (by kernel_rfl) rfl (fun K hK => ?_)
                  rw [if_pos (by kernel_rfl)]
                  refine oper_append6 (.tmp 93) (.tmp 104) 29 rfl B 39 i8 _ 4 8 Try.underlying29 hi8 hz8 hs8 hb8 rfl (by decide) (.slice A2 m2 c2) m2 (i4L (emitN nd lg k ++ [(32, 0, 0, uo)] ++ [(84, 0, 0, mask)])) rfl (own_below H6.out.own (lboxL _ _)) ⟨w9.heap.size, 0, none⟩ 1 1 (i4C (cop, u8N (0), u8N (1), kk)) rfl rfl (i4_new _ _) (i4_one _) (by have q := H5b.out; unfold maxLen; omega) (by have q := H5b.out; omega) (Nat.le_trans (Nat.le_trans H6.out.le H6.out.bel.size) (lboxL _ _).size) ?_
                  intro v' V7 ho hg hb
                  obtain ⟨A7, c7, m7, rfl, hm9, hO9⟩ := out_step H6.out ho hg hb
                  have H7 := Lib.hid hO9
                  have H7m := Lib.hid hm9
                  have H7b : Hid (m7 ≤ 20483) := Lib.hid (by have q := H5b.out; omega)
                  refine hK.out _ _ H7.out.box (fun hH4 => ?_)
                  clear hK K hH3 ho hg hb hO9 hm9 hx8 hy8
                  (try simp only [Act.put, List.setIfInBounds_toArray, List.set_cons_zero, List.set_cons_succ, List.getElem_toArray, List.getElem_cons_zero, List.getElem_cons_succ])
                  refine wpAnyH_take (i := 13) (v := ?_) rfl (by kernel_rfl) (by kernel_rfl) (by kernel_rfl) (fun _ _ _ h => h) (Or.inl ⟨by rfl, ?_⟩) (by assumption) ?_
                  rotate_left
                  · intro wS hSw
                    (skip)
                    go_simp
                    all_goals with_reducible rfl
                  (try simp only [List.getElem_toArray, List.getElem_cons_zero, List.getElem_cons_succ, Act.put, List.setIfInBounds_toArray, List.set_cons_zero, List.set_cons_succ])
                  refine wpAnyH_done (by kernel_rfl) ?_ _
                  refine hK8 _ _ ?_
                  clear hK8 K8 hH4 H6
                  have d6 := cellL H7.out.box 6 (v := .int .i64 (t : Int)) rfl
                  have d7 := cellL H7.out.box 7 (v := .int .i64 (f : Int)) rfl
                  have g0 : V7.cell? ⟨fb, k * 2, none⟩ = some (.bool true) := (HFA.out V7 H7.out.bel).1
                  have g1 : V7.cell? ⟨fb, k * 2 + 1, none⟩ = some (.bool true) := (HFA.out V7 H7.out.bel).2
                  have q1 := (HAT.out V7 H7.out.bel).1
                  have q2 := (HAT.out V7 H7.out.bel).2
                  have hwT : IntKind.i64.wrap ((fT : Int) - (m7 : Int)) = (fT : Int) - (m7 : Int) := IntWalk.i64_in _ (by have q := HFB.out; have q9 := H7b.out; omega)
                  have hwT1 : IntKind.i64.wrap ((fT : Int) - (m7 : Int) - 1) = (fT : Int) - (m7 : Int) - 1 := IntWalk.i64_in _ (by have q := HFB.out; have q9 := H7b.out; omega)
                  have hu1 := u32_wrap ((fT : Int) - (m7 : Int) - 1)
                  go_wp2_with (first
                    | (at_builtin; refine wpList_append_own _ rfl (.tmp 130) (.tmp 142) 29 rfl 39 _ 4 8 Try.underlying29 info_insL rfl (by decide) B (.slice A8 m8 c8) m8 (i4L (emitN nd lg k ++ [(32, 0, 0, uo)] ++ [(84, 0, 0, mask)] ++ [(cop, u8N (0), u8N (1), kk)] ++ [(5, 0, 0, u32N ((fT : Int) - (m7 : Int) - 1))])) rfl (own_below H8.out.own (lboxL _ _)) ⟨V8.heap.size, 0, none⟩ 1 1 (i4C (5, 0, 0, u32N ((fF : Int) - (m8 : Int) - 1))) rfl rfl (i4_new _ _) (i4_one _) (by have q := H8b.out; unfold maxLen; omega) (by have q := H8b.out; omega) (Nat.le_trans (Nat.le_trans H8.out.le H8.out.bel.size) (lboxL _ _).size) ?_; intro v' V9 ho hg hb; obtain ⟨A9, c9x, m9, rfl, hm9, hO9⟩ := out_step H8.out ho hg hb; have H9 := Lib.hid hO9; have H9m := Lib.hid hm9; have H9b : Hid (m9 ≤ 20485) := Lib.hid (by have q := H8b.out; omega) ; clear ho hg hb hO9 hm9; skip)
                    | (at_builtin; refine wpList_append_own _ rfl (.tmp 111) (.tmp 123) 29 rfl 39 _ 4 8 Try.underlying29 info_insL rfl (by decide) B (.slice A7 m7 c7) m7 (i4L (emitN nd lg k ++ [(32, 0, 0, uo)] ++ [(84, 0, 0, mask)] ++ [(cop, u8N (0), u8N (1), kk)])) rfl (own_below H7.out.own (lboxL _ _)) ⟨V7.heap.size, 0, none⟩ 1 1 (i4C (5, 0, 0, u32N ((fT : Int) - (m7 : Int) - 1))) rfl rfl (i4_new _ _) (i4_one _) (by have q := H7b.out; unfold maxLen; omega) (by have q := H7b.out; omega) (Nat.le_trans (Nat.le_trans H7.out.le H7.out.bel.size) (lboxL _ _).size) ?_; intro v' V8 ho hg hb; obtain ⟨A8, c8, m8, rfl, hm9, hO9⟩ := out_step H7.out ho hg hb; have H8 := Lib.hid hO9; have H8m := Lib.hid hm9; have H8b : Hid (m8 ≤ 20484) := Lib.hid (by have q := H7b.out; omega) ; clear ho hg hb hO9 hm9; clear hwT hwT1 hu1 d6 d7 g0 g1 q1 q2; have d7 := cellL H8.out.box 7 (v := .int .i64 (f : Int)) rfl; have g1 : V8.cell? ⟨fb, k * 2 + 1, none⟩ = some (.bool true) := (HFA.out V8 H8.out.bel).2; have q2 := (HAT.out V8 H8.out.bel).2; have hwF : IntKind.i64.wrap ((fF : Int) - (m8 : Int)) = (fF : Int) - (m8 : Int) := IntWalk.i64_in _ (by have q := HFB.out; have q9 := H8b.out; omega); have hwF1 : IntKind.i64.wrap ((fF : Int) - (m8 : Int) - 1) = (fF : Int) - (m8 : Int) - 1 := IntWalk.i64_in _ (by have q := HFB.out; have q9 := H8b.out; omega); have hu2 := u32_wrap ((fF : Int) - (m8 : Int) - 1)))
                  have heq : emitN nd lg (k + 1) = emitN nd lg k ++ [(32, 0, 0, uo)] ++ [(84, 0, 0, mask)] ++ [(cop, u8N (0), u8N (1), kk)] ++ [(5, 0, 0, u32N ((fT : Int) - (m7 : Int) - 1))] ++ [(5, 0, 0, u32N ((fF : Int) - (m8 : Int) - 1))] := by
                    have hov := HOV.out m2 (by have z1 := H4m.out; have z2 := H5m.out; have z3 := HLN.out; have z4 := HJA.out; rw [if_neg HK9.out] at z4; omega)
                    have e1 : overT nd lg k - 1 = (fT : Int) - (m7 : Int) - 1 := by have z := H7m.out; rw [hov.1]; omega
                    have e2 : overF nd lg k - 2 = (fF : Int) - (m8 : Int) - 1 := by have z := H7m.out; have z8 := H8m.out; rw [hov.2]; omega
                    have ej : jumpN nd lg k = (cop, u8N (0), u8N (1), kk) := by rw [HJ.out]; skip; rfl
                    have et : wayT nd lg k = [(5, 0, 0, u32N ((fT : Int) - (m7 : Int) - 1))] := by rw [HWT.out]; rw [← e1]; rfl
                    have ef : wayF nd lg k = [(5, 0, 0, u32N ((fF : Int) - (m8 : Int) - 1))] := by rw [HWF.out]; rw [← e2]; rfl
                    rw [HNX.out, HI.out, HHD.out, if_neg HK9.out, ej, et, ef]
                    simp only [List.append_assoc, List.cons_append, List.nil_append, List.append_nil]
                  exact ⟨⟨k + 1, by omega, by go_num, A9, c9x, m9, rfl, by rw [heq]; exact H9.out.own, by rw [heq]; exact H9.out.len, H9.out.bel⟩, by simp [intOf]; omega⟩
                | false =>
                  go_upto_region 27 with (first
                    | (at_builtin; refine wpList_append_own _ rfl (.tmp 58) (.tmp 62) 29 rfl 39 _ 4 8 Try.underlying29 info_insL rfl (by decide) B (.slice A1 m1 c1) m1 (i4L (emitN nd lg k ++ [(32, 0, 0, uo)])) rfl (own_below H4.out.own (lboxL _ _)) ⟨V1.heap.size, 0, none⟩ 1 1 (i4C (84, 0, 0, mask)) rfl rfl (i4_new _ _) (i4_one _) (by have q := H4b.out; unfold maxLen; omega) (by have q := H4b.out; omega) (Nat.le_trans (Nat.le_trans H4.out.le H4.out.bel.size) (lboxL _ _).size) ?_; intro v' V2 ho hg hb; obtain ⟨A2, c2, m2, rfl, hm9, hO9⟩ := out_step H4.out ho hg hb; have H5 := Lib.hid hO9; have H5m := Lib.hid hm9; have H5b : Hid (m2 ≤ 20482) := Lib.hid (by have q := H4b.out; omega) ; clear ho hg hb hO9 hm9; clear d3; have d6 := cellL H5.out.box 6 (v := .int .i64 (t : Int)) rfl; have d7 := cellL H5.out.box 7 (v := .int .i64 (f : Int)) rfl; have g0 : V2.cell? ⟨fb, k * 2, none⟩ = some (.bool true) := (HFA.out V2 H5.out.bel).1; have g1 : V2.cell? ⟨fb, k * 2 + 1, none⟩ = some (.bool false) := (HFA.out V2 H5.out.bel).2; have q1 := (HAT.out V2 H5.out.bel).1; have q2 := (HAT.out V2 H5.out.bel).2; have hwT : IntKind.i64.wrap ((fT : Int) - (m2 : Int)) = (fT : Int) - (m2 : Int) := IntWalk.i64_in _ (by have q := HFB.out; have q9 := H5b.out; omega); have hwF : IntKind.i64.wrap ((fF : Int) - (m2 : Int)) = (fF : Int) - (m2 : Int) := IntWalk.i64_in _ (by have q := HFB.out; have q9 := H5b.out; omega); have hwT1 : IntKind.i64.wrap ((fT : Int) - (m2 : Int) - 1) = (fT : Int) - (m2 : Int) - 1 := IntWalk.i64_in _ (by have q := HFB.out; have q9 := H5b.out; omega); have hwF1 : IntKind.i64.wrap ((fF : Int) - (m2 : Int) - 1) = (fF : Int) - (m2 : Int) - 1 := IntWalk.i64_in _ (by have q := HFB.out; have q9 := H5b.out; omega))
                    | (at_builtin; refine wpList_append_own _ rfl (.tmp 48) (.tmp 53) 29 rfl 39 _ 4 8 Try.underlying29 info_insL rfl (by decide) B (.slice Ao mo co) mo (i4L (emitN nd lg k)) rfl (own_below HR.out.own (lboxL _ _)) ⟨V0.heap.size, 0, none⟩ 1 1 (i4C (32, 0, 0, uo)) rfl rfl (i4_new _ _) (i4_one _) (by have q := HRb.out; unfold maxLen; omega) (by have q := HRb.out; omega) (Nat.le_trans (Nat.le_trans HR.out.le HR.out.bel.size) (lboxL _ _).size) ?_; intro v' V1 ho hg hb; obtain ⟨A1, c1, m1, rfl, hm9, hO9⟩ := out_step HR.out ho hg hb; have H4 := Lib.hid hO9; have H4m := Lib.hid hm9; have H4b : Hid (m1 ≤ 20481) := Lib.hid (by have q := HRb.out; omega) ; clear ho hg hb hO9 hm9; clear d0 d2; have d3 := cellL H4.out.box 3 (v := .int .u32 (mask : Int)) rfl))
                  rename_i K8 hK8
                  have hx8 : IntKind.u8.wrap (0 : Int) = ((u8N (0) : Nat) : Int) := u8_wrap _
                  have hy8 : IntKind.u8.wrap ((fF : Int) - (m2 : Int) - 1) = ((u8N ((fF : Int) - (m2 : Int) - 1) : Nat) : Int) := u8_wrap _
                  clear d6 d7 g0 g1 q1 q2 hwT hwF hwT1 hwF1
                  refine wp_region_held_drew (S := fun W' => W'.heap[nb]? = some (ndO ⟨false, word, off, mask, op, kk, (t : Int), (f : Int)⟩)) (by kernel_rfl) H5.out.box (fun hHeld => ?_)
                  have H6 := Lib.hid H5.out.drew
                  generalize V2.drew = Y at H6 hHeld ⊢
                  refine wpAnyH_take (i := 0) (v := ?_) rfl (by kernel_rfl) (by kernel_rfl) (by kernel_rfl) (fun _ _ _ h => h) (Or.inl ⟨by rfl, ?_⟩) (by assumption) ?_
                  rotate_left
                  · intro wS hSw
                    (have d4 := cellL hSw 4 (v := .int .i64 op) rfl; have d5 := cellL hSw 5 (v := .int .u32 (kk : Int)) rfl)
                    go_simp
                    all_goals with_reducible rfl
                  (try simp only [List.getElem_toArray, List.getElem_cons_zero, List.getElem_cons_succ, Act.put, List.setIfInBounds_toArray, List.set_cons_zero, List.set_cons_succ])
                  refine wpAnyH_take (i := 1) (v := ?_) rfl (by kernel_rfl) (by kernel_rfl) (by kernel_rfl) (fun _ _ _ h => h) (Or.inl ⟨by rfl, ?_⟩) (by assumption) ?_
                  rotate_left
                  · intro wS hSw
                    (have d4 := cellL hSw 4 (v := .int .i64 op) rfl; have d5 := cellL hSw 5 (v := .int .u32 (kk : Int)) rfl)
                    go_simp
                    all_goals with_reducible rfl
                  (try simp only [List.getElem_toArray, List.getElem_cons_zero, List.getElem_cons_succ, Act.put, List.setIfInBounds_toArray, List.set_cons_zero, List.set_cons_succ])
                  refine wpAnyH_take (i := 2) (v := ?_) rfl (by kernel_rfl) (by kernel_rfl) (by kernel_rfl) (fun _ _ _ h => h) (Or.inl ⟨by rfl, ?_⟩) (by assumption) ?_
                  rotate_left
                  · intro wS hSw
                    (have d4 := cellL hSw 4 (v := .int .i64 op) rfl; have d5 := cellL hSw 5 (v := .int .u32 (kk : Int)) rfl)
                    go_simp
                    all_goals with_reducible rfl
                  (try simp only [List.getElem_toArray, List.getElem_cons_zero, List.getElem_cons_succ, Act.put, List.setIfInBounds_toArray, List.set_cons_zero, List.set_cons_succ])
                  refine wpAnyH_take (i := 4) (v := ?_) rfl (by kernel_rfl) (by kernel_rfl) (by kernel_rfl) (fun _ _ _ h => h) (Or.inl ⟨by rfl, ?_⟩) (by assumption) ?_
                  rotate_left
                  · intro wS hSw
                    (have d4 := cellL hSw 4 (v := .int .i64 op) rfl; have d5 := cellL hSw 5 (v := .int .u32 (kk : Int)) rfl)
                    go_simp
                    all_goals with_reducible rfl
                  (try simp only [List.getElem_toArray, List.getElem_cons_zero, List.getElem_cons_succ, Act.put, List.setIfInBounds_toArray, List.set_cons_zero, List.set_cons_succ])
                  refine wpAnyH_take (i := 5) (v := ?_) rfl (by kernel_rfl) (by kernel_rfl) (by kernel_rfl) (fun _ _ _ h => h) (Or.inl ⟨by rfl, ?_⟩) (by assumption) ?_
                  rotate_left
                  · intro wS hSw
                    (have d4 := cellL hSw 4 (v := .int .i64 op) rfl; have d5 := cellL hSw 5 (v := .int .u32 (kk : Int)) rfl)
                    go_simp
                    all_goals with_reducible rfl
                  (try simp only [List.getElem_toArray, List.getElem_cons_zero, List.getElem_cons_succ, Act.put, List.setIfInBounds_toArray, List.set_cons_zero, List.set_cons_succ])
                  refine wpAnyH_take (i := 6) (v := ?_) rfl (by kernel_rfl) (by kernel_rfl) (by kernel_rfl) (fun _ _ _ h => h) (Or.inl ⟨by rfl, ?_⟩) (by assumption) ?_
                  rotate_left
                  · intro wS hSw
                    (have d4 := cellL hSw 4 (v := .int .i64 op) rfl; have d5 := cellL hSw 5 (v := .int .u32 (kk : Int)) rfl)
                    go_simp
                    all_goals with_reducible rfl
                  (try simp only [List.getElem_toArray, List.getElem_cons_zero, List.getElem_cons_succ, Act.put, List.setIfInBounds_toArray, List.set_cons_zero, List.set_cons_succ])
                  refine wpAnyH_take (i := 7) (v := ?_) rfl (by kernel_rfl) (by kernel_rfl) (by kernel_rfl) (fun _ _ _ h => h) (Or.inl ⟨by rfl, ?_⟩) (by assumption) ?_
                  rotate_left
                  · intro wS hSw
                    (have d4 := cellL hSw 4 (v := .int .i64 op) rfl; have d5 := cellL hSw 5 (v := .int .u32 (kk : Int)) rfl)
                    go_simp
                    all_goals with_reducible rfl
                  (try simp only [List.getElem_toArray, List.getElem_cons_zero, List.getElem_cons_succ, Act.put, List.setIfInBounds_toArray, List.set_cons_zero, List.set_cons_succ])
                  refine wpAnyH_take (i := 8) (v := ?_) rfl (by kernel_rfl) (by kernel_rfl) (by kernel_rfl) (fun _ _ _ h => h) (Or.inl ⟨by rfl, ?_⟩) (by assumption) ?_
                  rotate_left
                  · intro wS hSw
                    (have d4 := cellL hSw 4 (v := .int .i64 op) rfl; have d5 := cellL hSw 5 (v := .int .u32 (kk : Int)) rfl)
                    go_simp
                    all_goals with_reducible rfl
                  (try simp only [List.getElem_toArray, List.getElem_cons_zero, List.getElem_cons_succ, Act.put, List.setIfInBounds_toArray, List.set_cons_zero, List.set_cons_succ])
                  refine wpAnyH_take (i := 9) (v := ?_) rfl (by kernel_rfl) (by kernel_rfl) (by kernel_rfl) (fun _ _ _ h => h) (Or.inl ⟨by rfl, ?_⟩) (by assumption) ?_
                  rotate_left
                  · intro wS hSw
                    (have d4 := cellL hSw 4 (v := .int .i64 op) rfl; have d5 := cellL hSw 5 (v := .int .u32 (kk : Int)) rfl)
                    go_simp
                    all_goals with_reducible rfl
                  (try simp only [List.getElem_toArray, List.getElem_cons_zero, List.getElem_cons_succ, Act.put, List.setIfInBounds_toArray, List.set_cons_zero, List.set_cons_succ])
                  refine held_one (i := 3) (by kernel_rfl) rfl (fun K hK => ?_)
                  go_simp
                  go_at_call 18
                  refine (HC.out _).mono ?_
                  rintro e w9 ⟨rfl, rfl⟩
                  refine hK.out _ _ H6.out.box (fun hH2 => ?_)
                  clear hK K hHeld
                  (try simp only [Act.put, List.setIfInBounds_toArray, List.set_cons_zero, List.set_cons_succ, List.getElem_toArray, List.getElem_cons_zero, List.getElem_cons_succ])
                  refine wpAnyH_take (i := 10) (v := ?_) rfl (by kernel_rfl) (by kernel_rfl) (by kernel_rfl) (fun _ _ _ h => h) (Or.inl ⟨by rfl, ?_⟩) (by assumption) ?_
                  rotate_left
                  · intro wS hSw
                    (skip)
                    go_simp
                    all_goals with_reducible rfl
                  (try simp only [List.getElem_toArray, List.getElem_cons_zero, List.getElem_cons_succ, Act.put, List.setIfInBounds_toArray, List.set_cons_zero, List.set_cons_succ])
                  refine held_one (i := 11) (by kernel_rfl) rfl (fun K hK => ?_)
                  go_simp
                  refine hK.out _ _ (H6.out.alloc _) (fun hH3 => ?_)
                  clear hK K hH2
                  (try simp only [Act.put, List.setIfInBounds_toArray, List.set_cons_zero, List.set_cons_succ, List.getElem_toArray, List.getElem_cons_zero, List.getElem_cons_succ])
                  obtain ⟨i8, hi8, hz8, hs8, hb8⟩ := info_parts6 info_insL
                  refine held_one (i := 12) (by kernel_rfl) rfl (fun K hK => ?_)
                  rw [if_pos (by kernel_rfl)]
                  refine oper_append6 (.tmp 93) (.tmp 104) 29 rfl B 39 i8 _ 4 8 Try.underlying29 hi8 hz8 hs8 hb8 rfl (by decide) (.slice A2 m2 c2) m2 (i4L (emitN nd lg k ++ [(32, 0, 0, uo)] ++ [(84, 0, 0, mask)])) rfl (own_below H6.out.own (lboxL _ _)) ⟨w9.heap.size, 0, none⟩ 1 1 (i4C (cop, u8N (0), u8N ((fF : Int) - (m2 : Int) - 1), kk)) rfl rfl (i4_new _ _) (i4_one _) (by have q := H5b.out; unfold maxLen; omega) (by have q := H5b.out; omega) (Nat.le_trans (Nat.le_trans H6.out.le H6.out.bel.size) (lboxL _ _).size) ?_
                  intro v' V7 ho hg hb
                  obtain ⟨A7, c7, m7, rfl, hm9, hO9⟩ := out_step H6.out ho hg hb
                  have H7 := Lib.hid hO9
                  have H7m := Lib.hid hm9
                  have H7b : Hid (m7 ≤ 20483) := Lib.hid (by have q := H5b.out; omega)
                  refine hK.out _ _ H7.out.box (fun hH4 => ?_)
                  clear hK K hH3 ho hg hb hO9 hm9 hx8 hy8
                  (try simp only [Act.put, List.setIfInBounds_toArray, List.set_cons_zero, List.set_cons_succ, List.getElem_toArray, List.getElem_cons_zero, List.getElem_cons_succ])
                  refine wpAnyH_take (i := 13) (v := ?_) rfl (by kernel_rfl) (by kernel_rfl) (by kernel_rfl) (fun _ _ _ h => h) (Or.inl ⟨by rfl, ?_⟩) (by assumption) ?_
                  rotate_left
                  · intro wS hSw
                    (skip)
                    go_simp
                    all_goals with_reducible rfl
                  (try simp only [List.getElem_toArray, List.getElem_cons_zero, List.getElem_cons_succ, Act.put, List.setIfInBounds_toArray, List.set_cons_zero, List.set_cons_succ])
                  refine wpAnyH_done (by kernel_rfl) ?_ _
                  refine hK8 _ _ ?_
                  clear hK8 K8 hH4 H6
                  have d6 := cellL H7.out.box 6 (v := .int .i64 (t : Int)) rfl
                  have d7 := cellL H7.out.box 7 (v := .int .i64 (f : Int)) rfl
                  have g0 : V7.cell? ⟨fb, k * 2, none⟩ = some (.bool true) := (HFA.out V7 H7.out.bel).1
                  have g1 : V7.cell? ⟨fb, k * 2 + 1, none⟩ = some (.bool false) := (HFA.out V7 H7.out.bel).2
                  have q1 := (HAT.out V7 H7.out.bel).1
                  have q2 := (HAT.out V7 H7.out.bel).2
                  have hwT : IntKind.i64.wrap ((fT : Int) - (m7 : Int)) = (fT : Int) - (m7 : Int) := IntWalk.i64_in _ (by have q := HFB.out; have q9 := H7b.out; omega)
                  have hwT1 : IntKind.i64.wrap ((fT : Int) - (m7 : Int) - 1) = (fT : Int) - (m7 : Int) - 1 := IntWalk.i64_in _ (by have q := HFB.out; have q9 := H7b.out; omega)
                  have hu1 := u32_wrap ((fT : Int) - (m7 : Int) - 1)
                  go_wp2_with (first
                    | (at_builtin; refine wpList_append_own _ rfl (.tmp 111) (.tmp 123) 29 rfl 39 _ 4 8 Try.underlying29 info_insL rfl (by decide) B (.slice A7 m7 c7) m7 (i4L (emitN nd lg k ++ [(32, 0, 0, uo)] ++ [(84, 0, 0, mask)] ++ [(cop, u8N (0), u8N ((fF : Int) - (m2 : Int) - 1), kk)])) rfl (own_below H7.out.own (lboxL _ _)) ⟨V7.heap.size, 0, none⟩ 1 1 (i4C (5, 0, 0, u32N ((fT : Int) - (m7 : Int) - 1))) rfl rfl (i4_new _ _) (i4_one _) (by have q := H7b.out; unfold maxLen; omega) (by have q := H7b.out; omega) (Nat.le_trans (Nat.le_trans H7.out.le H7.out.bel.size) (lboxL _ _).size) ?_; intro v' V8 ho hg hb; obtain ⟨A8, c8, m8, rfl, hm9, hO9⟩ := out_step H7.out ho hg hb; have H8 := Lib.hid hO9; have H8m := Lib.hid hm9; have H8b : Hid (m8 ≤ 20484) := Lib.hid (by have q := H7b.out; omega) ; clear ho hg hb hO9 hm9; clear hwT hwT1 hu1 d6 d7 g0 g1 q1 q2; have d7 := cellL H8.out.box 7 (v := .int .i64 (f : Int)) rfl; have g1 : V8.cell? ⟨fb, k * 2 + 1, none⟩ = some (.bool false) := (HFA.out V8 H8.out.bel).2; have q2 := (HAT.out V8 H8.out.bel).2))
                  have heq : emitN nd lg (k + 1) = emitN nd lg k ++ [(32, 0, 0, uo)] ++ [(84, 0, 0, mask)] ++ [(cop, u8N (0), u8N ((fF : Int) - (m2 : Int) - 1), kk)] ++ [(5, 0, 0, u32N ((fT : Int) - (m7 : Int) - 1))] := by
                    have hov := HOV.out m2 (by have z1 := H4m.out; have z2 := H5m.out; have z3 := HLN.out; have z4 := HJA.out; rw [if_neg HK9.out] at z4; omega)
                    have e1 : overT nd lg k - 1 = (fT : Int) - (m7 : Int) - 1 := by have z := H7m.out; rw [hov.1]; omega
                    have ej : jumpN nd lg k = (cop, u8N (0), u8N ((fF : Int) - (m2 : Int) - 1), kk) := by rw [HJ.out]; rw [hov.2]; rfl
                    have et : wayT nd lg k = [(5, 0, 0, u32N ((fT : Int) - (m7 : Int) - 1))] := by rw [HWT.out]; rw [← e1]; rfl
                    have ef : wayF nd lg k = [] := by rw [HWF.out]; rfl
                    rw [HNX.out, HI.out, HHD.out, if_neg HK9.out, ej, et, ef]
                    simp only [List.append_assoc, List.cons_append, List.nil_append, List.append_nil]
                  exact ⟨⟨k + 1, by omega, by go_num, A8, c8, m8, rfl, by rw [heq]; exact H8.out.own, by rw [heq]; exact H8.out.len, H8.out.bel⟩, by simp [intOf]; omega⟩
              | false =>
                cases a2 with
                | true =>
                  go_upto_region 27 with (first
                    | (at_builtin; refine wpList_append_own _ rfl (.tmp 58) (.tmp 62) 29 rfl 39 _ 4 8 Try.underlying29 info_insL rfl (by decide) B (.slice A1 m1 c1) m1 (i4L (emitN nd lg k ++ [(32, 0, 0, uo)])) rfl (own_below H4.out.own (lboxL _ _)) ⟨V1.heap.size, 0, none⟩ 1 1 (i4C (84, 0, 0, mask)) rfl rfl (i4_new _ _) (i4_one _) (by have q := H4b.out; unfold maxLen; omega) (by have q := H4b.out; omega) (Nat.le_trans (Nat.le_trans H4.out.le H4.out.bel.size) (lboxL _ _).size) ?_; intro v' V2 ho hg hb; obtain ⟨A2, c2, m2, rfl, hm9, hO9⟩ := out_step H4.out ho hg hb; have H5 := Lib.hid hO9; have H5m := Lib.hid hm9; have H5b : Hid (m2 ≤ 20482) := Lib.hid (by have q := H4b.out; omega) ; clear ho hg hb hO9 hm9; clear d3; have d6 := cellL H5.out.box 6 (v := .int .i64 (t : Int)) rfl; have d7 := cellL H5.out.box 7 (v := .int .i64 (f : Int)) rfl; have g0 : V2.cell? ⟨fb, k * 2, none⟩ = some (.bool false) := (HFA.out V2 H5.out.bel).1; have g1 : V2.cell? ⟨fb, k * 2 + 1, none⟩ = some (.bool true) := (HFA.out V2 H5.out.bel).2; have q1 := (HAT.out V2 H5.out.bel).1; have q2 := (HAT.out V2 H5.out.bel).2; have hwT : IntKind.i64.wrap ((fT : Int) - (m2 : Int)) = (fT : Int) - (m2 : Int) := IntWalk.i64_in _ (by have q := HFB.out; have q9 := H5b.out; omega); have hwF : IntKind.i64.wrap ((fF : Int) - (m2 : Int)) = (fF : Int) - (m2 : Int) := IntWalk.i64_in _ (by have q := HFB.out; have q9 := H5b.out; omega); have hwT1 : IntKind.i64.wrap ((fT : Int) - (m2 : Int) - 1) = (fT : Int) - (m2 : Int) - 1 := IntWalk.i64_in _ (by have q := HFB.out; have q9 := H5b.out; omega); have hwF1 : IntKind.i64.wrap ((fF : Int) - (m2 : Int) - 1) = (fF : Int) - (m2 : Int) - 1 := IntWalk.i64_in _ (by have q := HFB.out; have q9 := H5b.out; omega))
                    | (at_builtin; refine wpList_append_own _ rfl (.tmp 48) (.tmp 53) 29 rfl 39 _ 4 8 Try.underlying29 info_insL rfl (by decide) B (.slice Ao mo co) mo (i4L (emitN nd lg k)) rfl (own_below HR.out.own (lboxL _ _)) ⟨V0.heap.size, 0, none⟩ 1 1 (i4C (32, 0, 0, uo)) rfl rfl (i4_new _ _) (i4_one _) (by have q := HRb.out; unfold maxLen; omega) (by have q := HRb.out; omega) (Nat.le_trans (Nat.le_trans HR.out.le HR.out.bel.size) (lboxL _ _).size) ?_; intro v' V1 ho hg hb; obtain ⟨A1, c1, m1, rfl, hm9, hO9⟩ := out_step HR.out ho hg hb; have H4 := Lib.hid hO9; have H4m := Lib.hid hm9; have H4b : Hid (m1 ≤ 20481) := Lib.hid (by have q := HRb.out; omega) ; clear ho hg hb hO9 hm9; clear d0 d2; have d3 := cellL H4.out.box 3 (v := .int .u32 (mask : Int)) rfl))
                  rename_i K8 hK8
                  have hx8 : IntKind.u8.wrap ((fT : Int) - (m2 : Int) - 1) = ((u8N ((fT : Int) - (m2 : Int) - 1) : Nat) : Int) := u8_wrap _
                  have hy8 : IntKind.u8.wrap (0 : Int) = ((u8N (0) : Nat) : Int) := u8_wrap _
                  clear d6 d7 g0 g1 q1 q2 hwT hwF hwT1 hwF1
                  refine wp_region_held_drew (S := fun W' => W'.heap[nb]? = some (ndO ⟨false, word, off, mask, op, kk, (t : Int), (f : Int)⟩)) (by kernel_rfl) H5.out.box (fun hHeld => ?_)
                  have H6 := Lib.hid H5.out.drew
                  generalize V2.drew = Y at H6 hHeld ⊢
                  refine wpAnyH_take (i := 0) (v := ?_) rfl (by kernel_rfl) (by kernel_rfl) (by kernel_rfl) (fun _ _ _ h => h) (Or.inl ⟨by rfl, ?_⟩) (by assumption) ?_
                  rotate_left
                  · intro wS hSw
                    (have d4 := cellL hSw 4 (v := .int .i64 op) rfl; have d5 := cellL hSw 5 (v := .int .u32 (kk : Int)) rfl)
                    go_simp
                    all_goals with_reducible rfl
                  (try simp only [List.getElem_toArray, List.getElem_cons_zero, List.getElem_cons_succ, Act.put, List.setIfInBounds_toArray, List.set_cons_zero, List.set_cons_succ])
                  refine wpAnyH_take (i := 1) (v := ?_) rfl (by kernel_rfl) (by kernel_rfl) (by kernel_rfl) (fun _ _ _ h => h) (Or.inl ⟨by rfl, ?_⟩) (by assumption) ?_
                  rotate_left
                  · intro wS hSw
                    (have d4 := cellL hSw 4 (v := .int .i64 op) rfl; have d5 := cellL hSw 5 (v := .int .u32 (kk : Int)) rfl)
                    go_simp
                    all_goals with_reducible rfl
                  (try simp only [List.getElem_toArray, List.getElem_cons_zero, List.getElem_cons_succ, Act.put, List.setIfInBounds_toArray, List.set_cons_zero, List.set_cons_succ])
                  refine wpAnyH_take (i := 2) (v := ?_) rfl (by kernel_rfl) (by kernel_rfl) (by kernel_rfl) (fun _ _ _ h => h) (Or.inl ⟨by rfl, ?_⟩) (by assumption) ?_
                  rotate_left
                  · intro wS hSw
                    (have d4 := cellL hSw 4 (v := .int .i64 op) rfl; have d5 := cellL hSw 5 (v := .int .u32 (kk : Int)) rfl)
                    go_simp
                    all_goals with_reducible rfl
                  (try simp only [List.getElem_toArray, List.getElem_cons_zero, List.getElem_cons_succ, Act.put, List.setIfInBounds_toArray, List.set_cons_zero, List.set_cons_succ])
                  refine wpAnyH_take (i := 4) (v := ?_) rfl (by kernel_rfl) (by kernel_rfl) (by kernel_rfl) (fun _ _ _ h => h) (Or.inl ⟨by rfl, ?_⟩) (by assumption) ?_
                  rotate_left
                  · intro wS hSw
                    (have d4 := cellL hSw 4 (v := .int .i64 op) rfl; have d5 := cellL hSw 5 (v := .int .u32 (kk : Int)) rfl)
                    go_simp
                    all_goals with_reducible rfl
                  (try simp only [List.getElem_toArray, List.getElem_cons_zero, List.getElem_cons_succ, Act.put, List.setIfInBounds_toArray, List.set_cons_zero, List.set_cons_succ])
                  refine wpAnyH_take (i := 5) (v := ?_) rfl (by kernel_rfl) (by kernel_rfl) (by kernel_rfl) (fun _ _ _ h => h) (Or.inl ⟨by rfl, ?_⟩) (by assumption) ?_
                  rotate_left
                  · intro wS hSw
                    (have d4 := cellL hSw 4 (v := .int .i64 op) rfl; have d5 := cellL hSw 5 (v := .int .u32 (kk : Int)) rfl)
                    go_simp
                    all_goals with_reducible rfl
                  (try simp only [List.getElem_toArray, List.getElem_cons_zero, List.getElem_cons_succ, Act.put, List.setIfInBounds_toArray, List.set_cons_zero, List.set_cons_succ])
                  refine wpAnyH_take (i := 6) (v := ?_) rfl (by kernel_rfl) (by kernel_rfl) (by kernel_rfl) (fun _ _ _ h => h) (Or.inl ⟨by rfl, ?_⟩) (by assumption) ?_
                  rotate_left
                  · intro wS hSw
                    (have d4 := cellL hSw 4 (v := .int .i64 op) rfl; have d5 := cellL hSw 5 (v := .int .u32 (kk : Int)) rfl)
                    go_simp
                    all_goals with_reducible rfl
                  (try simp only [List.getElem_toArray, List.getElem_cons_zero, List.getElem_cons_succ, Act.put, List.setIfInBounds_toArray, List.set_cons_zero, List.set_cons_succ])
                  refine wpAnyH_take (i := 7) (v := ?_) rfl (by kernel_rfl) (by kernel_rfl) (by kernel_rfl) (fun _ _ _ h => h) (Or.inl ⟨by rfl, ?_⟩) (by assumption) ?_
                  rotate_left
                  · intro wS hSw
                    (have d4 := cellL hSw 4 (v := .int .i64 op) rfl; have d5 := cellL hSw 5 (v := .int .u32 (kk : Int)) rfl)
                    go_simp
                    all_goals with_reducible rfl
                  (try simp only [List.getElem_toArray, List.getElem_cons_zero, List.getElem_cons_succ, Act.put, List.setIfInBounds_toArray, List.set_cons_zero, List.set_cons_succ])
                  refine wpAnyH_take (i := 8) (v := ?_) rfl (by kernel_rfl) (by kernel_rfl) (by kernel_rfl) (fun _ _ _ h => h) (Or.inl ⟨by rfl, ?_⟩) (by assumption) ?_
                  rotate_left
                  · intro wS hSw
                    (have d4 := cellL hSw 4 (v := .int .i64 op) rfl; have d5 := cellL hSw 5 (v := .int .u32 (kk : Int)) rfl)
                    go_simp
                    all_goals with_reducible rfl
                  (try simp only [List.getElem_toArray, List.getElem_cons_zero, List.getElem_cons_succ, Act.put, List.setIfInBounds_toArray, List.set_cons_zero, List.set_cons_succ])
                  refine wpAnyH_take (i := 9) (v := ?_) rfl (by kernel_rfl) (by kernel_rfl) (by kernel_rfl) (fun _ _ _ h => h) (Or.inl ⟨by rfl, ?_⟩) (by assumption) ?_
                  rotate_left
                  · intro wS hSw
                    (have d4 := cellL hSw 4 (v := .int .i64 op) rfl; have d5 := cellL hSw 5 (v := .int .u32 (kk : Int)) rfl)
                    go_simp
                    all_goals with_reducible rfl
                  (try simp only [List.getElem_toArray, List.getElem_cons_zero, List.getElem_cons_succ, Act.put, List.setIfInBounds_toArray, List.set_cons_zero, List.set_cons_succ])
                  refine held_one (i := 3) (by kernel_rfl) rfl (fun K hK => ?_)
                  go_simp
                  go_at_call 18
                  refine (HC.out _).mono ?_
                  rintro e w9 ⟨rfl, rfl⟩
                  refine hK.out _ _ H6.out.box (fun hH2 => ?_)
                  clear hK K hHeld
                  (try simp only [Act.put, List.setIfInBounds_toArray, List.set_cons_zero, List.set_cons_succ, List.getElem_toArray, List.getElem_cons_zero, List.getElem_cons_succ])
                  refine wpAnyH_take (i := 10) (v := ?_) rfl (by kernel_rfl) (by kernel_rfl) (by kernel_rfl) (fun _ _ _ h => h) (Or.inl ⟨by rfl, ?_⟩) (by assumption) ?_
                  rotate_left
                  · intro wS hSw
                    (skip)
                    go_simp
                    all_goals with_reducible rfl
                  (try simp only [List.getElem_toArray, List.getElem_cons_zero, List.getElem_cons_succ, Act.put, List.setIfInBounds_toArray, List.set_cons_zero, List.set_cons_succ])
                  refine held_one (i := 11) (by kernel_rfl) rfl (fun K hK => ?_)
                  go_simp
                  refine hK.out _ _ (H6.out.alloc _) (fun hH3 => ?_)
                  clear hK K hH2
                  (try simp only [Act.put, List.setIfInBounds_toArray, List.set_cons_zero, List.set_cons_succ, List.getElem_toArray, List.getElem_cons_zero, List.getElem_cons_succ])
                  obtain ⟨i8, hi8, hz8, hs8, hb8⟩ := info_parts6 info_insL
                  refine held_one (i := 12) (by kernel_rfl) rfl (fun K hK => ?_)
                  rw [if_pos (by kernel_rfl)]
                  refine oper_append6 (.tmp 93) (.tmp 104) 29 rfl B 39 i8 _ 4 8 Try.underlying29 hi8 hz8 hs8 hb8 rfl (by decide) (.slice A2 m2 c2) m2 (i4L (emitN nd lg k ++ [(32, 0, 0, uo)] ++ [(84, 0, 0, mask)])) rfl (own_below H6.out.own (lboxL _ _)) ⟨w9.heap.size, 0, none⟩ 1 1 (i4C (cop, u8N ((fT : Int) - (m2 : Int) - 1), u8N (0), kk)) rfl rfl (i4_new _ _) (i4_one _) (by have q := H5b.out; unfold maxLen; omega) (by have q := H5b.out; omega) (Nat.le_trans (Nat.le_trans H6.out.le H6.out.bel.size) (lboxL _ _).size) ?_
                  intro v' V7 ho hg hb
                  obtain ⟨A7, c7, m7, rfl, hm9, hO9⟩ := out_step H6.out ho hg hb
                  have H7 := Lib.hid hO9
                  have H7m := Lib.hid hm9
                  have H7b : Hid (m7 ≤ 20483) := Lib.hid (by have q := H5b.out; omega)
                  refine hK.out _ _ H7.out.box (fun hH4 => ?_)
                  clear hK K hH3 ho hg hb hO9 hm9 hx8 hy8
                  (try simp only [Act.put, List.setIfInBounds_toArray, List.set_cons_zero, List.set_cons_succ, List.getElem_toArray, List.getElem_cons_zero, List.getElem_cons_succ])
                  refine wpAnyH_take (i := 13) (v := ?_) rfl (by kernel_rfl) (by kernel_rfl) (by kernel_rfl) (fun _ _ _ h => h) (Or.inl ⟨by rfl, ?_⟩) (by assumption) ?_
                  rotate_left
                  · intro wS hSw
                    (skip)
                    go_simp
                    all_goals with_reducible rfl
                  (try simp only [List.getElem_toArray, List.getElem_cons_zero, List.getElem_cons_succ, Act.put, List.setIfInBounds_toArray, List.set_cons_zero, List.set_cons_succ])
                  refine wpAnyH_done (by kernel_rfl) ?_ _
                  refine hK8 _ _ ?_
                  clear hK8 K8 hH4 H6
                  have d6 := cellL H7.out.box 6 (v := .int .i64 (t : Int)) rfl
                  have d7 := cellL H7.out.box 7 (v := .int .i64 (f : Int)) rfl
                  have g0 : V7.cell? ⟨fb, k * 2, none⟩ = some (.bool false) := (HFA.out V7 H7.out.bel).1
                  have g1 : V7.cell? ⟨fb, k * 2 + 1, none⟩ = some (.bool true) := (HFA.out V7 H7.out.bel).2
                  have q1 := (HAT.out V7 H7.out.bel).1
                  have q2 := (HAT.out V7 H7.out.bel).2
                  have hwF : IntKind.i64.wrap ((fF : Int) - (m7 : Int)) = (fF : Int) - (m7 : Int) := IntWalk.i64_in _ (by have q := HFB.out; have q9 := H7b.out; omega)
                  have hwF1 : IntKind.i64.wrap ((fF : Int) - (m7 : Int) - 1) = (fF : Int) - (m7 : Int) - 1 := IntWalk.i64_in _ (by have q := HFB.out; have q9 := H7b.out; omega)
                  have hu2 := u32_wrap ((fF : Int) - (m7 : Int) - 1)
                  go_wp2_with (first
                    | (at_builtin; refine wpList_append_own _ rfl (.tmp 130) (.tmp 142) 29 rfl 39 _ 4 8 Try.underlying29 info_insL rfl (by decide) B (.slice A7 m7 c7) m7 (i4L (emitN nd lg k ++ [(32, 0, 0, uo)] ++ [(84, 0, 0, mask)] ++ [(cop, u8N ((fT : Int) - (m2 : Int) - 1), u8N (0), kk)])) rfl (own_below H7.out.own (lboxL _ _)) ⟨V7.heap.size, 0, none⟩ 1 1 (i4C (5, 0, 0, u32N ((fF : Int) - (m7 : Int) - 1))) rfl rfl (i4_new _ _) (i4_one _) (by have q := H7b.out; unfold maxLen; omega) (by have q := H7b.out; omega) (Nat.le_trans (Nat.le_trans H7.out.le H7.out.bel.size) (lboxL _ _).size) ?_; intro v' V9 ho hg hb; obtain ⟨A9, c9x, m9, rfl, hm9, hO9⟩ := out_step H7.out ho hg hb; have H9 := Lib.hid hO9; have H9m := Lib.hid hm9; have H9b : Hid (m9 ≤ 20484) := Lib.hid (by have q := H7b.out; omega) ; clear ho hg hb hO9 hm9; skip))
                  have heq : emitN nd lg (k + 1) = emitN nd lg k ++ [(32, 0, 0, uo)] ++ [(84, 0, 0, mask)] ++ [(cop, u8N ((fT : Int) - (m2 : Int) - 1), u8N (0), kk)] ++ [(5, 0, 0, u32N ((fF : Int) - (m7 : Int) - 1))] := by
                    have hov := HOV.out m2 (by have z1 := H4m.out; have z2 := H5m.out; have z3 := HLN.out; have z4 := HJA.out; rw [if_neg HK9.out] at z4; omega)
                    have e2 : overF nd lg k - 1 = (fF : Int) - (m7 : Int) - 1 := by have z := H7m.out; rw [hov.2]; omega
                    have ej : jumpN nd lg k = (cop, u8N ((fT : Int) - (m2 : Int) - 1), u8N (0), kk) := by rw [HJ.out]; rw [hov.1]; rfl
                    have et : wayT nd lg k = [] := by rw [HWT.out]; rfl
                    have ef : wayF nd lg k = [(5, 0, 0, u32N ((fF : Int) - (m7 : Int) - 1))] := by rw [HWF.out]; rw [← e2]; rfl
                    rw [HNX.out, HI.out, HHD.out, if_neg HK9.out, ej, et, ef]
                    simp only [List.append_assoc, List.cons_append, List.nil_append, List.append_nil]
                  exact ⟨⟨k + 1, by omega, by go_num, A9, c9x, m9, rfl, by rw [heq]; exact H9.out.own, by rw [heq]; exact H9.out.len, H9.out.bel⟩, by simp [intOf]; omega⟩
                | false =>
                  go_upto_region 27 with (first
                    | (at_builtin; refine wpList_append_own _ rfl (.tmp 58) (.tmp 62) 29 rfl 39 _ 4 8 Try.underlying29 info_insL rfl (by decide) B (.slice A1 m1 c1) m1 (i4L (emitN nd lg k ++ [(32, 0, 0, uo)])) rfl (own_below H4.out.own (lboxL _ _)) ⟨V1.heap.size, 0, none⟩ 1 1 (i4C (84, 0, 0, mask)) rfl rfl (i4_new _ _) (i4_one _) (by have q := H4b.out; unfold maxLen; omega) (by have q := H4b.out; omega) (Nat.le_trans (Nat.le_trans H4.out.le H4.out.bel.size) (lboxL _ _).size) ?_; intro v' V2 ho hg hb; obtain ⟨A2, c2, m2, rfl, hm9, hO9⟩ := out_step H4.out ho hg hb; have H5 := Lib.hid hO9; have H5m := Lib.hid hm9; have H5b : Hid (m2 ≤ 20482) := Lib.hid (by have q := H4b.out; omega) ; clear ho hg hb hO9 hm9; clear d3; have d6 := cellL H5.out.box 6 (v := .int .i64 (t : Int)) rfl; have d7 := cellL H5.out.box 7 (v := .int .i64 (f : Int)) rfl; have g0 : V2.cell? ⟨fb, k * 2, none⟩ = some (.bool false) := (HFA.out V2 H5.out.bel).1; have g1 : V2.cell? ⟨fb, k * 2 + 1, none⟩ = some (.bool false) := (HFA.out V2 H5.out.bel).2; have q1 := (HAT.out V2 H5.out.bel).1; have q2 := (HAT.out V2 H5.out.bel).2; have hwT : IntKind.i64.wrap ((fT : Int) - (m2 : Int)) = (fT : Int) - (m2 : Int) := IntWalk.i64_in _ (by have q := HFB.out; have q9 := H5b.out; omega); have hwF : IntKind.i64.wrap ((fF : Int) - (m2 : Int)) = (fF : Int) - (m2 : Int) := IntWalk.i64_in _ (by have q := HFB.out; have q9 := H5b.out; omega); have hwT1 : IntKind.i64.wrap ((fT : Int) - (m2 : Int) - 1) = (fT : Int) - (m2 : Int) - 1 := IntWalk.i64_in _ (by have q := HFB.out; have q9 := H5b.out; omega); have hwF1 : IntKind.i64.wrap ((fF : Int) - (m2 : Int) - 1) = (fF : Int) - (m2 : Int) - 1 := IntWalk.i64_in _ (by have q := HFB.out; have q9 := H5b.out; omega))
                    | (at_builtin; refine wpList_append_own _ rfl (.tmp 48) (.tmp 53) 29 rfl 39 _ 4 8 Try.underlying29 info_insL rfl (by decide) B (.slice Ao mo co) mo (i4L (emitN nd lg k)) rfl (own_below HR.out.own (lboxL _ _)) ⟨V0.heap.size, 0, none⟩ 1 1 (i4C (32, 0, 0, uo)) rfl rfl (i4_new _ _) (i4_one _) (by have q := HRb.out; unfold maxLen; omega) (by have q := HRb.out; omega) (Nat.le_trans (Nat.le_trans HR.out.le HR.out.bel.size) (lboxL _ _).size) ?_; intro v' V1 ho hg hb; obtain ⟨A1, c1, m1, rfl, hm9, hO9⟩ := out_step HR.out ho hg hb; have H4 := Lib.hid hO9; have H4m := Lib.hid hm9; have H4b : Hid (m1 ≤ 20481) := Lib.hid (by have q := HRb.out; omega) ; clear ho hg hb hO9 hm9; clear d0 d2; have d3 := cellL H4.out.box 3 (v := .int .u32 (mask : Int)) rfl))
                  rename_i K8 hK8
                  have hx8 : IntKind.u8.wrap ((fT : Int) - (m2 : Int) - 1) = ((u8N ((fT : Int) - (m2 : Int) - 1) : Nat) : Int) := u8_wrap _
                  have hy8 : IntKind.u8.wrap ((fF : Int) - (m2 : Int) - 1) = ((u8N ((fF : Int) - (m2 : Int) - 1) : Nat) : Int) := u8_wrap _
                  clear d6 d7 g0 g1 q1 q2 hwT hwF hwT1 hwF1
                  refine wp_region_held_drew (S := fun W' => W'.heap[nb]? = some (ndO ⟨false, word, off, mask, op, kk, (t : Int), (f : Int)⟩)) (by kernel_rfl) H5.out.box (fun hHeld => ?_)
                  have H6 := Lib.hid H5.out.drew
                  generalize V2.drew = Y at H6 hHeld ⊢
                  refine wpAnyH_take (i := 0) (v := ?_) rfl (by kernel_rfl) (by kernel_rfl) (by kernel_rfl) (fun _ _ _ h => h) (Or.inl ⟨by rfl, ?_⟩) (by assumption) ?_
                  rotate_left
                  · intro wS hSw
                    (have d4 := cellL hSw 4 (v := .int .i64 op) rfl; have d5 := cellL hSw 5 (v := .int .u32 (kk : Int)) rfl)
                    go_simp
                    all_goals with_reducible rfl
                  (try simp only [List.getElem_toArray, List.getElem_cons_zero, List.getElem_cons_succ, Act.put, List.setIfInBounds_toArray, List.set_cons_zero, List.set_cons_succ])
                  refine wpAnyH_take (i := 1) (v := ?_) rfl (by kernel_rfl) (by kernel_rfl) (by kernel_rfl) (fun _ _ _ h => h) (Or.inl ⟨by rfl, ?_⟩) (by assumption) ?_
                  rotate_left
                  · intro wS hSw
                    (have d4 := cellL hSw 4 (v := .int .i64 op) rfl; have d5 := cellL hSw 5 (v := .int .u32 (kk : Int)) rfl)
                    go_simp
                    all_goals with_reducible rfl
                  (try simp only [List.getElem_toArray, List.getElem_cons_zero, List.getElem_cons_succ, Act.put, List.setIfInBounds_toArray, List.set_cons_zero, List.set_cons_succ])
                  refine wpAnyH_take (i := 2) (v := ?_) rfl (by kernel_rfl) (by kernel_rfl) (by kernel_rfl) (fun _ _ _ h => h) (Or.inl ⟨by rfl, ?_⟩) (by assumption) ?_
                  rotate_left
                  · intro wS hSw
                    (have d4 := cellL hSw 4 (v := .int .i64 op) rfl; have d5 := cellL hSw 5 (v := .int .u32 (kk : Int)) rfl)
                    go_simp
                    all_goals with_reducible rfl
                  (try simp only [List.getElem_toArray, List.getElem_cons_zero, List.getElem_cons_succ, Act.put, List.setIfInBounds_toArray, List.set_cons_zero, List.set_cons_succ])
                  refine wpAnyH_take (i := 4) (v := ?_) rfl (by kernel_rfl) (by kernel_rfl) (by kernel_rfl) (fun _ _ _ h => h) (Or.inl ⟨by rfl, ?_⟩) (by assumption) ?_
                  rotate_left
                  · intro wS hSw
                    (have d4 := cellL hSw 4 (v := .int .i64 op) rfl; have d5 := cellL hSw 5 (v := .int .u32 (kk : Int)) rfl)
                    go_simp
                    all_goals with_reducible rfl
                  (try simp only [List.getElem_toArray, List.getElem_cons_zero, List.getElem_cons_succ, Act.put, List.setIfInBounds_toArray, List.set_cons_zero, List.set_cons_succ])
                  refine wpAnyH_take (i := 5) (v := ?_) rfl (by kernel_rfl) (by kernel_rfl) (by kernel_rfl) (fun _ _ _ h => h) (Or.inl ⟨by rfl, ?_⟩) (by assumption) ?_
                  rotate_left
                  · intro wS hSw
                    (have d4 := cellL hSw 4 (v := .int .i64 op) rfl; have d5 := cellL hSw 5 (v := .int .u32 (kk : Int)) rfl)
                    go_simp
                    all_goals with_reducible rfl
                  (try simp only [List.getElem_toArray, List.getElem_cons_zero, List.getElem_cons_succ, Act.put, List.setIfInBounds_toArray, List.set_cons_zero, List.set_cons_succ])
                  refine wpAnyH_take (i := 6) (v := ?_) rfl (by kernel_rfl) (by kernel_rfl) (by kernel_rfl) (fun _ _ _ h => h) (Or.inl ⟨by rfl, ?_⟩) (by assumption) ?_
                  rotate_left
                  · intro wS hSw
                    (have d4 := cellL hSw 4 (v := .int .i64 op) rfl; have d5 := cellL hSw 5 (v := .int .u32 (kk : Int)) rfl)
                    go_simp
                    all_goals with_reducible rfl
                  (try simp only [List.getElem_toArray, List.getElem_cons_zero, List.getElem_cons_succ, Act.put, List.setIfInBounds_toArray, List.set_cons_zero, List.set_cons_succ])
                  refine wpAnyH_take (i := 7) (v := ?_) rfl (by kernel_rfl) (by kernel_rfl) (by kernel_rfl) (fun _ _ _ h => h) (Or.inl ⟨by rfl, ?_⟩) (by assumption) ?_
                  rotate_left
                  · intro wS hSw
                    (have d4 := cellL hSw 4 (v := .int .i64 op) rfl; have d5 := cellL hSw 5 (v := .int .u32 (kk : Int)) rfl)
                    go_simp
                    all_goals with_reducible rfl
                  (try simp only [List.getElem_toArray, List.getElem_cons_zero, List.getElem_cons_succ, Act.put, List.setIfInBounds_toArray, List.set_cons_zero, List.set_cons_succ])
                  refine wpAnyH_take (i := 8) (v := ?_) rfl (by kernel_rfl) (by kernel_rfl) (by kernel_rfl) (fun _ _ _ h => h) (Or.inl ⟨by rfl, ?_⟩) (by assumption) ?_
                  rotate_left
                  · intro wS hSw
                    (have d4 := cellL hSw 4 (v := .int .i64 op) rfl; have d5 := cellL hSw 5 (v := .int .u32 (kk : Int)) rfl)
                    go_simp
                    all_goals with_reducible rfl
                  (try simp only [List.getElem_toArray, List.getElem_cons_zero, List.getElem_cons_succ, Act.put, List.setIfInBounds_toArray, List.set_cons_zero, List.set_cons_succ])
                  refine wpAnyH_take (i := 9) (v := ?_) rfl (by kernel_rfl) (by kernel_rfl) (by kernel_rfl) (fun _ _ _ h => h) (Or.inl ⟨by rfl, ?_⟩) (by assumption) ?_
                  rotate_left
                  · intro wS hSw
                    (have d4 := cellL hSw 4 (v := .int .i64 op) rfl; have d5 := cellL hSw 5 (v := .int .u32 (kk : Int)) rfl)
                    go_simp
                    all_goals with_reducible rfl
                  (try simp only [List.getElem_toArray, List.getElem_cons_zero, List.getElem_cons_succ, Act.put, List.setIfInBounds_toArray, List.set_cons_zero, List.set_cons_succ])
                  refine held_one (i := 3) (by kernel_rfl) rfl (fun K hK => ?_)
                  go_simp
                  go_at_call 18
                  refine (HC.out _).mono ?_
                  rintro e w9 ⟨rfl, rfl⟩
                  refine hK.out _ _ H6.out.box (fun hH2 => ?_)
                  clear hK K hHeld
                  (try simp only [Act.put, List.setIfInBounds_toArray, List.set_cons_zero, List.set_cons_succ, List.getElem_toArray, List.getElem_cons_zero, List.getElem_cons_succ])
                  refine wpAnyH_take (i := 10) (v := ?_) rfl (by kernel_rfl) (by kernel_rfl) (by kernel_rfl) (fun _ _ _ h => h) (Or.inl ⟨by rfl, ?_⟩) (by assumption) ?_
                  rotate_left
                  · intro wS hSw
                    (skip)
                    go_simp
                    all_goals with_reducible rfl
                  (try simp only [List.getElem_toArray, List.getElem_cons_zero, List.getElem_cons_succ, Act.put, List.setIfInBounds_toArray, List.set_cons_zero, List.set_cons_succ])
                  refine held_one (i := 11) (by kernel_rfl) rfl (fun K hK => ?_)
                  go_simp
                  refine hK.out _ _ (H6.out.alloc _) (fun hH3 => ?_)
                  clear hK K hH2
                  (try simp only [Act.put, List.setIfInBounds_toArray, List.set_cons_zero, List.set_cons_succ, List.getElem_toArray, List.getElem_cons_zero, List.getElem_cons_succ])
                  obtain ⟨i8, hi8, hz8, hs8, hb8⟩ := info_parts6 info_insL
                  refine held_one (i := 12) (by kernel_rfl) rfl (fun K hK => ?_)
                  rw [if_pos (by kernel_rfl)]
                  refine oper_append6 (.tmp 93) (.tmp 104) 29 rfl B 39 i8 _ 4 8 Try.underlying29 hi8 hz8 hs8 hb8 rfl (by decide) (.slice A2 m2 c2) m2 (i4L (emitN nd lg k ++ [(32, 0, 0, uo)] ++ [(84, 0, 0, mask)])) rfl (own_below H6.out.own (lboxL _ _)) ⟨w9.heap.size, 0, none⟩ 1 1 (i4C (cop, u8N ((fT : Int) - (m2 : Int) - 1), u8N ((fF : Int) - (m2 : Int) - 1), kk)) rfl rfl (i4_new _ _) (i4_one _) (by have q := H5b.out; unfold maxLen; omega) (by have q := H5b.out; omega) (Nat.le_trans (Nat.le_trans H6.out.le H6.out.bel.size) (lboxL _ _).size) ?_
                  intro v' V7 ho hg hb
                  obtain ⟨A7, c7, m7, rfl, hm9, hO9⟩ := out_step H6.out ho hg hb
                  have H7 := Lib.hid hO9
                  have H7m := Lib.hid hm9
                  have H7b : Hid (m7 ≤ 20483) := Lib.hid (by have q := H5b.out; omega)
                  refine hK.out _ _ H7.out.box (fun hH4 => ?_)
                  clear hK K hH3 ho hg hb hO9 hm9 hx8 hy8
                  (try simp only [Act.put, List.setIfInBounds_toArray, List.set_cons_zero, List.set_cons_succ, List.getElem_toArray, List.getElem_cons_zero, List.getElem_cons_succ])
                  refine wpAnyH_take (i := 13) (v := ?_) rfl (by kernel_rfl) (by kernel_rfl) (by kernel_rfl) (fun _ _ _ h => h) (Or.inl ⟨by rfl, ?_⟩) (by assumption) ?_
                  rotate_left
                  · intro wS hSw
                    (skip)
                    go_simp
                    all_goals with_reducible rfl
                  (try simp only [List.getElem_toArray, List.getElem_cons_zero, List.getElem_cons_succ, Act.put, List.setIfInBounds_toArray, List.set_cons_zero, List.set_cons_succ])
                  refine wpAnyH_done (by kernel_rfl) ?_ _
                  refine hK8 _ _ ?_
                  clear hK8 K8 hH4 H6
                  have d6 := cellL H7.out.box 6 (v := .int .i64 (t : Int)) rfl
                  have d7 := cellL H7.out.box 7 (v := .int .i64 (f : Int)) rfl
                  have g0 : V7.cell? ⟨fb, k * 2, none⟩ = some (.bool false) := (HFA.out V7 H7.out.bel).1
                  have g1 : V7.cell? ⟨fb, k * 2 + 1, none⟩ = some (.bool false) := (HFA.out V7 H7.out.bel).2
                  have q1 := (HAT.out V7 H7.out.bel).1
                  have q2 := (HAT.out V7 H7.out.bel).2
                  go_wp2
                  have heq : emitN nd lg (k + 1) = emitN nd lg k ++ [(32, 0, 0, uo)] ++ [(84, 0, 0, mask)] ++ [(cop, u8N ((fT : Int) - (m2 : Int) - 1), u8N ((fF : Int) - (m2 : Int) - 1), kk)] := by
                    have hov := HOV.out m2 (by have z1 := H4m.out; have z2 := H5m.out; have z3 := HLN.out; have z4 := HJA.out; rw [if_neg HK9.out] at z4; omega)
                    have ej : jumpN nd lg k = (cop, u8N ((fT : Int) - (m2 : Int) - 1), u8N ((fF : Int) - (m2 : Int) - 1), kk) := by rw [HJ.out]; rw [hov.1, hov.2]; rfl
                    have et : wayT nd lg k = [] := by rw [HWT.out]; rfl
                    have ef : wayF nd lg k = [] := by rw [HWF.out]; rfl
                    rw [HNX.out, HI.out, HHD.out, if_neg HK9.out, ej, et, ef]
                    simp only [List.append_assoc, List.cons_append, List.nil_append, List.append_nil]
                  exact ⟨⟨k + 1, by omega, by go_num, A7, c7, m7, rfl, by rw [heq]; exact H7.out.own, by rw [heq]; exact H7.out.len, H7.out.bel⟩, by simp [intOf]; omega⟩
        · obtain rfl : k = n := by omega
          have HR := Lib.hid (And.intro ho (And.intro hlen hb))
          clear ho hlen hb
          go_wp2
          go_ret2
          refine ⟨_, rfl, ?_, ?_⟩
          · have q := HR.out.1
            rw [HR.out.2.1]
            exact own_lower9 q (by rw [← HBB.out]; exact H3.out.2.2.2.size)
          · exact H3.out.2.2.2.trans (HR.out.2.2.mono (by rw [← HBB.out]; exact H3.out.2.2.2.size))
  · rw [if_neg h0]
    have hsr : sizeR nd n = (0, (chkN nd n).1) := if_neg h0
    rw [hsr] at HS
    have h0b : ((chkN nd n).1 == 0) = false := beq_false_of_ne h0
    clear h0 hsr
    generalize (chkN nd n).1 = c at HS h0b ⊢
    go_enter Try.func9, Try.ntmps9
    go_wp2_with (go_at_call 7; (with_reducible refine HS.out.mono ?_); rintro e w1 ⟨rfl, hb1⟩; have H1 := Lib.hid hb1; clear hb1)
    go_ret2
    exact ⟨_, rfl, ⟨by simp [i4L], .inl ⟨rfl, rfl⟩⟩, H1.out⟩
end Go.Proofs.Ytfeeainhelegjaa
