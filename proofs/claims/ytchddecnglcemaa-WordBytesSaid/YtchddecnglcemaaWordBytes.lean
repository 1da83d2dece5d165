/-
  'WordBytes': for every list of bytes and every list of places, the law of layer 1 on Load and Store returns true, and leaves memory as it was. No condition.
-/
import Derived.Test.YtchddecnglcemaaWordStore
import Derived.Deep.RegionHeld3
namespace Go.Proofs.Ytchddecnglcemaa.wordBytes
open Go Go.ChangeShapes Go.WideShapes Go.ChangeAt Go.RowKit
set_option linter.unusedSimpArgs false
set_option linter.unusedVariables false

theorem one_new (w : World) : Holds (w.alloc (.cells #[.int .u8 77] 5)) (some ⟨w.heap.size, 0, none⟩) 1 (fun _ => .int .u8 77) := fun _ =>
  ⟨w.heap.size, 0, rfl, by simp, fun i hi => by
    obtain rfl : i = 0 := by omega
    simp⟩
theorem second_new {w w1 w2 : World} {o : Obj} {g1 g2 B : Nat} (hg : (w1.alloc o).grownBy w2 (some g1)) (hgg : g2 = g1 ∨ g2 = (w1.alloc o).heap.size) (hb : Below B w w1) (hge : B ≤ g1) (hlt : g1 < w1.heap.size) : Below B w w2 ∧ B ≤ g2 := by
  have hB : B ≤ w1.heap.size := by omega
  exact ⟨(hb.alloc hB o).trans (below_of_grown hg hge (by simp; omega)), by
    rcases hgg with h | h
    · rw [h]; exact hge
    · rw [h]; simp; omega⟩

/-- What holds at each round's head: the call's own row and the document's read alike; behind the own one's end stands 77; nothing that was there has been written. -/
def Inv (w wr : World) (g2 cap2 len : Nat) (v : Value) : Prop :=
  ∃ (g3 cap3 : Nat) (Fo Fn : Nat → Value) (c : Nat → Int), v = .slice (some ⟨g3, 0, none⟩) len cap3 ∧ wr.rowIs g2 5 cap2 Fo ∧ wr.rowIs g3 5 cap3 Fn ∧ (∀ j, j < len → Fo j = .int .u8 (c j)) ∧ (∀ j, j < len → Fn j = .int .u8 (c j)) ∧
    (∀ j, 0 ≤ c j ∧ c j < 256) ∧ Fo len = .int .u8 77 ∧ len ≤ cap3 ∧ cap3 ≤ maxLen ∧ g2 ≠ g3 ∧ w.heap.size ≤ g2 ∧ w.heap.size ≤ g3 ∧ Below w.heap.size w wr

/-- What a round knows of the world in which it stands. -/
def St (w W : World) (lb o : Nat) (p n x : Int) (g2 cap2 g4 cap4 : Nat) (Fo Fn : Nat → Value) : Prop :=
  (W.cell? ⟨lb, o, none⟩ = some (.int .i64 p) ∧ W.cell? ⟨lb, o + 1, none⟩ = some (.int .i64 n) ∧ W.cell? ⟨lb, o + 2, none⟩ = some (.int .u64 x)) ∧ W.rowIs g2 5 cap2 Fo ∧ W.rowIs g4 5 cap4 Fn ∧ Below w.heap.size w W
theorem St.drawn {w W : World} {lb o : Nat} {p n x : Int} {g2 cap2 g4 cap4 : Nat} {Fo Fn : Nat → Value} (h : St w W lb o p n x g2 cap2 g4 cap4 Fo Fn) (N : Nat) : St w (W.drewN N) lb o p n x g2 cap2 g4 cap4 Fo Fn :=
  ⟨h.1, h.2.1, h.2.2.1, below_drawn h.2.2.2 N⟩

theorem St.drew {w W : World} {lb o : Nat} {p n x : Int} {g2 cap2 g4 cap4 : Nat} {Fo Fn : Nat → Value} (h : St w W lb o p n x g2 cap2 g4 cap4 Fo Fn) : St w W.drew lb o p n x g2 cap2 g4 cap4 Fo Fn :=
  ⟨h.1, h.2.1, h.2.2.1, h.2.2.2.drew⟩
theorem load_cells {W : World} {g cap len p n : Nat} {F : Nat → Value} {c : Nat → Int} (h : W.rowIs g 5 cap F) (hF : ∀ j, j < len → F j = .int .u8 (c j)) (hl : len ≤ cap) (hp : p + n ≤ len) :
    ∀ i, i < n → W.cell? ⟨g, 0 + (p + i), none⟩ = some (.int .u8 (c (p + i))) := fun i hi => by rw [Nat.zero_add, h.cell (by omega), hF _ (by omega)]
/-- The numbers behind a Store. -/
def behind (c : Nat → Int) (p n : Nat) (x : Int) (j : Nat) : Int := if p ≤ j ∧ j < p + n then byteI x (j - p) else c j
theorem wrote_behind {F : Nat → Value} {c : Nat → Int} {p n j : Nat} {x : Int} (h : F j = .int .u8 (c j)) : wrote F p n x j = .int .u8 (behind c p n x j) := by
  unfold wrote behind; split
  · rfl
  · exact h
theorem behind_bd {c : Nat → Int} {p n : Nat} {x : Int} (h : ∀ j, 0 ≤ c j ∧ c j < 256) (j : Nat) : 0 ≤ behind c p n x j ∧ behind c p n x j < 256 := by
  unfold behind; split
  · exact byteI_bd _ _
  · exact h j

set_option maxRecDepth 100000 in
set_option maxHeartbeats 2000000 in
theorem walk_none (a : Option Addr) (len cap : Nat) (z : Nat → Int) (l : Option Addr) (mc : Nat) (w : World) (hl : len ≤ 140737488351232) (hs : Holds w a len (fun i => .int .u8 (z i))) (hz : ∀ i, 0 ≤ z i ∧ z i < 256) :
    Calls Try.prog 5 #[.slice a len cap, .slice l 0 mc] w fun e w' => e = .returned (.bool true) ∧ Below w.heap.size w w' := by
  go_enter Try.func5, Try.ntmps5
  go_wp2_with (first | (go_at_call 10; refine (head_true _).mono ?_; rintro e w' ⟨rfl, hb0⟩) | (at_builtin; refine wpList_append_row _ rfl (.tmp 14) (.tmp 15) 35 rfl 5 (.int .u8 0) 1 Try.underlying35 info_u8 rfl w'.heap.size 0 0 (fun _ => undef) rfl (World.rowIs_alloc w' #[] 5 (fun _ => undef) (fun i hi => absurd hi (by simp))) (Nat.le_refl _) (by decide) _ len cap (fun i => .int .u8 (z i)) rfl (hs.below (hb0.alloc hb0.size _)) (fun _ => rfl) (by unfold maxLen; omega) (by omega) ?_; intro g1 cap1 F1 w1 hr1 hc1 hm1 _ hF1 hg1 hgg1; simp only [Nat.zero_add] at hc1 hF1; obtain ⟨hb1, hge1⟩ := append_new_below hg1 hgg1; clear hg1 hgg1) | (at_builtin; refine wpList_append_row _ rfl (.tmp 16) (.tmp 17) 35 rfl 5 (.int .u8 0) 1 Try.underlying35 info_u8 rfl g1 len cap1 F1 rfl (hr1.alloc _) hc1 hm1 (some ⟨w1.heap.size, 0, none⟩) 1 1 (fun _ => .int .u8 77) rfl (one_new w1) (fun _ => rfl) (by unfold maxLen; omega) (by omega) ?_; intro g2 cap2 F2 w2 hr2 hc2 hm2 hF2 hG2 hg2 hgg2; obtain ⟨hb2, hge2⟩ := second_new hg2 hgg2 hb1 hge1 hr1.lt; have hS2 : ∀ k, k < len → F2 k = .int .u8 (z k) := fun k hk => (hF2 k hk).trans (hF1 k hk); have hL2 := hG2 0 (by omega); rw [Nat.add_zero] at hL2; clear hr1 hF1 hF2 hG2 hg2 hgg2; have b1 : (len : Int) ≤ (cap2 : Int) := by omega) | (at_builtin; refine wpList_append_row _ rfl (.tmp 22) (.tmp 23) 35 rfl 5 (.int .u8 0) 1 Try.underlying35 info_u8 rfl w2.heap.size 0 0 (fun _ => undef) rfl (World.rowIs_alloc w2 #[] 5 (fun _ => undef) (fun i hi => absurd hi (by simp))) (Nat.le_refl _) (by decide) _ len cap (fun i => .int .u8 (z i)) rfl (hs.below ((hb0.trans (hb2.mono hb0.size)).alloc (hb0.trans (hb2.mono hb0.size)).size _)) (fun _ => rfl) (by unfold maxLen; omega) (by omega) ?_; intro g3 cap3 F3 w3 hr3 hc3 hm3 _ hF3 hg3 hgg3; simp only [Nat.zero_add] at hc3 hF3; obtain ⟨hb3, hge3⟩ := append_new_below hg3 hgg3; have hI : Inv w w3 g2 cap2 len (.slice (some ⟨g3, 0, none⟩) len cap3) := ⟨g3, cap3, F2, F3, z, rfl, rowIs_below hr2 hb3 hr2.lt, hr3, hS2, hF3, hz, hL2, hc3, hm3, by have := hr2.lt; omega, by have := hb0.size; omega, by have := hb0.size; have := hb2.size; omega, (hb0.trans (hb2.mono hb0.size)).trans (hb3.mono (Nat.le_trans hb0.size hb2.size))⟩; clear hg3 hgg3 hr2 hr3 hS2 hF3 hL2))
  go_loopw [7, 8] (fun v i wr => i = .int .i64 0 ∧ Inv w wr g2 cap2 len v) (fun _ i _ => 0)
  case atStart => exact ⟨rfl, hI⟩
  case round =>
    obtain ⟨rfl, g4, cap4, Fo, Fn, c, rfl, ho, hn, hco, hcn, hcb, h77, hc4, hm4, hne, hg2, hg4, hbr⟩ := hrel
    have hc := ho.cell (i := len) (by omega)
    rw [h77] at hc
    have k1 : (len : Int) + 1 ≤ (cap2 : Int) := by omega
    clear hI hs hco hcn hcb hz
    go_wp2
    go_ret
    exact ⟨rfl, hbr⟩

set_option maxRecDepth 100000 in
set_option maxHeartbeats 4000000 in
theorem walk_some (a : Option Addr) (len cap : Nat) (z : Nat → Int) (lb loff m mc : Nat) (w : World) (hl : len ≤ 140737488351232) (hs : Holds w a len (fun i => .int .u8 (z i))) (hz : ∀ i, 0 ≤ z i ∧ z i < 256) (hm : m ≤ maxLen) (hlb : lb < w.heap.size)
    (hcl : ∀ i, i < m → ∃ (p n : Int) (x : BitVec 64), w.cell? ⟨lb, loff + i * 3, none⟩ = some (.int .i64 p) ∧ w.cell? ⟨lb, loff + i * 3 + 1, none⟩ = some (.int .i64 n) ∧ w.cell? ⟨lb, loff + i * 3 + 2, none⟩ = some (.int .u64 (x.toNat : Int))) :
    Calls Try.prog 5 #[.slice a len cap, .slice (some ⟨lb, loff, none⟩) m mc] w fun e w' => e = .returned (.bool true) ∧ Below w.heap.size w w' := by
  unfold maxLen at hm
  go_enter Try.func5, Try.ntmps5
  go_wp2_with (first | (go_at_call 10; refine (head_true _).mono ?_; rintro e w' ⟨rfl, hb0⟩) | (at_builtin; refine wpList_append_row _ rfl (.tmp 14) (.tmp 15) 35 rfl 5 (.int .u8 0) 1 Try.underlying35 info_u8 rfl w'.heap.size 0 0 (fun _ => undef) rfl (World.rowIs_alloc w' #[] 5 (fun _ => undef) (fun i hi => absurd hi (by simp))) (Nat.le_refl _) (by decide) _ len cap (fun i => .int .u8 (z i)) rfl (hs.below (hb0.alloc hb0.size _)) (fun _ => rfl) (by unfold maxLen; omega) (by omega) ?_; intro g1 cap1 F1 w1 hr1 hc1 hm1 _ hF1 hg1 hgg1; simp only [Nat.zero_add] at hc1 hF1; obtain ⟨hb1, hge1⟩ := append_new_below hg1 hgg1; clear hg1 hgg1) | (at_builtin; refine wpList_append_row _ rfl (.tmp 16) (.tmp 17) 35 rfl 5 (.int .u8 0) 1 Try.underlying35 info_u8 rfl g1 len cap1 F1 rfl (hr1.alloc _) hc1 hm1 (some ⟨w1.heap.size, 0, none⟩) 1 1 (fun _ => .int .u8 77) rfl (one_new w1) (fun _ => rfl) (by unfold maxLen; omega) (by omega) ?_; intro g2 cap2 F2 w2 hr2 hc2 hm2 hF2 hG2 hg2 hgg2; obtain ⟨hb2, hge2⟩ := second_new hg2 hgg2 hb1 hge1 hr1.lt; have hS2 : ∀ k, k < len → F2 k = .int .u8 (z k) := fun k hk => (hF2 k hk).trans (hF1 k hk); have hL2 := hG2 0 (by omega); rw [Nat.add_zero] at hL2; clear hr1 hF1 hF2 hG2 hg2 hgg2; have b1 : (len : Int) ≤ (cap2 : Int) := by omega) | (at_builtin; refine wpList_append_row _ rfl (.tmp 22) (.tmp 23) 35 rfl 5 (.int .u8 0) 1 Try.underlying35 info_u8 rfl w2.heap.size 0 0 (fun _ => undef) rfl (World.rowIs_alloc w2 #[] 5 (fun _ => undef) (fun i hi => absurd hi (by simp))) (Nat.le_refl _) (by decide) _ len cap (fun i => .int .u8 (z i)) rfl (hs.below ((hb0.trans (hb2.mono hb0.size)).alloc (hb0.trans (hb2.mono hb0.size)).size _)) (fun _ => rfl) (by unfold maxLen; omega) (by omega) ?_; intro g3 cap3 F3 w3 hr3 hc3 hm3 _ hF3 hg3 hgg3; simp only [Nat.zero_add] at hc3 hF3; obtain ⟨hb3, hge3⟩ := append_new_below hg3 hgg3; have hI : Inv w w3 g2 cap2 len (.slice (some ⟨g3, 0, none⟩) len cap3) := ⟨g3, cap3, F2, F3, z, rfl, rowIs_below hr2 hb3 hr2.lt, hr3, hS2, hF3, hz, hL2, hc3, hm3, by have := hr2.lt; omega, by have := hb0.size; omega, by have := hb0.size; have := hb2.size; omega, (hb0.trans (hb2.mono hb0.size)).trans (hb3.mono (Nat.le_trans hb0.size hb2.size))⟩; clear hg3 hgg3 hr2 hr3 hS2 hF3 hL2))
  have HZ := Lib.hid hz
  clear hs hz
  go_loopw [7, 8] (fun v i wr => ∃ k : Nat, k ≤ m ∧ i = .int .i64 (k : Int) ∧ Inv w wr g2 cap2 len v) (fun _ i _ => m - (intOf i).toNat)
  case atStart => exact ⟨0, by omega, rfl, hI⟩
  case round =>
    obtain ⟨k, hk, rfl, g4, cap4, Fo, Fn, c, rfl, ho, hn, hco, hcn, hcb, h77, hc4, hm4, hne, hg2, hg4, hbr⟩ := hrel
    clear hI
    by_cases hlt : k < m
    · have hlt' : (k : Int) < (m : Int) := by omega
      obtain ⟨p, n, x, q0, q1, q2⟩ := hcl k hlt
      have d0 := (hbr.cell (p := ⟨lb, loff + k * 3, none⟩) hlb).trans q0
      have d1 := (hbr.cell (p := ⟨lb, loff + k * 3 + 1, none⟩) hlb).trans q1
      have d2 := (hbr.cell (p := ⟨lb, loff + k * 3 + 2, none⟩) hlb).trans q2
      clear hcl q0 q1 q2
      by_cases hin : 1 ≤ n ∧ n ≤ 8 ∧ 0 ≤ p ∧ p + n ≤ len
      · obtain ⟨p, rfl⟩ := Int.eq_ofNat_of_zero_le (show 0 ≤ p by omega)
        obtain ⟨n, rfl⟩ := Int.eq_ofNat_of_zero_le (show 0 ≤ n by omega)
        have h1 : 1 ≤ n := by omega
        have h8 : n ≤ 8 := by omega
        have hp : p + n ≤ len := by omega
        have HCO := Lib.hid hco
        have HCN := Lib.hid hcn
        have H77 := Lib.hid h77
        have HCB := Lib.hid hcb
        have HO := Lib.hid ho
        have HN := Lib.hid hn
        have key := Lib.hid (fun N => St.drawn (w := w) ⟨⟨d0, d1, d2⟩, ho, hn, hbr⟩ N : ∀ N, St w (wr.drewN N) lb (loff + k * 3) p n (x.toNat : Int) g2 cap2 g4 cap4 Fo Fn)
        clear hin ho hn hco hcn h77 hcb
        go_wp2
        go_quiet ((go_at_call 21; exact quietL (word_Load g2 0 len cap2 (fun i => c (p + i)) p n _ (by unfold maxLen; omega) h1 h8 hp (load_cells HO.out HCO.out (by omega) hp) (fun i => HCB.out _))))
        go_wp2
        go_quiet ((go_at_call 22; exact quietA (ref_Load g4 0 len cap4 (fun i => c (p + i)) p n _ (by unfold maxLen; omega) h1 h8 hp (load_cells HN.out HCN.out (by omega) hp) (fun i => HCB.out _))))
        go_wp2
        clear HO HN
        generalize hW : wr.drewN _ = V
        have KV : St w V lb (loff + k * 3) p n (x.toNat : Int) g2 cap2 g4 cap4 Fo Fn := by rw [← hW]; exact key.out _
        clear hW hbr d0 d1 d2
        have KW := Lib.hid KV.drew
        obtain ⟨⟨v0, v1, v2⟩, _⟩ := KV
        have t0 : ({ V with drawn := V.drawn + 1 } : World).cell? ⟨lb, loff + k * 3, none⟩ = some (.int .i64 (p : Int)) := v0
        have t1 : ({ V with drawn := V.drawn + 1 } : World).cell? ⟨lb, loff + k * 3 + 1, none⟩ = some (.int .i64 (n : Int)) := v1
        have t2 : ({ V with drawn := V.drawn + 1 } : World).cell? ⟨lb, loff + k * 3 + 2, none⟩ = some (.int .u64 (x.toNat : Int)) := v2
        go_still_tail 16, (by kernel_rfl)
        change wpList _ _ _ _ _ V.drew
        clear t0 t1 t2 v0 v1 v2
        generalize V.drew = W at KW
        obtain ⟨⟨d0, d1, d2⟩, ho, hn, hb⟩ := KW.out
        clear KW
        have HO := Lib.hid ho
        have HH := Lib.hid ((holds_of_row hn hc4).congr HCN.out)
        have HB := Lib.hid hb
        have hlg : some lb ≠ some g2 := fun h => by injection h with h; omega
        have HLG := Lib.hid hlg
        clear ho hn hb hlg
        go_wp2_with (go_at_call 23; refine (word_Store g2 len cap2 cap2 Fo p n x _ (by unfold maxLen; omega) h1 h8 hp (by omega) HO.out).mono ?_; rintro e w4 ⟨rfl, hr4, hgr4⟩; have f0 := hgr4.cell d0 HLG.out; have f1 := hgr4.cell d1 HLG.out; have f2 := hgr4.cell d2 HLG.out; have HH4 := Lib.hid (HH.out.grown_at hgr4 (fun h => hne h.symm)); have HB4 := Lib.hid (HB.out.trans (below_of_grown hgr4 hg2 (HB.out.size))); have HR4 := Lib.hid hr4; clear d0 d1 d2 hr4 hgr4)
        go_region_held3 (fun w' => w'.cell? ⟨lb, loff + k * 3, none⟩ = some (.int .i64 (p : Int)) ∧ w'.cell? ⟨lb, loff + k * 3 + 1, none⟩ = some (.int .i64 (n : Int)) ∧ w'.cell? ⟨lb, loff + k * 3 + 2, none⟩ = some (.int .u64 (x.toNat : Int))) (go_keep)
          (first | (go_at_call 24; refine (ref_Store _ _ _ (fun j => .int .u8 (c j)) p n x _ hl h1 h8 hp (HH4.out.drawn _) (fun _ => rfl)).mono ?_; rintro e w5 ⟨v5, rfl, g5, cap5, F5, rfl, hr5, hc5, hm5, hF5, hb5, hge5⟩; have u0 := (hb5.cell (p := ⟨lb, loff + k * 3, none⟩) (cell_lt f0)).trans f0; have u1 := (hb5.cell (p := ⟨lb, loff + k * 3 + 1, none⟩) (cell_lt f1)).trans f1; have u2 := (hb5.cell (p := ⟨lb, loff + k * 3 + 2, none⟩) (cell_lt f2)).trans f2))
        have r2 := rowIs_below (rowIs_drawn HR4.out _) hb5 HR4.out.lt
        have y2 : ∀ j, j < len → wrote Fo p n (x.toNat : Int) j = .int .u8 (behind c p n (x.toNat : Int) j) := fun j hj => wrote_behind (HCO.out j hj)
        have y5 : ∀ j, j < len → F5 j = .int .u8 (behind c p n (x.toNat : Int) j) := fun j hj => (hF5 j hj).trans (wrote_behind rfl)
        have y7 : wrote Fo p n (x.toNat : Int) len = .int .u8 77 := by rw [wrote, if_neg (by omega)]; exact H77.out
        have k1 := run_string_of (P := Try.prog) w5 35 9 5 Try.underlying35 Try.underlying5 Try.underlying9 _ len cap2 (behind c p n (x.toNat : Int)) ((holds_of_row r2 (by omega)).congr y2)
        have k2 := run_string_of (P := Try.prog) w5 35 9 5 Try.underlying35 Try.underlying5 Try.underlying9 _ len cap5 (behind c p n (x.toNat : Int)) ((holds_of_row hr5 hc5).congr y5)
        have z2 := HR4.out.lt
        have z5 : w4.heap.size ≤ g5 := hge5
        have HI' : Hid (Inv w w5 g2 cap2 len (.slice (some ⟨g5, 0, none⟩) len cap5)) := Lib.hid ⟨g5, cap5, _, F5, _, rfl, r2, hr5, y2, y5, behind_bd HCB.out, y7, hc5, hm5, by omega, hg2, by have := HB4.out.size; omega, (below_drawn HB4.out _).trans (hb5.mono HB4.out.size)⟩
        clear r2 hr5 hF5 hb5 f0 f1 f2 u0 u1 u2 HO HH HCO HCN HCB H77 HB hge5 y2 y5 y7 HR4 HB4 HH4
        go_wp2
        go_roundw
        case rel => exact ⟨k + 1, by omega, by go_num, HI'.out⟩
        case measure => simp [intOf]; omega
      · have HI := Lib.hid hin
        have HCO := Lib.hid hco
        have HCN := Lib.hid hcn
        have H77 := Lib.hid h77
        have HCB := Lib.hid hcb
        have key := Lib.hid (fun N => St.drawn (w := w) ⟨⟨d0, d1, d2⟩, ho, hn, hbr⟩ N : ∀ N, St w (wr.drewN N) lb (loff + k * 3) p n (x.toNat : Int) g2 cap2 g4 cap4 Fo Fn)
        clear hin ho hn hco hcn h77 hcb
        go_wp2
        go_quiet ((go_at_call 21; exact quietL (word_Load_no _ _ _ _ _ _ (by unfold maxLen; omega) HI.out)))
        go_wp2
        go_quiet ((go_at_call 22; exact quietA (ref_Load_no _ _ _ _ _ _ (by unfold maxLen; omega) HI.out)))
        go_wp2
        go_quiet ((go_at_call 23; exact quietA (word_Store_no _ _ _ _ _ _ _ (by unfold maxLen; omega) HI.out)))
        go_wp2
        generalize hW : wr.drewN _ = W
        have KW : St w W lb (loff + k * 3) p n (x.toNat : Int) g2 cap2 g4 cap4 Fo Fn := by rw [← hW]; exact key.out _
        clear hW hbr d0 d1 d2
        obtain ⟨⟨d0, d1, d2⟩, ho, hn, hb⟩ := KW
        have HO := Lib.hid ho
        have HH := Lib.hid ((holds_of_row hn hc4).congr HCN.out)
        have HN := Lib.hid hn
        have HB := Lib.hid hb
        clear ho hn hb
        go_region_held3 (fun w' => w'.cell? ⟨lb, loff + k * 3, none⟩ = some (.int .i64 p) ∧ w'.cell? ⟨lb, loff + k * 3 + 1, none⟩ = some (.int .i64 n) ∧ w'.cell? ⟨lb, loff + k * 3 + 2, none⟩ = some (.int .u64 (x.toNat : Int))) (go_keep)
          (first | (go_at_call 24; refine (ref_Store_no _ _ _ (fun j => .int .u8 (c j)) _ _ _ _ hl HI.out (HH.out.drawn _) (fun _ => rfl)).mono ?_; rintro e w5 ⟨v5, rfl, g5, cap5, F5, rfl, hr5, hc5, hm5, hF5, hb5, hge5⟩; have f0 := (hb5.cell (p := ⟨lb, loff + k * 3, none⟩) (cell_lt d0)).trans d0; have f1 := (hb5.cell (p := ⟨lb, loff + k * 3 + 1, none⟩) (cell_lt d1)).trans d1; have f2 := (hb5.cell (p := ⟨lb, loff + k * 3 + 2, none⟩) (cell_lt d2)).trans d2))
        have r2 := rowIs_below (rowIs_drawn HO.out _) hb5 HO.out.lt
        have k1 := run_string_of (P := Try.prog) w5 35 9 5 Try.underlying35 Try.underlying5 Try.underlying9 _ len cap2 c ((holds_of_row r2 (by omega)).congr HCO.out)
        have k2 := run_string_of (P := Try.prog) w5 35 9 5 Try.underlying35 Try.underlying5 Try.underlying9 _ len cap5 c ((holds_of_row hr5 hc5).congr hF5)
        have z2 := HO.out.lt
        have z5 : W.heap.size ≤ g5 := hge5
        have HI' : Hid (Inv w w5 g2 cap2 len (.slice (some ⟨g5, 0, none⟩) len cap5)) := Lib.hid ⟨g5, cap5, Fo, F5, c, rfl, r2, hr5, HCO.out, hF5, HCB.out, H77.out, hc5, hm5, by omega, hg2, by have := HB.out.size; omega, (below_drawn HB.out _).trans (hb5.mono HB.out.size)⟩
        clear r2 hr5 hF5 hb5 f0 f1 f2 d0 d1 d2 HO HH HN HCO HCN HCB H77 HB hge5
        go_wp2
        go_roundw
        case rel => exact ⟨k + 1, by omega, by go_num, HI'.out⟩
        case measure => simp [intOf]; omega
    · have hc := ho.cell (i := len) (by omega)
      rw [h77] at hc
      have k1 : (len : Int) + 1 ≤ (cap2 : Int) := by omega
      clear hco hcn hcb HZ hcl
      go_wp2
      go_ret
      exact ⟨rfl, hbr⟩

theorem walk (a : Option Addr) (len cap : Nat) (z0 : List Int) (l : Option Addr) (m mc : Nat) (w : World) (w0 : IsRow .u8 w a len cap z0 ∧ cap * 1 ≤ 140737488351232) (w1 : RowsOf [.i64, .i64, .u64] w l m) :
    Calls Try.prog 5 #[.slice a len cap, .slice l m mc] w fun e w' => e = .returned (.bool true) ∧ Below w.heap.size w w' := by
  obtain ⟨w0, hcap⟩ := w0
  have hlc := isRow_len w0
  have hs := holds_of_isRow w0
  have hz := isRow_byte w0
  rcases Nat.eq_zero_or_pos m with h | h
  · subst h; exact walk_none a len cap _ l mc w (by omega) hs hz
  · rcases w1 with ⟨_, e⟩ | ⟨y, rfl, hm, hc⟩
    · omega
    · obtain ⟨b, off, spot⟩ := y
      obtain ⟨_, hc0, _⟩ := hc 0 (by omega) 0 _ rfl
      have hspot : spot = none := by simpa [Addr.add] using World.cell?_spot hc0
      subst hspot
      rw [addr_add] at hc0
      refine walk_some a len cap _ b off m mc w (by omega) hs hz hm (cell_lt hc0) (fun i hi => ?_)
      obtain ⟨z0, c0, _⟩ := hc i hi 0 _ rfl
      obtain ⟨z1, c1, _⟩ := hc i hi 1 _ rfl
      obtain ⟨z2, c2, f2⟩ := hc i hi 2 _ rfl
      obtain ⟨v, rfl⟩ := word_of f2
      rw [addr_add] at c0 c1 c2
      exact ⟨z0, z1, v, c0, c1, c2⟩

/-! ### The row's step and the statement -/
set_option maxRecDepth 100000 in
theorem lifted (os : Os) (started : os.Started) (H : Type) (enc : TypeId × Value → H) :
    ReturnsInHanded {} Try.checked os 5 .any (Rows.wordBytesSpec.pre6 enc Try.prog Try.f5 Rows.wordBytesRow.domain false) (Rows.wordBytesSpec.post enc Try.prog Try.f5 false true false false) := by
  refine returnsInHanded_of_change_sized (C := Try.checked) own started (by kernel_rfl) Try.func5
    (ChangeSpec.witness6 (enc := enc) (C := Try.checked) false ⟨#[], #[.slice none 0 0, .slice none 0 0], []⟩ 8 (by kernel_rfl) (by kernel_rfl) (by kernel_rfl) (by kernel_rfl)) ?_
  intro W base args ds gs before hval0 hW hcnd hsz0 _
  have hsz : (DataW.weightsEach Try.prog (Try.f5.params.toList ++ Rows.wordBytesSpec.plain.varTypes Try.prog) (ds ++ gs)).all (· ≤ reachBytes) = true := hsz0
  clear hsz0
  have hval : ∀ (j : Nat) t v, Try.f5.params[j]? = some t → args[j]? = some v → Value.okWide Try.prog W .any base t v := hval0
  have hW' := hW
  obtain ⟨p, q, hA0, hV, rfl, hfz, hnd⟩ := hW
  have hA : DataW.TrodAll enc Try.prog W 0 (fun _ => true) true Try.f5.params.toList args.toList ds p := hA0
  rw [Try.params5] at hA hval hsz
  obtain ⟨v0, vs0, d0, ds0, p0, q0, hargs, rfl, rfl, h0, r0⟩ := trodAll_cons hA
  obtain ⟨v1, vs1, d1, ds1, p1, q1, rfl, rfl, rfl, h1, r1⟩ := trodAll_cons r0
  obtain ⟨rfl, rfl, rfl⟩ := trodAll_nil r1
  obtain rfl : args = #[v0, v1] := by cases args; simp_all
  obtain ⟨rfl, rfl⟩ := trodVars_none hV
  obtain ⟨a0, len0, cap0, rfl⟩ := okWide_slice Try.underlying35 (hval 0 35 v0 rfl rfl)
  have k0 := h0
  have lt0 : ∀ x ∈ p0, x.block < W.heap.size := by obtain ⟨m, hm⟩ := k0; exact DataW.trod_lt m _ _ _ hm
  obtain ⟨z0, w0⟩ : ∃ zs, IsRow .u8 W a0 len0 cap0 zs ∧ cap0 * 1 ≤ 140737488351232 := by
    obtain ⟨fuel, hf⟩ := h0
    rcases open_ints Try.underlying35 Try.underlying5 (by kernel_rfl) hf with ⟨hcs, _⟩ | ⟨x, l, c, zs, hcs, _, hl, hm, hz, hx, hcell, hwz⟩
    · simp [Value.cells] at hcs
      obtain ⟨rfl, rfl, rfl⟩ := hcs
      exact ⟨[], ⟨.inl ⟨rfl, rfl, rfl, rfl⟩, by omega⟩⟩
    · simp [Value.cells] at hcs
      obtain ⟨rfl, rfl, rfl⟩ := hcs
      have hd : d0 = _ := congrArg Prod.fst hx
      have hr := sized_slice hsz (j := 0) (t := 35) (e := 5) rfl (congrArg some hd) Try.underlying35
      rw [show Try.prog.bytesOf 5 = 1 by kernel_rfl] at hr
      simp only [lits, List.length_map, List.length_take, List.length_drop, reachBytes] at hr
      have hzl : zs.length = _ := hz
      simp only [if_true] at hzl
      exact ⟨zs, ⟨.inr ⟨_, rfl, hl, hm, by simpa using hz, hcell, hwz⟩, by omega⟩⟩
  obtain ⟨a1, len1, cap1, rfl⟩ := okWide_slice Try.underlying36 (hval 1 36 v1 rfl rfl)
  have k1 := h1
  have lt1 : ∀ x ∈ p1, x.block < W.heap.size := by obtain ⟨m, hm⟩ := k1; exact DataW.trod_lt m _ _ _ hm
  have w1 : RowsOf [.i64, .i64, .u64] W a1 len1 := by
    obtain ⟨fuel, hf⟩ := h1
    rcases rows_fields Try.underlying36 Try.underlying41 (by kernel_rfl) (by kernel_rfl) hf with hcs | ⟨x, l, c, hcs, hl, hm, hi⟩
    · simp [Value.cells] at hcs
      obtain ⟨rfl, rfl, rfl⟩ := hcs
      exact .inl ⟨rfl, rfl⟩
    · simp [Value.cells] at hcs
      obtain ⟨rfl, rfl, rfl⟩ := hcs
      refine .inr ⟨_, rfl, Nat.le_trans hl hm, fun i hil j K hK => ?_⟩
      match j, hK with
      | 0, hK =>
        obtain ⟨v, y, n, hc, ht⟩ := hi i hil 0 _ rfl
        obtain ⟨z, e, _, wz⟩ := DataW.trod_int Try.underlying3 ht
        simp only [List.cons.injEq, and_true] at e; subst e
        obtain rfl := Option.some.inj hK
        exact ⟨z, hc, wz⟩
      | 1, hK =>
        obtain ⟨v, y, n, hc, ht⟩ := hi i hil 1 _ rfl
        obtain ⟨z, e, _, wz⟩ := DataW.trod_int Try.underlying3 ht
        simp only [List.cons.injEq, and_true] at e; subst e
        obtain rfl := Option.some.inj hK
        exact ⟨z, hc, wz⟩
      | 2, hK =>
        obtain ⟨v, y, n, hc, ht⟩ := hi i hil 2 _ rfl
        obtain ⟨z, e, _, wz⟩ := DataW.trod_int Try.underlying24 ht
        simp only [List.cons.injEq, and_true] at e; subst e
        obtain rfl := Option.some.inj hK
        exact ⟨z, hc, wz⟩
      | _ + 3, hK => exact absurd hK (by simp)
  clear hA0 hval0
  refine (walk a0 len0 cap0 z0 a1 len1 cap1 W w0 w1).mono fun e W' ⟨he, bel⟩ => ?_
  subst he
  exact ⟨_, rfl, _, _, _, [], _, [], hW', trodAll_mk1 (shut_bool Try.underlying4 _), (trodAll_cons_mk (Below.trod laidOut (by kernel_rfl) (of_decide_eq_true (by kernel_rfl)) k0 bel lt0) (trodAll_cons_mk (Below.trod laidOut (by kernel_rfl) (of_decide_eq_true (by kernel_rfl)) k1 bel lt1) trodAll_mk0)), rfl, bel.frame _, fun h => by cases h⟩

theorem over : Rows.wordBytesRow.holds Try.pinned (OpenSpec.ofChange Rows.wordBytesSpec) :=
  OpenClaim.holds_of_wide 5 Try.f5 rfl rfl rfl rfl rfl rfl rfl ⟨rfl, rfl, rfl, rfl, rfl⟩ rfl rfl rfl rfl rfl (by kernel_rfl) Try.func5 (by kernel_rfl)
    (of_decide_eq_true (by kernel_rfl)) (by unfold Func.isWrapper; first | (rw [if_pos (by decide +kernel)]; kernel_rfl) | (rw [if_neg (by decide +kernel)]; exact ⟨rfl, rfl⟩))
    (fun os started H enc _ => lifted os started H enc)

/-- The statement. -/
theorem proved : Rows.WordBytesSaid := over
end Go.Proofs.Ytchddecnglcemaa.wordBytes
