/-
  What the functions of package secdata on data answer, and the document's: contracts. Conditions: those that each contract names.
-/
import Derived.Test.YtgpjiflgocgolaaWordStore
import Derived.Test.YtgpjiflgocgolaaSecCode
import Derived.Laws.ResultCell
namespace Go.Proofs.Ytgpjiflgocgolaa
open Go Go.RowKit
set_option linter.unusedSimpArgs false
set_option linter.unusedVariables false

theorem nat_word {x : Int} (h0 : 0 ≤ x) (h1 : x < 18446744073709551616) : ((BitVec.ofNat 64 x.toNat).toNat : Int) = x := by
  rw [BitVec.toNat_ofNat]; omega
theorem word_StoreI (g len cap cap' : Nat) (F : Nat → Value) (pi ni : Int) (p n : Nat) (hpi : pi = p) (hni : ni = n) (x : Int) (hx : 0 ≤ x) (hx' : x < 18446744073709551616) (w : World) (hl : len ≤ maxLen) (h1 : 1 ≤ n) (h8 : n ≤ 8) (hp : p + n ≤ len) (hlc : len ≤ cap) (hr : w.rowIs g 5 cap F) :
    Calls Try.prog 24 #[.slice (some ⟨g, 0, none⟩) len cap', .int .i64 pi, .int .i64 ni, .int .u64 x] w
      fun e w' => e = .returned (.int .i64 0) ∧ w'.rowIs g 5 cap (wrote F p n x) ∧ w.grownBy w' (some g) := by
  subst hpi; subst hni
  have h := word_Store g len cap cap' F p n (BitVec.ofNat 64 x.toNat) w hl h1 h8 hp hlc hr
  rwa [nat_word hx hx'] at h

theorem secdata_argAt (i : Int) (h0 : 0 ≤ i) (h5 : i ≤ 5) (w : World) :
    Calls Try.prog 25 #[.int .i64 i] w fun e w' => e = .returned (.int .i64 (16 + i * 8)) ∧ w = w' := by
  go_enter Try.func25, Try.ntmps25
  go_wp2
  go_ret
  exact ⟨rfl, rfl⟩

/-- Byte k of the data. -/
def dbyte (nr arch ip : Int) (a : Nat → Int) (k : Nat) : Int :=
  if k < 4 then byteI nr k else if k < 8 then byteI arch (k - 4) else if k < 16 then byteI ip (k - 8) else byteI (a ((k - 16) / 8)) ((k - 16) % 8)
theorem dbyte_bd (nr arch ip : Int) (a : Nat → Int) (k : Nat) : 0 ≤ dbyte nr arch ip a k ∧ dbyte nr arch ip a k < 256 := by
  unfold dbyte; split
  · exact byteI_bd _ _
  · split
    · exact byteI_bd _ _
    · split <;> exact byteI_bd _ _

/-- A call that hands back one slice in new memory. -/
def MadeV (w : World) (len : Nat) (F : Nat → Value) (e : Ending) (w' : World) : Prop := ∃ v, e = .returned v ∧ Made w w' v len F

/-- make of bytes, as a law of the walk: a new row of zeros. -/
theorem wpList_make_bytes {P : Program} (w : World) {ops : Array Oper} {rest : List Oper} {o : Oper} {a : Act} {Q : Exit → Act → World → Prop} (hg : o.guard = none) (l c : Operand) (t : TypeId) (hop : o.op = Op.makeSlice t l c)
    (e : TypeId) (ht : P.underlying t = some (.slice e)) (hinfo : (P.info? e).map (fun i => (i.zero, i.size, i.bytes)) = some (some (.int .u8 0), 1, 1))
    (n : Nat) (hl : a.eval l = .int .i64 (n : Int)) (hc : a.eval c = .int .i64 (n : Int)) (hn : n ≤ 140737488351232)
    (h : ∀ (g : Nat) (w' : World), w'.rowIs g e n (fun _ => .int .u8 0) → Below w.heap.size w w' → w.heap.size ≤ g → wpList P ops Q rest (a.put o.dst (.slice (some ⟨g, 0, none⟩) n n)) w') : wpList P ops Q (o :: rest) a w := by
  obtain ⟨i, hi, hz, hsize, hby⟩ := info_parts hinfo
  refine wpList_make_row w hg l c t hop e i _ ht hi hz hsize rfl .i64 .i64 n hl hc (by rw [hby]; omega) (by omega) ?_
  exact h _ _ (World.rowIs_made w _ n e) ((Below.refl _ _).alloc (Nat.le_refl _) _) (Nat.le_refl _)

/-- The data's nine cells. -/
def Box (w : World) (b : Nat) (nr arch ip : Int) (a : Nat → Int) : Prop :=
  b < w.heap.size ∧ w.cell? ⟨b, 0, none⟩ = some (.int .u32 nr) ∧ w.cell? ⟨b, 1, none⟩ = some (.int .u32 arch) ∧ w.cell? ⟨b, 2, none⟩ = some (.int .u64 ip) ∧ ∀ i, i < 6 → w.cell? ⟨b, 3 + i, none⟩ = some (.int .u64 (a i))
theorem Box.below {w w' : World} {B b : Nat} {nr arch ip : Int} {a : Nat → Int} (h : Box w b nr arch ip a) (hb : Below B w w') (hlt : b < B) : Box w' b nr arch ip a :=
  ⟨Nat.lt_of_lt_of_le h.1 hb.size, (hb.cell (p := ⟨b, 0, none⟩) hlt).trans h.2.1, (hb.cell (p := ⟨b, 1, none⟩) hlt).trans h.2.2.1, (hb.cell (p := ⟨b, 2, none⟩) hlt).trans h.2.2.2.1, fun i hi => (hb.cell (p := ⟨b, 3 + i, none⟩) hlt).trans (h.2.2.2.2 i hi)⟩
theorem Box.grown {w w' : World} {b g : Nat} {nr arch ip : Int} {a : Nat → Int} (h : Box w b nr arch ip a) (hb : w.grownBy w' (some g)) (hne : b ≠ g) : Box w' b nr arch ip a :=
  have hn : some b ≠ some g := fun e => hne (by injection e)
  ⟨Nat.lt_of_lt_of_le h.1 hb.size, hb.cell h.2.1 hn, hb.cell h.2.2.1 hn, hb.cell h.2.2.2.1 hn, fun i hi => hb.cell (h.2.2.2.2 i hi) hn⟩
theorem Box.new (w : World) (t : TypeId) (nr arch ip : Int) (a : Nat → Int) :
    Box (w.alloc (.cells #[.int .u32 nr, .int .u32 arch, .int .u64 ip, .int .u64 (a 0), .int .u64 (a 1), .int .u64 (a 2), .int .u64 (a 3), .int .u64 (a 4), .int .u64 (a 5)] t)) w.heap.size nr arch ip a :=
  ⟨by simp, by simp, by simp, by simp, fun i hi => by
    match i, hi with
    | 0, _ => simp
    | 1, _ => simp
    | 2, _ => simp
    | 3, _ => simp
    | 4, _ => simp
    | 5, _ => simp⟩

/-- How far the bytes have been laid, while they are laid. -/
def Laying (w wr : World) (g n : Nat) (nr arch ip : Int) (a : Nat → Int) : Prop :=
  Box wr w.heap.size nr arch ip a ∧ (∃ F, wr.rowIs g 5 64 F ∧ ∀ j, j < n → F j = .int .u8 (dbyte nr arch ip a j)) ∧ Below w.heap.size w wr ∧ w.heap.size < g
theorem Laying.drawn {w wr : World} {g n : Nat} {nr arch ip : Int} {a : Nat → Int} (h : Laying w wr g n nr arch ip a) (N : Nat) : Laying w (wr.drewN N) g n nr arch ip a :=
  ⟨h.1, h.2.1, below_drawn h.2.2.1 N, h.2.2.2⟩
theorem Laying.drew {w wr : World} {g n : Nat} {nr arch ip : Int} {a : Nat → Int} (h : Laying w wr g n nr arch ip a) : Laying w wr.drew g n nr arch ip a :=
  ⟨h.1, h.2.1, h.2.2.1.drew, h.2.2.2⟩
theorem laying_store {w wr : World} {g n : Nat} {nr arch ip : Int} {a : Nat → Int} (h : Laying w wr g n nr arch ip a) (m : Nat) (pi ni : Int) (hpi : pi = n) (hni : ni = m) (x : Int) (hx : 0 ≤ x ∧ x < 18446744073709551616) (h1 : 1 ≤ m) (h8 : m ≤ 8) (hn : n + m ≤ 64)
    (hd : ∀ j, j < m → byteI x j = dbyte nr arch ip a (n + j)) :
    Calls Try.prog 24 #[.slice (some ⟨g, 0, none⟩) 64 64, .int .i64 pi, .int .i64 ni, .int .u64 x] wr fun e w' => e = .returned (.int .i64 0) ∧ Laying w w' g (n + m) nr arch ip a := by
  obtain ⟨hx0, ⟨F, hr, hF⟩, hb, hg⟩ := h
  refine (word_StoreI g 64 64 64 F pi ni n m hpi hni x hx.1 hx.2 wr (by decide) h1 h8 hn (by decide) hr).mono ?_
  rintro e w' ⟨rfl, hr2, hg2⟩
  refine ⟨rfl, hx0.grown hg2 (by omega), ⟨_, hr2, fun j hj => ?_⟩, hb.trans (below_of_grown hg2 (by omega) hb.size), hg⟩
  unfold wrote
  by_cases hj2 : n ≤ j
  · rw [if_pos (by omega), hd _ (by omega), show n + (j - n) = j by omega]
  · rw [if_neg (by omega), hF j (by omega)]
theorem dbyte_nr (nr arch ip : Int) (a : Nat → Int) (j : Nat) (h : j < 4) : byteI nr j = dbyte nr arch ip a (0 + j) := by unfold dbyte; rw [if_pos (by omega), Nat.zero_add]
theorem dbyte_arch (nr arch ip : Int) (a : Nat → Int) (j : Nat) (h : j < 4) : byteI arch j = dbyte nr arch ip a (4 + j) := by unfold dbyte; rw [if_neg (by omega), if_pos (by omega), Nat.add_sub_cancel_left]
theorem dbyte_ip (nr arch ip : Int) (a : Nat → Int) (j : Nat) (h : j < 8) : byteI ip j = dbyte nr arch ip a (8 + j) := by unfold dbyte; rw [if_neg (by omega), if_neg (by omega), if_pos (by omega), Nat.add_sub_cancel_left]
theorem dbyte_arg (nr arch ip : Int) (a : Nat → Int) (i j : Nat) (h : j < 8) : byteI (a i) j = dbyte nr arch ip a (16 + i * 8 + j) := by
  unfold dbyte; rw [if_neg (by omega), if_neg (by omega), if_neg (by omega), show (16 + i * 8 + j - 16) / 8 = i by omega, show (16 + i * 8 + j - 16) % 8 = j by omega]

theorem laying_nr {w wr : World} {g : Nat} {nr arch ip : Int} {a : Nat → Int} (h : Laying w wr g 0 nr arch ip a) (hx : 0 ≤ nr ∧ nr < 4294967296) :
    Calls Try.prog 24 #[.slice (some ⟨g, 0, none⟩) 64 64, .int .i64 0, .int .i64 4, .int .u64 nr] wr fun e w' => e = .returned (.int .i64 0) ∧ Laying w w' g 4 nr arch ip a :=
  laying_store h 4 _ _ rfl rfl _ (by omega) (by decide) (by decide) (by decide) (dbyte_nr nr arch ip a)
theorem laying_arch {w wr : World} {g : Nat} {nr arch ip : Int} {a : Nat → Int} (h : Laying w wr g 4 nr arch ip a) (hx : 0 ≤ arch ∧ arch < 4294967296) :
    Calls Try.prog 24 #[.slice (some ⟨g, 0, none⟩) 64 64, .int .i64 4, .int .i64 4, .int .u64 arch] wr fun e w' => e = .returned (.int .i64 0) ∧ Laying w w' g 8 nr arch ip a :=
  laying_store h 4 _ _ rfl rfl _ (by omega) (by decide) (by decide) (by decide) (dbyte_arch nr arch ip a)
theorem laying_ip {w wr : World} {g : Nat} {nr arch ip : Int} {a : Nat → Int} (h : Laying w wr g 8 nr arch ip a) (hx : 0 ≤ ip ∧ ip < 18446744073709551616) :
    Calls Try.prog 24 #[.slice (some ⟨g, 0, none⟩) 64 64, .int .i64 8, .int .i64 8, .int .u64 ip] wr fun e w' => e = .returned (.int .i64 0) ∧ Laying w w' g 16 nr arch ip a :=
  laying_store h 8 _ _ rfl rfl _ hx (by decide) (by decide) (by decide) (dbyte_ip nr arch ip a)
theorem laying_arg {w wr : World} {g k : Nat} {nr arch ip : Int} {a : Nat → Int} (h : Laying w wr g (16 + k * 8) nr arch ip a) (hk : k < 6) (hx : 0 ≤ a k ∧ a k < 18446744073709551616) :
    Calls Try.prog 24 #[.slice (some ⟨g, 0, none⟩) 64 64, .int .i64 (16 + (k : Int) * 8), .int .i64 8, .int .u64 (a k)] wr fun e w' => e = .returned (.int .i64 0) ∧ Laying w w' g (16 + (k + 1) * 8) nr arch ip a :=
  have h' := laying_store h 8 (16 + (k : Int) * 8) 8 (by omega) rfl _ hx (by decide) (by decide) (by omega) (dbyte_arg nr arch ip a k)
  by rwa [show 16 + k * 8 + 8 = 16 + (k + 1) * 8 by omega] at h'
theorem laying_start {w w1 : World} {g : Nat} {nr arch ip : Int} {a : Nat → Int} (t : TypeId) (hr1 : w1.rowIs g 5 64 (fun _ => .int .u8 0))
    (hb1 : Below (w.alloc (.cells #[.int .u32 nr, .int .u32 arch, .int .u64 ip, .int .u64 (a 0), .int .u64 (a 1), .int .u64 (a 2), .int .u64 (a 3), .int .u64 (a 4), .int .u64 (a 5)] t)).heap.size (w.alloc (.cells #[.int .u32 nr, .int .u32 arch, .int .u64 ip, .int .u64 (a 0), .int .u64 (a 1), .int .u64 (a 2), .int .u64 (a 3), .int .u64 (a 4), .int .u64 (a 5)] t)) w1)
    (hge : (w.alloc (.cells #[.int .u32 nr, .int .u32 arch, .int .u64 ip, .int .u64 (a 0), .int .u64 (a 1), .int .u64 (a 2), .int .u64 (a 3), .int .u64 (a 4), .int .u64 (a 5)] t)).heap.size ≤ g) : Laying w w1 g 0 nr arch ip a :=
  ⟨(Box.new w t nr arch ip a).below hb1 (by simp), ⟨_, hr1, fun j hj => absurd hj (by omega)⟩, (below_box w _).trans (hb1.mono (by simp)), by simp at hge; omega⟩

set_option maxRecDepth 100000 in
theorem secdata_Bytes (nr arch ip : Int) (a : Nat → Int) (hnr : 0 ≤ nr ∧ nr < 4294967296) (har : 0 ≤ arch ∧ arch < 4294967296) (hip : 0 ≤ ip ∧ ip < 18446744073709551616) (ha : ∀ i, 0 ≤ a i ∧ a i < 18446744073709551616) (w : World) :
    Calls Try.prog 11 #[.agg #[.int .u32 nr, .int .u32 arch, .int .u64 ip, .int .u64 (a 0), .int .u64 (a 1), .int .u64 (a 2), .int .u64 (a 3), .int .u64 (a 4), .int .u64 (a 5)]] w (MadeV w 64 (fun k => .int .u8 (dbyte nr arch ip a k))) := by
  have HA := Lib.hid ha
  clear ha
  go_enter Try.func11, Try.ntmps11
  go_wp2_with (first
    | (refine wpList_make_bytes _ rfl _ _ _ rfl 5 Try.underlying43 info_u8 64 rfl rfl (by decide) ?_; intro g w1 hr1 hb1 hge; have L0 := Lib.hid (laying_start (nr := nr) (arch := arch) (ip := ip) (a := a) _ hr1 hb1 hge); have c0 := L0.out.1.2.1; clear hr1 hb1 hge)
    | (go_at_call 24; (with_reducible refine (laying_nr L0.out hnr).mono ?_); rintro e w2 ⟨rfl, L⟩; have L1 := Lib.hid L; have c1 := L1.out.1.2.2.1; clear c0 L)
    | (go_at_call 24; (with_reducible refine (laying_arch L1.out har).mono ?_); rintro e w3 ⟨rfl, L⟩; have L2 := Lib.hid L; have c2 := L2.out.1.2.2.2.1; clear c1 L)
    | (go_at_call 24; (with_reducible refine (laying_ip L2.out hip).mono ?_); rintro e w4 ⟨rfl, L⟩; have L3 := Lib.hid L; clear c2 L L0 L1 L2))
  go_loopw [20] (fun i wr => ∃ k : Nat, k ≤ 6 ∧ i = .int .i64 (k : Int) ∧ Laying w wr g (16 + k * 8) nr arch ip a) (fun i _ => 6 - (intOf i).toNat)
  case atStart => exact ⟨0, by omega, rfl, L3.out⟩
  case round =>
    obtain ⟨k, hk, rfl, hL⟩ := hrel
    clear L3
    have HL := Lib.hid hL
    clear hL
    by_cases hlt : k < 6
    · have hlt' : (k : Int) < 6 := by omega
      have ca := HL.out.1.2.2.2.2 k hlt
      have t0 : ({ wr with drawn := wr.drawn + 1 } : World).cell? ⟨w.heap.size, 3 + k, none⟩ = some (.int .u64 (a k)) := ca
      have e1 : IntKind.i64.wrap (k : Int) = (k : Int) := IntWalk.i64_in _ (by omega)
      go_wp2
      go_still_tail 7, (by kernel_rfl)
      still_call ((secdata_argAt (k : Int) (by omega) (by omega) _).mono fun _ _ h => ⟨h.1, h.2.symm⟩)
      repeat still_step
      refine wpStill_nil ?_
      change wpList _ _ _ _ _ wr.drew
      clear t0 ca
      have HL' := Lib.hid HL.out.drew
      generalize wr.drew = wd at HL'
      go_wp2_with (go_at_call 24; (with_reducible refine (laying_arg HL'.out hlt (HA.out k)).mono ?_); rintro e w5 ⟨rfl, L⟩; have L6 := Lib.hid L; clear L)
      go_roundw
      case rel => exact ⟨k + 1, by omega, by go_num, L6.out⟩
      case measure => simp [intOf]; omega
    · go_wp2
      go_ret
      obtain rfl : k = 6 := by omega
      obtain ⟨hx0, ⟨F, hr, hF⟩, hb, hg⟩ := HL.out
      exact ⟨_, rfl, g, 64, F, rfl, hr, by decide, by decide, hF, hb, by omega⟩
end Go.Proofs.Ytgpjiflgocgolaa
