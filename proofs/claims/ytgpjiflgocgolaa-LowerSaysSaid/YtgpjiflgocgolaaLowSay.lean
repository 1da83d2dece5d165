/-
  What 'LowerSays' has at hand in its rounds: a decision, its program, data; what both answer. Conditions: those that each names.
-/
import Derived.Test.YtgpjiflgocgolaaLowWords
import Derived.Test.YtgpjiflgocgolaaLowDRun
import Derived.Test.YtgpjiflgocgolaaLowGrown
import Derived.Test.YtgpjiflgocgolaaLowRef
import Derived.Test.YtgpjiflgocgolaaPCheck
import Derived.Test.YtgpjiflgocgolaaPRun
import Derived.Test.YtgpjiflgocgolaaDatOpen
namespace Go.Proofs.Ytgpjiflgocgolaa
open Go Go.RowKit
set_option linter.unusedSimpArgs false
set_option linter.unusedVariables false

theorem made_bytes {w w' : World} {v : Value} {z : Nat → Int} (h : Made w w' v 64 (fun k => .int .u8 (z k))) :
    ∃ g cap, v = .slice (some ⟨g, 0, none⟩) 64 cap ∧ Holds w' (some ⟨g, 0, none⟩) 64 (fun k => .int .u8 (z k)) ∧ Below w.heap.size w w' := by
  obtain ⟨g, cap, F, rfl, hr, hc, hm, hF, hb, hg⟩ := h
  exact ⟨g, cap, rfl, fun _ => ⟨g, 0, rfl, hr.lt, fun i hi => by rw [Nat.zero_add, hr.cell (by omega), hF i hi]⟩, hb⟩
/-- What is at hand. -/
structure SayAt (w W : World) (A : Option Addr) (n : Nat) (nd : Nat → Nd) (l : List Dat) (D : Option Addr) (pb : Nat) (v : Value) (xs : List I4) : Prop where
  nodes : NdAt W A n nd
  dats : DatsL W l D
  prog : W.ownsRow pb 50 4 v xs.length (i4L xs)
  below : Below w.heap.size w W
theorem SayAt.up {w W W' : World} {A : Option Addr} {n : Nat} {nd : Nat → Nd} {l : List Dat} {D : Option Addr} {pb : Nat} {v : Value} {xs : List I4} (h : SayAt w W A n nd l D pb v xs) (hb : Below W.heap.size W W') : SayAt w W' A n nd l D pb v xs :=
  ⟨h.nodes.below hb, h.dats.below hb, own_below h.prog hb, h.below.trans (hb.mono h.below.size)⟩
theorem dats_form9 {w : World} {l : List Dat} {A : Option Addr} (h : DatsL w l A) {k : Nat} (hk : k < l.length) : ∃ tb o, A = some ⟨tb, o, none⟩ := by
  rcases h.2 with h0 | ⟨tb, o, hA, _⟩
  · subst h0; exact absurd hk (by simp)
  · exact ⟨tb, o, hA⟩
theorem dats_nine {w : World} {l : List Dat} {tb o : Nat} (h : DatsL w l (some ⟨tb, o, none⟩)) {k : Nat} (hk : k < l.length) {d : Dat} (hd : l[k] = d) :
    w.cell? ⟨tb, o + k * 9, none⟩ = some (.int .u32 (d.nr : Int)) ∧ w.cell? ⟨tb, o + k * 9 + 1, none⟩ = some (.int .u32 (d.arch : Int)) ∧ w.cell? ⟨tb, o + k * 9 + 2, none⟩ = some (.int .u64 (d.ip : Int)) ∧ w.cell? ⟨tb, o + k * 9 + 3, none⟩ = some (.int .u64 (d.args 0 : Int)) ∧ w.cell? ⟨tb, o + k * 9 + 4, none⟩ = some (.int .u64 (d.args 1 : Int)) ∧
    w.cell? ⟨tb, o + k * 9 + 5, none⟩ = some (.int .u64 (d.args 2 : Int)) ∧ w.cell? ⟨tb, o + k * 9 + 6, none⟩ = some (.int .u64 (d.args 3 : Int)) ∧ w.cell? ⟨tb, o + k * 9 + 7, none⟩ = some (.int .u64 (d.args 4 : Int)) ∧ w.cell? ⟨tb, o + k * 9 + 8, none⟩ = some (.int .u64 (d.args 5 : Int)) := by
  subst hd
  rcases h.2 with h0 | ⟨tb1, o1, hA, _, hc⟩
  · subst h0; exact absurd hk (by simp)
  · obtain ⟨rfl, rfl⟩ := ad_inj hA
    exact ⟨hc k hk 0 _ rfl, hc k hk 1 _ rfl, hc k hk 2 _ rfl, hc k hk 3 _ rfl, hc k hk 4 _ rfl, hc k hk 5 _ rfl, hc k hk 6 _ rfl, hc k hk 7 _ rfl, hc k hk 8 _ rfl⟩
theorem find_few (nd : Nat → Nd) (n : Nat) : ∀ m i, (findN nd n i m).1 = 0 ∨ (findN nd n i m).1 = 84 ∨ (findN nd n i m).1 = 85
  | 0, _ => .inl rfl
  | m + 1, i => by
    unfold findN
    by_cases hz : faultN (nd i) i n = 0
    · rw [if_pos hz]; exact find_few nd n m (i + 1)
    · rw [if_neg hz]; exact fault_cases _ _ _
theorem chk_few (nd : Nat → Nd) (n : Nat) : (chkN nd n).1 = 0 ∨ (chkN nd n).1 = 83 ∨ (chkN nd n).1 = 84 ∨ (chkN nd n).1 = 85 := by
  unfold chkN
  split
  · exact .inr (.inl rfl)
  · rcases find_few nd n n 0 with h | h | h
    · exact .inl h
    · exact .inr (.inr (.inl h))
    · exact .inr (.inr (.inr h))
theorem go_within {nd : Nat → Nd} {n : Nat} (D : DecN nd n) (hB : ∀ i, i < n → NdB (nd i)) (word : Nat → BitVec 32) : ∀ f i, i < n → (goN nd word f i).1 < 4294967296 ∧ (goN nd word f i).2 ≤ f
  | 0, _, _ => ⟨by show (0 : Nat) < _; decide, Nat.le_refl _⟩
  | f + 1, i, hi => by
    rw [goN]
    by_cases hl : (nd i).leaf = true
    · rw [if_pos hl]; exact ⟨(hB i hi).word, by show 1 ≤ f + 1; omega⟩
    · rw [if_neg hl]
      have hw := D.val.ways i hi (by cases h : (nd i).leaf; rfl; exact absurd h hl)
      have : (wayN word (nd i)).toNat < n := by unfold wayN; split <;> omega
      have := go_within D hB word f _ this
      exact ⟨this.1, by show _ + 1 ≤ f + 1; omega⟩
/-- Both answer: a word, after so many nodes, or steps. -/
theorem say_both {nd : Nat → Nd} {n : Nat} (hc : (chkN nd n).1 = 0) (hB : ∀ i, i < n → NdB (nd i)) (hN : firstN nd (longN nd n) n ≤ 4096) (d : Dat) (hd : DatW d) :
    ∃ a g m : Nat, a < 4294967296 ∧ 1 ≤ g ∧ g ≤ 4096 ∧ m ≤ 5 * g ∧ min g 2 ≤ m ∧
      (∀ W A cap, NdAt W A n nd → Calls Try.prog 9 #[.slice A n cap, datV d] W fun e w' => e = .returned (.tuple #[.int .u32 (a : Int), .int .i64 (g : Int), .int .i64 0]) ∧ Below W.heap.size W w') ∧
      (∀ W pb v DA dc, W.ownsRow pb 50 4 v (emitN nd (longN nd n) n).length (i4L (emitN nd (longN nd n) n)) → Holds W DA 64 (fun k => .int .u8 (dbyte d.nr d.arch d.ip (fun i => (d.args i : Int)) k)) → Calls Try.prog 10 #[v, .slice DA 64 dc] W fun e w' => e = .returned (.tuple #[.int .u32 (a : Int), .int .i64 (m : Int), .int .i64 0, .int .i64 0]) ∧ Below W.heap.size W w') := by
  have D := dec_ok hc
  have hpos := D.val.pos
  have hle := D.val.le
  have hw := go_within D hB (wordZ (dbyte d.nr d.arch d.ip (fun i => (d.args i : Int)))) n 0 hpos
  obtain ⟨r1, r2, r3, r4, r5⟩ := dec_run D (long_fix D.val) hN (wordZ (dbyte d.nr d.arch d.ip (fun i => (d.args i : Int))))
  have hlen : (emitN nd (longN nd n) n).length = firstN nd (longN nd n) n := emit_len _ _ _
  refine ⟨_, _, _, hw.1, r3, Nat.le_trans hw.2 hle, r4, r5, fun W A cap hA => ?_, fun W pb v DA dc hv hH => ?_⟩
  · exact p_DRun hA hc hB d.nr d.arch d.ip d.args hd.1 hd.2.1 hd.2.2.1 hd.2.2.2 _ (fun p hp => word_same d.nr d.arch d.ip d.args hd.1 hd.2.1 hp)
  · obtain ⟨A, c, rfl⟩ := own_formL hv
    have hx := emit_fit (longN nd n) n hB
    have q := cbpf_Run W A (emitN nd (longN nd n) n).length c (progI (emitN nd (longN nd n) n)) DA 64 dc (dbyte d.nr d.arch d.ip (fun i => (d.args i : Int))) ⟨prog_of_own hv hx, hH, dbyte_bd _ _ _ _, by rw [hlen]; omega, by omega, prog_fit hx⟩
    refine q.mono fun e w' h => ?_
    obtain ⟨rfl, hb⟩ := h
    rw [hlen]
    refine ⟨?_, hb⟩
    unfold ansV ansA ansP
    rw [r1, r2, if_pos rfl, if_pos rfl, BitVec.toNat_ofNat, Nat.mod_eq_of_lt hw.1]
/-- The program is accepted. -/
theorem say_check {nd : Nat → Nd} {n : Nat} (hc : (chkN nd n).1 = 0) (hB : ∀ i, i < n → NdB (nd i)) (hN : firstN nd (longN nd n) n ≤ 4096) : ∃ cp : Nat, ∀ W pb v, W.ownsRow pb 50 4 v (emitN nd (longN nd n) n).length (i4L (emitN nd (longN nd n) n)) → Calls Try.prog 8 #[v] W fun e w' => e = .returned (.tuple #[.int .i64 0, .int .i64 (cp : Int)]) ∧ Below W.heap.size W w' := by
  have D := dec_ok hc
  have hlen : (emitN nd (longN nd n) n).length = firstN nd (longN nd n) n := emit_len _ _ _
  have hacc := check_is.2 (dec_accepted D (long_fix D.val) hN)
  refine ⟨checkP (progI (emitN nd (longN nd n) n)) (firstN nd (longN nd n) n), fun W pb v hv => ?_⟩
  obtain ⟨A, c, rfl⟩ := own_formL hv
  have hx := emit_fit (longN nd n) n hB
  have q := check_Check W A (emitN nd (longN nd n) n).length c (progI (emitN nd (longN nd n) n)) (prog_of_own hv hx) (prog_fit hx)
  unfold CheckP at q
  rw [hlen, hacc] at q
  rw [hlen]
  exact q
/-- What Emit told: too few, too many nodes or a node that may not be; too long; or a program. -/
theorem emit_told {nd : Nat → Nd} {n : Nat} {xs : List I4} {ec : Int} (h : emitR nd n = (xs, ec)) :
    ((chkN nd n).1 = ec ∧ (ec = 83 ∨ ec = 84 ∨ ec = 85)) ∨ ((chkN nd n).1 = 0 ∧ ec = 91) ∨ ((chkN nd n).1 = 0 ∧ ec = 0 ∧ xs = emitN nd (longN nd n) n ∧ firstN nd (longN nd n) n ≤ 4096) := by
  unfold emitR at h
  by_cases hc : (chkN nd n).1 = 0
  · rw [if_pos hc] at h
    by_cases hN : 4096 < firstN nd (longN nd n) n
    · rw [if_pos hN] at h; injection h with h1 h2; exact .inr (.inl ⟨hc, h2.symm⟩)
    · rw [if_neg hN] at h; injection h with h1 h2; exact .inr (.inr ⟨hc, h2.symm, h1.symm, by omega⟩)
  · rw [if_neg hc] at h; injection h with h1 h2
    rcases chk_few nd n with g | g | g | g
    · exact absurd g hc
    · exact .inl ⟨h2, by omega⟩
    · exact .inl ⟨h2, by omega⟩
    · exact .inl ⟨h2, by omega⟩
end Go.Proofs.Ytgpjiflgocgolaa
