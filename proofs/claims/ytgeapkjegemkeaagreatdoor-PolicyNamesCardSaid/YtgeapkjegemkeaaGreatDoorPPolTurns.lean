/-
  The program's byTurns over expressions, of any function that reads one; joined: contracts by values and places. Conditions: those that each names.
-/
import Derived.Test.YtgeapkjegemkeaaGreatDoorPPolTest
namespace Go.Proofs.YtgeapkjegemkeaaGreatDoor
open Go Go.RowKit
set_option linter.unusedSimpArgs false
set_option linter.unusedVariables false

/-- An expression as a value, its arguments in blocks from lo on. -/
def ExP (lo : Nat) (x : Ex) (v : Value) (W : World) : Prop := ∃ A cap, v = exV x A cap ∧ ExIn W (fun k => lo ≤ k) x A cap
/-- Several, as a slice. -/
def RowP (lo : Nat) (l : List Ex) (v : Value) (W : World) : Prop := ∃ tb cap, v = .slice (some ⟨tb, 0, none⟩) l.length cap ∧ lo ≤ tb ∧ tb < W.heap.size ∧ 0 < l.length ∧ RowIn W (fun k => lo ≤ k) l tb 0
theorem info_ex : (Tryz.prog.info? 39).map (fun i => (i.zero, i.size, i.bytes)) = some (some (.agg #[.int .i64 0, .slice none 0 0, .int .i64 0, .int .u64 0, .int .i64 0, .int .u64 0]), 6, 64) := by kernel_rfl
def sliceLen : Value → Nat | .slice _ n _ => n | _ => 0
/-- What the turns have come by. -/
structure TurnI (s : ByteArray) (w wr : World) (b d : Nat) (mark : ByteArray) (item : Nat → Got Ex) (g : Got (List Ex)) (v : Value) (l : List Ex) (xs : List Value) (n i : Nat) : Prop where
  lt : i < (srcF s).toks.length
  fuel : (srcF s).toks.length - i < n
  len : l.length ≤ i + 1
  pos : 0 < l.length
  rest : g = turnsG (srcF s) mark item n l i
  at_ : PAt wr b s (tk (srcF s) i) d
  grown : w.grownBy wr (some b)
  own : wr.ownsRow w.heap.size 39 6 v l.length xs
  chunks : Chunks wr (fun k => w.heap.size ≤ k ∧ some k ≠ v.ownBlock) l xs
theorem grown_size {w w' : World} {r : Option Nat} (h : w.grownBy w' r) : w.heap.size ≤ w'.heap.size := h.size
/-- The first of them lies in a block of its own. -/
theorem own_first {w1 : World} {lo : Nat} {x : Ex} {A : Option Addr} {cap : Nat} (hlo : lo ≤ w1.heap.size) :
    (w1.alloc (.cells #[.int .i64 x.op, .slice A x.args.length cap, .int .i64 x.field, .int .u64 (x.mask : Int), .int .i64 x.rel, .int .u64 (x.value : Int)] 39)).ownsRow lo 39 6 (.slice (some ⟨w1.heap.size, 0, none⟩) 1 1) 1 (exC x A cap) :=
  ⟨rfl, .inr ⟨w1.heap.size, 1, _, rfl, hlo, World.alloc_heap_new w1 _, Nat.le_refl _, by unfold maxLen; decide, rfl, rfl⟩⟩
theorem chunks_first {w1 : World} {lo : Nat} {x : Ex} {A : Option Addr} {cap : Nat} (h : ExIn w1 (fun k => lo ≤ k) x A cap) (o : Obj) :
    Chunks (w1.alloc o) (fun k => lo ≤ k ∧ some k ≠ (Value.slice (some ⟨w1.heap.size, 0, none⟩) 1 1).ownBlock) [x] (exC x A cap) := by
  have h2 : ExIn w1 (fun k => lo ≤ k ∧ k < w1.heap.size) x A cap := ex_lt h
  exact Chunks.one (h2.keep (by simp) (fun k hk => ⟨hk.1, fun e => by injection e with e; have := hk.2; change k = w1.heap.size at e; omega⟩) (fun k _ hk => Below.heap_alloc w1 o k hk))
/-- The row as it is handed on. -/
theorem row_done {s : ByteArray} {w wr : World} {b d : Nat} {mark : ByteArray} {item : Nat → Got Ex} {g : Got (List Ex)} {v : Value} {l : List Ex} {xs : List Value} {n i : Nat} (h : TurnI s w wr b d mark item g v l xs n i) : RowP w.heap.size l v wr := by
  rcases h.own.2 with ⟨_, h0⟩ | ⟨tb, cap, cur, hv, hlo, hh, _, _, hs, ht⟩
  · have := h.pos; omega
  · subst hv
    refine ⟨tb, cap, rfl, hlo, (Array.getElem?_eq_some_iff.1 hh).1, h.pos, ?_⟩
    refine (h.chunks.keep (Nat.le_refl _) (fun k hk => hk.1) (fun _ _ _ => rfl)).row (fun j u hj => ?_)
    rw [Nat.zero_add, World.ownsRow.cellAt h.own j (by rw [← h.own.1]; exact (List.getElem?_eq_some_iff.1 hj).1)]
    exact hj
theorem chunks_lt {w : World} {F : Nat → Prop} : ∀ {l : List Ex} {xs : List Value}, Chunks w F l xs → Chunks w (fun k => F k ∧ k < w.heap.size) l xs
  | [], _, h => h
  | e :: l, xs, ⟨A, cap, ys, h1, h2, h3⟩ => ⟨A, cap, ys, ex_lt h1, h2, chunks_lt h3⟩
section
variable {s : ByteArray} {w wr wa wb wd : World} {b d : Nat} {mark : ByteArray} {item : Nat → Got Ex} {g : Got (List Ex)} {v v' : Value} {l : List Ex} {xs : List Value} {n i k : Nat} {x : Ex} {A : Option Addr} {cap : Nat} {O : Obj}
theorem turn_own (h : TurnI s w wr b d mark item g v l xs n i) (hb : b < w.heap.size) (hA : wr.grownBy wa (some b)) (hB : wa.grownBy wb (some b)) : (wb.alloc O).ownsRow w.heap.size 39 6 v l.length xs := by
  have hne : v.ownBlock = none ∨ v.ownBlock ≠ some b := by
    rcases hv : v.ownBlock with _ | c
    · exact .inl rfl
    · exact .inr (fun e => by injection e with e; have := (h.own.lt c hv).1; omega)
  exact own_below (h.own.kept (row := some b) (grown_trans hA hB) hne) (lbox wb O)
theorem turn_on (h : TurnI s w wr b d mark item g v l xs (n + 1) i) (hb : b < w.heap.size) (ht : (tk (srcF s) i).text = mark) (hl : i + 1 < (srcF s).toks.length) (hx : item (i + 1) = .ok x k) (hfw : Fwd (srcF s) 1 (i + 1) (item (i + 1)))
    (hA : wr.grownBy wa (some b)) (hB : wa.grownBy wb (some b)) (hp : PAt wb b s (tk (srcF s) k) d) (he : ExIn wb (fun k => wa.heap.size ≤ k) x A cap)
    (ho : wd.ownsRow w.heap.size 39 6 v' (l.length + 1) (xs ++ exC x A cap)) (hg : (wb.alloc O).grownBy wd v.ownBlock) (hv : v'.ownBlock = v.ownBlock ∨ v'.ownBlock = some (wb.alloc O).heap.size) :
    TurnI s w wd b d mark item g v' (l ++ [x]) (xs ++ exC x A cap) n k := by
  have hk := hfw x k hx
  have hsz : (wb.alloc O).heap.size = wb.heap.size + 1 := by simp
  have hvl : ∀ c, v.ownBlock = some c → w.heap.size ≤ c ∧ c < wr.heap.size := fun c e => h.own.lt c e
  have hbl : b < wb.heap.size := hp.lt
  have keep : ∀ c, c < wb.heap.size → some c ≠ v.ownBlock → wd.heap[c]? = wb.heap[c]? := fun c hc hne => (hg.block c (by omega) hne).trans (Below.heap_alloc wb O c hc)
  have hbo : some b ≠ v.ownBlock := fun e => by have := hvl b e.symm; omega
  have size1 := hA.size
  have size2 := hB.size
  have size0 := h.grown.size
  have size3 := hg.size
  refine ⟨hk.2, by have := h.fuel; omega, by have := h.len; rw [List.length_append]; simp only [List.length_cons, List.length_nil]; omega, by rw [List.length_append]; simp, ?_, ?_, ?_, ?_, ?_⟩
  · rw [h.rest]
    show (if (tk (srcF s) i).text = mark then _ else _) = _
    rw [if_pos ht, adv_ok hl]
    show (item (i + 1)).andThen _ = _
    rw [hx]; rfl
  · exact World.rowIs.of_block hp (keep b hbl hbo)
  · refine ⟨hg.os.trans ((grown_trans (grown_trans h.grown hA) hB).os), hg.tape.trans ((grown_trans (grown_trans h.grown hA) hB).tape), hg.output.trans ((grown_trans (grown_trans h.grown hA) hB).output), by omega, fun c hc hne => ?_⟩
    exact (keep c (by omega) (fun e => by have := hvl c e.symm; omega)).trans ((grown_trans (grown_trans h.grown hA) hB).block c hc hne)
  · rw [List.length_append]; exact ho
  · have c1 := (chunks_lt h.chunks).keep (w' := wd) (G := fun c => w.heap.size ≤ c ∧ some c ≠ v'.ownBlock) (by omega) (fun c hc => ⟨hc.1.1, fun e => by
      rcases hv with hv | hv
      · exact hc.1.2 (e.trans hv)
      · rw [hv, hsz] at e; injection e with e; have := hc.2; omega⟩) (fun c hc _ => by
        have hc2 := hc.2
        have hc1 := hc.1.1
        exact (keep c (by omega) hc.1.2).trans ((grown_trans hA hB).block c hc2 (fun e => by injection e with e; omega)))
    have c2 := (ex_lt he).keep (w' := wd) (G := fun c => w.heap.size ≤ c ∧ some c ≠ v'.ownBlock) (by omega) (fun c hc => ⟨by have := hc.1; omega, fun e => by
      rcases hv with hv | hv
      · have := hvl c (hv.symm.trans e.symm); have := hc.1; omega
      · rw [hv, hsz] at e; injection e with e; have := hc.2; omega⟩) (fun c hc _ => keep c hc.2 (fun e => by have := hvl c e.symm; have := hc.1; omega))
    exact c1.snoc c2
end
theorem ex_cells (w : World) (B : Nat) (hB : B = w.heap.size) (x : Ex) (A : Option Addr) (cap : Nat) (j : Nat) (u : Value) (h : (exC x A cap)[j]? = some u) :
    (w.alloc (.cells #[.int .i64 x.op, .slice A x.args.length cap, .int .i64 x.field, .int .u64 (x.mask : Int), .int .i64 x.rel, .int .u64 (x.value : Int)] 39)).cell? ((⟨B, 0, none⟩ : Addr).add j) = some u := by
  subst hB
  rw [addr_add, Nat.zero_add]
  refine cell6 (World.alloc_heap_new w _) j ?_
  rw [← List.getElem?_toArray] at h
  exact h
theorem own_len {w : World} {base : Nat} {e : TypeId} {sz : Nat} {v : Value} {n : Nat} {xs : List Value} (h : w.ownsRow base e sz v n xs) : sliceLen v = n := by
  rcases h.2 with ⟨rfl, rfl⟩ | ⟨g, cap, cur, rfl, _⟩
  · rfl
  · rfl
set_option maxHeartbeats 2000000 in
set_option maxRecDepth 100000 in
theorem p_turns (f : Nat) (hE : ∀ args w, (callFunc f args).run Tryz.prog w = .ok (.enter f args) w) (mark : ByteArray) (hmk : kindOf mark ≠ 1) (s : ByteArray) (item : Nat → Got Ex) (hfw : ∀ i, i < (srcF s).toks.length → Fwd (srcF s) 1 i (item i)) (n : Nat)
    (w : World) (b i d : Nat) (hi : i < (srcF s).toks.length) (h : PAt w b s (tk (srcF s) i) d) (hn : (srcF s).toks.length - i < n) (hsm : (srcF s).toks.length ≤ 65537)
    (hone : ∀ (W : World) (j : Nat), j < (srcF s).toks.length → i ≤ j → PAt W b s (tk (srcF s) j) d → Calls Tryz.prog f #[.pointer (some ⟨b, 0, none⟩)] W (GotP (ExP W.heap.size) s W b d (item j))) :
    Calls Tryz.prog 91 #[.pointer (some ⟨b, 0, none⟩), .string mark, .func (.func f) #[.pointer (some ⟨b, 0, none⟩)] #[]] w (GotP (RowP w.heap.size) s w b d (byTurnsG (srcF s) mark item n i)) := by
  have hlt := h.lt
  have hO := hone w i hi (Nat.le_refl _) h
  have hfi := hfw i hi
  have hfw' := Lib.hid hfw
  have hone' := Lib.hid hone
  unfold byTurnsG
  rcases hg0 : item i with ⟨x0, j0⟩ | ⟨er, p⟩ | _
  · rw [hg0] at hO hfi
    have hj0 := hfi x0 j0 rfl
    generalize hgd : (Got.ok x0 j0).andThen (fun x j => turnsG (srcF s) mark item n [x] j) = g
    have hgd : g = turnsG (srcF s) mark item n [x0] j0 := hgd.symm
    have HGD := Lib.hid hgd
    have HO := Lib.hid hO
    have HH := Lib.hid h
    have HF := Lib.hid (And.intro hj0 hn)
    clear hO hgd h hfi hg0 hone hfw hj0 hn hi
    clear hgd
    go_enter Tryz.func91, Tryz.ntmps91
    go_wp2
    refine HO.out.mono ?_
    rintro e w1 ⟨v0, rfl, ⟨A0, cap0, rfl, hx0⟩, hp0, hg0⟩
    have HI : Hid (TurnI s w (w1.alloc (.cells #[.int .i64 x0.op, .slice A0 x0.args.length cap0, .int .i64 x0.field, .int .u64 (x0.mask : Int), .int .i64 x0.rel, .int .u64 (x0.value : Int)] 39)) b d mark item g (.slice (some ⟨w1.heap.size, 0, none⟩) 1 1) [x0] (exC x0 A0 cap0) n j0) :=
      Lib.hid ⟨HF.out.1.2, by have := HF.out.1.1; have := HF.out.2; omega, by have := HF.out.1.1; simp, by simp, HGD.out, words_alloc hp0 _, grown_trans hg0 (grown_of_below (lbox w1 _) (some b)), own_first hg0.size, chunks_first hx0 _⟩
    clear hp0 hg0 hx0
    go_wp2
    go_loopw [7] (fun v wr => ∃ l xs m k, i ≤ k ∧ TurnI s w wr b d mark item g v l xs m k) (fun v _ => (srcF s).toks.length + 2 - sliceLen v)
    case atStart => exact ⟨_, _, _, _, by have := HF.out.1.1; omega, HI.out⟩
    case round =>
      obtain ⟨l, xs, m, k, hik, hT⟩ := hrel
      obtain ⟨m, rfl⟩ : ∃ m', m = m' + 1 := ⟨m - 1, by have := hT.fuel; omega⟩
      have hk := hT.lt
      have hll := hT.len
      have HL := Lib.hid (own_len hT.own)
      have HT := Lib.hid hT
      clear HI
      by_cases ht : (tk (srcF s) k).text = mark
      · have hkk : (tk (srcF s) k).kind ≠ 1 := by rw [(lexd s).kinds k hk, ht]; exact hmk
        have hS := pp_skip_yes wr b s k d hk hT.at_ mark ht hkk
        have HTX := Lib.hid ht
        clear ht hkk hT
        by_cases hl : k + 1 < (srcF s).toks.length
        · rw [adv_ok hl] at hS
          have HS := Lib.hid hS
          have hfk := hfw'.out (k + 1) hl
          have hOk := fun (W : World) hp => hone'.out W (k + 1) hl (by omega) hp
          have HRS : Hid (g = (item (k + 1)).andThen fun x j => turnsG (srcF s) mark item m (l ++ [x]) j) := Lib.hid (by
            rw [HT.out.rest]
            show (if (tk (srcF s) k).text = mark then _ else _) = _
            rw [if_pos HTX.out, adv_ok hl]; rfl)
          clear hS
          rcases hg1 : item (k + 1) with ⟨x, j⟩ | ⟨er, p⟩ | _
          · rw [hg1] at hOk
            have hj := hfk
            rw [hg1] at hj
            have hj := hj x j rfl
            have HK := Lib.hid hOk
            have HF1 := Lib.hid hfk
            have HG1 := Lib.hid hg1
            clear hOk hfk hg1
            go_wp2_with (go_at_call 78; (with_reducible refine HS.out.mono ?_); rintro e wa ⟨v, rfl, rfl, hp, hg⟩; have HA := Lib.hid (And.intro hp hg); clear hp hg)
            refine (HK.out _ HA.out.1).mono ?_
            rintro e wb ⟨v, rfl, ⟨A1, cap1, rfl, hx1⟩, hp1, hg1⟩
            have HB := Lib.hid (And.intro hx1 (And.intro hp1 hg1))
            clear hx1 hp1 hg1
            go_wp2_with (at_builtin; refine wpList_append_own _ rfl (.tmp 14) (.tmp 17) 36 rfl 39 (.agg #[.int .i64 0, .slice none 0 0, .int .i64 0, .int .u64 0, .int .i64 0, .int .u64 0]) 6 64 Tryz.underlying36 info_ex rfl (by decide) w.heap.size u7 l.length xs rfl (turn_own HT.out hlt HA.out.2 HB.out.2.2) ⟨wb.heap.size, 0, none⟩ 1 1 (exC x A1 cap1) rfl rfl (ex_cells _ _ rfl _ _ _) ex_one (by unfold maxLen; omega) (by omega) (by have h1 := HT.out.grown.size; have h2 := HA.out.2.size; have h3 := HB.out.2.2.size; simp; omega) ?_; intro v' wd ho hg hv; have HW := Lib.hid (turn_on HT.out hlt HTX.out hl HG1.out HF1.out HA.out.2 HB.out.2.2 HB.out.2.1 HB.out.1 ho hg hv); clear ho hg hv)
            exact ⟨⟨_, _, _, j, by omega, HW.out⟩, by rw [HL.out, own_len HW.out.own, List.length_append]; simp only [List.length_cons, List.length_nil]; omega⟩
          · rw [hg1] at hOk HRS
            have HK := Lib.hid hOk
            clear hOk hfk hg1
            go_wp2_with (go_at_call 78; (with_reducible refine HS.out.mono ?_); rintro e wa ⟨v, rfl, rfl, hp, hg⟩; have HA := Lib.hid (And.intro hp hg); clear hp hg)
            refine (HK.out _ HA.out.1).mono ?_
            rintro e wb ⟨rfl, hg1⟩
            have HB := Lib.hid (grown_trans (grown_trans HT.out.grown HA.out.2) hg1)
            clear hg1
            go_wp2
            exact ⟨rfl, by rw [HRS.out]; exact ⟨rfl, HB.out⟩⟩
          · rw [hg1] at hOk
            have HK := Lib.hid hOk
            clear hOk hfk hg1
            go_wp2_with (go_at_call 78; (with_reducible refine HS.out.mono ?_); rintro e wa ⟨v, rfl, rfl, hp, hg⟩; have HA := Lib.hid (And.intro hp hg); clear hp hg)
            refine (HK.out _ HA.out.1).mono ?_
            intro e wb hF
            exact hF.elim
        · rw [adv_no hl] at hS
          have HS := Lib.hid hS
          have HRS : Hid (g = .bad (srcF s).err (srcF s).place) := Lib.hid (by
            rw [HT.out.rest]
            show (if (tk (srcF s) k).text = mark then _ else _) = _
            rw [if_pos HTX.out, adv_no hl]; rfl)
          clear hS
          go_wp2_with (go_at_call 78; (with_reducible refine HS.out.mono ?_); rintro e wa ⟨rfl, hg⟩; have HA := Lib.hid (grown_trans HT.out.grown hg); clear hg)
          exact ⟨rfl, by rw [HRS.out]; exact ⟨rfl, HA.out⟩⟩
      · have hS := pp_skip_no wr b s k d hT.at_ mark ht
        have HS := Lib.hid hS
        have HRS : Hid (g = .ok l k) := Lib.hid (by
          rw [hT.rest]
          show (if (tk (srcF s) k).text = mark then _ else _) = _
          rw [if_neg ht])
        clear hS ht hT
        go_wp2_with (go_at_call 78; (with_reducible refine HS.out.mono ?_); rintro e wa ⟨rfl, rfl⟩)
        go_ret
        rw [HRS.out]
        exact ⟨_, rfl, row_done HT.out, HT.out.at_, HT.out.grown⟩
  · rw [hg0] at hO
    show Calls _ _ _ _ (GotP (RowP w.heap.size) s w b d (.bad er p))
    have HO := Lib.hid hO
    clear hO h hfi hg0 hone hfw hn hi
    go_enter Tryz.func91, Tryz.ntmps91
    go_wp2
    refine HO.out.mono ?_
    rintro e w1 ⟨rfl, hg⟩
    have HX := Lib.hid hg
    clear hg
    go_wp2
    exact ⟨rfl, rfl, HX.out⟩
  · rw [hg0] at hO
    show Calls _ _ _ _ (GotP (RowP w.heap.size) s w b d .out)
    have HO := Lib.hid hO
    clear hO h hfi hg0 hone hfw hn hi
    go_enter Tryz.func91, Tryz.ntmps91
    go_wp2
    refine HO.out.mono ?_
    intro e w1 hF
    exact hF.elim
end Go.Proofs.YtgeapkjegemkeaaGreatDoor
