/-
  The document's reader's all and Expr: contracts, of a contract of what stands between the words. Conditions: those that each names.
-/
import Derived.Test.YtgeapkjegemkeaaGreatDoorPolDOne
namespace Go.Proofs.YtgeapkjegemkeaaGreatDoor
open Go Go.RowKit
set_option linter.unusedSimpArgs false
set_option linter.unusedVariables false

/-- What has been read, behind a first part. -/
structure TurnD (w0 wr : World) (b : Nat) (A : Option Addr) (cap : Nat) (S : Src) (r0 r : Rd) (word : ByteArray) (item : Rd → Option (Ex × Rd)) (z : List Ex × Rd) (v : Value) (l : List Ex) (xs : List Value) (m : Nat) : Prop where
  rd : RdAt wr b A cap S r
  j : Goes S r0 r
  len : l.length ≤ r.at_ + 1
  pos : 0 < l.length
  rest : loopF S word item m l r = some z
  grown : w0.grownBy wr (some b)
  own : wr.ownsRow w0.heap.size 39 6 v l.length xs
  chunks : Chunks wr (fun k => w0.heap.size ≤ k ∧ some k ≠ v.ownBlock) l xs
section
variable {w0 wr wa wb wd : World} {b : Nat} {A : Option Addr} {cap : Nat} {S : Src} {r0 r r' : Rd} {word : ByteArray} {item : Rd → Option (Ex × Rd)} {z : List Ex × Rd} {v v' : Value} {l : List Ex} {xs : List Value} {m : Nat} {x : Ex} {Ax : Option Addr} {cx : Nat} {O : Obj}
theorem rowD {base : Nat} (ho : wr.ownsRow base 39 6 v l.length xs) (hp : 0 < l.length) (hc : Chunks wr (fun k => base ≤ k ∧ some k ≠ v.ownBlock) l xs) : RowP base l v wr := by
  rcases ho.2 with ⟨_, h0⟩ | ⟨tb, cap, cur, hv, hlo, hh, _, _, hs, ht⟩
  · omega
  · subst hv
    refine ⟨tb, cap, rfl, hlo, (Array.getElem?_eq_some_iff.1 hh).1, hp, ?_⟩
    refine (hc.keep (Nat.le_refl _) (fun k hk => hk.1) (fun _ _ _ => rfl)).row (fun j u hj => ?_)
    rw [Nat.zero_add, World.ownsRow.cellAt ho j (by rw [← ho.1]; exact (List.getElem?_eq_some_iff.1 hj).1)]
    exact hj
theorem turn_ownD (h : TurnD w0 wr b A cap S r0 r word item z v l xs m) (hb : b < w0.heap.size) (hA : wr.grownBy wa (some b)) (hB : wa.grownBy wb (some b)) : (wb.alloc O).ownsRow w0.heap.size 39 6 v l.length xs := by
  have hne : v.ownBlock = none ∨ v.ownBlock ≠ some b := by
    rcases hv : v.ownBlock with _ | c
    · exact .inl rfl
    · exact .inr (fun e => by injection e with e; have := (h.own.lt c hv).1; omega)
  exact own_below (h.own.kept (row := some b) (grown_trans hA hB) hne) (lbox wb O)
theorem row_grown {lo : Nat} {w1 w2 : World} (h : RowP lo l v w1) (hb : b < lo) (hg : w1.grownBy w2 (some b)) : RowP lo l v w2 := by
  obtain ⟨tb, cap, h1, h2, h3, h4, h5⟩ := h
  exact ⟨tb, cap, h1, h2, Nat.lt_of_lt_of_le h3 hg.size, h4, RowIn.keep hg.size (fun _ hk => hk) (fun k hk hl => hg.block k hl (fun e => by injection e with e; omega)) h2 h3 h5⟩
theorem turn_onD (h : TurnD w0 wr b A cap S r0 r word item z v l xs (m + 1)) (hb : b < w0.heap.size) (he : r.err = 0) (hB : r.isB S 2 word = true) (hx : item (r.isR S 2 word) = some (x, r')) (hgo : GoesO S item)
    (hA : wr.grownBy wa (some b)) (hBg : wa.grownBy wb (some b)) (hp : RdAt wb b A cap S r') (hxin : ExIn wb (fun k => wa.heap.size ≤ k) x Ax cx)
    (ho : wd.ownsRow w0.heap.size 39 6 v' (l.length + 1) (xs ++ exC x Ax cx)) (hg : (wb.alloc O).grownBy wd v.ownBlock) (hv : v'.ownBlock = v.ownBlock ∨ v'.ownBlock = some (wb.alloc O).heap.size) :
    TurnD w0 wd b A cap S r0 r' word item z v' (l ++ [x]) (xs ++ exC x Ax cx) m := by
  have hsz : (wb.alloc O).heap.size = wb.heap.size + 1 := by simp
  have hvl : ∀ c, v.ownBlock = some c → w0.heap.size ≤ c ∧ c < wr.heap.size := fun c e => h.own.lt c e
  have keep : ∀ c, c < wb.heap.size → some c ≠ v.ownBlock → wd.heap[c]? = wb.heap[c]? := fun c hc hne => (hg.block c (by omega) hne).trans (Below.heap_alloc wb O c hc)
  have hbl : b < wb.heap.size := hp.row.lt
  have hbo : some b ≠ v.ownBlock := fun e => by have := hvl b e.symm; omega
  have size1 := hA.size
  have size2 := hBg.size
  have size0 := h.grown.size
  have size3 := hg.size
  have hi := is_on (k := 2) (by decide) hB
  have g1 := goes_is h.j.j 2 (by decide) word
  have g2 := hgo _ _ g1.j hx
  have g3 := g2.at_
  refine ⟨?_, h.j.trans (g1.trans g2), by have := h.len; rw [List.length_append]; simp only [List.length_cons, List.length_nil]; simp only at g3; omega, by rw [List.length_append]; simp, ?_, ?_, ?_, ?_⟩
  · refine ⟨World.rowIs.of_block hp.row (keep b hbl hbo), fun hn => ?_, hp.low, hp.size⟩
    obtain ⟨tb, o, rfl, hl, hc⟩ := hp.toks hn
    obtain ⟨tb', o', e, hl'⟩ := hp.low hn
    injection e with e; injection e with e1 _ _; subst e1
    have hk := keep tb (by omega) (fun e => by have := hvl tb e.symm; omega)
    have cell : ∀ j u, wb.cell? ⟨tb, j, none⟩ = some u → wd.cell? ⟨tb, j, none⟩ = some u := fun j u hu => (World.cell?_of_block (a := ⟨tb, j, none⟩) hk).trans hu
    refine ⟨tb, o, rfl, by omega, fun i hi => ?_⟩
    obtain ⟨c0, c1, c2, c3⟩ := hc i hi
    exact ⟨cell _ _ c0, cell _ _ c1, cell _ _ c2, cell _ _ c3⟩
  · have hr := h.rest
    unfold loopF at hr
    rw [if_neg (fun g => g he), if_neg (by rw [hB]; decide), hx] at hr
    exact hr
  · refine ⟨hg.os.trans ((grown_trans (grown_trans h.grown hA) hBg).os), hg.tape.trans ((grown_trans (grown_trans h.grown hA) hBg).tape), hg.output.trans ((grown_trans (grown_trans h.grown hA) hBg).output), by omega, fun c hc hne => ?_⟩
    exact (keep c (by omega) (fun e => by have := hvl c e.symm; omega)).trans ((grown_trans (grown_trans h.grown hA) hBg).block c hc hne)
  · rw [List.length_append]; exact ho
  · have c1 := (chunks_lt h.chunks).keep (w' := wd) (G := fun c => w0.heap.size ≤ c ∧ some c ≠ v'.ownBlock) (by omega) (fun c hc => ⟨hc.1.1, fun e => by
      rcases hv with hv | hv
      · exact hc.1.2 (e.trans hv)
      · rw [hv, hsz] at e; injection e with e; have := hc.2; omega⟩) (fun c hc _ => by
        have hc2 := hc.2
        have hc1 := hc.1.1
        exact (keep c (by omega) hc.1.2).trans ((grown_trans hA hBg).block c hc2 (fun e => by injection e with e; omega)))
    have c2 := (ex_lt hxin).keep (w' := wd) (G := fun c => w0.heap.size ≤ c ∧ some c ≠ v'.ownBlock) (by omega) (fun c hc => ⟨by have := hc.1; omega, fun e => by
      rcases hv with hv | hv
      · have := hvl c (hv.symm.trans e.symm); have := hc.1; omega
      · rw [hv, hsz] at e; injection e with e; have := hc.2; omega⟩) (fun c hc _ => keep c hc.2 (fun e => by have := hvl c e.symm; have := hc.1; omega))
    exact c1.snoc c2
end
/-- The loops themselves. -/
theorem node_row {lo : Nat} {l : List Ex} {tb cb : Nat} {W : World} (o : Int) (h : RowP lo l (.slice (some ⟨tb, 0, none⟩) l.length cb) W) : ExIn W (fun k => lo ≤ k) (.node o l) (some ⟨tb, 0, none⟩) cb := by
  obtain ⟨tb', cb', hqe, q1, q2, q3, q4⟩ := h
  injection hqe with hq1 hq2 hq3
  injection hq1 with hq1
  injection hq1 with hq1 _ _
  subst hq1
  exact .inr ⟨fun e => by rw [e] at q3; simp at q3, tb, rfl, q1, q2, q4⟩
set_option maxHeartbeats 8000000 in
set_option maxRecDepth 100000 in
theorem rd6_all {S : Src} {item : Rd → Option (Ex × Rd)} (hone : OneR 98 S item) (hgo : GoesO S item) (n : Nat) (z : Ex × Rd) (r1 : Rd) (e1 : Ex) (zl : List Ex × Rd) (w : World) (b : Nat) (A : Option Addr) (cap : Nat) (r : Rd) (hJ : J S r) (hd0 : 0 ≤ r.deep) (hd64 : r.deep ≤ 64) (h : RdAt w b A cap S r)
    (h1 : item r = some (e1, r1)) (h2 : loopF S ⟨#[97, 110, 100]⟩ item n [e1] r1 = some zl) : Calls Tryz.prog 73 #[.pointer (some ⟨b, 0, none⟩)] w (ExR w b A cap S (joinE 4 zl.1, zl.2)) := by
  have hlt := h.row.lt
  have hsz := h.size
  have HR0 := Lib.hid (World.alloc_heap_new w (exO 0 0 0 0 0))
  have HG0 := Lib.hid (grown_of_below (lbox w (exO 0 0 0 0 0)) (some b))
  have s0 : (w.alloc (exO 0 0 0 0 0)).heap.size = w.heap.size + 1 := by simp
  have hO := hone _ b A cap r _ hJ hd0 hd64 (h.below (lbox w (exO 0 0 0 0 0))) h1
  have hgr := hgo r _ hJ h1
  have HO := Lib.hid hO
  have H2 := Lib.hid (And.intro hgr h2)
  have HI := Lib.hid (fun (W : World) (q : Rd) (hq : J S q) hW => rd6_is W b A cap S q hW 2 ⟨#[97, 110, 100]⟩ (by have := hq.le; omega))
  have HItem := Lib.hid hone
  have HGo := Lib.hid hgo
  have HD := Lib.hid (And.intro hd0 hd64)
  clear hO h h1 h2 hgr hJ hone hgo hd0 hd64
  go_enter Tryz.func73, Tryz.ntmps73
  go_wp2_with (go_at_call 98; (with_reducible refine HO.out.mono ?_); rintro e w1 ⟨A0, c0, rfl, hx0, hr0, hg0⟩; have HT : Hid (TurnD (w.alloc (exO 0 0 0 0 0)) (w1.alloc (exCells e1 A0 c0)) b A cap S r r1 ⟨#[97, 110, 100]⟩ item zl (.slice (some ⟨w1.heap.size, 0, none⟩) 1 1) [e1] (exC e1 A0 c0) n) := Lib.hid ⟨hr0.below (lbox w1 _), H2.out.1, by simp, by simp, H2.out.2, grown_trans hg0 (grown_of_below (lbox w1 _) (some b)), own_first hg0.size, chunks_first hx0 _⟩; have HRR : Hid ((w1.alloc (exCells e1 A0 c0)).heap[w.heap.size]? = some (exO 0 0 0 0 0)) := Lib.hid (kept_alloc (kept_box HR0.out hg0 (by omega)) _); clear hx0 hr0 hg0)
  go_loopw [3] (fun v wr => ∃ l xs m rr, TurnD (w.alloc (exO 0 0 0 0 0)) wr b A cap S r rr ⟨#[97, 110, 100]⟩ item zl v l xs m ∧ wr.heap[w.heap.size]? = some (exO 0 0 0 0 0)) (fun v _ => S.toks.length + 3 - sliceLen v)
  case atStart => exact ⟨_, _, _, _, HT.out, HRR.out⟩
  case round =>
    obtain ⟨l, xs, m, rr, hT, hR⟩ := hrel
    obtain ⟨m, rfl⟩ : ∃ m', m = m' + 1 := ⟨m - 1, by
      rcases m with _ | m
      · have := hT.rest; cases this
      · rfl⟩
    have hjr := hT.j.j
    have hll := hT.len
    have hjl := hjr.le
    have hdr := hT.j.deep
    have hrest := hT.rest
    have hrd := hT.rd
    have c5 : wr.cell? ⟨b, 5, none⟩ = some (.int .i64 rr.err) := World.rowIs.cell hrd.row (i := 5) (by decide)
    have HL := Lib.hid (own_len hT.own)
    have HT2 := Lib.hid (And.intro hT hR)
    unfold loopF at hrest
    clear HT HRR hT hR
    by_cases he : rr.err = 0
    · have heb : (rr.err == 0) = true := beq_iff_eq.2 he
      rw [if_neg (fun g => g he)] at hrest
      by_cases hb : rr.isB S 2 ⟨#[97, 110, 100]⟩ = true
      · rw [if_neg (by rw [hb]; decide)] at hrest
        cases hi : item (rr.isR S 2 ⟨#[97, 110, 100]⟩) with
        | none => rw [hi] at hrest; cases hrest
        | some y =>
          have hon := is_on (S := S) (k := 2) (by decide) hb
          have hgi := goes_is hjr 2 (by decide) ⟨#[97, 110, 100]⟩
          have hIs := HI.out wr rr hjr hrd
          rw [hb] at hIs
          have hIt := fun W hW => HItem.out W b A cap (rr.isR S 2 ⟨#[97, 110, 100]⟩) y hgi.j (by rw [hgi.deep, hdr]; exact HD.out.1) (by rw [hgi.deep, hdr]; exact HD.out.2) hW hi
          obtain ⟨y, r'⟩ := y
          have HIs := Lib.hid hIs
          have HIt := Lib.hid hIt
          have HX := Lib.hid (And.intro he (And.intro hb hi))
          generalize rr.isR S 2 ⟨#[97, 110, 100]⟩ = ri at HIs HIt
          have hbnd : l.length ≤ 70000 := by omega
          clear hrest he hb hi hon hgi hIs hIt hrd hjr hdr
          go_wp2_with (first | (go_at_call 39; (with_reducible refine HIs.out.mono ?_); rintro e wa ⟨rfl, hra, hga⟩; have HA := Lib.hid (And.intro hra hga); clear hra hga) | (go_at_call 98; (with_reducible refine (HIt.out _ HA.out.1).mono ?_); rintro e wb ⟨Ay, cy, rfl, hy, hrb, hgb⟩; have HB := Lib.hid (And.intro hy (And.intro hrb hgb)); clear hy hrb hgb) | (at_builtin; refine wpList_append_own _ rfl (.tmp 17) (.tmp 20) 36 rfl 39 (.agg #[.int .i64 0, .slice none 0 0, .int .i64 0, .int .u64 0, .int .i64 0, .int .u64 0]) 6 64 Tryz.underlying36 info_ex rfl (by decide) (w.alloc (exO 0 0 0 0 0)).heap.size u3 l.length xs rfl (turn_ownD HT2.out.1 (by omega) HA.out.2 HB.out.2.2) ⟨wb.heap.size, 0, none⟩ 1 1 (exC y Ay cy) rfl rfl (ex_cells _ _ rfl _ _ _) ex_one (by unfold maxLen; omega) (by omega) (by have h1 := HT2.out.1.grown.size; have h2 := HA.out.2.size; have h3 := HB.out.2.2.size; simp at h1 ⊢; omega) ?_; intro v' wd ho hg hv; have HW := Lib.hid (turn_onD HT2.out.1 (by omega) HX.out.1 HX.out.2.1 HX.out.2.2 HGo.out HA.out.2 HB.out.2.2 HB.out.2.1 HB.out.1 ho hg hv); have HWR : Hid (wd.heap[w.heap.size]? = some (exO 0 0 0 0 0)) := Lib.hid ((hg.block w.heap.size (by have := (Array.getElem?_eq_some_iff.1 HT2.out.2).1; have h2 := HA.out.2.size; have h3 := HB.out.2.2.size; simp; omega) (fun e => by have := HT2.out.1.own.lt w.heap.size e.symm; omega)).trans (kept_alloc (kept_box (kept_box HT2.out.2 HA.out.2 (by omega)) HB.out.2.2 (by omega)) _)); clear ho hg hv))
          exact ⟨⟨_, _, _, _, HW.out, HWR.out⟩, by have h1 := own_len HW.out.own; rw [List.length_append] at h1; simp only [List.length_cons, List.length_nil] at h1; rw [HL.out, h1]; have := HW.out.len; have h4 := HW.out.j.j.le; rw [List.length_append] at this; simp only [List.length_cons, List.length_nil] at this; omega⟩
      · have hbf : rr.isB S 2 ⟨#[97, 110, 100]⟩ = false := by cases hq : rr.isB S 2 ⟨#[97, 110, 100]⟩ with
          | true => exact absurd hq hb
          | false => rfl
        rw [if_pos hbf] at hrest
        have hIs := HI.out wr rr hjr hrd
        rw [hbf] at hIs
        have hz : zl = (l, rr.isR S 2 ⟨#[97, 110, 100]⟩) := (Option.some.inj hrest).symm
        have HIs := Lib.hid hIs
        have hrow := rowD HT2.out.1.own HT2.out.1.pos HT2.out.1.chunks
        subst hz
        obtain ⟨tb, cb, rfl, q1, q2, q3, q4⟩ := hrow
        have HQ : Hid (RowP (w.alloc (exO 0 0 0 0 0)).heap.size l (.slice (some ⟨tb, 0, none⟩) l.length cb) wr) := Lib.hid ⟨tb, cb, rfl, q1, q2, q3, q4⟩
        clear hrest he hb hbf hIs hrd hjr hdr q1 q2 q3 q4
        by_cases hone1 : l.length = 1
        · obtain ⟨x, rfl⟩ : ∃ x, l = [x] := by
            rcases l with _ | ⟨x, _ | ⟨y, l⟩⟩
            · simp at hone1
            · exact ⟨x, rfl⟩
            · simp at hone1
          have hlb : ((1 : Int) == 1) = true := rfl
          go_wp2_with (go_at_call 39; (with_reducible refine HIs.out.mono ?_); rintro e wa ⟨rfl, hra, hga⟩; have hRw := kept_box HT2.out.2 hga (by omega); have u0 := cell6 hRw 0 rfl; have u1 := cell6 hRw 1 rfl; have u2 := cell6 hRw 2 rfl; have u3 := cell6 hRw 3 rfl; have u4 := cell6 hRw 4 rfl; have u5 := cell6 hRw 5 rfl; have y0 := frozen6 hRw 0; have y1 := frozen6 hRw 1; have y2 := frozen6 hRw 2; have y3 := frozen6 hRw 3; have y4 := frozen6 hRw 4; have y5 := frozen6 hRw 5; have hq := row_grown HQ.out (b := b) (by omega) hga; obtain ⟨tb', cb', hqe, q1, q2, q3, ⟨Ax, cx, hx, hcx⟩, _⟩ := hq; injection hqe with hq1 hq2 hq3; injection hq1 with hq1; injection hq1 with hq1 _ _; subst hq1; have m0 : wa.cell? ⟨tb, 0, none⟩ = some (.int .i64 x.op) := hcx 0 _ rfl; have m1 : wa.cell? ⟨tb, 1, none⟩ = some (.slice Ax x.args.length cx) := hcx 1 _ rfl; have m2 : wa.cell? ⟨tb, 2, none⟩ = some (.int .i64 x.field) := hcx 2 _ rfl; have m3 : wa.cell? ⟨tb, 3, none⟩ = some (.int .u64 (x.mask : Int)) := hcx 3 _ rfl; have m4 : wa.cell? ⟨tb, 4, none⟩ = some (.int .i64 x.rel) := hcx 4 _ rfl; have m5 : wa.cell? ⟨tb, 5, none⟩ = some (.int .u64 (x.value : Int)) := hcx 5 _ rfl; have HX := Lib.hid hx; clear hx hcx hq2 hq3 q1 q2 q3; have HE := Lib.hid (And.intro hra (grown_trans (grown_trans HG0.out HT2.out.1.grown) hga)); clear hra hRw hga)
          exact bodyPost_ret (v := exV x Ax cx) (by simp [results, Tryz.results73, go_sem, u0, u1, u2, u3, u4, u5, World.cell?_setCell_same']) rfl ⟨Ax, cx, rfl, (ex_set6 HX.out (fun k hk => by omega) _ _ _ _ _ _).keep (Nat.le_refl _) (fun k hk => by omega) (fun _ _ _ => rfl), (((((HE.out.1.new hlt 0 _).new hlt 1 _).new hlt 2 _).new hlt 3 _).new hlt 4 _).new hlt 5 _, gset6 HE.out.2 (Nat.le_refl _) _ _ _ _ _ _⟩
        · have hlb : ((l.length : Int) == 1) = false := beq_false_of_ne (by omega)
          have hlb2 : (l.length == 1) = false := beq_false_of_ne hone1
          have hj : joinE 4 l = .node 4 l := by
            unfold joinE
            rcases l with _ | ⟨x, _ | ⟨y, l⟩⟩
            · rfl
            · simp at hone1
            · rfl
          clear hone1
          go_wp2_with (go_at_call 39; (with_reducible refine HIs.out.mono ?_); rintro e wa ⟨rfl, hra, hga⟩; have hRw := kept_box HT2.out.2 hga (by omega); have u0 := cell6 hRw 0 rfl; have u1 := cell6 hRw 1 rfl; have u2 := cell6 hRw 2 rfl; have u3 := cell6 hRw 3 rfl; have u4 := cell6 hRw 4 rfl; have u5 := cell6 hRw 5 rfl; have y0 := frozen6 hRw 0; have y1 := frozen6 hRw 1; have y2 := frozen6 hRw 2; have y3 := frozen6 hRw 3; have y4 := frozen6 hRw 4; have y5 := frozen6 hRw 5; have HQ2 := Lib.hid (row_grown HQ.out (b := b) (by omega) hga); have HE := Lib.hid (And.intro hra (grown_trans (grown_trans HG0.out HT2.out.1.grown) hga)); clear hra hRw hga)
          exact bodyPost_ret (v := .agg #[.int .i64 4, .slice (some ⟨tb, 0, none⟩) l.length cb, .int .i64 0, .int .u64 0, .int .i64 0, .int .u64 0]) (by simp [results, Tryz.results73, go_sem, u0, u1, u2, u3, u4, u5, World.cell?_setCell_same']) rfl ⟨some ⟨tb, 0, none⟩, cb, by (show _ = Ending.returned (exV (joinE 4 l) (some ⟨tb, 0, none⟩) cb)); rw [hj]; rfl, by (show ExIn _ _ (joinE 4 l) _ _); rw [hj]; exact (ex_set6 (node_row 4 HQ2.out) (fun k hk => by omega) _ _ _ _ _ _).keep (Nat.le_refl _) (fun k hk => by omega) (fun _ _ _ => rfl), (((((HE.out.1.new hlt 0 _).new hlt 1 _).new hlt 2 _).new hlt 3 _).new hlt 4 _).new hlt 5 _, gset6 HE.out.2 (Nat.le_refl _) _ _ _ _ _ _⟩
    · have heb : (rr.err == 0) = false := beq_false_of_ne he
      rw [if_pos he] at hrest
      have hz : zl = (l, rr) := (Option.some.inj hrest).symm
      have hrow := rowD HT2.out.1.own HT2.out.1.pos HT2.out.1.chunks
      subst hz
      obtain ⟨tb, cb, rfl, q1, q2, q3, q4⟩ := hrow
      have HQ : Hid (RowP (w.alloc (exO 0 0 0 0 0)).heap.size l (.slice (some ⟨tb, 0, none⟩) l.length cb) wr) := Lib.hid ⟨tb, cb, rfl, q1, q2, q3, q4⟩
      clear hrest he hrd hjr hdr q1 q2 q3 q4
      by_cases hone1 : l.length = 1
      · obtain ⟨x, rfl⟩ : ∃ x, l = [x] := by
          rcases l with _ | ⟨x, _ | ⟨y, l⟩⟩
          · simp at hone1
          · exact ⟨x, rfl⟩
          · simp at hone1
        have hRw := HT2.out.2
        have u0 := cell6 hRw 0 rfl
        have u1 := cell6 hRw 1 rfl
        have u2 := cell6 hRw 2 rfl
        have u3 := cell6 hRw 3 rfl
        have u4 := cell6 hRw 4 rfl
        have u5 := cell6 hRw 5 rfl
        have y0 := frozen6 hRw 0
        have y1 := frozen6 hRw 1
        have y2 := frozen6 hRw 2
        have y3 := frozen6 hRw 3
        have y4 := frozen6 hRw 4
        have y5 := frozen6 hRw 5
        have hq := HQ.out
        obtain ⟨tb', cb', hqe, q1, q2, q3, ⟨Ax, cx, hx, hcx⟩, _⟩ := hq
        injection hqe with hq1 hq2 hq3
        injection hq1 with hq1
        injection hq1 with hq1 _ _
        subst hq1
        have m0 : wr.cell? ⟨tb, 0, none⟩ = some (.int .i64 x.op) := hcx 0 _ rfl
        have m1 : wr.cell? ⟨tb, 1, none⟩ = some (.slice Ax x.args.length cx) := hcx 1 _ rfl
        have m2 : wr.cell? ⟨tb, 2, none⟩ = some (.int .i64 x.field) := hcx 2 _ rfl
        have m3 : wr.cell? ⟨tb, 3, none⟩ = some (.int .u64 (x.mask : Int)) := hcx 3 _ rfl
        have m4 : wr.cell? ⟨tb, 4, none⟩ = some (.int .i64 x.rel) := hcx 4 _ rfl
        have m5 : wr.cell? ⟨tb, 5, none⟩ = some (.int .u64 (x.value : Int)) := hcx 5 _ rfl
        have HX := Lib.hid hx
        clear hx hcx hq2 hq3 q1 q2 q3
        have HE := Lib.hid (And.intro HT2.out.1.rd (grown_trans HG0.out HT2.out.1.grown))
        clear hRw
        go_wp2
        exact bodyPost_ret (v := exV x Ax cx) (by simp [results, Tryz.results73, go_sem, u0, u1, u2, u3, u4, u5, World.cell?_setCell_same']) rfl ⟨Ax, cx, rfl, (ex_set6 HX.out (fun k hk => by omega) _ _ _ _ _ _).keep (Nat.le_refl _) (fun k hk => by omega) (fun _ _ _ => rfl), (((((HE.out.1.new hlt 0 _).new hlt 1 _).new hlt 2 _).new hlt 3 _).new hlt 4 _).new hlt 5 _, gset6 HE.out.2 (Nat.le_refl _) _ _ _ _ _ _⟩
      · have hlb : ((l.length : Int) == 1) = false := beq_false_of_ne (by omega)
        have hlb2 : (l.length == 1) = false := beq_false_of_ne hone1
        have hj : joinE 4 l = .node 4 l := by
          unfold joinE
          rcases l with _ | ⟨x, _ | ⟨y, l⟩⟩
          · rfl
          · simp at hone1
          · rfl
        clear hone1
        have hRw := HT2.out.2
        have u0 := cell6 hRw 0 rfl
        have u1 := cell6 hRw 1 rfl
        have u2 := cell6 hRw 2 rfl
        have u3 := cell6 hRw 3 rfl
        have u4 := cell6 hRw 4 rfl
        have u5 := cell6 hRw 5 rfl
        have y0 := frozen6 hRw 0
        have y1 := frozen6 hRw 1
        have y2 := frozen6 hRw 2
        have y3 := frozen6 hRw 3
        have y4 := frozen6 hRw 4
        have y5 := frozen6 hRw 5
        have HQ2 := HQ
        have HE := Lib.hid (And.intro HT2.out.1.rd (grown_trans HG0.out HT2.out.1.grown))
        clear hRw
        go_wp2
        exact bodyPost_ret (v := .agg #[.int .i64 4, .slice (some ⟨tb, 0, none⟩) l.length cb, .int .i64 0, .int .u64 0, .int .i64 0, .int .u64 0]) (by simp [results, Tryz.results73, go_sem, u0, u1, u2, u3, u4, u5, World.cell?_setCell_same']) rfl ⟨_, cb, rfl, (ex_set6 (node_row 4 HQ2.out) (fun k hk => by omega) _ _ _ _ _ _).keep (Nat.le_refl _) (fun k hk => by omega) (fun _ _ _ => rfl), (((((HE.out.1.new hlt 0 _).new hlt 1 _).new hlt 2 _).new hlt 3 _).new hlt 4 _).new hlt 5 _, gset6 HE.out.2 (Nat.le_refl _) _ _ _ _ _ _⟩
theorem rd6_all' {S : Src} {item : Rd → Option (Ex × Rd)} (hone : OneR 98 S item) (hgo : GoesO S item) (n : Nat) : OneR 73 S (allW S item n) := fun w b A cap r x hJ hd0 hd64 h hx => by
  cases h1 : item r with
  | none => simp only [allW, h1] at hx; cases hx
  | some y =>
    cases h2 : loopF S ⟨#[97, 110, 100]⟩ item n [y.1] y.2 with
    | none => simp only [allW, h1] at hx; rw [show bAnd = ⟨#[97, 110, 100]⟩ from rfl, h2] at hx; cases hx
    | some z =>
      simp only [allW, h1] at hx
      rw [show bAnd = ⟨#[97, 110, 100]⟩ from rfl, h2] at hx
      obtain rfl : (joinE 4 z.1, z.2) = x := Option.some.inj hx
      exact rd6_all hone hgo n (joinE 4 z.1, z.2) y.2 y.1 z w b A cap r hJ hd0 hd64 h h1 h2
set_option maxHeartbeats 8000000 in
set_option maxRecDepth 100000 in
theorem rd6_expr {S : Src} {item : Rd → Option (Ex × Rd)} (hone : OneR 73 S item) (hgo : GoesO S item) (n : Nat) (z : Ex × Rd) (r1 : Rd) (e1 : Ex) (zl : List Ex × Rd) (w : World) (b : Nat) (A : Option Addr) (cap : Nat) (r : Rd) (hJ : J S r) (hd0 : 0 ≤ r.deep) (hd64 : r.deep ≤ 64) (h : RdAt w b A cap S r)
    (h1 : item r = some (e1, r1)) (h2 : loopF S ⟨#[111, 114]⟩ item n [e1] r1 = some zl) : Calls Tryz.prog 42 #[.pointer (some ⟨b, 0, none⟩)] w (ExR w b A cap S (joinE 5 zl.1, zl.2)) := by
  have hlt := h.row.lt
  have hsz := h.size
  have HR0 := Lib.hid (World.alloc_heap_new w (exO 0 0 0 0 0))
  have HG0 := Lib.hid (grown_of_below (lbox w (exO 0 0 0 0 0)) (some b))
  have s0 : (w.alloc (exO 0 0 0 0 0)).heap.size = w.heap.size + 1 := by simp
  have hO := hone _ b A cap r _ hJ hd0 hd64 (h.below (lbox w (exO 0 0 0 0 0))) h1
  have hgr := hgo r _ hJ h1
  have HO := Lib.hid hO
  have H2 := Lib.hid (And.intro hgr h2)
  have HI := Lib.hid (fun (W : World) (q : Rd) (hq : J S q) hW => rd6_is W b A cap S q hW 2 ⟨#[111, 114]⟩ (by have := hq.le; omega))
  have HItem := Lib.hid hone
  have HGo := Lib.hid hgo
  have HD := Lib.hid (And.intro hd0 hd64)
  clear hO h h1 h2 hgr hJ hone hgo hd0 hd64
  go_enter Tryz.func42, Tryz.ntmps42
  go_wp2_with (go_at_call 73; (with_reducible refine HO.out.mono ?_); rintro e w1 ⟨A0, c0, rfl, hx0, hr0, hg0⟩; have HT : Hid (TurnD (w.alloc (exO 0 0 0 0 0)) (w1.alloc (exCells e1 A0 c0)) b A cap S r r1 ⟨#[111, 114]⟩ item zl (.slice (some ⟨w1.heap.size, 0, none⟩) 1 1) [e1] (exC e1 A0 c0) n) := Lib.hid ⟨hr0.below (lbox w1 _), H2.out.1, by simp, by simp, H2.out.2, grown_trans hg0 (grown_of_below (lbox w1 _) (some b)), own_first hg0.size, chunks_first hx0 _⟩; have HRR : Hid ((w1.alloc (exCells e1 A0 c0)).heap[w.heap.size]? = some (exO 0 0 0 0 0)) := Lib.hid (kept_alloc (kept_box HR0.out hg0 (by omega)) _); clear hx0 hr0 hg0)
  go_loopw [3] (fun v wr => ∃ l xs m rr, TurnD (w.alloc (exO 0 0 0 0 0)) wr b A cap S r rr ⟨#[111, 114]⟩ item zl v l xs m ∧ wr.heap[w.heap.size]? = some (exO 0 0 0 0 0)) (fun v _ => S.toks.length + 3 - sliceLen v)
  case atStart => exact ⟨_, _, _, _, HT.out, HRR.out⟩
  case round =>
    obtain ⟨l, xs, m, rr, hT, hR⟩ := hrel
    obtain ⟨m, rfl⟩ : ∃ m', m = m' + 1 := ⟨m - 1, by
      rcases m with _ | m
      · have := hT.rest; cases this
      · rfl⟩
    have hjr := hT.j.j
    have hll := hT.len
    have hjl := hjr.le
    have hdr := hT.j.deep
    have hrest := hT.rest
    have hrd := hT.rd
    have c5 : wr.cell? ⟨b, 5, none⟩ = some (.int .i64 rr.err) := World.rowIs.cell hrd.row (i := 5) (by decide)
    have HL := Lib.hid (own_len hT.own)
    have HT2 := Lib.hid (And.intro hT hR)
    unfold loopF at hrest
    clear HT HRR hT hR
    by_cases he : rr.err = 0
    · have heb : (rr.err == 0) = true := beq_iff_eq.2 he
      rw [if_neg (fun g => g he)] at hrest
      by_cases hb : rr.isB S 2 ⟨#[111, 114]⟩ = true
      · rw [if_neg (by rw [hb]; decide)] at hrest
        cases hi : item (rr.isR S 2 ⟨#[111, 114]⟩) with
        | none => rw [hi] at hrest; cases hrest
        | some y =>
          have hon := is_on (S := S) (k := 2) (by decide) hb
          have hgi := goes_is hjr 2 (by decide) ⟨#[111, 114]⟩
          have hIs := HI.out wr rr hjr hrd
          rw [hb] at hIs
          have hIt := fun W hW => HItem.out W b A cap (rr.isR S 2 ⟨#[111, 114]⟩) y hgi.j (by rw [hgi.deep, hdr]; exact HD.out.1) (by rw [hgi.deep, hdr]; exact HD.out.2) hW hi
          obtain ⟨y, r'⟩ := y
          have HIs := Lib.hid hIs
          have HIt := Lib.hid hIt
          have HX := Lib.hid (And.intro he (And.intro hb hi))
          generalize rr.isR S 2 ⟨#[111, 114]⟩ = ri at HIs HIt
          have hbnd : l.length ≤ 70000 := by omega
          clear hrest he hb hi hon hgi hIs hIt hrd hjr hdr
          go_wp2_with (first | (go_at_call 39; (with_reducible refine HIs.out.mono ?_); rintro e wa ⟨rfl, hra, hga⟩; have HA := Lib.hid (And.intro hra hga); clear hra hga) | (go_at_call 73; (with_reducible refine (HIt.out _ HA.out.1).mono ?_); rintro e wb ⟨Ay, cy, rfl, hy, hrb, hgb⟩; have HB := Lib.hid (And.intro hy (And.intro hrb hgb)); clear hy hrb hgb) | (at_builtin; refine wpList_append_own _ rfl (.tmp 17) (.tmp 20) 36 rfl 39 (.agg #[.int .i64 0, .slice none 0 0, .int .i64 0, .int .u64 0, .int .i64 0, .int .u64 0]) 6 64 Tryz.underlying36 info_ex rfl (by decide) (w.alloc (exO 0 0 0 0 0)).heap.size u3 l.length xs rfl (turn_ownD HT2.out.1 (by omega) HA.out.2 HB.out.2.2) ⟨wb.heap.size, 0, none⟩ 1 1 (exC y Ay cy) rfl rfl (ex_cells _ _ rfl _ _ _) ex_one (by unfold maxLen; omega) (by omega) (by have h1 := HT2.out.1.grown.size; have h2 := HA.out.2.size; have h3 := HB.out.2.2.size; simp at h1 ⊢; omega) ?_; intro v' wd ho hg hv; have HW := Lib.hid (turn_onD HT2.out.1 (by omega) HX.out.1 HX.out.2.1 HX.out.2.2 HGo.out HA.out.2 HB.out.2.2 HB.out.2.1 HB.out.1 ho hg hv); have HWR : Hid (wd.heap[w.heap.size]? = some (exO 0 0 0 0 0)) := Lib.hid ((hg.block w.heap.size (by have := (Array.getElem?_eq_some_iff.1 HT2.out.2).1; have h2 := HA.out.2.size; have h3 := HB.out.2.2.size; simp; omega) (fun e => by have := HT2.out.1.own.lt w.heap.size e.symm; omega)).trans (kept_alloc (kept_box (kept_box HT2.out.2 HA.out.2 (by omega)) HB.out.2.2 (by omega)) _)); clear ho hg hv))
          exact ⟨⟨_, _, _, _, HW.out, HWR.out⟩, by have h1 := own_len HW.out.own; rw [List.length_append] at h1; simp only [List.length_cons, List.length_nil] at h1; rw [HL.out, h1]; have := HW.out.len; have h4 := HW.out.j.j.le; rw [List.length_append] at this; simp only [List.length_cons, List.length_nil] at this; omega⟩
      · have hbf : rr.isB S 2 ⟨#[111, 114]⟩ = false := by cases hq : rr.isB S 2 ⟨#[111, 114]⟩ with
          | true => exact absurd hq hb
          | false => rfl
        rw [if_pos hbf] at hrest
        have hIs := HI.out wr rr hjr hrd
        rw [hbf] at hIs
        have hz : zl = (l, rr.isR S 2 ⟨#[111, 114]⟩) := (Option.some.inj hrest).symm
        have HIs := Lib.hid hIs
        have hrow := rowD HT2.out.1.own HT2.out.1.pos HT2.out.1.chunks
        subst hz
        obtain ⟨tb, cb, rfl, q1, q2, q3, q4⟩ := hrow
        have HQ : Hid (RowP (w.alloc (exO 0 0 0 0 0)).heap.size l (.slice (some ⟨tb, 0, none⟩) l.length cb) wr) := Lib.hid ⟨tb, cb, rfl, q1, q2, q3, q4⟩
        clear hrest he hb hbf hIs hrd hjr hdr q1 q2 q3 q4
        by_cases hone1 : l.length = 1
        · obtain ⟨x, rfl⟩ : ∃ x, l = [x] := by
            rcases l with _ | ⟨x, _ | ⟨y, l⟩⟩
            · simp at hone1
            · exact ⟨x, rfl⟩
            · simp at hone1
          have hlb : ((1 : Int) == 1) = true := rfl
          go_wp2_with (go_at_call 39; (with_reducible refine HIs.out.mono ?_); rintro e wa ⟨rfl, hra, hga⟩; have hRw := kept_box HT2.out.2 hga (by omega); have u0 := cell6 hRw 0 rfl; have u1 := cell6 hRw 1 rfl; have u2 := cell6 hRw 2 rfl; have u3 := cell6 hRw 3 rfl; have u4 := cell6 hRw 4 rfl; have u5 := cell6 hRw 5 rfl; have y0 := frozen6 hRw 0; have y1 := frozen6 hRw 1; have y2 := frozen6 hRw 2; have y3 := frozen6 hRw 3; have y4 := frozen6 hRw 4; have y5 := frozen6 hRw 5; have hq := row_grown HQ.out (b := b) (by omega) hga; obtain ⟨tb', cb', hqe, q1, q2, q3, ⟨Ax, cx, hx, hcx⟩, _⟩ := hq; injection hqe with hq1 hq2 hq3; injection hq1 with hq1; injection hq1 with hq1 _ _; subst hq1; have m0 : wa.cell? ⟨tb, 0, none⟩ = some (.int .i64 x.op) := hcx 0 _ rfl; have m1 : wa.cell? ⟨tb, 1, none⟩ = some (.slice Ax x.args.length cx) := hcx 1 _ rfl; have m2 : wa.cell? ⟨tb, 2, none⟩ = some (.int .i64 x.field) := hcx 2 _ rfl; have m3 : wa.cell? ⟨tb, 3, none⟩ = some (.int .u64 (x.mask : Int)) := hcx 3 _ rfl; have m4 : wa.cell? ⟨tb, 4, none⟩ = some (.int .i64 x.rel) := hcx 4 _ rfl; have m5 : wa.cell? ⟨tb, 5, none⟩ = some (.int .u64 (x.value : Int)) := hcx 5 _ rfl; have HX := Lib.hid hx; clear hx hcx hq2 hq3 q1 q2 q3; have HE := Lib.hid (And.intro hra (grown_trans (grown_trans HG0.out HT2.out.1.grown) hga)); clear hra hRw hga)
          exact bodyPost_ret (v := exV x Ax cx) (by simp [results, Tryz.results42, go_sem, u0, u1, u2, u3, u4, u5, World.cell?_setCell_same']) rfl ⟨Ax, cx, rfl, (ex_set6 HX.out (fun k hk => by omega) _ _ _ _ _ _).keep (Nat.le_refl _) (fun k hk => by omega) (fun _ _ _ => rfl), (((((HE.out.1.new hlt 0 _).new hlt 1 _).new hlt 2 _).new hlt 3 _).new hlt 4 _).new hlt 5 _, gset6 HE.out.2 (Nat.le_refl _) _ _ _ _ _ _⟩
        · have hlb : ((l.length : Int) == 1) = false := beq_false_of_ne (by omega)
          have hlb2 : (l.length == 1) = false := beq_false_of_ne hone1
          have hj : joinE 5 l = .node 5 l := by
            unfold joinE
            rcases l with _ | ⟨x, _ | ⟨y, l⟩⟩
            · rfl
            · simp at hone1
            · rfl
          clear hone1
          go_wp2_with (go_at_call 39; (with_reducible refine HIs.out.mono ?_); rintro e wa ⟨rfl, hra, hga⟩; have hRw := kept_box HT2.out.2 hga (by omega); have u0 := cell6 hRw 0 rfl; have u1 := cell6 hRw 1 rfl; have u2 := cell6 hRw 2 rfl; have u3 := cell6 hRw 3 rfl; have u4 := cell6 hRw 4 rfl; have u5 := cell6 hRw 5 rfl; have y0 := frozen6 hRw 0; have y1 := frozen6 hRw 1; have y2 := frozen6 hRw 2; have y3 := frozen6 hRw 3; have y4 := frozen6 hRw 4; have y5 := frozen6 hRw 5; have HQ2 := Lib.hid (row_grown HQ.out (b := b) (by omega) hga); have HE := Lib.hid (And.intro hra (grown_trans (grown_trans HG0.out HT2.out.1.grown) hga)); clear hra hRw hga)
          exact bodyPost_ret (v := .agg #[.int .i64 5, .slice (some ⟨tb, 0, none⟩) l.length cb, .int .i64 0, .int .u64 0, .int .i64 0, .int .u64 0]) (by simp [results, Tryz.results42, go_sem, u0, u1, u2, u3, u4, u5, World.cell?_setCell_same']) rfl ⟨some ⟨tb, 0, none⟩, cb, by (show _ = Ending.returned (exV (joinE 5 l) (some ⟨tb, 0, none⟩) cb)); rw [hj]; rfl, by (show ExIn _ _ (joinE 5 l) _ _); rw [hj]; exact (ex_set6 (node_row 5 HQ2.out) (fun k hk => by omega) _ _ _ _ _ _).keep (Nat.le_refl _) (fun k hk => by omega) (fun _ _ _ => rfl), (((((HE.out.1.new hlt 0 _).new hlt 1 _).new hlt 2 _).new hlt 3 _).new hlt 4 _).new hlt 5 _, gset6 HE.out.2 (Nat.le_refl _) _ _ _ _ _ _⟩
    · have heb : (rr.err == 0) = false := beq_false_of_ne he
      rw [if_pos he] at hrest
      have hz : zl = (l, rr) := (Option.some.inj hrest).symm
      have hrow := rowD HT2.out.1.own HT2.out.1.pos HT2.out.1.chunks
      subst hz
      obtain ⟨tb, cb, rfl, q1, q2, q3, q4⟩ := hrow
      have HQ : Hid (RowP (w.alloc (exO 0 0 0 0 0)).heap.size l (.slice (some ⟨tb, 0, none⟩) l.length cb) wr) := Lib.hid ⟨tb, cb, rfl, q1, q2, q3, q4⟩
      clear hrest he hrd hjr hdr q1 q2 q3 q4
      by_cases hone1 : l.length = 1
      · obtain ⟨x, rfl⟩ : ∃ x, l = [x] := by
          rcases l with _ | ⟨x, _ | ⟨y, l⟩⟩
          · simp at hone1
          · exact ⟨x, rfl⟩
          · simp at hone1
        have hRw := HT2.out.2
        have u0 := cell6 hRw 0 rfl
        have u1 := cell6 hRw 1 rfl
        have u2 := cell6 hRw 2 rfl
        have u3 := cell6 hRw 3 rfl
        have u4 := cell6 hRw 4 rfl
        have u5 := cell6 hRw 5 rfl
        have y0 := frozen6 hRw 0
        have y1 := frozen6 hRw 1
        have y2 := frozen6 hRw 2
        have y3 := frozen6 hRw 3
        have y4 := frozen6 hRw 4
        have y5 := frozen6 hRw 5
        have hq := HQ.out
        obtain ⟨tb', cb', hqe, q1, q2, q3, ⟨Ax, cx, hx, hcx⟩, _⟩ := hq
        injection hqe with hq1 hq2 hq3
        injection hq1 with hq1
        injection hq1 with hq1 _ _
        subst hq1
        have m0 : wr.cell? ⟨tb, 0, none⟩ = some (.int .i64 x.op) := hcx 0 _ rfl
        have m1 : wr.cell? ⟨tb, 1, none⟩ = some (.slice Ax x.args.length cx) := hcx 1 _ rfl
        have m2 : wr.cell? ⟨tb, 2, none⟩ = some (.int .i64 x.field) := hcx 2 _ rfl
        have m3 : wr.cell? ⟨tb, 3, none⟩ = some (.int .u64 (x.mask : Int)) := hcx 3 _ rfl
        have m4 : wr.cell? ⟨tb, 4, none⟩ = some (.int .i64 x.rel) := hcx 4 _ rfl
        have m5 : wr.cell? ⟨tb, 5, none⟩ = some (.int .u64 (x.value : Int)) := hcx 5 _ rfl
        have HX := Lib.hid hx
        clear hx hcx hq2 hq3 q1 q2 q3
        have HE := Lib.hid (And.intro HT2.out.1.rd (grown_trans HG0.out HT2.out.1.grown))
        clear hRw
        go_wp2
        exact bodyPost_ret (v := exV x Ax cx) (by simp [results, Tryz.results42, go_sem, u0, u1, u2, u3, u4, u5, World.cell?_setCell_same']) rfl ⟨Ax, cx, rfl, (ex_set6 HX.out (fun k hk => by omega) _ _ _ _ _ _).keep (Nat.le_refl _) (fun k hk => by omega) (fun _ _ _ => rfl), (((((HE.out.1.new hlt 0 _).new hlt 1 _).new hlt 2 _).new hlt 3 _).new hlt 4 _).new hlt 5 _, gset6 HE.out.2 (Nat.le_refl _) _ _ _ _ _ _⟩
      · have hlb : ((l.length : Int) == 1) = false := beq_false_of_ne (by omega)
        have hlb2 : (l.length == 1) = false := beq_false_of_ne hone1
        have hj : joinE 5 l = .node 5 l := by
          unfold joinE
          rcases l with _ | ⟨x, _ | ⟨y, l⟩⟩
          · rfl
          · simp at hone1
          · rfl
        clear hone1
        have hRw := HT2.out.2
        have u0 := cell6 hRw 0 rfl
        have u1 := cell6 hRw 1 rfl
        have u2 := cell6 hRw 2 rfl
        have u3 := cell6 hRw 3 rfl
        have u4 := cell6 hRw 4 rfl
        have u5 := cell6 hRw 5 rfl
        have y0 := frozen6 hRw 0
        have y1 := frozen6 hRw 1
        have y2 := frozen6 hRw 2
        have y3 := frozen6 hRw 3
        have y4 := frozen6 hRw 4
        have y5 := frozen6 hRw 5
        have HQ2 := HQ
        have HE := Lib.hid (And.intro HT2.out.1.rd (grown_trans HG0.out HT2.out.1.grown))
        clear hRw
        go_wp2
        exact bodyPost_ret (v := .agg #[.int .i64 5, .slice (some ⟨tb, 0, none⟩) l.length cb, .int .i64 0, .int .u64 0, .int .i64 0, .int .u64 0]) (by simp [results, Tryz.results42, go_sem, u0, u1, u2, u3, u4, u5, World.cell?_setCell_same']) rfl ⟨_, cb, rfl, (ex_set6 (node_row 5 HQ2.out) (fun k hk => by omega) _ _ _ _ _ _).keep (Nat.le_refl _) (fun k hk => by omega) (fun _ _ _ => rfl), (((((HE.out.1.new hlt 0 _).new hlt 1 _).new hlt 2 _).new hlt 3 _).new hlt 4 _).new hlt 5 _, gset6 HE.out.2 (Nat.le_refl _) _ _ _ _ _ _⟩
theorem rd6_expr' {S : Src} {item : Rd → Option (Ex × Rd)} (hone : OneR 73 S item) (hgo : GoesO S item) (n : Nat) : OneR 42 S (fun r => match item r with | none => none | some (e, r1) => match loopF S bOr item n [e] r1 with | none => none | some (l, r2) => some (joinE 5 l, r2)) := fun w b A cap r x hJ hd0 hd64 h hx => by
  cases h1 : item r with
  | none => simp only [h1] at hx; cases hx
  | some y =>
    cases h2 : loopF S ⟨#[111, 114]⟩ item n [y.1] y.2 with
    | none => simp only [h1] at hx; rw [show bOr = ⟨#[111, 114]⟩ from rfl, h2] at hx; cases hx
    | some z =>
      simp only [h1] at hx
      rw [show bOr = ⟨#[111, 114]⟩ from rfl, h2] at hx
      obtain rfl : (joinE 5 z.1, z.2) = x := Option.some.inj hx
      exact rd6_expr hone hgo n (joinE 5 z.1, z.2) y.2 y.1 z w b A cap r hJ hd0 hd64 h h1 h2
/-- One and Expr of the document, whatever the fuel. -/
theorem rd6_oneN {S : Src} : ∀ n, OneR 98 S (oneN S n)
  | 0 => fun _ _ _ _ _ _ _ _ _ _ hx => by cases hx
  | n + 1 => rd6_oneOf (rd6_oneN n) (rd6_expr' (rd6_all' (rd6_oneN n) (goes_oneN n) n) (goes_all (goes_oneN n) n) n) (goes_oneN n) (goes_expr (goes_oneN n) n)
theorem rd6_exprN {S : Src} (n : Nat) : OneR 42 S (exprN S n) := rd6_expr' (rd6_all' (rd6_oneN n) (goes_oneN n) n) (goes_all (goes_oneN n) n) n
end Go.Proofs.YtgeapkjegemkeaaGreatDoor
