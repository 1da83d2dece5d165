/-
  The program reads calls and rules: contracts. Conditions: those that each names.
-/
import Derived.Test.YtgeapkjegemkeaaGreatDoorPPolTurns
import Derived.Test.YtgeapkjegemkeaaGreatDoorPPolParse
namespace Go.Proofs.YtgeapkjegemkeaaGreatDoor
open Go Go.RowKit
set_option linter.unusedSimpArgs false
set_option linter.unusedVariables false

/-- A call's cells; several ones'. -/
def callC (v : ByteArray × Nat) : List Value := [.string v.1, .int .u64 (v.2 : Int)]
def callsC (l : List (ByteArray × Nat)) : List Value := l.flatMap callC
theorem callsC_snoc (l : List (ByteArray × Nat)) (x : ByteArray × Nat) : callsC (l ++ [x]) = callsC l ++ callC x := by simp [callsC]
abbrev callCells (x : ByteArray × Nat) : Obj := .cells #[.string x.1, .int .u64 (x.2 : Int)] 92
/-- Calls, as a slice. -/
def CallsP (lo : Nat) (l : List (ByteArray × Nat)) (v : Value) (W : World) : Prop := ∃ tb cap, v = .slice (some ⟨tb, 0, none⟩) l.length cap ∧ lo ≤ tb ∧ tb < W.heap.size ∧ 0 < l.length ∧ ∀ j u, (callsC l)[j]? = some u → W.cell? ⟨tb, j, none⟩ = some u
theorem info_call : (Tryz.prog.info? 92).map (fun i => (i.zero, i.size, i.bytes)) = some (some (.agg #[.string ⟨#[]⟩, .int .u64 0]), 2, 24) := by kernel_rfl
theorem call_one {x : ByteArray × Nat} : ∀ u ∈ callC x, u.oneCell' = true := by
  intro u hu
  simp only [callC, List.mem_cons, List.not_mem_nil, or_false] at hu
  rcases hu with rfl | rfl <;> rfl
theorem call_cells (w : World) (B : Nat) (hB : B = w.heap.size) (x : ByteArray × Nat) (j : Nat) (u : Value) (h : (callC x)[j]? = some u) : (w.alloc (callCells x)).cell? ((⟨B, 0, none⟩ : Addr).add j) = some u := by
  subst hB
  rw [addr_add, Nat.zero_add]
  refine cell6 (World.alloc_heap_new w _) j ?_
  rw [← List.getElem?_toArray] at h
  exact h
/-- What the turns have come by. -/
structure TurnC (s : ByteArray) (w wr : World) (b d : Nat) (mark : ByteArray) (item : Nat → Got (ByteArray × Nat)) (g : Got (List (ByteArray × Nat))) (v : Value) (l : List (ByteArray × Nat)) (n i : Nat) : Prop where
  lt : i < (srcF s).toks.length
  fuel : (srcF s).toks.length - i < n
  len : l.length ≤ i + 1
  pos : 0 < l.length
  rest : g = turnsG (srcF s) mark item n l i
  at_ : PAt wr b s (tk (srcF s) i) d
  grown : w.grownBy wr (some b)
  own : wr.ownsRow w.heap.size 92 2 v l.length (callsC l)
theorem own_firstC {w1 : World} {lo : Nat} {x : ByteArray × Nat} (hlo : lo ≤ w1.heap.size) : (w1.alloc (callCells x)).ownsRow lo 92 2 (.slice (some ⟨w1.heap.size, 0, none⟩) 1 1) 1 (callsC [x]) :=
  ⟨rfl, .inr ⟨w1.heap.size, 1, _, rfl, hlo, World.alloc_heap_new w1 _, Nat.le_refl _, by unfold maxLen; decide, rfl, rfl⟩⟩
section
variable {s : ByteArray} {w wr wa wb wd : World} {b d : Nat} {mark : ByteArray} {item : Nat → Got (ByteArray × Nat)} {g : Got (List (ByteArray × Nat))} {v v' : Value} {l : List (ByteArray × Nat)} {n i k : Nat} {x : ByteArray × Nat} {O : Obj}
theorem row_doneC (h : TurnC s w wr b d mark item g v l n i) : CallsP w.heap.size l v wr := by
  rcases h.own.2 with ⟨_, h0⟩ | ⟨tb, cap, cur, hv, hlo, hh, _, _, hs, ht⟩
  · have := h.pos; omega
  · subst hv
    refine ⟨tb, cap, rfl, hlo, (Array.getElem?_eq_some_iff.1 hh).1, h.pos, fun j u hj => ?_⟩
    rw [World.ownsRow.cellAt h.own j (by rw [← h.own.1]; exact (List.getElem?_eq_some_iff.1 hj).1)]
    exact hj
theorem turn_ownC (h : TurnC s w wr b d mark item g v l n i) (hb : b < w.heap.size) (hA : wr.grownBy wa (some b)) (hB : wa.grownBy wb (some b)) : (wb.alloc O).ownsRow w.heap.size 92 2 v l.length (callsC l) := by
  have hne : v.ownBlock = none ∨ v.ownBlock ≠ some b := by
    rcases hv : v.ownBlock with _ | c
    · exact .inl rfl
    · exact .inr (fun e => by injection e with e; have := (h.own.lt c hv).1; omega)
  exact own_below (h.own.kept (row := some b) (grown_trans hA hB) hne) (lbox wb O)
theorem turn_onC (h : TurnC s w wr b d mark item g v l (n + 1) i) (hb : b < w.heap.size) (ht : (tk (srcF s) i).text = mark) (hl : i + 1 < (srcF s).toks.length) (hx : item (i + 1) = .ok x k) (hfw : Fwd (srcF s) 1 (i + 1) (item (i + 1)))
    (hA : wr.grownBy wa (some b)) (hB : wa.grownBy wb (some b)) (hp : PAt wb b s (tk (srcF s) k) d)
    (ho : wd.ownsRow w.heap.size 92 2 v' (l.length + 1) (callsC l ++ callC x)) (hg : (wb.alloc O).grownBy wd v.ownBlock) (hv : v'.ownBlock = v.ownBlock ∨ v'.ownBlock = some (wb.alloc O).heap.size) :
    TurnC s w wd b d mark item g v' (l ++ [x]) n k := by
  have hk := hfw x k hx
  have hsz : (wb.alloc O).heap.size = wb.heap.size + 1 := by simp
  have hvl : ∀ c, v.ownBlock = some c → w.heap.size ≤ c ∧ c < wr.heap.size := fun c e => h.own.lt c e
  have hbl : b < wb.heap.size := hp.lt
  have keep : ∀ c, c < wb.heap.size → some c ≠ v.ownBlock → wd.heap[c]? = wb.heap[c]? := fun c hc hne => (hg.block c (by omega) hne).trans (Below.heap_alloc wb O c hc)
  have hbo : some b ≠ v.ownBlock := fun e => by have := hvl b e.symm; omega
  have size1 := hA.size
  have size2 := hB.size
  have size0 := h.grown.size
  have size3 := hg.size
  refine ⟨hk.2, by have := h.fuel; omega, by have := h.len; rw [List.length_append]; simp only [List.length_cons, List.length_nil]; omega, by rw [List.length_append]; simp, ?_, ?_, ?_, ?_⟩
  · rw [h.rest]
    show (if (tk (srcF s) i).text = mark then _ else _) = _
    rw [if_pos ht, adv_ok hl]
    show (item (i + 1)).andThen _ = _
    rw [hx]; rfl
  · exact World.rowIs.of_block hp (keep b hbl hbo)
  · refine ⟨hg.os.trans ((grown_trans (grown_trans h.grown hA) hB).os), hg.tape.trans ((grown_trans (grown_trans h.grown hA) hB).tape), hg.output.trans ((grown_trans (grown_trans h.grown hA) hB).output), by omega, fun c hc hne => ?_⟩
    exact (keep c (by omega) (fun e => by have := hvl c e.symm; omega)).trans ((grown_trans (grown_trans h.grown hA) hB).block c hc hne)
  · rw [List.length_append, callsC_snoc]; exact ho
end
set_option maxHeartbeats 2000000 in
set_option maxRecDepth 100000 in
theorem p_turnsC (f : Nat) (hE : ∀ args w, (callFunc f args).run Tryz.prog w = .ok (.enter f args) w) (mark : ByteArray) (hmk : kindOf mark ≠ 1) (s : ByteArray) (item : Nat → Got (ByteArray × Nat)) (hfw : ∀ i, i < (srcF s).toks.length → Fwd (srcF s) 1 i (item i)) (n : Nat)
    (w : World) (b i d : Nat) (hi : i < (srcF s).toks.length) (h : PAt w b s (tk (srcF s) i) d) (hn : (srcF s).toks.length - i < n) (hsm : (srcF s).toks.length ≤ 65537)
    (hone : ∀ (W : World) (j : Nat), j < (srcF s).toks.length → i ≤ j → PAt W b s (tk (srcF s) j) d → Calls Tryz.prog f #[.pointer (some ⟨b, 0, none⟩)] W (GotP (Val callVal) s W b d (item j))) :
    Calls Tryz.prog 108 #[.pointer (some ⟨b, 0, none⟩), .string mark, .func (.func f) #[.pointer (some ⟨b, 0, none⟩)] #[]] w (GotP (CallsP w.heap.size) s w b d (byTurnsG (srcF s) mark item n i)) := by
  have hlt := h.lt
  have hO := hone w i hi (Nat.le_refl _) h
  have hfi := hfw i hi
  have hfw' := Lib.hid hfw
  have hone' := Lib.hid hone
  unfold byTurnsG
  rcases hg0 : item i with ⟨x0, j0⟩ | ⟨er, p⟩ | _
  · rw [hg0] at hO hfi
    have hj0 := hfi x0 j0 rfl
    generalize hgd : (Got.ok x0 j0).andThen (fun x j => turnsG (srcF s) mark item n [x] j) = g
    have hgd : g = turnsG (srcF s) mark item n [x0] j0 := hgd.symm
    have HGD := Lib.hid hgd
    have HO := Lib.hid hO
    have HH := Lib.hid h
    have HF := Lib.hid (And.intro hj0 hn)
    clear hO hgd h hfi hg0 hone hfw hj0 hn hi
    clear hgd
    go_enter Tryz.func108, Tryz.ntmps108
    go_wp2
    refine HO.out.mono ?_
    rintro e w1 ⟨v0, rfl, rfl, hp0, hg0⟩
    have HI : Hid (TurnC s w (w1.alloc (callCells x0)) b d mark item g (.slice (some ⟨w1.heap.size, 0, none⟩) 1 1) [x0] n j0) :=
      Lib.hid ⟨HF.out.1.2, by have := HF.out.1.1; have := HF.out.2; omega, by have := HF.out.1.1; simp, by simp, HGD.out, words_alloc hp0 _, grown_trans hg0 (grown_of_below (lbox w1 _) (some b)), own_firstC hg0.size⟩
    clear hp0 hg0
    go_wp2
    go_loopw [7] (fun v wr => ∃ l m k, i ≤ k ∧ TurnC s w wr b d mark item g v l m k) (fun v _ => (srcF s).toks.length + 2 - sliceLen v)
    case atStart => exact ⟨_, _, _, by have := HF.out.1.1; omega, HI.out⟩
    case round =>
      obtain ⟨l, m, k, hik, hT⟩ := hrel
      obtain ⟨m, rfl⟩ : ∃ m', m = m' + 1 := ⟨m - 1, by have := hT.fuel; omega⟩
      have hk := hT.lt
      have hll := hT.len
      have HL := Lib.hid (own_len hT.own)
      have HT := Lib.hid hT
      clear HI
      by_cases ht : (tk (srcF s) k).text = mark
      · have hkk : (tk (srcF s) k).kind ≠ 1 := by rw [(lexd s).kinds k hk, ht]; exact hmk
        have hS := pp_skip_yes wr b s k d hk hT.at_ mark ht hkk
        have HTX := Lib.hid ht
        clear ht hkk hT
        by_cases hl : k + 1 < (srcF s).toks.length
        · rw [adv_ok hl] at hS
          have HS := Lib.hid hS
          have hfk := hfw'.out (k + 1) hl
          have hOk := fun (W : World) hp => hone'.out W (k + 1) hl (by omega) hp
          have HRS : Hid (g = (item (k + 1)).andThen fun x j => turnsG (srcF s) mark item m (l ++ [x]) j) := Lib.hid (by
            rw [HT.out.rest]
            show (if (tk (srcF s) k).text = mark then _ else _) = _
            rw [if_pos HTX.out, adv_ok hl]; rfl)
          clear hS
          rcases hg1 : item (k + 1) with ⟨x, j⟩ | ⟨er, p⟩ | _
          · rw [hg1] at hOk
            have hj := hfk
            rw [hg1] at hj
            have hj := hj x j rfl
            have HK := Lib.hid hOk
            have HF1 := Lib.hid hfk
            have HG1 := Lib.hid hg1
            clear hOk hfk hg1
            go_wp2_with (go_at_call 78; (with_reducible refine HS.out.mono ?_); rintro e wa ⟨v, rfl, rfl, hp, hg⟩; have HA := Lib.hid (And.intro hp hg); clear hp hg)
            refine (HK.out _ HA.out.1).mono ?_
            rintro e wb ⟨v, rfl, rfl, hp1, hg1⟩
            have HB := Lib.hid (And.intro hp1 hg1)
            clear hp1 hg1
            go_wp2_with (at_builtin; refine wpList_append_own _ rfl (.tmp 14) (.tmp 17) 86 rfl 92 (.agg #[.string ⟨#[]⟩, .int .u64 0]) 2 24 Tryz.underlying86 info_call rfl (by decide) w.heap.size u7 l.length (callsC l) rfl (turn_ownC HT.out hlt HA.out.2 HB.out.2) ⟨wb.heap.size, 0, none⟩ 1 1 (callC x) rfl rfl (call_cells _ _ rfl _) call_one (by unfold maxLen; omega) (by omega) (by have h1 := HT.out.grown.size; have h2 := HA.out.2.size; have h3 := HB.out.2.size; simp; omega) ?_; intro v' wd ho hg hv; have HW := Lib.hid (turn_onC HT.out hlt HTX.out hl HG1.out HF1.out HA.out.2 HB.out.2 HB.out.1 ho hg hv); clear ho hg hv)
            exact ⟨⟨_, _, j, by omega, HW.out⟩, by rw [HL.out, own_len HW.out.own, List.length_append]; simp only [List.length_cons, List.length_nil]; omega⟩
          · rw [hg1] at hOk HRS
            have HK := Lib.hid hOk
            clear hOk hfk hg1
            go_wp2_with (go_at_call 78; (with_reducible refine HS.out.mono ?_); rintro e wa ⟨v, rfl, rfl, hp, hg⟩; have HA := Lib.hid (And.intro hp hg); clear hp hg)
            refine (HK.out _ HA.out.1).mono ?_
            rintro e wb ⟨rfl, hg1⟩
            have HB := Lib.hid (grown_trans (grown_trans HT.out.grown HA.out.2) hg1)
            clear hg1
            go_wp2
            exact ⟨rfl, by rw [HRS.out]; exact ⟨rfl, HB.out⟩⟩
          · rw [hg1] at hOk
            have HK := Lib.hid hOk
            clear hOk hfk hg1
            go_wp2_with (go_at_call 78; (with_reducible refine HS.out.mono ?_); rintro e wa ⟨v, rfl, rfl, hp, hg⟩; have HA := Lib.hid (And.intro hp hg); clear hp hg)
            refine (HK.out _ HA.out.1).mono ?_
            intro e wb hF
            exact hF.elim
        · rw [adv_no hl] at hS
          have HS := Lib.hid hS
          have HRS : Hid (g = .bad (srcF s).err (srcF s).place) := Lib.hid (by
            rw [HT.out.rest]
            show (if (tk (srcF s) k).text = mark then _ else _) = _
            rw [if_pos HTX.out, adv_no hl]; rfl)
          clear hS
          go_wp2_with (go_at_call 78; (with_reducible refine HS.out.mono ?_); rintro e wa ⟨rfl, hg⟩; have HA := Lib.hid (grown_trans HT.out.grown hg); clear hg)
          exact ⟨rfl, by rw [HRS.out]; exact ⟨rfl, HA.out⟩⟩
      · have hS := pp_skip_no wr b s k d hT.at_ mark ht
        have HS := Lib.hid hS
        have HRS : Hid (g = .ok l k) := Lib.hid (by
          rw [hT.rest]
          show (if (tk (srcF s) k).text = mark then _ else _) = _
          rw [if_neg ht])
        clear hS ht hT
        go_wp2_with (go_at_call 78; (with_reducible refine HS.out.mono ?_); rintro e wa ⟨rfl, rfl⟩)
        go_ret
        rw [HRS.out]
        exact ⟨_, rfl, row_doneC HT.out, HT.out.at_, HT.out.grown⟩
  · rw [hg0] at hO
    show Calls _ _ _ _ (GotP (CallsP w.heap.size) s w b d (.bad er p))
    have HO := Lib.hid hO
    clear hO h hfi hg0 hone hfw hn hi
    go_enter Tryz.func108, Tryz.ntmps108
    go_wp2
    refine HO.out.mono ?_
    rintro e w1 ⟨rfl, hg⟩
    have HX := Lib.hid hg
    clear hg
    go_wp2
    exact ⟨rfl, rfl, HX.out⟩
  · rw [hg0] at hO
    show Calls _ _ _ _ (GotP (CallsP w.heap.size) s w b d .out)
    have HO := Lib.hid hO
    clear hO h hfi hg0 hone hfw hn hi
    go_enter Tryz.func108, Tryz.ntmps108
    go_wp2
    refine HO.out.mono ?_
    intro e w1 hF
    exact hF.elim
end Go.Proofs.YtgeapkjegemkeaaGreatDoor
namespace Go.Proofs.YtgeapkjegemkeaaGreatDoor
open Go Go.RowKit
set_option linter.unusedSimpArgs false
set_option linter.unusedVariables false

/-- A rule's calls and expression lie in blocks of F. -/
def RuIn (w : World) (F : Nat → Prop) (r : Ru) (tb : Nat) (A : Option Addr) (cap : Nat) : Prop :=
  (F tb ∧ tb < w.heap.size ∧ ∀ j u, (callsC r.calls)[j]? = some u → w.cell? ⟨tb, j, none⟩ = some u) ∧ ExIn w F r.when_ A cap
def ruC (r : Ru) (tb capc : Nat) (A : Option Addr) (cap : Nat) : List Value :=
  [.slice (some ⟨tb, 0, none⟩) r.calls.length capc, .int .i64 r.when_.op, .slice A r.when_.args.length cap, .int .i64 r.when_.field, .int .u64 (r.when_.mask : Int), .int .i64 r.when_.rel, .int .u64 (r.when_.value : Int), .int .i64 r.do_.1, .int .u64 (r.do_.2 : Int)]
abbrev ruV (r : Ru) (tb capc : Nat) (A : Option Addr) (cap : Nat) : Value :=
  .agg #[.slice (some ⟨tb, 0, none⟩) r.calls.length capc, .int .i64 r.when_.op, .slice A r.when_.args.length cap, .int .i64 r.when_.field, .int .u64 (r.when_.mask : Int), .int .i64 r.when_.rel, .int .u64 (r.when_.value : Int), .int .i64 r.do_.1, .int .u64 (r.do_.2 : Int)]
abbrev ruO (C : Value) (op : Int) (S : Value) (f m r v k n : Int) : Obj := .cells #[C, .int .i64 op, S, .int .i64 f, .int .u64 m, .int .i64 r, .int .u64 v, .int .i64 k, .int .u64 n] 88
theorem RuIn.keep {w w' : World} {F G : Nat → Prop} {r : Ru} {tb : Nat} {A : Option Addr} {cap : Nat} (h : RuIn w F r tb A cap) (hs : w.heap.size ≤ w'.heap.size) (hF : ∀ k, F k → G k) (hk : ∀ k, F k → k < w.heap.size → w'.heap[k]? = w.heap[k]?) : RuIn w' G r tb A cap :=
  ⟨⟨hF _ h.1.1, Nat.lt_of_lt_of_le h.1.2.1 hs, fun j u hj => (World.cell?_of_block (a := ⟨tb, j, none⟩) (hk tb h.1.1 h.1.2.1)).trans (h.1.2.2 j u hj)⟩, h.2.keep hs hF hk⟩
/-- A rule as a value. -/
def RuP (lo : Nat) (r : Ru) (v : Value) (W : World) : Prop := ∃ tb capc A cap, v = ruV r tb capc A cap ∧ RuIn W (fun k => lo ≤ k) r tb A cap
/-- A rule under way: its box E, what it holds. -/
structure RuleAt (w W : World) (b : Nat) (s : ByteArray) (d i E tb capc : Nat) (cs : List (ByteArray × Nat)) (x : Ex) (A : Option Addr) (cap : Nat) (k n : Int) : Prop where
  at_ : PAt W b s (tk (srcF s) i) d
  gr : w.grownBy W (some b)
  box : W.heap[E]? = some (ruO (.slice (some ⟨tb, 0, none⟩) cs.length capc) x.op (.slice A x.args.length cap) x.field (x.mask : Int) x.rel (x.value : Int) k n)
  res : W.heap[w.heap.size]? = some (ruO (.slice none 0 0) 0 (.slice none 0 0) 0 0 0 0 0 0)
  bw : b < w.heap.size
  lo : w.heap.size + 1 ≤ tb
  tbE : tb < E
  calls : ∀ j u, (callsC cs)[j]? = some u → W.cell? ⟨tb, j, none⟩ = some u
  ex : ExIn W (fun k => E < k) x A cap
namespace RuleAt
variable {w W : World} {b : Nat} {s : ByteArray} {d i E tb capc : Nat} {cs : List (ByteArray × Nat)} {x : Ex} {A : Option Addr} {cap : Nat} {k n : Int}
theorem size (h : RuleAt w W b s d i E tb capc cs x A cap k n) : E < W.heap.size := (Array.getElem?_eq_some_iff.1 h.box).1
/-- A step of the reader. -/
theorem call {W' : World} {j : Nat} (h : RuleAt w W b s d i E tb capc cs x A cap k n) (hp : PAt W' b s (tk (srcF s) j) d) (hg : W.grownBy W' (some b)) : RuleAt w W' b s d j E tb capc cs x A cap k n := by
  have := h.bw; have := h.lo; have := h.tbE
  refine ⟨hp, grown_trans h.gr hg, kept_box h.box hg (by omega), kept_box h.res hg (by omega), h.bw, h.lo, h.tbE, fun j u hj => (World.cell?_of_block (a := ⟨tb, j, none⟩) (hg.block tb (by have := h.size; omega) (fun e => by injection e with e; omega))).trans (h.calls j u hj), h.ex.keep hg.size (fun _ hk => hk) (fun c hc hl => hg.block c hl (fun e => by injection e with e; omega))⟩
/-- Another expression in it. -/
theorem setEx {x' : Ex} {A' : Option Addr} {cap' : Nat} (h : RuleAt w W b s d i E tb capc cs x A cap k n) (hx : ExIn W (fun k => E < k) x' A' cap') :
    RuleAt w ((((((W.setCell ⟨E, 1, none⟩ (.int .i64 x'.op)).setCell ⟨E, 2, none⟩ (.slice A' x'.args.length cap')).setCell ⟨E, 3, none⟩ (.int .i64 x'.field)).setCell ⟨E, 4, none⟩ (.int .u64 (x'.mask : Int))).setCell ⟨E, 5, none⟩ (.int .i64 x'.rel)).setCell ⟨E, 6, none⟩ (.int .u64 (x'.value : Int))) b s d i E tb capc cs x' A' cap' k n := by
  have := h.bw; have := h.lo; have := h.tbE
  refine ⟨row_new (row_new (row_new (row_new (row_new (row_new h.at_ (by omega) 1 _) (by omega) 2 _) (by omega) 3 _) (by omega) 4 _) (by omega) 5 _) (by omega) 6 _,
    grown_new (grown_new (grown_new (grown_new (grown_new (grown_new h.gr (by omega) 1 _) (by omega) 2 _) (by omega) 3 _) (by omega) 4 _) (by omega) 5 _) (by omega) 6 _,
    heap_set1 (heap_set1 (heap_set1 (heap_set1 (heap_set1 (heap_set1 h.box 1 _) 2 _) 3 _) 4 _) 5 _) 6 _,
    kept_set (kept_set (kept_set (kept_set (kept_set (kept_set h.res (by omega) 1 _) (by omega) 2 _) (by omega) 3 _) (by omega) 4 _) (by omega) 5 _) (by omega) 6 _, h.bw, h.lo, h.tbE, fun j u hj => ?_, ?_⟩
  · have ne : ∀ c, (⟨E, c, none⟩ : Addr) ≠ ⟨tb, j, none⟩ := fun c e => by injection e with e _; omega
    exact (World.cell?_setCell_other (h := ne 6) ..).trans ((World.cell?_setCell_other (h := ne 5) ..).trans ((World.cell?_setCell_other (h := ne 4) ..).trans ((World.cell?_setCell_other (h := ne 3) ..).trans ((World.cell?_setCell_other (h := ne 2) ..).trans ((World.cell?_setCell_other (h := ne 1) ..).trans (h.calls j u hj))))))
  · exact ex_set (ex_set (ex_set (ex_set (ex_set (ex_set hx (fun k hk => by omega) 1 _) (fun k hk => by omega) 2 _) (fun k hk => by omega) 3 _) (fun k hk => by omega) 4 _) (fun k hk => by omega) 5 _) (fun k hk => by omega) 6 _
/-- Another verdict in it. -/
theorem setVerd {k' n' : Int} (h : RuleAt w W b s d i E tb capc cs x A cap k n) :
    RuleAt w ((W.setCell ⟨E, 7, none⟩ (.int .i64 k')).setCell ⟨E, 8, none⟩ (.int .u64 n')) b s d i E tb capc cs x A cap k' n' := by
  have := h.bw; have := h.lo; have := h.tbE
  refine ⟨row_new (row_new h.at_ (by omega) 7 _) (by omega) 8 _, grown_new (grown_new h.gr (by omega) 7 _) (by omega) 8 _, heap_set1 (heap_set1 h.box 7 _) 8 _, kept_set (kept_set h.res (by omega) 7 _) (by omega) 8 _, h.bw, h.lo, h.tbE, fun j u hj => ?_, ?_⟩
  · have ne : ∀ c, (⟨E, c, none⟩ : Addr) ≠ ⟨tb, j, none⟩ := fun c e => by injection e with e _; omega
    exact (World.cell?_setCell_other (h := ne 8) ..).trans ((World.cell?_setCell_other (h := ne 7) ..).trans (h.calls j u hj))
  · exact ex_set (ex_set h.ex (fun k hk => by omega) 7 _) (fun k hk => by omega) 8 _
/-- The rule is handed on. -/
theorem done {v7 : Nat} (h : RuleAt w W b s d i E tb capc cs x A cap k (v7 : Int)) :
    RuP w.heap.size ⟨cs, x, (k, v7)⟩ (ruV ⟨cs, x, (k, v7)⟩ tb capc A cap) (((((((((W.setCell ⟨w.heap.size, 0, none⟩ (.slice (some ⟨tb, 0, none⟩) cs.length capc)).setCell ⟨w.heap.size, 1, none⟩ (.int .i64 x.op)).setCell ⟨w.heap.size, 2, none⟩ (.slice A x.args.length cap)).setCell ⟨w.heap.size, 3, none⟩ (.int .i64 x.field)).setCell ⟨w.heap.size, 4, none⟩ (.int .u64 (x.mask : Int))).setCell ⟨w.heap.size, 5, none⟩ (.int .i64 x.rel)).setCell ⟨w.heap.size, 6, none⟩ (.int .u64 (x.value : Int))).setCell ⟨w.heap.size, 7, none⟩ (.int .i64 k)).setCell ⟨w.heap.size, 8, none⟩ (.int .u64 (v7 : Int))) ∧
    PAt (((((((((W.setCell ⟨w.heap.size, 0, none⟩ (.slice (some ⟨tb, 0, none⟩) cs.length capc)).setCell ⟨w.heap.size, 1, none⟩ (.int .i64 x.op)).setCell ⟨w.heap.size, 2, none⟩ (.slice A x.args.length cap)).setCell ⟨w.heap.size, 3, none⟩ (.int .i64 x.field)).setCell ⟨w.heap.size, 4, none⟩ (.int .u64 (x.mask : Int))).setCell ⟨w.heap.size, 5, none⟩ (.int .i64 x.rel)).setCell ⟨w.heap.size, 6, none⟩ (.int .u64 (x.value : Int))).setCell ⟨w.heap.size, 7, none⟩ (.int .i64 k)).setCell ⟨w.heap.size, 8, none⟩ (.int .u64 (v7 : Int))) b s (tk (srcF s) i) d ∧
    w.grownBy (((((((((W.setCell ⟨w.heap.size, 0, none⟩ (.slice (some ⟨tb, 0, none⟩) cs.length capc)).setCell ⟨w.heap.size, 1, none⟩ (.int .i64 x.op)).setCell ⟨w.heap.size, 2, none⟩ (.slice A x.args.length cap)).setCell ⟨w.heap.size, 3, none⟩ (.int .i64 x.field)).setCell ⟨w.heap.size, 4, none⟩ (.int .u64 (x.mask : Int))).setCell ⟨w.heap.size, 5, none⟩ (.int .i64 x.rel)).setCell ⟨w.heap.size, 6, none⟩ (.int .u64 (x.value : Int))).setCell ⟨w.heap.size, 7, none⟩ (.int .i64 k)).setCell ⟨w.heap.size, 8, none⟩ (.int .u64 (v7 : Int))) (some b) := by
  have := h.bw; have := h.lo; have := h.tbE; have := h.size
  have hr : RuIn W (fun k => w.heap.size + 1 ≤ k) ⟨cs, x, (k, v7)⟩ tb A cap := ⟨⟨h.lo, by omega, h.calls⟩, h.ex.keep (Nat.le_refl _) (fun k hk => by omega) (fun _ _ _ => rfl)⟩
  have rset : ∀ {V : World} (j : Nat) (v : Value), RuIn V (fun k => w.heap.size + 1 ≤ k) ⟨cs, x, (k, v7)⟩ tb A cap → RuIn (V.setCell ⟨w.heap.size, j, none⟩ v) (fun k => w.heap.size + 1 ≤ k) ⟨cs, x, (k, v7)⟩ tb A cap := fun {V} j v hV =>
    hV.keep (by simp [World.setCell]) (fun _ hk => hk) (fun c hc _ => Below.heap_setCell V ⟨w.heap.size, j, none⟩ v c (show c ≠ w.heap.size by omega))
  refine ⟨⟨tb, capc, A, cap, rfl, (rset 8 _ (rset 7 _ (rset 6 _ (rset 5 _ (rset 4 _ (rset 3 _ (rset 2 _ (rset 1 _ (rset 0 _ hr))))))))).keep (Nat.le_refl _) (fun k hk => by omega) (fun _ _ _ => rfl)⟩, ?_, ?_⟩
  · exact row_new (row_new (row_new (pset6 h.at_ (by omega) _ _ _ _ _ _) (by omega) 6 _) (by omega) 7 _) (by omega) 8 _
  · exact grown_new (grown_new (grown_new (gset6 h.gr (Nat.le_refl _) _ _ _ _ _ _) (Nat.le_refl _) 6 _) (Nat.le_refl _) 7 _) (Nat.le_refl _) 8 _
end RuleAt
/-- What a rule is made of. -/
theorem rule_new {w W0 w1 w2 : World} {b : Nat} {s : ByteArray} {k tb capc : Nat} {cs : List (ByteArray × Nat)} (hlt : b < w.heap.size) (hr : W0.heap[w.heap.size]? = some (ruO (.slice none 0 0) 0 (.slice none 0 0) 0 0 0 0 0 0)) (hg0 : w.grownBy W0 (some b)) (s0 : W0.heap.size = w.heap.size + 1)
    (hg1 : W0.grownBy w1 (some b)) (hg2 : w1.grownBy w2 (some b)) (hp : PAt w2 b s (tk (srcF s) k) 0) (h1 : w1.heap.size ≤ tb) (h2 : tb < w2.heap.size) (h4 : ∀ j u, (callsC cs)[j]? = some u → w2.cell? ⟨tb, j, none⟩ = some u) :
    RuleAt w (w2.alloc (ruO (.slice (some ⟨tb, 0, none⟩) cs.length capc) 1 (.slice none 0 0) 0 0 0 0 0 0)) b s 0 k w2.heap.size tb capc cs (.plain 1) none 0 0 0 :=
  ⟨words_alloc hp _, grown_trans (grown_trans (grown_trans hg0 hg1) hg2) (grown_of_below (lbox w2 _) (some b)), World.alloc_heap_new w2 _, kept_alloc (kept_box (kept_box hr hg1 (by omega)) hg2 (by omega)) _, hlt, by have := hg1.size; omega, h2, fun j u hj => ((lbox w2 _).cell (p := ⟨tb, j, none⟩) h2).trans (h4 j u hj), .inl ⟨rfl, rfl, rfl⟩⟩
set_option maxHeartbeats 8000000 in
set_option maxRecDepth 100000 in
theorem pp_rule (w : World) (b : Nat) (s : ByteArray) (n i : Nat) (hsm : (srcF s).toks.length ≤ 65537) (hn : (srcF s).toks.length < n) (hi : i < (srcF s).toks.length) (h : PAt w b s (tk (srcF s) i) 0) :
    Calls Tryz.prog 85 #[.pointer (some ⟨b, 0, none⟩)] w (GotP (RuP w.heap.size) s w b 0 (ruleG (srcF s) n i)) := by
  have hmf : ∀ (fn : Fn) (first cap : Array Value) (w : World), (Instr.makeFunc fn first cap).run Tryz.prog w = .ok (.func fn first cap) w := fun _ _ _ _ => rfl
  have hlt := h.lt
  have HR0 := Lib.hid (World.alloc_heap_new w (ruO (.slice none 0 0) 0 (.slice none 0 0) 0 0 0 0 0 0))
  have HG0 := Lib.hid (grown_of_below (lbox w (ruO (.slice none 0 0) 0 (.slice none 0 0) 0 0 0 0 0 0)) (some b))
  have s0 : (w.alloc (ruO (.slice none 0 0) 0 (.slice none 0 0) 0 0 0 0 0 0)).heap.size = w.heap.size + 1 := by simp
  have hD1 := pp_demand _ b s i 0 hi (words_alloc h (ruO (.slice none 0 0) 0 (.slice none 0 0) 0 0 0 0 0 0)) ⟨#[111, 110]⟩ (by decide)
  have hf1 := fwd_demand (S := srcF s) ⟨#[111, 110]⟩ i
  have hDem := Lib.hid (fun (W : World) (j : Nat) (hj : j < (srcF s).toks.length) (hp : PAt W b s (tk (srcF s) j) 0) (t : ByteArray) (ht : kindOf t ≠ 1) => pp_demand W b s j 0 hj hp t ht)
  have hTur := Lib.hid (fun (W : World) (j : Nat) (hj : j < (srcF s).toks.length) (hp : PAt W b s (tk (srcF s) j) 0) => p_turnsC 109 (Go.Proofs.enters_of Tryz.func109 (by kernel_rfl) rfl) ⟨#[44]⟩ (by decide) s (callG (srcF s)) (fun i _ => fwd_call i) n W b j 0 hj hp (by omega) hsm (fun W2 j2 hj2 _ hp2 => pp_call W2 b s j2 0 hj2 hp2))
  have hVer := Lib.hid (fun (W : World) (j : Nat) (hj : j < (srcF s).toks.length) (hp : PAt W b s (tk (srcF s) j) 0) => pp_verdict W b s j 0 hj hp)
  have hExp := Lib.hid (fun (W : World) (j : Nat) (hj : j < (srcF s).toks.length) (hp : PAt W b s (tk (srcF s) j) 0) => (pp_one s b hsm n 0 (by omega)).2 W j hj (by omega) hp)
  have hSky := Lib.hid (fun (W : World) (j : Nat) (hj : j < (srcF s).toks.length) (hp : PAt W b s (tk (srcF s) j) 0) (ht : (tk (srcF s) j).text = ⟨#[119, 104, 101, 110]⟩) => pp_skip_yes W b s j 0 hj hp ⟨#[119, 104, 101, 110]⟩ ht (by rw [(lexd s).kinds j hj, ht]; decide))
  have hSkn := Lib.hid (fun (W : World) (j : Nat) (hp : PAt W b s (tk (srcF s) j) 0) (ht : ¬ (tk (srcF s) j).text = ⟨#[119, 104, 101, 110]⟩) => pp_skip_no W b s j 0 hp ⟨#[119, 104, 101, 110]⟩ ht)
  have hft := Lib.hid (fun j (hj : j < (srcF s).toks.length) => fwd_byTurns (S := srcF s) ⟨#[44]⟩ (item := callG (srcF s)) (fun i _ => fwd_call i) n j hj)
  have hfe := Lib.hid (fun j (hj : j < (srcF s).toks.length) => fwd_expr (S := srcF s) n 0 j hj)
  clear h
  show Calls _ _ _ _ (GotP (RuP w.heap.size) s w b 0 ((demandG (srcF s) ⟨#[111, 110]⟩ i).andThen fun _ j => (byTurnsG (srcF s) ⟨#[44]⟩ (callG (srcF s)) n j).andThen fun cs k => (whenG (srcF s) n k).andThen fun e l =>
    (demandG (srcF s) ⟨#[100, 111]⟩ l).andThen fun _ m => (verdG (srcF s) m).andThen fun v o => (demandG (srcF s) ⟨#[59]⟩ o).andThen fun _ p => .ok ⟨cs, e, v⟩ p))
  generalize demandG (srcF s) ⟨#[111, 110]⟩ i = g1 at hD1 hf1 ⊢
  rcases g1 with ⟨u1, j⟩ | ⟨er, p⟩ | _
  · have hj := (hf1 u1 j rfl).2
    have HD1 := Lib.hid hD1
    have hT := fun (W : World) hp => hTur.out W j hj hp
    have hf2 := hft.out j hj
    clear hD1 hf1
    show Calls _ _ _ _ (GotP (RuP w.heap.size) s w b 0 ((byTurnsG (srcF s) ⟨#[44]⟩ (callG (srcF s)) n j).andThen fun cs k => (whenG (srcF s) n k).andThen fun e l =>
        (demandG (srcF s) ⟨#[100, 111]⟩ l).andThen fun _ m => (verdG (srcF s) m).andThen fun v o => (demandG (srcF s) ⟨#[59]⟩ o).andThen fun _ p => .ok ⟨cs, e, v⟩ p))
    generalize byTurnsG (srcF s) ⟨#[44]⟩ (callG (srcF s)) n j = g2 at hT hf2 ⊢
    rcases g2 with ⟨cs, k⟩ | ⟨er, p⟩ | _
    · have hk := (hf2 cs k rfl).2
      have HT := Lib.hid hT
      clear hT hf2
      by_cases ht : (tk (srcF s) k).text = ⟨#[119, 104, 101, 110]⟩
      · have hS := fun (W : World) hp => hSky.out W k hk hp ht
        have hwh : whenG (srcF s) n k = (adv (srcF s) k ()).andThen fun _ j => exprG (srcF s) n 0 j := if_pos ht
        show Calls _ _ _ _ (GotP (RuP w.heap.size) s w b 0 ((whenG (srcF s) n k).andThen fun e l => (demandG (srcF s) ⟨#[100, 111]⟩ l).andThen fun _ m => (verdG (srcF s) m).andThen fun v o => (demandG (srcF s) ⟨#[59]⟩ o).andThen fun _ p => .ok ⟨cs, e, v⟩ p))
        rw [hwh]
        clear ht hwh
        by_cases hl1 : k + 1 < (srcF s).toks.length
        · rw [adv_ok hl1] at hS ⊢
          have HS := Lib.hid hS
          have hX := fun (W : World) hp => hExp.out W (k + 1) hl1 hp
          have hf3 := hfe.out (k + 1) hl1
          clear hS
          show Calls _ _ _ _ (GotP (RuP w.heap.size) s w b 0 ((exprG (srcF s) n 0 (k + 1)).andThen fun e l => (demandG (srcF s) ⟨#[100, 111]⟩ l).andThen fun _ m => (verdG (srcF s) m).andThen fun v o => (demandG (srcF s) ⟨#[59]⟩ o).andThen fun _ p => .ok ⟨cs, e, v⟩ p))
          generalize exprG (srcF s) n 0 (k + 1) = g3 at hX hf3 ⊢
          rcases g3 with ⟨x, l⟩ | ⟨er, p⟩ | _
          · have hl := (hf3 x l rfl).2
            have HX := Lib.hid hX
            clear hX hf3
            show Calls _ _ _ _ (GotP (RuP w.heap.size) s w b 0 ((demandG (srcF s) ⟨#[100, 111]⟩ l).andThen fun _ m => (verdG (srcF s) m).andThen fun v o => (demandG (srcF s) ⟨#[59]⟩ o).andThen fun _ p => .ok ⟨cs, x, v⟩ p))
            have hD4 := fun (W : World) hp => hDem.out W l hl hp ⟨#[100, 111]⟩ (by decide)
            have hf4 := fwd_demand (S := srcF s) ⟨#[100, 111]⟩ l
            generalize demandG (srcF s) ⟨#[100, 111]⟩ l = g4 at hD4 hf4 ⊢
            rcases g4 with ⟨u4, m⟩ | ⟨er, p⟩ | _
            · have hm := (hf4 u4 m rfl).2
              have HD4 := Lib.hid hD4
              have hV := fun (W : World) hp => hVer.out W m hm hp
              have hf5 := fwd_verd (S := srcF s) m
              clear hD4 hf4
              show Calls _ _ _ _ (GotP (RuP w.heap.size) s w b 0 ((verdG (srcF s) m).andThen fun v o => (demandG (srcF s) ⟨#[59]⟩ o).andThen fun _ p => .ok ⟨cs, x, v⟩ p))
              generalize verdG (srcF s) m = g5 at hV hf5 ⊢
              rcases g5 with ⟨⟨k1, n1⟩, o⟩ | ⟨er, p⟩ | _
              · have ho := (hf5 (k1, n1) o rfl).2
                have HV := Lib.hid hV
                have hD6 := fun (W : World) hp => hDem.out W o ho hp ⟨#[59]⟩ (by decide)
                clear hV hf5
                show Calls _ _ _ _ (GotP (RuP w.heap.size) s w b 0 ((demandG (srcF s) ⟨#[59]⟩ o).andThen fun _ p => .ok ⟨cs, x, (k1, n1)⟩ p))
                generalize demandG (srcF s) ⟨#[59]⟩ o = g6 at hD6 ⊢
                rcases g6 with ⟨u6, p⟩ | ⟨er, p⟩ | _
                · have HD6 := Lib.hid hD6
                  clear hD6
                  show Calls _ _ _ _ (GotP (RuP w.heap.size) s w b 0 (.ok ⟨cs, x, (k1, n1)⟩ p))
                  go_enter Tryz.func85, Tryz.ntmps85
                  go_wp2_with (first | (go_at_call 50; (with_reducible refine (HD1.out).mono ?_); rintro e w1 ⟨v, rfl, rfl, hp, hg⟩; have H1 := Lib.hid (And.intro hp (And.intro hg (Nat.le_trans (Nat.le_of_eq s0.symm) hg.size))); clear hp hg) | (go_at_call 108; (with_reducible refine (HT.out _ H1.out.1).mono ?_); rintro e w2 ⟨v, rfl, ⟨tb, capc, rfl, h1, h2, h3, h4⟩, hp, hg⟩; have T2 : Hid (RuleAt w (w2.alloc (ruO (.slice (some ⟨tb, 0, none⟩) cs.length capc) 1 (.slice none 0 0) 0 0 0 0 0 0)) b s 0 k w2.heap.size tb capc cs (.plain 1) none 0 0 0) := Lib.hid (rule_new hlt HR0.out HG0.out s0 H1.out.2.1 hg hp h1 h2 h4); have hE : w.heap.size < w2.heap.size := Nat.lt_of_lt_of_le (Nat.lt_of_lt_of_le (Nat.lt_of_succ_le H1.out.2.2) (Nat.le_refl _)) hg.size; clear h1 h2 h3 h4 hp hg) | (go_at_call 78; (with_reducible refine (HS.out _ T2.out.at_).mono ?_); rintro e w3 ⟨v, rfl, rfl, hp, hg⟩; have T3 := Lib.hid (T2.out.call hp hg); clear hp hg) | (go_at_call 59; (with_reducible refine (HX.out _ T3.out.at_).mono ?_); rintro e w4 ⟨v, rfl, ⟨A, cap, rfl, hx⟩, hp, hg⟩; have hc := T3.out.call hp hg; have hx2 := hx.keep (Nat.le_refl _) (fun c hc2 => show w2.heap.size < c from Nat.lt_of_lt_of_le T3.out.size hc2) (fun _ _ _ => rfl); have e1 := cell6 hc.box 1 rfl; have e2 := cell6 hc.box 2 rfl; have e3 := cell6 hc.box 3 rfl; have e4 := cell6 hc.box 4 rfl; have e5 := cell6 hc.box 5 rfl; have e6 := cell6 hc.box 6 rfl; have z1 := frozen6 hc.box 1; have z2 := frozen6 hc.box 2; have z3 := frozen6 hc.box 3; have z4 := frozen6 hc.box 4; have z5 := frozen6 hc.box 5; have z6 := frozen6 hc.box 6; have T4 := Lib.hid (hc.setEx hx2); clear hc hx hx2 hp hg) | (go_at_call 50; (with_reducible refine (HD4.out _ T4.out.at_).mono ?_); rintro e w5 ⟨v, rfl, rfl, hp, hg⟩; have T5 := Lib.hid (T4.out.call hp hg); clear hp hg) | (go_at_call 52; (with_reducible refine (HV.out _ T5.out.at_).mono ?_); rintro e w6 ⟨v, rfl, rfl, hp, hg⟩; have hc := T5.out.call hp hg; have f7 := cell6 hc.box 7 rfl; have f8 := cell6 hc.box 8 rfl; have x7 := frozen6 hc.box 7; have x8 := frozen6 hc.box 8; have T6 := Lib.hid (hc.setVerd (k' := k1) (n' := (n1 : Int))); clear hc hp hg) | (go_at_call 50; (with_reducible refine (HD6.out _ T6.out.at_).mono ?_); rintro e w7 ⟨v, rfl, rfl, hp, hg⟩; have hc := T6.out.call hp hg; have p0 := cell6 hc.box 0 rfl; have p1 := cell6 hc.box 1 rfl; have p2 := cell6 hc.box 2 rfl; have p3 := cell6 hc.box 3 rfl; have p4 := cell6 hc.box 4 rfl; have p5 := cell6 hc.box 5 rfl; have p6 := cell6 hc.box 6 rfl; have p7 := cell6 hc.box 7 rfl; have p8 := cell6 hc.box 8 rfl; have u0 := cell6 hc.res 0 rfl; have u1 := cell6 hc.res 1 rfl; have u2 := cell6 hc.res 2 rfl; have u3 := cell6 hc.res 3 rfl; have u4 := cell6 hc.res 4 rfl; have u5 := cell6 hc.res 5 rfl; have u6 := cell6 hc.res 6 rfl; have u7 := cell6 hc.res 7 rfl; have u8 := cell6 hc.res 8 rfl; have y0 := frozen6 hc.res 0; have y1 := frozen6 hc.res 1; have y2 := frozen6 hc.res 2; have y3 := frozen6 hc.res 3; have y4 := frozen6 hc.res 4; have y5 := frozen6 hc.res 5; have y6 := frozen6 hc.res 6; have y7 := frozen6 hc.res 7; have y8 := frozen6 hc.res 8; have T7 := Lib.hid hc; clear hc hp hg))
                  exact bodyPost_ret (v := .agg #[.slice (some ⟨tb, 0, none⟩) cs.length capc, .int .i64 x.op, .slice A x.args.length cap, .int .i64 x.field, .int .u64 (x.mask : Int), .int .i64 x.rel, .int .u64 (x.value : Int), .int .i64 k1, .int .u64 (n1 : Int)]) (by simp [results, Tryz.results85, go_sem, u0, u1, u2, u3, u4, u5, u6, u7, u8, World.cell?_setCell_same']) rfl ⟨_, rfl, T7.out.done.1, T7.out.done.2.1, T7.out.done.2.2⟩
                · have HD6 := Lib.hid hD6
                  clear hD6
                  show Calls _ _ _ _ (GotP (RuP w.heap.size) s w b 0 (.bad er p))
                  go_enter Tryz.func85, Tryz.ntmps85
                  go_wp2_with (first | (go_at_call 50; (with_reducible refine (HD1.out).mono ?_); rintro e w1 ⟨v, rfl, rfl, hp, hg⟩; have H1 := Lib.hid (And.intro hp (And.intro hg (Nat.le_trans (Nat.le_of_eq s0.symm) hg.size))); clear hp hg) | (go_at_call 108; (with_reducible refine (HT.out _ H1.out.1).mono ?_); rintro e w2 ⟨v, rfl, ⟨tb, capc, rfl, h1, h2, h3, h4⟩, hp, hg⟩; have T2 : Hid (RuleAt w (w2.alloc (ruO (.slice (some ⟨tb, 0, none⟩) cs.length capc) 1 (.slice none 0 0) 0 0 0 0 0 0)) b s 0 k w2.heap.size tb capc cs (.plain 1) none 0 0 0) := Lib.hid (rule_new hlt HR0.out HG0.out s0 H1.out.2.1 hg hp h1 h2 h4); have hE : w.heap.size < w2.heap.size := Nat.lt_of_lt_of_le (Nat.lt_of_lt_of_le (Nat.lt_of_succ_le H1.out.2.2) (Nat.le_refl _)) hg.size; clear h1 h2 h3 h4 hp hg) | (go_at_call 78; (with_reducible refine (HS.out _ T2.out.at_).mono ?_); rintro e w3 ⟨v, rfl, rfl, hp, hg⟩; have T3 := Lib.hid (T2.out.call hp hg); clear hp hg) | (go_at_call 59; (with_reducible refine (HX.out _ T3.out.at_).mono ?_); rintro e w4 ⟨v, rfl, ⟨A, cap, rfl, hx⟩, hp, hg⟩; have hc := T3.out.call hp hg; have hx2 := hx.keep (Nat.le_refl _) (fun c hc2 => show w2.heap.size < c from Nat.lt_of_lt_of_le T3.out.size hc2) (fun _ _ _ => rfl); have e1 := cell6 hc.box 1 rfl; have e2 := cell6 hc.box 2 rfl; have e3 := cell6 hc.box 3 rfl; have e4 := cell6 hc.box 4 rfl; have e5 := cell6 hc.box 5 rfl; have e6 := cell6 hc.box 6 rfl; have z1 := frozen6 hc.box 1; have z2 := frozen6 hc.box 2; have z3 := frozen6 hc.box 3; have z4 := frozen6 hc.box 4; have z5 := frozen6 hc.box 5; have z6 := frozen6 hc.box 6; have T4 := Lib.hid (hc.setEx hx2); clear hc hx hx2 hp hg) | (go_at_call 50; (with_reducible refine (HD4.out _ T4.out.at_).mono ?_); rintro e w5 ⟨v, rfl, rfl, hp, hg⟩; have T5 := Lib.hid (T4.out.call hp hg); clear hp hg) | (go_at_call 52; (with_reducible refine (HV.out _ T5.out.at_).mono ?_); rintro e w6 ⟨v, rfl, rfl, hp, hg⟩; have hc := T5.out.call hp hg; have f7 := cell6 hc.box 7 rfl; have f8 := cell6 hc.box 8 rfl; have x7 := frozen6 hc.box 7; have x8 := frozen6 hc.box 8; have T6 := Lib.hid (hc.setVerd (k' := k1) (n' := (n1 : Int))); clear hc hp hg) | (go_at_call 50; (with_reducible refine (HD6.out _ T6.out.at_).mono ?_); rintro e w7 ⟨rfl, hg⟩; have HY := Lib.hid (grown_trans T6.out.gr hg); clear hg))
                  exact ⟨rfl, rfl, HY.out⟩
                · have HD6 := Lib.hid hD6
                  clear hD6
                  show Calls _ _ _ _ (GotP (RuP w.heap.size) s w b 0 .out)
                  go_enter Tryz.func85, Tryz.ntmps85
                  go_wp2_with (first | (go_at_call 50; (with_reducible refine (HD1.out).mono ?_); rintro e w1 ⟨v, rfl, rfl, hp, hg⟩; have H1 := Lib.hid (And.intro hp (And.intro hg (Nat.le_trans (Nat.le_of_eq s0.symm) hg.size))); clear hp hg) | (go_at_call 108; (with_reducible refine (HT.out _ H1.out.1).mono ?_); rintro e w2 ⟨v, rfl, ⟨tb, capc, rfl, h1, h2, h3, h4⟩, hp, hg⟩; have T2 : Hid (RuleAt w (w2.alloc (ruO (.slice (some ⟨tb, 0, none⟩) cs.length capc) 1 (.slice none 0 0) 0 0 0 0 0 0)) b s 0 k w2.heap.size tb capc cs (.plain 1) none 0 0 0) := Lib.hid (rule_new hlt HR0.out HG0.out s0 H1.out.2.1 hg hp h1 h2 h4); have hE : w.heap.size < w2.heap.size := Nat.lt_of_lt_of_le (Nat.lt_of_lt_of_le (Nat.lt_of_succ_le H1.out.2.2) (Nat.le_refl _)) hg.size; clear h1 h2 h3 h4 hp hg) | (go_at_call 78; (with_reducible refine (HS.out _ T2.out.at_).mono ?_); rintro e w3 ⟨v, rfl, rfl, hp, hg⟩; have T3 := Lib.hid (T2.out.call hp hg); clear hp hg) | (go_at_call 59; (with_reducible refine (HX.out _ T3.out.at_).mono ?_); rintro e w4 ⟨v, rfl, ⟨A, cap, rfl, hx⟩, hp, hg⟩; have hc := T3.out.call hp hg; have hx2 := hx.keep (Nat.le_refl _) (fun c hc2 => show w2.heap.size < c from Nat.lt_of_lt_of_le T3.out.size hc2) (fun _ _ _ => rfl); have e1 := cell6 hc.box 1 rfl; have e2 := cell6 hc.box 2 rfl; have e3 := cell6 hc.box 3 rfl; have e4 := cell6 hc.box 4 rfl; have e5 := cell6 hc.box 5 rfl; have e6 := cell6 hc.box 6 rfl; have z1 := frozen6 hc.box 1; have z2 := frozen6 hc.box 2; have z3 := frozen6 hc.box 3; have z4 := frozen6 hc.box 4; have z5 := frozen6 hc.box 5; have z6 := frozen6 hc.box 6; have T4 := Lib.hid (hc.setEx hx2); clear hc hx hx2 hp hg) | (go_at_call 50; (with_reducible refine (HD4.out _ T4.out.at_).mono ?_); rintro e w5 ⟨v, rfl, rfl, hp, hg⟩; have T5 := Lib.hid (T4.out.call hp hg); clear hp hg) | (go_at_call 52; (with_reducible refine (HV.out _ T5.out.at_).mono ?_); rintro e w6 ⟨v, rfl, rfl, hp, hg⟩; have hc := T5.out.call hp hg; have f7 := cell6 hc.box 7 rfl; have f8 := cell6 hc.box 8 rfl; have x7 := frozen6 hc.box 7; have x8 := frozen6 hc.box 8; have T6 := Lib.hid (hc.setVerd (k' := k1) (n' := (n1 : Int))); clear hc hp hg) | (go_at_call 50; (with_reducible refine (HD6.out _ T6.out.at_).mono ?_); intro e w7 hF; exact hF.elim))
              · have HV := Lib.hid hV
                clear hV hf5
                show Calls _ _ _ _ (GotP (RuP w.heap.size) s w b 0 (.bad er p))
                go_enter Tryz.func85, Tryz.ntmps85
                go_wp2_with (first | (go_at_call 50; (with_reducible refine (HD1.out).mono ?_); rintro e w1 ⟨v, rfl, rfl, hp, hg⟩; have H1 := Lib.hid (And.intro hp (And.intro hg (Nat.le_trans (Nat.le_of_eq s0.symm) hg.size))); clear hp hg) | (go_at_call 108; (with_reducible refine (HT.out _ H1.out.1).mono ?_); rintro e w2 ⟨v, rfl, ⟨tb, capc, rfl, h1, h2, h3, h4⟩, hp, hg⟩; have T2 : Hid (RuleAt w (w2.alloc (ruO (.slice (some ⟨tb, 0, none⟩) cs.length capc) 1 (.slice none 0 0) 0 0 0 0 0 0)) b s 0 k w2.heap.size tb capc cs (.plain 1) none 0 0 0) := Lib.hid (rule_new hlt HR0.out HG0.out s0 H1.out.2.1 hg hp h1 h2 h4); have hE : w.heap.size < w2.heap.size := Nat.lt_of_lt_of_le (Nat.lt_of_lt_of_le (Nat.lt_of_succ_le H1.out.2.2) (Nat.le_refl _)) hg.size; clear h1 h2 h3 h4 hp hg) | (go_at_call 78; (with_reducible refine (HS.out _ T2.out.at_).mono ?_); rintro e w3 ⟨v, rfl, rfl, hp, hg⟩; have T3 := Lib.hid (T2.out.call hp hg); clear hp hg) | (go_at_call 59; (with_reducible refine (HX.out _ T3.out.at_).mono ?_); rintro e w4 ⟨v, rfl, ⟨A, cap, rfl, hx⟩, hp, hg⟩; have hc := T3.out.call hp hg; have hx2 := hx.keep (Nat.le_refl _) (fun c hc2 => show w2.heap.size < c from Nat.lt_of_lt_of_le T3.out.size hc2) (fun _ _ _ => rfl); have e1 := cell6 hc.box 1 rfl; have e2 := cell6 hc.box 2 rfl; have e3 := cell6 hc.box 3 rfl; have e4 := cell6 hc.box 4 rfl; have e5 := cell6 hc.box 5 rfl; have e6 := cell6 hc.box 6 rfl; have z1 := frozen6 hc.box 1; have z2 := frozen6 hc.box 2; have z3 := frozen6 hc.box 3; have z4 := frozen6 hc.box 4; have z5 := frozen6 hc.box 5; have z6 := frozen6 hc.box 6; have T4 := Lib.hid (hc.setEx hx2); clear hc hx hx2 hp hg) | (go_at_call 50; (with_reducible refine (HD4.out _ T4.out.at_).mono ?_); rintro e w5 ⟨v, rfl, rfl, hp, hg⟩; have T5 := Lib.hid (T4.out.call hp hg); clear hp hg) | (go_at_call 52; (with_reducible refine (HV.out _ T5.out.at_).mono ?_); rintro e w6 ⟨rfl, hg⟩; have HY := Lib.hid (grown_trans T5.out.gr hg); clear hg))
                exact ⟨rfl, rfl, HY.out⟩
              · have HV := Lib.hid hV
                clear hV hf5
                show Calls _ _ _ _ (GotP (RuP w.heap.size) s w b 0 .out)
                go_enter Tryz.func85, Tryz.ntmps85
                go_wp2_with (first | (go_at_call 50; (with_reducible refine (HD1.out).mono ?_); rintro e w1 ⟨v, rfl, rfl, hp, hg⟩; have H1 := Lib.hid (And.intro hp (And.intro hg (Nat.le_trans (Nat.le_of_eq s0.symm) hg.size))); clear hp hg) | (go_at_call 108; (with_reducible refine (HT.out _ H1.out.1).mono ?_); rintro e w2 ⟨v, rfl, ⟨tb, capc, rfl, h1, h2, h3, h4⟩, hp, hg⟩; have T2 : Hid (RuleAt w (w2.alloc (ruO (.slice (some ⟨tb, 0, none⟩) cs.length capc) 1 (.slice none 0 0) 0 0 0 0 0 0)) b s 0 k w2.heap.size tb capc cs (.plain 1) none 0 0 0) := Lib.hid (rule_new hlt HR0.out HG0.out s0 H1.out.2.1 hg hp h1 h2 h4); have hE : w.heap.size < w2.heap.size := Nat.lt_of_lt_of_le (Nat.lt_of_lt_of_le (Nat.lt_of_succ_le H1.out.2.2) (Nat.le_refl _)) hg.size; clear h1 h2 h3 h4 hp hg) | (go_at_call 78; (with_reducible refine (HS.out _ T2.out.at_).mono ?_); rintro e w3 ⟨v, rfl, rfl, hp, hg⟩; have T3 := Lib.hid (T2.out.call hp hg); clear hp hg) | (go_at_call 59; (with_reducible refine (HX.out _ T3.out.at_).mono ?_); rintro e w4 ⟨v, rfl, ⟨A, cap, rfl, hx⟩, hp, hg⟩; have hc := T3.out.call hp hg; have hx2 := hx.keep (Nat.le_refl _) (fun c hc2 => show w2.heap.size < c from Nat.lt_of_lt_of_le T3.out.size hc2) (fun _ _ _ => rfl); have e1 := cell6 hc.box 1 rfl; have e2 := cell6 hc.box 2 rfl; have e3 := cell6 hc.box 3 rfl; have e4 := cell6 hc.box 4 rfl; have e5 := cell6 hc.box 5 rfl; have e6 := cell6 hc.box 6 rfl; have z1 := frozen6 hc.box 1; have z2 := frozen6 hc.box 2; have z3 := frozen6 hc.box 3; have z4 := frozen6 hc.box 4; have z5 := frozen6 hc.box 5; have z6 := frozen6 hc.box 6; have T4 := Lib.hid (hc.setEx hx2); clear hc hx hx2 hp hg) | (go_at_call 50; (with_reducible refine (HD4.out _ T4.out.at_).mono ?_); rintro e w5 ⟨v, rfl, rfl, hp, hg⟩; have T5 := Lib.hid (T4.out.call hp hg); clear hp hg) | (go_at_call 52; (with_reducible refine (HV.out _ T5.out.at_).mono ?_); intro e w6 hF; exact hF.elim))
            · have HD4 := Lib.hid hD4
              clear hD4 hf4
              show Calls _ _ _ _ (GotP (RuP w.heap.size) s w b 0 (.bad er p))
              go_enter Tryz.func85, Tryz.ntmps85
              go_wp2_with (first | (go_at_call 50; (with_reducible refine (HD1.out).mono ?_); rintro e w1 ⟨v, rfl, rfl, hp, hg⟩; have H1 := Lib.hid (And.intro hp (And.intro hg (Nat.le_trans (Nat.le_of_eq s0.symm) hg.size))); clear hp hg) | (go_at_call 108; (with_reducible refine (HT.out _ H1.out.1).mono ?_); rintro e w2 ⟨v, rfl, ⟨tb, capc, rfl, h1, h2, h3, h4⟩, hp, hg⟩; have T2 : Hid (RuleAt w (w2.alloc (ruO (.slice (some ⟨tb, 0, none⟩) cs.length capc) 1 (.slice none 0 0) 0 0 0 0 0 0)) b s 0 k w2.heap.size tb capc cs (.plain 1) none 0 0 0) := Lib.hid (rule_new hlt HR0.out HG0.out s0 H1.out.2.1 hg hp h1 h2 h4); have hE : w.heap.size < w2.heap.size := Nat.lt_of_lt_of_le (Nat.lt_of_lt_of_le (Nat.lt_of_succ_le H1.out.2.2) (Nat.le_refl _)) hg.size; clear h1 h2 h3 h4 hp hg) | (go_at_call 78; (with_reducible refine (HS.out _ T2.out.at_).mono ?_); rintro e w3 ⟨v, rfl, rfl, hp, hg⟩; have T3 := Lib.hid (T2.out.call hp hg); clear hp hg) | (go_at_call 59; (with_reducible refine (HX.out _ T3.out.at_).mono ?_); rintro e w4 ⟨v, rfl, ⟨A, cap, rfl, hx⟩, hp, hg⟩; have hc := T3.out.call hp hg; have hx2 := hx.keep (Nat.le_refl _) (fun c hc2 => show w2.heap.size < c from Nat.lt_of_lt_of_le T3.out.size hc2) (fun _ _ _ => rfl); have e1 := cell6 hc.box 1 rfl; have e2 := cell6 hc.box 2 rfl; have e3 := cell6 hc.box 3 rfl; have e4 := cell6 hc.box 4 rfl; have e5 := cell6 hc.box 5 rfl; have e6 := cell6 hc.box 6 rfl; have z1 := frozen6 hc.box 1; have z2 := frozen6 hc.box 2; have z3 := frozen6 hc.box 3; have z4 := frozen6 hc.box 4; have z5 := frozen6 hc.box 5; have z6 := frozen6 hc.box 6; have T4 := Lib.hid (hc.setEx hx2); clear hc hx hx2 hp hg) | (go_at_call 50; (with_reducible refine (HD4.out _ T4.out.at_).mono ?_); rintro e w5 ⟨rfl, hg⟩; have HY := Lib.hid (grown_trans T4.out.gr hg); clear hg))
              exact ⟨rfl, rfl, HY.out⟩
            · have HD4 := Lib.hid hD4
              clear hD4 hf4
              show Calls _ _ _ _ (GotP (RuP w.heap.size) s w b 0 .out)
              go_enter Tryz.func85, Tryz.ntmps85
              go_wp2_with (first | (go_at_call 50; (with_reducible refine (HD1.out).mono ?_); rintro e w1 ⟨v, rfl, rfl, hp, hg⟩; have H1 := Lib.hid (And.intro hp (And.intro hg (Nat.le_trans (Nat.le_of_eq s0.symm) hg.size))); clear hp hg) | (go_at_call 108; (with_reducible refine (HT.out _ H1.out.1).mono ?_); rintro e w2 ⟨v, rfl, ⟨tb, capc, rfl, h1, h2, h3, h4⟩, hp, hg⟩; have T2 : Hid (RuleAt w (w2.alloc (ruO (.slice (some ⟨tb, 0, none⟩) cs.length capc) 1 (.slice none 0 0) 0 0 0 0 0 0)) b s 0 k w2.heap.size tb capc cs (.plain 1) none 0 0 0) := Lib.hid (rule_new hlt HR0.out HG0.out s0 H1.out.2.1 hg hp h1 h2 h4); have hE : w.heap.size < w2.heap.size := Nat.lt_of_lt_of_le (Nat.lt_of_lt_of_le (Nat.lt_of_succ_le H1.out.2.2) (Nat.le_refl _)) hg.size; clear h1 h2 h3 h4 hp hg) | (go_at_call 78; (with_reducible refine (HS.out _ T2.out.at_).mono ?_); rintro e w3 ⟨v, rfl, rfl, hp, hg⟩; have T3 := Lib.hid (T2.out.call hp hg); clear hp hg) | (go_at_call 59; (with_reducible refine (HX.out _ T3.out.at_).mono ?_); rintro e w4 ⟨v, rfl, ⟨A, cap, rfl, hx⟩, hp, hg⟩; have hc := T3.out.call hp hg; have hx2 := hx.keep (Nat.le_refl _) (fun c hc2 => show w2.heap.size < c from Nat.lt_of_lt_of_le T3.out.size hc2) (fun _ _ _ => rfl); have e1 := cell6 hc.box 1 rfl; have e2 := cell6 hc.box 2 rfl; have e3 := cell6 hc.box 3 rfl; have e4 := cell6 hc.box 4 rfl; have e5 := cell6 hc.box 5 rfl; have e6 := cell6 hc.box 6 rfl; have z1 := frozen6 hc.box 1; have z2 := frozen6 hc.box 2; have z3 := frozen6 hc.box 3; have z4 := frozen6 hc.box 4; have z5 := frozen6 hc.box 5; have z6 := frozen6 hc.box 6; have T4 := Lib.hid (hc.setEx hx2); clear hc hx hx2 hp hg) | (go_at_call 50; (with_reducible refine (HD4.out _ T4.out.at_).mono ?_); intro e w5 hF; exact hF.elim))
          · have HX := Lib.hid hX
            clear hX hf3
            show Calls _ _ _ _ (GotP (RuP w.heap.size) s w b 0 (.bad er p))
            go_enter Tryz.func85, Tryz.ntmps85
            go_wp2_with (first | (go_at_call 50; (with_reducible refine (HD1.out).mono ?_); rintro e w1 ⟨v, rfl, rfl, hp, hg⟩; have H1 := Lib.hid (And.intro hp (And.intro hg (Nat.le_trans (Nat.le_of_eq s0.symm) hg.size))); clear hp hg) | (go_at_call 108; (with_reducible refine (HT.out _ H1.out.1).mono ?_); rintro e w2 ⟨v, rfl, ⟨tb, capc, rfl, h1, h2, h3, h4⟩, hp, hg⟩; have T2 : Hid (RuleAt w (w2.alloc (ruO (.slice (some ⟨tb, 0, none⟩) cs.length capc) 1 (.slice none 0 0) 0 0 0 0 0 0)) b s 0 k w2.heap.size tb capc cs (.plain 1) none 0 0 0) := Lib.hid (rule_new hlt HR0.out HG0.out s0 H1.out.2.1 hg hp h1 h2 h4); have hE : w.heap.size < w2.heap.size := Nat.lt_of_lt_of_le (Nat.lt_of_lt_of_le (Nat.lt_of_succ_le H1.out.2.2) (Nat.le_refl _)) hg.size; clear h1 h2 h3 h4 hp hg) | (go_at_call 78; (with_reducible refine (HS.out _ T2.out.at_).mono ?_); rintro e w3 ⟨v, rfl, rfl, hp, hg⟩; have T3 := Lib.hid (T2.out.call hp hg); clear hp hg) | (go_at_call 59; (with_reducible refine (HX.out _ T3.out.at_).mono ?_); rintro e w4 ⟨rfl, hg⟩; have HY := Lib.hid (grown_trans T3.out.gr hg); clear hg))
            exact ⟨rfl, rfl, HY.out⟩
          · have HX := Lib.hid hX
            clear hX hf3
            show Calls _ _ _ _ (GotP (RuP w.heap.size) s w b 0 .out)
            go_enter Tryz.func85, Tryz.ntmps85
            go_wp2_with (first | (go_at_call 50; (with_reducible refine (HD1.out).mono ?_); rintro e w1 ⟨v, rfl, rfl, hp, hg⟩; have H1 := Lib.hid (And.intro hp (And.intro hg (Nat.le_trans (Nat.le_of_eq s0.symm) hg.size))); clear hp hg) | (go_at_call 108; (with_reducible refine (HT.out _ H1.out.1).mono ?_); rintro e w2 ⟨v, rfl, ⟨tb, capc, rfl, h1, h2, h3, h4⟩, hp, hg⟩; have T2 : Hid (RuleAt w (w2.alloc (ruO (.slice (some ⟨tb, 0, none⟩) cs.length capc) 1 (.slice none 0 0) 0 0 0 0 0 0)) b s 0 k w2.heap.size tb capc cs (.plain 1) none 0 0 0) := Lib.hid (rule_new hlt HR0.out HG0.out s0 H1.out.2.1 hg hp h1 h2 h4); have hE : w.heap.size < w2.heap.size := Nat.lt_of_lt_of_le (Nat.lt_of_lt_of_le (Nat.lt_of_succ_le H1.out.2.2) (Nat.le_refl _)) hg.size; clear h1 h2 h3 h4 hp hg) | (go_at_call 78; (with_reducible refine (HS.out _ T2.out.at_).mono ?_); rintro e w3 ⟨v, rfl, rfl, hp, hg⟩; have T3 := Lib.hid (T2.out.call hp hg); clear hp hg) | (go_at_call 59; (with_reducible refine (HX.out _ T3.out.at_).mono ?_); intro e w4 hF; exact hF.elim))
        · rw [adv_no hl1] at hS ⊢
          generalize (srcF s).err = er at hS ⊢
          generalize (srcF s).place = p at hS ⊢
          have HS := Lib.hid hS
          clear hS hl1
          show Calls _ _ _ _ (GotP (RuP w.heap.size) s w b 0 (.bad er p))
          go_enter Tryz.func85, Tryz.ntmps85
          go_wp2_with (first | (go_at_call 50; (with_reducible refine (HD1.out).mono ?_); rintro e w1 ⟨v, rfl, rfl, hp, hg⟩; have H1 := Lib.hid (And.intro hp (And.intro hg (Nat.le_trans (Nat.le_of_eq s0.symm) hg.size))); clear hp hg) | (go_at_call 108; (with_reducible refine (HT.out _ H1.out.1).mono ?_); rintro e w2 ⟨v, rfl, ⟨tb, capc, rfl, h1, h2, h3, h4⟩, hp, hg⟩; have T2 : Hid (RuleAt w (w2.alloc (ruO (.slice (some ⟨tb, 0, none⟩) cs.length capc) 1 (.slice none 0 0) 0 0 0 0 0 0)) b s 0 k w2.heap.size tb capc cs (.plain 1) none 0 0 0) := Lib.hid (rule_new hlt HR0.out HG0.out s0 H1.out.2.1 hg hp h1 h2 h4); have hE : w.heap.size < w2.heap.size := Nat.lt_of_lt_of_le (Nat.lt_of_lt_of_le (Nat.lt_of_succ_le H1.out.2.2) (Nat.le_refl _)) hg.size; clear h1 h2 h3 h4 hp hg) | (go_at_call 78; (with_reducible refine (HS.out _ T2.out.at_).mono ?_); rintro e w3 ⟨rfl, hg⟩; have HY := Lib.hid (grown_trans T2.out.gr hg); clear hg))
          exact ⟨rfl, rfl, HY.out⟩
      · have hS := fun (W : World) hp => hSkn.out W k hp ht
        have hwh : whenG (srcF s) n k = .ok (.plain 1) k := if_neg ht
        have HS := Lib.hid hS
        show Calls _ _ _ _ (GotP (RuP w.heap.size) s w b 0 ((whenG (srcF s) n k).andThen fun e l => (demandG (srcF s) ⟨#[100, 111]⟩ l).andThen fun _ m => (verdG (srcF s) m).andThen fun v o => (demandG (srcF s) ⟨#[59]⟩ o).andThen fun _ p => .ok ⟨cs, e, v⟩ p))
        rw [hwh]
        have hl := hk
        clear ht hwh hS hk
        show Calls _ _ _ _ (GotP (RuP w.heap.size) s w b 0 ((demandG (srcF s) ⟨#[100, 111]⟩ k).andThen fun _ m => (verdG (srcF s) m).andThen fun v o => (demandG (srcF s) ⟨#[59]⟩ o).andThen fun _ p => .ok ⟨cs, .plain 1, v⟩ p))
        have hD4 := fun (W : World) hp => hDem.out W k hl hp ⟨#[100, 111]⟩ (by decide)
        have hf4 := fwd_demand (S := srcF s) ⟨#[100, 111]⟩ k
        generalize demandG (srcF s) ⟨#[100, 111]⟩ k = g4 at hD4 hf4 ⊢
        rcases g4 with ⟨u4, m⟩ | ⟨er, p⟩ | _
        · have hm := (hf4 u4 m rfl).2
          have HD4 := Lib.hid hD4
          have hV := fun (W : World) hp => hVer.out W m hm hp
          have hf5 := fwd_verd (S := srcF s) m
          clear hD4 hf4
          show Calls _ _ _ _ (GotP (RuP w.heap.size) s w b 0 ((verdG (srcF s) m).andThen fun v o => (demandG (srcF s) ⟨#[59]⟩ o).andThen fun _ p => .ok ⟨cs, .plain 1, v⟩ p))
          generalize verdG (srcF s) m = g5 at hV hf5 ⊢
          rcases g5 with ⟨⟨k1, n1⟩, o⟩ | ⟨er, p⟩ | _
          · have ho := (hf5 (k1, n1) o rfl).2
            have HV := Lib.hid hV
            have hD6 := fun (W : World) hp => hDem.out W o ho hp ⟨#[59]⟩ (by decide)
            clear hV hf5
            show Calls _ _ _ _ (GotP (RuP w.heap.size) s w b 0 ((demandG (srcF s) ⟨#[59]⟩ o).andThen fun _ p => .ok ⟨cs, .plain 1, (k1, n1)⟩ p))
            generalize demandG (srcF s) ⟨#[59]⟩ o = g6 at hD6 ⊢
            rcases g6 with ⟨u6, p⟩ | ⟨er, p⟩ | _
            · have HD6 := Lib.hid hD6
              clear hD6
              show Calls _ _ _ _ (GotP (RuP w.heap.size) s w b 0 (.ok ⟨cs, .plain 1, (k1, n1)⟩ p))
              go_enter Tryz.func85, Tryz.ntmps85
              go_wp2_with (first | (go_at_call 50; (with_reducible refine (HD1.out).mono ?_); rintro e w1 ⟨v, rfl, rfl, hp, hg⟩; have H1 := Lib.hid (And.intro hp (And.intro hg (Nat.le_trans (Nat.le_of_eq s0.symm) hg.size))); clear hp hg) | (go_at_call 108; (with_reducible refine (HT.out _ H1.out.1).mono ?_); rintro e w2 ⟨v, rfl, ⟨tb, capc, rfl, h1, h2, h3, h4⟩, hp, hg⟩; have T2 : Hid (RuleAt w (w2.alloc (ruO (.slice (some ⟨tb, 0, none⟩) cs.length capc) 1 (.slice none 0 0) 0 0 0 0 0 0)) b s 0 k w2.heap.size tb capc cs (.plain 1) none 0 0 0) := Lib.hid (rule_new hlt HR0.out HG0.out s0 H1.out.2.1 hg hp h1 h2 h4); have hE : w.heap.size < w2.heap.size := Nat.lt_of_lt_of_le (Nat.lt_of_lt_of_le (Nat.lt_of_succ_le H1.out.2.2) (Nat.le_refl _)) hg.size; clear h1 h2 h3 h4 hp hg) | (go_at_call 78; (with_reducible refine (HS.out _ T2.out.at_).mono ?_); rintro e w3 ⟨rfl, rfl⟩; have T4 := Lib.hid T2.out) | (go_at_call 50; (with_reducible refine (HD4.out _ T4.out.at_).mono ?_); rintro e w5 ⟨v, rfl, rfl, hp, hg⟩; have T5 := Lib.hid (T4.out.call hp hg); clear hp hg) | (go_at_call 52; (with_reducible refine (HV.out _ T5.out.at_).mono ?_); rintro e w6 ⟨v, rfl, rfl, hp, hg⟩; have hc := T5.out.call hp hg; have f7 := cell6 hc.box 7 rfl; have f8 := cell6 hc.box 8 rfl; have x7 := frozen6 hc.box 7; have x8 := frozen6 hc.box 8; have T6 := Lib.hid (hc.setVerd (k' := k1) (n' := (n1 : Int))); clear hc hp hg) | (go_at_call 50; (with_reducible refine (HD6.out _ T6.out.at_).mono ?_); rintro e w7 ⟨v, rfl, rfl, hp, hg⟩; have hc := T6.out.call hp hg; have p0 := cell6 hc.box 0 rfl; have p1 := cell6 hc.box 1 rfl; have p2 := cell6 hc.box 2 rfl; have p3 := cell6 hc.box 3 rfl; have p4 := cell6 hc.box 4 rfl; have p5 := cell6 hc.box 5 rfl; have p6 := cell6 hc.box 6 rfl; have p7 := cell6 hc.box 7 rfl; have p8 := cell6 hc.box 8 rfl; have u0 := cell6 hc.res 0 rfl; have u1 := cell6 hc.res 1 rfl; have u2 := cell6 hc.res 2 rfl; have u3 := cell6 hc.res 3 rfl; have u4 := cell6 hc.res 4 rfl; have u5 := cell6 hc.res 5 rfl; have u6 := cell6 hc.res 6 rfl; have u7 := cell6 hc.res 7 rfl; have u8 := cell6 hc.res 8 rfl; have y0 := frozen6 hc.res 0; have y1 := frozen6 hc.res 1; have y2 := frozen6 hc.res 2; have y3 := frozen6 hc.res 3; have y4 := frozen6 hc.res 4; have y5 := frozen6 hc.res 5; have y6 := frozen6 hc.res 6; have y7 := frozen6 hc.res 7; have y8 := frozen6 hc.res 8; have T7 := Lib.hid hc; clear hc hp hg))
              exact bodyPost_ret (v := .agg #[.slice (some ⟨tb, 0, none⟩) cs.length capc, .int .i64 1, .slice none 0 0, .int .i64 0, .int .u64 0, .int .i64 0, .int .u64 0, .int .i64 k1, .int .u64 (n1 : Int)]) (by simp [results, Tryz.results85, go_sem, u0, u1, u2, u3, u4, u5, u6, u7, u8, World.cell?_setCell_same']; exact ⟨rfl, rfl, rfl, rfl, rfl, rfl⟩) rfl ⟨_, rfl, T7.out.done.1, T7.out.done.2.1, T7.out.done.2.2⟩
            · have HD6 := Lib.hid hD6
              clear hD6
              show Calls _ _ _ _ (GotP (RuP w.heap.size) s w b 0 (.bad er p))
              go_enter Tryz.func85, Tryz.ntmps85
              go_wp2_with (first | (go_at_call 50; (with_reducible refine (HD1.out).mono ?_); rintro e w1 ⟨v, rfl, rfl, hp, hg⟩; have H1 := Lib.hid (And.intro hp (And.intro hg (Nat.le_trans (Nat.le_of_eq s0.symm) hg.size))); clear hp hg) | (go_at_call 108; (with_reducible refine (HT.out _ H1.out.1).mono ?_); rintro e w2 ⟨v, rfl, ⟨tb, capc, rfl, h1, h2, h3, h4⟩, hp, hg⟩; have T2 : Hid (RuleAt w (w2.alloc (ruO (.slice (some ⟨tb, 0, none⟩) cs.length capc) 1 (.slice none 0 0) 0 0 0 0 0 0)) b s 0 k w2.heap.size tb capc cs (.plain 1) none 0 0 0) := Lib.hid (rule_new hlt HR0.out HG0.out s0 H1.out.2.1 hg hp h1 h2 h4); have hE : w.heap.size < w2.heap.size := Nat.lt_of_lt_of_le (Nat.lt_of_lt_of_le (Nat.lt_of_succ_le H1.out.2.2) (Nat.le_refl _)) hg.size; clear h1 h2 h3 h4 hp hg) | (go_at_call 78; (with_reducible refine (HS.out _ T2.out.at_).mono ?_); rintro e w3 ⟨rfl, rfl⟩; have T4 := Lib.hid T2.out) | (go_at_call 50; (with_reducible refine (HD4.out _ T4.out.at_).mono ?_); rintro e w5 ⟨v, rfl, rfl, hp, hg⟩; have T5 := Lib.hid (T4.out.call hp hg); clear hp hg) | (go_at_call 52; (with_reducible refine (HV.out _ T5.out.at_).mono ?_); rintro e w6 ⟨v, rfl, rfl, hp, hg⟩; have hc := T5.out.call hp hg; have f7 := cell6 hc.box 7 rfl; have f8 := cell6 hc.box 8 rfl; have x7 := frozen6 hc.box 7; have x8 := frozen6 hc.box 8; have T6 := Lib.hid (hc.setVerd (k' := k1) (n' := (n1 : Int))); clear hc hp hg) | (go_at_call 50; (with_reducible refine (HD6.out _ T6.out.at_).mono ?_); rintro e w7 ⟨rfl, hg⟩; have HY := Lib.hid (grown_trans T6.out.gr hg); clear hg))
              exact ⟨rfl, rfl, HY.out⟩
            · have HD6 := Lib.hid hD6
              clear hD6
              show Calls _ _ _ _ (GotP (RuP w.heap.size) s w b 0 .out)
              go_enter Tryz.func85, Tryz.ntmps85
              go_wp2_with (first | (go_at_call 50; (with_reducible refine (HD1.out).mono ?_); rintro e w1 ⟨v, rfl, rfl, hp, hg⟩; have H1 := Lib.hid (And.intro hp (And.intro hg (Nat.le_trans (Nat.le_of_eq s0.symm) hg.size))); clear hp hg) | (go_at_call 108; (with_reducible refine (HT.out _ H1.out.1).mono ?_); rintro e w2 ⟨v, rfl, ⟨tb, capc, rfl, h1, h2, h3, h4⟩, hp, hg⟩; have T2 : Hid (RuleAt w (w2.alloc (ruO (.slice (some ⟨tb, 0, none⟩) cs.length capc) 1 (.slice none 0 0) 0 0 0 0 0 0)) b s 0 k w2.heap.size tb capc cs (.plain 1) none 0 0 0) := Lib.hid (rule_new hlt HR0.out HG0.out s0 H1.out.2.1 hg hp h1 h2 h4); have hE : w.heap.size < w2.heap.size := Nat.lt_of_lt_of_le (Nat.lt_of_lt_of_le (Nat.lt_of_succ_le H1.out.2.2) (Nat.le_refl _)) hg.size; clear h1 h2 h3 h4 hp hg) | (go_at_call 78; (with_reducible refine (HS.out _ T2.out.at_).mono ?_); rintro e w3 ⟨rfl, rfl⟩; have T4 := Lib.hid T2.out) | (go_at_call 50; (with_reducible refine (HD4.out _ T4.out.at_).mono ?_); rintro e w5 ⟨v, rfl, rfl, hp, hg⟩; have T5 := Lib.hid (T4.out.call hp hg); clear hp hg) | (go_at_call 52; (with_reducible refine (HV.out _ T5.out.at_).mono ?_); rintro e w6 ⟨v, rfl, rfl, hp, hg⟩; have hc := T5.out.call hp hg; have f7 := cell6 hc.box 7 rfl; have f8 := cell6 hc.box 8 rfl; have x7 := frozen6 hc.box 7; have x8 := frozen6 hc.box 8; have T6 := Lib.hid (hc.setVerd (k' := k1) (n' := (n1 : Int))); clear hc hp hg) | (go_at_call 50; (with_reducible refine (HD6.out _ T6.out.at_).mono ?_); intro e w7 hF; exact hF.elim))
          · have HV := Lib.hid hV
            clear hV hf5
            show Calls _ _ _ _ (GotP (RuP w.heap.size) s w b 0 (.bad er p))
            go_enter Tryz.func85, Tryz.ntmps85
            go_wp2_with (first | (go_at_call 50; (with_reducible refine (HD1.out).mono ?_); rintro e w1 ⟨v, rfl, rfl, hp, hg⟩; have H1 := Lib.hid (And.intro hp (And.intro hg (Nat.le_trans (Nat.le_of_eq s0.symm) hg.size))); clear hp hg) | (go_at_call 108; (with_reducible refine (HT.out _ H1.out.1).mono ?_); rintro e w2 ⟨v, rfl, ⟨tb, capc, rfl, h1, h2, h3, h4⟩, hp, hg⟩; have T2 : Hid (RuleAt w (w2.alloc (ruO (.slice (some ⟨tb, 0, none⟩) cs.length capc) 1 (.slice none 0 0) 0 0 0 0 0 0)) b s 0 k w2.heap.size tb capc cs (.plain 1) none 0 0 0) := Lib.hid (rule_new hlt HR0.out HG0.out s0 H1.out.2.1 hg hp h1 h2 h4); have hE : w.heap.size < w2.heap.size := Nat.lt_of_lt_of_le (Nat.lt_of_lt_of_le (Nat.lt_of_succ_le H1.out.2.2) (Nat.le_refl _)) hg.size; clear h1 h2 h3 h4 hp hg) | (go_at_call 78; (with_reducible refine (HS.out _ T2.out.at_).mono ?_); rintro e w3 ⟨rfl, rfl⟩; have T4 := Lib.hid T2.out) | (go_at_call 50; (with_reducible refine (HD4.out _ T4.out.at_).mono ?_); rintro e w5 ⟨v, rfl, rfl, hp, hg⟩; have T5 := Lib.hid (T4.out.call hp hg); clear hp hg) | (go_at_call 52; (with_reducible refine (HV.out _ T5.out.at_).mono ?_); rintro e w6 ⟨rfl, hg⟩; have HY := Lib.hid (grown_trans T5.out.gr hg); clear hg))
            exact ⟨rfl, rfl, HY.out⟩
          · have HV := Lib.hid hV
            clear hV hf5
            show Calls _ _ _ _ (GotP (RuP w.heap.size) s w b 0 .out)
            go_enter Tryz.func85, Tryz.ntmps85
            go_wp2_with (first | (go_at_call 50; (with_reducible refine (HD1.out).mono ?_); rintro e w1 ⟨v, rfl, rfl, hp, hg⟩; have H1 := Lib.hid (And.intro hp (And.intro hg (Nat.le_trans (Nat.le_of_eq s0.symm) hg.size))); clear hp hg) | (go_at_call 108; (with_reducible refine (HT.out _ H1.out.1).mono ?_); rintro e w2 ⟨v, rfl, ⟨tb, capc, rfl, h1, h2, h3, h4⟩, hp, hg⟩; have T2 : Hid (RuleAt w (w2.alloc (ruO (.slice (some ⟨tb, 0, none⟩) cs.length capc) 1 (.slice none 0 0) 0 0 0 0 0 0)) b s 0 k w2.heap.size tb capc cs (.plain 1) none 0 0 0) := Lib.hid (rule_new hlt HR0.out HG0.out s0 H1.out.2.1 hg hp h1 h2 h4); have hE : w.heap.size < w2.heap.size := Nat.lt_of_lt_of_le (Nat.lt_of_lt_of_le (Nat.lt_of_succ_le H1.out.2.2) (Nat.le_refl _)) hg.size; clear h1 h2 h3 h4 hp hg) | (go_at_call 78; (with_reducible refine (HS.out _ T2.out.at_).mono ?_); rintro e w3 ⟨rfl, rfl⟩; have T4 := Lib.hid T2.out) | (go_at_call 50; (with_reducible refine (HD4.out _ T4.out.at_).mono ?_); rintro e w5 ⟨v, rfl, rfl, hp, hg⟩; have T5 := Lib.hid (T4.out.call hp hg); clear hp hg) | (go_at_call 52; (with_reducible refine (HV.out _ T5.out.at_).mono ?_); intro e w6 hF; exact hF.elim))
        · have HD4 := Lib.hid hD4
          clear hD4 hf4
          show Calls _ _ _ _ (GotP (RuP w.heap.size) s w b 0 (.bad er p))
          go_enter Tryz.func85, Tryz.ntmps85
          go_wp2_with (first | (go_at_call 50; (with_reducible refine (HD1.out).mono ?_); rintro e w1 ⟨v, rfl, rfl, hp, hg⟩; have H1 := Lib.hid (And.intro hp (And.intro hg (Nat.le_trans (Nat.le_of_eq s0.symm) hg.size))); clear hp hg) | (go_at_call 108; (with_reducible refine (HT.out _ H1.out.1).mono ?_); rintro e w2 ⟨v, rfl, ⟨tb, capc, rfl, h1, h2, h3, h4⟩, hp, hg⟩; have T2 : Hid (RuleAt w (w2.alloc (ruO (.slice (some ⟨tb, 0, none⟩) cs.length capc) 1 (.slice none 0 0) 0 0 0 0 0 0)) b s 0 k w2.heap.size tb capc cs (.plain 1) none 0 0 0) := Lib.hid (rule_new hlt HR0.out HG0.out s0 H1.out.2.1 hg hp h1 h2 h4); have hE : w.heap.size < w2.heap.size := Nat.lt_of_lt_of_le (Nat.lt_of_lt_of_le (Nat.lt_of_succ_le H1.out.2.2) (Nat.le_refl _)) hg.size; clear h1 h2 h3 h4 hp hg) | (go_at_call 78; (with_reducible refine (HS.out _ T2.out.at_).mono ?_); rintro e w3 ⟨rfl, rfl⟩; have T4 := Lib.hid T2.out) | (go_at_call 50; (with_reducible refine (HD4.out _ T4.out.at_).mono ?_); rintro e w5 ⟨rfl, hg⟩; have HY := Lib.hid (grown_trans T4.out.gr hg); clear hg))
          exact ⟨rfl, rfl, HY.out⟩
        · have HD4 := Lib.hid hD4
          clear hD4 hf4
          show Calls _ _ _ _ (GotP (RuP w.heap.size) s w b 0 .out)
          go_enter Tryz.func85, Tryz.ntmps85
          go_wp2_with (first | (go_at_call 50; (with_reducible refine (HD1.out).mono ?_); rintro e w1 ⟨v, rfl, rfl, hp, hg⟩; have H1 := Lib.hid (And.intro hp (And.intro hg (Nat.le_trans (Nat.le_of_eq s0.symm) hg.size))); clear hp hg) | (go_at_call 108; (with_reducible refine (HT.out _ H1.out.1).mono ?_); rintro e w2 ⟨v, rfl, ⟨tb, capc, rfl, h1, h2, h3, h4⟩, hp, hg⟩; have T2 : Hid (RuleAt w (w2.alloc (ruO (.slice (some ⟨tb, 0, none⟩) cs.length capc) 1 (.slice none 0 0) 0 0 0 0 0 0)) b s 0 k w2.heap.size tb capc cs (.plain 1) none 0 0 0) := Lib.hid (rule_new hlt HR0.out HG0.out s0 H1.out.2.1 hg hp h1 h2 h4); have hE : w.heap.size < w2.heap.size := Nat.lt_of_lt_of_le (Nat.lt_of_lt_of_le (Nat.lt_of_succ_le H1.out.2.2) (Nat.le_refl _)) hg.size; clear h1 h2 h3 h4 hp hg) | (go_at_call 78; (with_reducible refine (HS.out _ T2.out.at_).mono ?_); rintro e w3 ⟨rfl, rfl⟩; have T4 := Lib.hid T2.out) | (go_at_call 50; (with_reducible refine (HD4.out _ T4.out.at_).mono ?_); intro e w5 hF; exact hF.elim))
    · have HT := Lib.hid hT
      clear hT hf2
      show Calls _ _ _ _ (GotP (RuP w.heap.size) s w b 0 (.bad er p))
      go_enter Tryz.func85, Tryz.ntmps85
      go_wp2_with (first | (go_at_call 50; (with_reducible refine (HD1.out).mono ?_); rintro e w1 ⟨v, rfl, rfl, hp, hg⟩; have H1 := Lib.hid (And.intro hp (And.intro hg (Nat.le_trans (Nat.le_of_eq s0.symm) hg.size))); clear hp hg) | (go_at_call 108; (with_reducible refine (HT.out _ H1.out.1).mono ?_); rintro e w2 ⟨rfl, hg⟩; have HY := Lib.hid (grown_trans (grown_trans HG0.out H1.out.2.1) hg); clear hg))
      exact ⟨rfl, rfl, HY.out⟩
    · have HT := Lib.hid hT
      clear hT hf2
      show Calls _ _ _ _ (GotP (RuP w.heap.size) s w b 0 .out)
      go_enter Tryz.func85, Tryz.ntmps85
      go_wp2_with (first | (go_at_call 50; (with_reducible refine (HD1.out).mono ?_); rintro e w1 ⟨v, rfl, rfl, hp, hg⟩; have H1 := Lib.hid (And.intro hp (And.intro hg (Nat.le_trans (Nat.le_of_eq s0.symm) hg.size))); clear hp hg) | (go_at_call 108; (with_reducible refine (HT.out _ H1.out.1).mono ?_); intro e w2 hF; exact hF.elim))
  · have HD1 := Lib.hid hD1
    clear hD1 hf1
    show Calls _ _ _ _ (GotP (RuP w.heap.size) s w b 0 (.bad er p))
    go_enter Tryz.func85, Tryz.ntmps85
    go_wp2_with (first | (go_at_call 50; (with_reducible refine (HD1.out).mono ?_); rintro e w1 ⟨rfl, hg⟩; have HY := Lib.hid (grown_trans HG0.out hg); clear hg))
    exact ⟨rfl, rfl, HY.out⟩
  · have HD1 := Lib.hid hD1
    clear hD1 hf1
    show Calls _ _ _ _ (GotP (RuP w.heap.size) s w b 0 .out)
    go_enter Tryz.func85, Tryz.ntmps85
    go_wp2_with (first | (go_at_call 50; (with_reducible refine (HD1.out).mono ?_); intro e w1 hF; exact hF.elim))
end Go.Proofs.YtgeapkjegemkeaaGreatDoor
namespace Go.Proofs.YtgeapkjegemkeaaGreatDoor
open Go Go.RowKit
set_option linter.unusedSimpArgs false
set_option linter.unusedVariables false

/-- Rules in a row. -/
def RuRow (w : World) (F : Nat → Prop) : List Ru → Nat → Nat → Prop
  | [], _, _ => True
  | r :: l, tb, o => (∃ t capc A cap, RuIn w F r t A cap ∧ ∀ j u, (ruC r t capc A cap)[j]? = some u → w.cell? ⟨tb, o + j, none⟩ = some u) ∧ RuRow w F l tb (o + 9)
theorem RuRow.keep {w w' : World} {F G : Nat → Prop} (hs : w.heap.size ≤ w'.heap.size) (hF : ∀ k, F k → G k) (hk : ∀ k, F k → k < w.heap.size → w'.heap[k]? = w.heap[k]?) {tb : Nat} (hf : F tb) (ht : tb < w.heap.size) : ∀ {l : List Ru} {o : Nat}, RuRow w F l tb o → RuRow w' G l tb o
  | [], _, _ => trivial
  | r :: l, o, ⟨⟨t, c, A, cap, h1, h2⟩, h3⟩ => ⟨⟨t, c, A, cap, h1.keep hs hF hk, fun j u hj => (World.cell?_of_block (a := ⟨tb, o + j, none⟩) (hk tb hf ht)).trans (h2 j u hj)⟩, RuRow.keep hs hF hk hf ht h3⟩
def ChunksR (w : World) (F : Nat → Prop) : List Ru → List Value → Prop
  | [], xs => xs = []
  | r :: l, xs => ∃ t capc A cap ys, RuIn w F r t A cap ∧ xs = ruC r t capc A cap ++ ys ∧ ChunksR w F l ys
theorem ChunksR.keep {w w' : World} {F G : Nat → Prop} (hs : w.heap.size ≤ w'.heap.size) (hF : ∀ k, F k → G k) (hk : ∀ k, F k → k < w.heap.size → w'.heap[k]? = w.heap[k]?) : ∀ {l : List Ru} {xs : List Value}, ChunksR w F l xs → ChunksR w' G l xs
  | [], _, h => h
  | r :: l, xs, ⟨t, c, A, cap, ys, h1, h2, h3⟩ => ⟨t, c, A, cap, ys, h1.keep hs hF hk, h2, h3.keep hs hF hk⟩
theorem ru_lt {w : World} {F : Nat → Prop} {r : Ru} {t : Nat} {A : Option Addr} {cap : Nat} (h : RuIn w F r t A cap) : RuIn w (fun k => F k ∧ k < w.heap.size) r t A cap := ⟨⟨⟨h.1.1, h.1.2.1⟩, h.1.2⟩, ex_lt h.2⟩
theorem chunksR_lt {w : World} {F : Nat → Prop} : ∀ {l : List Ru} {xs : List Value}, ChunksR w F l xs → ChunksR w (fun k => F k ∧ k < w.heap.size) l xs
  | [], _, h => h
  | r :: l, xs, ⟨t, c, A, cap, ys, h1, h2, h3⟩ => ⟨t, c, A, cap, ys, ru_lt h1, h2, chunksR_lt h3⟩
theorem ChunksR.snoc {w : World} {F : Nat → Prop} {r : Ru} {t capc : Nat} {A : Option Addr} {cap : Nat} (he : RuIn w F r t A cap) : ∀ {l : List Ru} {xs : List Value}, ChunksR w F l xs → ChunksR w F (l ++ [r]) (xs ++ ruC r t capc A cap)
  | [], xs, h => by
    have : xs = [] := h
    subst this
    exact ⟨t, capc, A, cap, [], he, by simp, rfl⟩
  | x :: l, xs, ⟨t', c', A', cap', ys, h1, h2, h3⟩ => ⟨t', c', A', cap', ys ++ ruC r t capc A cap, h1, by rw [h2, List.append_assoc], h3.snoc he⟩
theorem ChunksR.row {w : World} {F : Nat → Prop} {tb : Nat} : ∀ {l : List Ru} {xs : List Value} {o : Nat}, ChunksR w F l xs → (∀ j u, xs[j]? = some u → w.cell? ⟨tb, o + j, none⟩ = some u) → RuRow w F l tb o
  | [], _, _, _, _ => trivial
  | r :: l, xs, o, ⟨t, c, A, cap, ys, h1, h2, h3⟩, hc => by
    subst h2
    refine ⟨⟨t, c, A, cap, h1, fun j u hj => hc j u ?_⟩, h3.row (fun j u hj => ?_)⟩
    · have hlt : j < (ruC r t c A cap).length := (List.getElem?_eq_some_iff.1 hj).1
      rw [List.getElem?_append_left hlt]; exact hj
    · have := hc (9 + j) u (by
        rw [List.getElem?_append_right (by simp [ruC])]
        have : 9 + j - (ruC r t c A cap).length = j := by simp [ruC]
        rw [this]; exact hj)
      rw [show o + 9 + j = o + (9 + j) by omega]; exact this
theorem ru_one {r : Ru} {t capc : Nat} {A : Option Addr} {cap : Nat} : ∀ u ∈ ruC r t capc A cap, u.oneCell' = true := by
  intro u hu
  simp only [ruC, List.mem_cons, List.not_mem_nil, or_false] at hu
  rcases hu with rfl | rfl | rfl | rfl | rfl | rfl | rfl | rfl | rfl <;> rfl
abbrev ruCells (r : Ru) (tb capc : Nat) (A : Option Addr) (cap : Nat) : Obj := .cells #[.slice (some ⟨tb, 0, none⟩) r.calls.length capc, .int .i64 r.when_.op, .slice A r.when_.args.length cap, .int .i64 r.when_.field, .int .u64 (r.when_.mask : Int), .int .i64 r.when_.rel, .int .u64 (r.when_.value : Int), .int .i64 r.do_.1, .int .u64 (r.do_.2 : Int)] 88
theorem ru_cells (w : World) (B : Nat) (hB : B = w.heap.size) (r : Ru) (t capc : Nat) (A : Option Addr) (cap : Nat) (j : Nat) (u : Value) (h : (ruC r t capc A cap)[j]? = some u) : (w.alloc (ruCells r t capc A cap)).cell? ((⟨B, 0, none⟩ : Addr).add j) = some u := by
  subst hB
  rw [addr_add, Nat.zero_add]
  refine cell6 (World.alloc_heap_new w _) j ?_
  rw [← List.getElem?_toArray] at h
  exact h
theorem info_ru : (Tryz.prog.info? 88).map (fun i => (i.zero, i.size, i.bytes)) = some (some (.agg #[.slice none 0 0, .int .i64 0, .slice none 0 0, .int .i64 0, .int .u64 0, .int .i64 0, .int .u64 0, .int .i64 0, .int .u64 0]), 9, 104) := by kernel_rfl
/-- Rules, as a slice. -/
def RulesP (lo : Nat) (l : List Ru) (v : Value) (W : World) : Prop := (l = [] ∧ v = .slice none 0 0) ∨ ∃ tb cap, v = .slice (some ⟨tb, 0, none⟩) l.length cap ∧ lo ≤ tb ∧ tb < W.heap.size ∧ RuRow W (fun k => lo ≤ k) l tb 0
/-- What has been read. -/
structure TurnR (s : ByteArray) (w wr : World) (b n : Nat) (g : Got (List Ru)) (v : Value) (l : List Ru) (xs : List Value) (m i : Nat) : Prop where
  lt : i < (srcF s).toks.length
  fuel : (srcF s).toks.length - i < m
  len : l.length ≤ 512
  rest : g = rulesG (srcF s) n m l i
  at_ : PAt wr b s (tk (srcF s) i) 0
  grown : w.grownBy wr (some b)
  own : wr.ownsRow w.heap.size 88 9 v l.length xs
  chunks : ChunksR wr (fun k => w.heap.size ≤ k ∧ some k ≠ v.ownBlock) l xs
section
variable {s : ByteArray} {w wr wb wd : World} {b n : Nat} {g : Got (List Ru)} {v v' : Value} {l : List Ru} {xs : List Value} {m i k : Nat} {r : Ru} {t capc : Nat} {A : Option Addr} {cap : Nat} {O : Obj}
theorem rows_done (h : TurnR s w wr b n g v l xs m i) : RulesP w.heap.size l v wr := by
  rcases h.own.2 with ⟨hv, h0⟩ | ⟨tb, cap, cur, hv, hlo, hh, _, _, hs, ht⟩
  · exact .inl ⟨List.length_eq_zero_iff.1 h0, hv⟩
  · subst hv
    refine .inr ⟨tb, cap, rfl, hlo, (Array.getElem?_eq_some_iff.1 hh).1, ?_⟩
    refine (h.chunks.keep (Nat.le_refl _) (fun k hk => hk.1) (fun _ _ _ => rfl)).row (fun j u hj => ?_)
    rw [Nat.zero_add, World.ownsRow.cellAt h.own j (by rw [← h.own.1]; exact (List.getElem?_eq_some_iff.1 hj).1)]
    exact hj
theorem turn_ownR (h : TurnR s w wr b n g v l xs m i) (hb : b < w.heap.size) (hB : wr.grownBy wb (some b)) : (wb.alloc O).ownsRow w.heap.size 88 9 v l.length xs := by
  have hne : v.ownBlock = none ∨ v.ownBlock ≠ some b := by
    rcases hv : v.ownBlock with _ | c
    · exact .inl rfl
    · exact .inr (fun e => by injection e with e; have := (h.own.lt c hv).1; omega)
  exact own_below (h.own.kept (row := some b) hB hne) (lbox wb O)
theorem turn_onR (h : TurnR s w wr b n g v l xs (m + 1) i) (hb : b < w.heap.size) (hk1 : ¬ (tk (srcF s) i).kind = 1) (h512 : l.length < 512) (hx : ruleG (srcF s) n i = .ok r k) (hfw : i + 1 ≤ k ∧ k < (srcF s).toks.length)
    (hB : wr.grownBy wb (some b)) (hp : PAt wb b s (tk (srcF s) k) 0) (he : RuIn wb (fun k => wr.heap.size ≤ k) r t A cap)
    (ho : wd.ownsRow w.heap.size 88 9 v' (l.length + 1) (xs ++ ruC r t capc A cap)) (hg : (wb.alloc O).grownBy wd v.ownBlock) (hv : v'.ownBlock = v.ownBlock ∨ v'.ownBlock = some (wb.alloc O).heap.size) :
    TurnR s w wd b n g v' (l ++ [r]) (xs ++ ruC r t capc A cap) m k := by
  have hsz : (wb.alloc O).heap.size = wb.heap.size + 1 := by simp
  have hvl : ∀ c, v.ownBlock = some c → w.heap.size ≤ c ∧ c < wr.heap.size := fun c e => h.own.lt c e
  have hbl : b < wb.heap.size := hp.lt
  have keep : ∀ c, c < wb.heap.size → some c ≠ v.ownBlock → wd.heap[c]? = wb.heap[c]? := fun c hc hne => (hg.block c (by omega) hne).trans (Below.heap_alloc wb O c hc)
  have hbo : some b ≠ v.ownBlock := fun e => by have := hvl b e.symm; omega
  have size2 := hB.size
  have size0 := h.grown.size
  have size3 := hg.size
  refine ⟨hfw.2, by have := h.fuel; omega, by rw [List.length_append]; simp only [List.length_cons, List.length_nil]; omega, ?_, ?_, ?_, ?_, ?_⟩
  · rw [h.rest]
    show (if (tk (srcF s) i).kind = 1 then _ else if l.length = 512 ∧ (tk (srcF s) i).text = bOn then _ else (ruleG (srcF s) n i).andThen _) = _
    rw [if_neg hk1, if_neg (fun e => by omega), hx]; rfl
  · exact World.rowIs.of_block hp (keep b hbl hbo)
  · refine ⟨hg.os.trans ((grown_trans h.grown hB).os), hg.tape.trans ((grown_trans h.grown hB).tape), hg.output.trans ((grown_trans h.grown hB).output), by omega, fun c hc hne => ?_⟩
    exact (keep c (by omega) (fun e => by have := hvl c e.symm; omega)).trans ((grown_trans h.grown hB).block c hc hne)
  · rw [List.length_append]; exact ho
  · have c1 := (chunksR_lt h.chunks).keep (w' := wd) (G := fun c => w.heap.size ≤ c ∧ some c ≠ v'.ownBlock) (by omega) (fun c hc => ⟨hc.1.1, fun e => by
      rcases hv with hv | hv
      · exact hc.1.2 (e.trans hv)
      · rw [hv, hsz] at e; injection e with e; have := hc.2; omega⟩) (fun c hc _ => by
        have hc2 := hc.2
        have hc1 := hc.1.1
        exact (keep c (by omega) hc.1.2).trans (hB.block c hc2 (fun e => by injection e with e; omega)))
    have c2 := (ru_lt he).keep (w' := wd) (G := fun c => w.heap.size ≤ c ∧ some c ≠ v'.ownBlock) (by omega) (fun c hc => ⟨by have := hc.1; omega, fun e => by
      rcases hv with hv | hv
      · have := hvl c (hv.symm.trans e.symm); have := hc.1; omega
      · rw [hv, hsz] at e; injection e with e; have := hc.2; omega⟩) (fun c hc _ => keep c hc.2 (fun e => by have := hvl c e.symm; have := hc.1; omega))
    exact c1.snoc c2
end
theorem rule_on {S : Src} {n i : Nat} (h : ¬ (tk S i).text = bOn) : ruleG S n i = .bad 61 (tk S i).pos := by
  unfold ruleG demandG
  rw [if_neg h]; rfl
theorem fwd_rule {S : Src} (n i : Nat) : Fwd S 1 i (ruleG S n i) :=
  (fwd_demand bOn i).andThen (m := 0) fun _ j hj => ((fwd_byTurns bComma (fun i _ => fwd_call i) n j hj).andThen (m := 0) fun cs k hk => (show Fwd S 0 k (whenG S n k) from .ite (((fwd_adv k ()).andThen (m := 1) fun _ j hj => fwd_expr n 0 j hj).le (Nat.zero_le _)) (fwd_ok hk _)).andThen (m := 0) fun e l hl =>
    ((fwd_demand bDo l).andThen (m := 0) fun _ m hm => ((fwd_verd m).andThen (m := 0) fun v o ho => ((fwd_demand bSemi o).andThen (m := 0) fun _ p hp => fwd_ok hp _).le (Nat.zero_le _)).le (Nat.zero_le _)).le (Nat.zero_le _)).le (Nat.zero_le _)
set_option maxHeartbeats 4000000 in
set_option maxRecDepth 100000 in
theorem pp_rules (w : World) (b : Nat) (s : ByteArray) (n i : Nat) (hsm : (srcF s).toks.length ≤ 65537) (hn : (srcF s).toks.length < n) (hi : i < (srcF s).toks.length) (h : PAt w b s (tk (srcF s) i) 0) :
    Calls Tryz.prog 53 #[.pointer (some ⟨b, 0, none⟩)] w (GotP (RulesP w.heap.size) s w b 0 (rulesG (srcF s) n n [] i)) := by
  have hlt := h.lt
  have hI : TurnR s w w b n (rulesG (srcF s) n n [] i) (.slice none 0 0) [] [] n i := ⟨hi, by omega, by simp, rfl, h, World.grownBy.refl w _, World.ownsRow_nil w _ _ _, rfl⟩
  have hRule := Lib.hid (fun (W : World) (j : Nat) (hj : j < (srcF s).toks.length) hp => pp_rule W b s n j hsm hn hj hp)
  generalize rulesG (srcF s) n n [] i = g at hI ⊢
  have HI := Lib.hid hI
  clear hI h
  go_enter Tryz.func53, Tryz.ntmps53
  go_wp2
  go_loopw [3] (fun v wr => ∃ l xs m k, TurnR s w wr b n g v l xs m k) (fun v _ => 513 - sliceLen v)
  case atStart => exact ⟨_, _, _, _, HI.out⟩
  case round =>
    obtain ⟨l, xs, m, k, hT⟩ := hrel
    obtain ⟨m, rfl⟩ : ∃ m', m = m' + 1 := ⟨m - 1, by have := hT.fuel; omega⟩
    have hk := hT.lt
    have hll := hT.len
    have HL := Lib.hid (own_len hT.own)
    have HT := Lib.hid hT
    obtain ⟨A0, cap0, rfl⟩ : ∃ A cap, u3 = .slice A l.length cap := by
      rcases hT.own.2 with ⟨rfl, h0⟩ | ⟨gb, cap, cur, rfl, _⟩
      · exact ⟨none, 0, by rw [h0]⟩
      · exact ⟨_, _, rfl⟩
    have c1 : wr.cell? ⟨b, 1, none⟩ = some (.int .i64 (tk (srcF s) k).kind) := World.rowIs.cell hT.at_ (i := 1) (by decide)
    have hrest := hT.rest
    have hat := hT.at_
    unfold rulesG at hrest
    clear HI hT
    by_cases hk1 : (tk (srcF s) k).kind = 1
    · have hkb : ((tk (srcF s) k).kind != 1) = false := by rw [hk1]; rfl
      rw [if_pos hk1] at hrest
      have HRS := Lib.hid hrest
      clear hrest hk1 hat
      go_wp2
      go_ret
      rw [HRS.out]
      exact ⟨_, rfl, rows_done HT.out, HT.out.at_, HT.out.grown⟩
    · have hkb : ((tk (srcF s) k).kind != 1) = true := bne_iff_ne.2 hk1
      rw [if_neg hk1] at hrest
      have HK1 := Lib.hid hk1
      clear hk1
      by_cases h5 : l.length = 512
      · have h5b : ((l.length : Int) == 512) = true := by rw [h5]; rfl
        have h5c : (l.length == 512) = true := by rw [h5]; rfl
        by_cases ht : (tk (srcF s) k).text = bOn
        · rw [if_pos ⟨h5, ht⟩] at hrest
          have HRS := Lib.hid hrest
          have HA := Lib.hid (pp_at_yes wr b s k 0 hat ⟨#[111, 110]⟩ ht)
          have HR := Lib.hid (pp_refuse wr b s _ 0 hat 63)
          clear hrest h5 ht hat
          go_wp2_with (first | (go_at_call 84; (with_reducible refine HA.out.mono ?_); rintro e w1 ⟨rfl, rfl⟩) | (go_at_call 60; (with_reducible refine HR.out.mono ?_); rintro e w1 ⟨rfl, hg⟩; have HX := Lib.hid (grown_trans HT.out.grown hg); clear hg))
          exact ⟨rfl, by rw [HRS.out]; exact ⟨rfl, HX.out⟩⟩
        · rw [if_neg (fun e => ht e.2), rule_on ht] at hrest
          have HRS : Hid (g = .bad 61 (tk (srcF s) k).pos) := Lib.hid hrest
          have HA := Lib.hid (pp_at_no wr b s k 0 hat ⟨#[111, 110]⟩ ht)
          have hO := hRule.out wr k hk hat
          rw [rule_on ht] at hO
          have HO := Lib.hid hO
          clear hrest h5 ht hat hO
          go_wp2_with (first | (go_at_call 84; (with_reducible refine HA.out.mono ?_); rintro e w1 ⟨rfl, rfl⟩) | (go_at_call 85; (with_reducible refine HO.out.mono ?_); rintro e w1 ⟨rfl, hg⟩; have HX := Lib.hid (grown_trans HT.out.grown hg); clear hg))
          exact ⟨rfl, by rw [HRS.out]; exact ⟨rfl, HX.out⟩⟩
      · have h5b : ((l.length : Int) == 512) = false := beq_false_of_ne (by omega)
        have h5c : (l.length == 512) = false := beq_false_of_ne h5
        rw [if_neg (fun e => h5 e.1)] at hrest
        have hO := hRule.out wr k hk hat
        have hfk := fwd_rule (S := srcF s) n k
        have h512 : l.length < 512 := by omega
        clear h5 hat
        rcases hg1 : ruleG (srcF s) n k with ⟨r, j⟩ | ⟨er, p⟩ | _
        · rw [hg1] at hO hrest hfk
          have hj := hfk r j rfl
          have HO := Lib.hid hO
          have HG1 := Lib.hid hg1
          have HJ := Lib.hid hj
          clear hO hrest hfk hg1 hj
          go_wp2_with (first | (go_at_call 85; (with_reducible refine HO.out.mono ?_); rintro e wb ⟨v, rfl, ⟨t, capc, A, cap, rfl, hx⟩, hp, hg⟩; have HB := Lib.hid (And.intro hx (And.intro hp hg)); clear hx hp hg) | (at_builtin; refine wpList_append_own _ rfl (.tmp 19) (.tmp 22) 27 rfl 88 (.agg #[.slice none 0 0, .int .i64 0, .slice none 0 0, .int .i64 0, .int .u64 0, .int .i64 0, .int .u64 0, .int .i64 0, .int .u64 0]) 9 104 Tryz.underlying27 info_ru rfl (by decide) w.heap.size (.slice A0 l.length cap0) l.length xs rfl (turn_ownR HT.out hlt HB.out.2.2) ⟨wb.heap.size, 0, none⟩ 1 1 (ruC r t capc A cap) rfl rfl (ru_cells _ _ rfl _ _ _ _ _) ru_one (by unfold maxLen; omega) (by omega) (by have h1 := HT.out.grown.size; have h3 := HB.out.2.2.size; simp; omega) ?_; intro v' wd ho hg hv; have HW := Lib.hid (turn_onR HT.out hlt HK1.out h512 HG1.out HJ.out HB.out.2.2 HB.out.2.1 HB.out.1 ho hg hv); clear ho hg hv))
          exact ⟨⟨_, _, _, j, HW.out⟩, by rw [HL.out, own_len HW.out.own, List.length_append]; simp only [List.length_cons, List.length_nil]; omega⟩
        · rw [hg1] at hO hrest
          have HO := Lib.hid hO
          have HRS : Hid (g = .bad er p) := Lib.hid hrest
          clear hO hrest hfk hg1
          go_wp2_with (first | (go_at_call 85; (with_reducible refine HO.out.mono ?_); rintro e w1 ⟨rfl, hg⟩; have HX := Lib.hid (grown_trans HT.out.grown hg); clear hg))
          exact ⟨rfl, by rw [HRS.out]; exact ⟨rfl, HX.out⟩⟩
        · rw [hg1] at hO
          have HO := Lib.hid hO
          clear hO hrest hfk hg1
          go_wp2_with (first | (go_at_call 85; (with_reducible refine HO.out.mono ?_); intro e w1 hF; exact hF.elim))
end Go.Proofs.YtgeapkjegemkeaaGreatDoor
