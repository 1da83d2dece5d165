/-
  Maps whose contents are told by a function: laws of their operations, ranging among them. Conditions: those that each names.
-/
import Derived.Maps.Own
import Derived.Test.YtoajommeiocfpaaDoorRows
import Derived.Maps.RangeWalk
namespace Go.Proofs.YtoajommeiocfpaaDoor
open Go Go.RowKit
open Go.WideElems (Fit rd rg pl rd_key rd_val rg_of rd_mk)
open Go.Maps (Keyed)
open Go.ChangeMaps (putKey notKey)
set_option linter.unusedSimpArgs false
set_option linter.unusedVariables false

abbrev heldR (v : Value) : Option (DataW Value × List MemPlace) := some (.held v, [])
/-- What stands in a map's list, as a function of the key. -/
def ReadsM (P : Program) (k : TypeId) (f : Value → Option Value) (l : List (Lit × DataW Value)) : Prop :=
  (∀ key kl v, keyOf P k key = some kl → ((kl, DataW.held v) ∈ l ↔ f key = some v)) ∧ ∀ p ∈ l, ∃ key v, keyOf P k key = some p.1 ∧ p.2 = .held v
/-- Block b is a map of at most n entries that holds what f says. -/
def MapIs (P : Program) (k : TypeId) (w : World) (b n : Nat) (f : Value → Option Value) : Prop :=
  ∃ l, w.ownsMap P k heldR b n (.map l) ∧ ReadsM P k f l
theorem MapIs.lt {P : Program} {k : TypeId} {w : World} {b n : Nat} {f : Value → Option Value} (h : MapIs P k w b n f) : b < w.heap.size := by
  obtain ⟨l, h, _⟩ := h; exact h.lt
theorem MapIs.kept {P : Program} {k : TypeId} {w w' : World} {b n : Nat} {f : Value → Option Value} (h : MapIs P k w b n f) {row : Option Nat} (hg : w.grownBy w' row) (hne : some b ≠ row) : MapIs P k w' b n f := by
  obtain ⟨l, h, r⟩ := h; exact ⟨l, h.kept hg hne, r⟩
theorem MapIs.mono {P : Program} {k : TypeId} {w : World} {b n m : Nat} {f : Value → Option Value} (h : MapIs P k w b n f) (hm : n ≤ m) : MapIs P k w b m f := by
  obtain ⟨l, h, r⟩ := h; exact ⟨l, h.mono hm, r⟩
theorem MapIs.congr {P : Program} {k : TypeId} {w : World} {b n : Nat} {f g : Value → Option Value} (h : MapIs P k w b n f) (hf : ∀ key kl, keyOf P k key = some kl → f key = g key) : MapIs P k w b n g := by
  obtain ⟨l, h, r, r2⟩ := h
  exact ⟨l, h, fun key kl v hk => by rw [r key kl v hk, hf key kl hk], r2⟩
/-- The block is all that counts. -/
theorem MapIs.same {P : Program} {k : TypeId} {w w' : World} {b n : Nat} {f : Value → Option Value} (h : MapIs P k w b n f) (hb : w'.heap[b]? = w.heap[b]?) : MapIs P k w' b n f := by
  obtain ⟨l, ⟨es, clock, h1, h2, h3, h4⟩, r⟩ := h
  exact ⟨l, ⟨es, clock, hb.trans h1, h2, h3, h4⟩, r⟩
theorem MapIs.made (w : World) (P : Program) (k : TypeId) : MapIs P k (w.alloc (.map #[] 0)) w.heap.size 0 (fun _ => none) :=
  ⟨[], World.ownsMap_made w P k heldR, fun _ _ _ _ => by simp, fun _ h => by cases h⟩
theorem MapIs.is_map {P : Program} {k : TypeId} {w : World} {b n : Nat} {f : Value → Option Value} (h : MapIs P k w b n f) : ∃ es clock, w.heap[b]? = some (.map es clock) := by
  obtain ⟨l, ⟨es, clock, h1, _⟩, _⟩ := h
  exact ⟨es, clock, h1⟩
theorem mem_sorted {P : Program} {k : TypeId} {es : List MapEntry} (p : Lit × DataW Value) : p ∈ (es.map (rg P k heldR)).foldr DataW.insert [] ↔ ∃ x ∈ es, rg P k heldR x = p := by
  rw [(Go.WideShapes.sorted_perm _).mem_iff]
  exact List.mem_map
theorem rg_held {P : Program} {k : TypeId} {x : MapEntry} {kl : Lit} (h : keyOf P k x.key = some kl) : rg P k heldR x = (kl, .held x.val) := by
  cases x with
  | mk key val born =>
    have h : keyOf P k key = some kl := h
    exact rg_of (rd_mk (R := heldR) (val := val) (born := born) (yv := (.held val, [])) h rfl)
theorem MapIs.look {P : Program} {k : TypeId} {w : World} {b n : Nat} {f : Value → Option Value} (h : MapIs P k w b n f) (K : Keyed P k) {t e : TypeId} (ht : P.underlying t = some (.map k e)) {z : Value} (hz : (zeroValue e).run P w = .ok z w)
    {key : Value} {kl : Lit} (hkey : keyOf P k key = some kl) (c : Bool) :
    (Instr.lookup t (.map (some b)) key c).run P w = .ok (if c then .tuple #[(f key).getD z, .bool (f key).isSome] else (f key).getD z) w := by
  obtain ⟨l, ⟨es, clock, hb, F, _, hl⟩, r⟩ := h
  have hl : l = (es.toList.map (rg P k heldR)).foldr DataW.insert [] := by injection hl
  rcases Maps.fit_look c K ht hz hb F hkey with ⟨hrun, hno, _⟩ | ⟨e0, y, hm, hk0, hrun, _, _, _⟩
  · have hf : f key = none := by
      cases hq : f key with
      | none => rfl
      | some v =>
        have := (r.1 key kl v hkey).2 hq
        rw [hl, mem_sorted] at this
        obtain ⟨x, hx, hg⟩ := this
        obtain ⟨q, hq'⟩ := F.keys x hx
        rw [rg_held hq'] at hg
        injection hg with g1 g2
        subst g1
        exact absurd (K.inj hq' hkey) (hno x hx)
    rw [hrun, hf]; rfl
  · have hf : f key = some e0.val := by
      refine (r.1 key kl _ hkey).1 ?_
      rw [hl, mem_sorted]
      exact ⟨e0, hm, rg_held (hk0 ▸ hkey)⟩
    rw [hrun, hf]; rfl
theorem MapIs.store {P : Program} {k : TypeId} {w : World} {b n : Nat} {f : Value → Option Value} (h : MapIs P k w b n f) (K : Keyed P k) {t e : TypeId} (ht : P.underlying t = some (.map k e)) (hn : n < maxLen)
    {key val : Value} {kl : Lit} (hkey : keyOf P k key = some kl) (g : Value → Option Value) (hg : g key = some val) (hg2 : ∀ x, x ≠ key → g x = f x) :
    ∃ w', (Instr.mapUpdate t (.map (some b)) key val).run P w = .ok () w' ∧ MapIs P k w' b (n + 1) g ∧ w.grownBy w' (some b) := by
  obtain ⟨l, h, r⟩ := h
  obtain ⟨w', h1, h2, h3⟩ := h.update K ht hn hkey (val := val) (d := .held val) (ps := []) rfl
  have hput : (DataW.map l).put kl (.held val) = .map (putKey kl (.held val) l) := DataW.put_eq ..
  rw [hput] at h2
  refine ⟨w', h1, ⟨_, h2, fun x xl v hx => ?_, fun p hp => ?_⟩, h3⟩
  · unfold putKey
    rw [Go.ChangeMaps.mem_insert_iff, List.mem_filter]
    by_cases q : x = key
    · subst q
      rw [hkey] at hx
      injection hx with hx
      subst hx
      rw [hg]
      constructor
      · rintro (e | ⟨_, e⟩)
        · injection e with _ e; injection e with e; rw [e]
        · exact absurd rfl ((Go.Maps.notKey_iff (K.key hkey)).1 e)
      · intro e; injection e with e; exact .inl (by rw [e])
    · rw [hg2 x q, ← r.1 x xl v hx]
      have hne : xl ≠ kl := fun e => q (K.inj hx (e ▸ hkey))
      constructor
      · rintro (e | ⟨e, _⟩)
        · injection e with e _; exact absurd e hne
        · exact e
      · exact fun e => .inr ⟨e, (Go.Maps.notKey_iff (K.key hkey)).2 hne⟩
  · unfold putKey at hp
    rw [Go.ChangeMaps.mem_insert_iff, List.mem_filter] at hp
    rcases hp with rfl | ⟨hp, _⟩
    · exact ⟨key, val, hkey, rfl⟩
    · exact r.2 p hp
/-- A store at the operation. -/
theorem wpList_store {P : Program} (w : World) {ops : Array Oper} {rest : List Oper} {o : Oper} {a : Act} {Q : Exit → Act → World → Prop} (hgd : o.guard = none) (m x v : Operand) (t : TypeId) (hop : o.op = Op.mapUpdate t m x v)
    {k e : TypeId} (K : Keyed P k) (ht : P.underlying t = some (.map k e)) (b n : Nat) (f : Value → Option Value) (hm : a.eval m = .map (some b)) (h : MapIs P k w b n f) (hn : n < maxLen) (key val : Value) (kl : Lit) (hx : a.eval x = key) (hv : a.eval v = val)
    (hkey : keyOf P k key = some kl) (g : Value → Option Value) (hg : g key = some val) (hg2 : ∀ x, x ≠ key → g x = f x)
    (hK : ∀ w', MapIs P k w' b (n + 1) g → w.grownBy w' (some b) → wpList P ops Q rest (a.put o.dst undef) w') : wpList P ops Q (o :: rest) a w := by
  refine wpList_plain hgd fun K' hK' => ?_
  obtain ⟨w', hrun, r1, r2⟩ := h.store K ht hn hkey g hg hg2
  unfold Oper.wp
  simp [execOp, hop, hm, hx, hv, hrun, Result.andThen]
  exact hK' _ _ (hK w' r1 r2)
/-- .. in a drawing region. -/
theorem oper_store {P : Program} {w : World} {o : Oper} {a : Act} {K : Act → World → Prop} {Q : Exit → Act → World → Prop} (m x v : Operand) (t : TypeId) (hop : o.op = Op.mapUpdate t m x v)
    {k e : TypeId} (KK : Keyed P k) (ht : P.underlying t = some (.map k e)) (b n : Nat) (f : Value → Option Value) (hm : a.eval m = .map (some b)) (h : MapIs P k w b n f) (hn : n < maxLen) (key val : Value) (kl : Lit) (hx : a.eval x = key) (hv : a.eval v = val)
    (hkey : keyOf P k key = some kl) (g : Value → Option Value) (hg : g key = some val) (hg2 : ∀ x, x ≠ key → g x = f x)
    (hK : ∀ w', MapIs P k w' b (n + 1) g → w.grownBy w' (some b) → K (a.put o.dst undef) w') : Oper.wp P o a w K Q := by
  obtain ⟨w', hrun, r1, r2⟩ := h.store KK ht hn hkey g hg hg2
  unfold Oper.wp
  simp [execOp, hop, hm, hx, hv, hrun, Result.andThen]
  exact hK w' r1 r2
end Go.Proofs.YtoajommeiocfpaaDoor
namespace Go.Proofs.YtoajommeiocfpaaDoor
open Go Go.RowKit
open Go.WideElems (Fit rd rg pl rd_key rd_val rg_of rd_mk)
open Go.Maps (Keyed)
set_option linter.unusedSimpArgs false
set_option linter.unusedVariables false

/-- A range over block b, whose map holds what f says, is under way; left: which keys are still to come. -/
def MapRg (P : Program) (k : TypeId) (w : World) (b r n : Nat) (f : Value → Option Value) (left : Lit → Bool) (cnt : Nat) : Prop :=
  ∃ l, w.ranges P k heldR b r n (.map l) left cnt ∧ ReadsM P k f l
section
variable {P : Program} {k : TypeId} {w w' : World} {b r n : Nat} {f : Value → Option Value} {left : Lit → Bool} {cnt : Nat}
theorem MapRg.is (h : MapRg P k w b r n f left cnt) : MapIs P k w b n f := by obtain ⟨l, h, r⟩ := h; exact ⟨l, h.owns, r⟩
theorem MapRg.left_eq (h : MapRg P k w b r n f left cnt) : w.rangeLeft b r = cnt := by obtain ⟨l, h, r⟩ := h; exact h.left_eq
theorem MapRg.kept (h : MapRg P k w b r n f left cnt) {row : Option Nat} (hg : w.grownBy w' row) (hb : some b ≠ row) (hr : some r ≠ row) : MapRg P k w' b r n f left cnt := by
  obtain ⟨l, h, rr⟩ := h; exact ⟨l, h.kept hg hb hr, rr⟩
theorem MapRg.rlt (h : MapRg P k w b r n f left cnt) : r < w.heap.size := by obtain ⟨l, h, rr⟩ := h; exact h.lt
theorem MapRg.ne (h : MapRg P k w b r n f left cnt) : r ≠ b := by obtain ⟨l, h, rr⟩ := h; exact h.ne
/-- The start. -/
theorem wpList_range8 (h : MapIs P k w b n f) (K : Keyed P k) {t e : TypeId} (ht : P.underlying t = some (.map k e)) {ops : Array Oper} {rest : List Oper} {o : Oper} {a : Act} {Q : Exit → Act → World → Prop} (hg : o.guard = none) (m : Operand) (hop : o.op = Op.range t m) (hm : a.eval m = .map (some b))
    (hK : ∀ w' left cnt, MapRg P k w' b w.heap.size n f left cnt → (∀ key kl, keyOf P k key = some kl → (left kl = true ↔ f key ≠ none)) → w.grownBy w' none → w'.heap.size = w.heap.size + 1 → wpList P ops Q rest (a.put o.dst (.pointer (some ⟨w.heap.size, 0, none⟩))) w') :
    wpList P ops Q (o :: rest) a w := by
  obtain ⟨l, hown, hr⟩ := h
  refine wpList_range_own w hg m t hop k e K ht heldR b n (.map l) hm hown fun w' h1 h2 h3 => hK w' _ _ ⟨l, h1, hr⟩ (fun key kl hkl => ?_) h2 h3
  have hmem : Go.Maps.has (.map l) kl = true ↔ ∃ v, (kl, DataW.held v) ∈ l := by
    constructor
    · intro hh
      obtain ⟨p, hp, hpk⟩ := List.any_eq_true.1 hh
      obtain ⟨key', v, _, e2⟩ := hr.2 p hp
      have := Go.WideAt.sameKey_eq hpk
      exact ⟨v, by rw [← this, ← e2]; exact hp⟩
    · rintro ⟨v, hv⟩
      exact List.any_eq_true.2 ⟨_, hv, Go.WideAt.sameKey_self (K.key hkl)⟩
  rw [hmem]
  constructor
  · rintro ⟨v, hv⟩ e2
    rw [(hr.1 key kl v hkl).1 hv] at e2; cases e2
  · intro hne
    cases hf : f key with
    | none => exact absurd hf hne
    | some v => exact ⟨v, (hr.1 key kl v hkl).2 hf⟩
/-- The step. -/
theorem wpList_next8 (h : MapRg P k w b r n f left cnt) (K : Keyed P k) {ops : Array Oper} {rest : List Oper} {o : Oper} {a : Act} {Q : Exit → Act → World → Prop} (hg : o.guard = none) (it : Operand) (hop : o.op = Op.next it false) (hit : a.eval it = .pointer (some ⟨r, 0, none⟩))
    (hDone : cnt = 0 → (∀ kl, left kl = false) → wpList P ops Q rest (a.put o.dst (.tuple #[.bool false])) w)
    (hMore : ∀ (key v : Value) (kl : Lit) (w' : World) (cnt' : Nat), keyOf P k key = some kl → left kl = true → f key = some v → MapRg P k w' b r n f (fun z => left z && !z.sameKey kl) cnt' → cnt' < cnt →
      w.grownBy w' (some r) → w'.heap.size = w.heap.size → (Instr.entry (.pointer (some ⟨r, 0, none⟩))).run P w' = .ok (.tuple #[key, v]) w' → wpList P ops Q rest (a.put o.dst (.tuple #[.bool true, key, v])) w') :
    wpList P ops Q (o :: rest) a w := by
  obtain ⟨l, h, hr⟩ := h
  refine wpList_next_ranges w hg it hop k K heldR (fun x : Value => x) (fun x : Value => x) (fun key _ _ => ⟨key, rfl⟩) (fun v _ _ => ⟨v, rfl⟩) b r n (.map l) left cnt hit h hDone fun x c kl y w' cnt' hkey hlk hv hat hrg hlt hgr hsz hen => ?_
  have hy : y = (.held c, []) := by simpa [heldR] using hv.symm
  subst hy
  have hin : (kl, DataW.held c) ∈ l := by
    have hz := hat (.map [])
    unfold DataW.atKey at hz
    simp only at hz
    cases hq : l.find? (fun p => p.1.sameKey kl) with
    | none =>
      rw [hq] at hz
      cases hz
    | some p =>
      rw [hq] at hz
      have h2 : p.2 = .held c := hz
      have h3 := Go.WideAt.sameKey_eq (List.find?_some (p := fun p : Lit × DataW Value => p.1.sameKey kl) hq)
      have h4 := List.mem_of_find?_eq_some hq
      rw [← h2, ← h3]; exact h4
  exact hMore x c kl w' cnt' hkey hlk ((hr.1 x kl c hkey).1 hin) ⟨l, hrg, hr⟩ hlt hgr hsz hen
/-- A deletion in the round. -/
theorem wpList_delete8 (h : MapRg P k w b r n f left cnt) (K : Keyed P k) {t e : TypeId} (ht : P.underlying t = some (.map k e)) {ops : Array Oper} {rest : List Oper} {o : Oper} {a : Act} {Q : Exit → Act → World → Prop} (hg : o.guard = none) (m x : Operand) (hop : o.op = Op.call { callee := Callee.builtin Builtin.delete, args := #[m, x], argTypes := #[t, k] })
    (hm : a.eval m = .map (some b)) (key : Value) (kl : Lit) (hx : a.eval x = key) (hkey : keyOf P k key = some kl) (g : Value → Option Value) (hg0 : g key = none) (hg2 : ∀ y, y ≠ key → g y = f y)
    (hK : ∀ w' cnt', MapRg P k w' b r n g (fun z => left z && !z.sameKey kl) cnt' → cnt' ≤ cnt → w.mapTurned w' b → wpList P ops Q rest (a.put o.dst (.tuple #[])) w') :
    wpList P ops Q (o :: rest) a w := by
  obtain ⟨l, h, hr⟩ := h
  refine wpList_delete_ranges w hg m x t k hop e K ht heldR b r n (.map l) left cnt hm h key kl hx hkey fun w' cnt' h1 h2 h3 => ?_
  rw [DataW.del_eq] at h1
  refine hK w' cnt' ⟨_, h1, fun y yl v hy => ?_, fun p hp => ?_⟩ h2 h3
  · unfold Go.ChangeMaps.delKey
    rw [List.mem_filter]
    by_cases e : y = key
    · subst e
      rw [hkey] at hy
      injection hy with hy
      subst hy
      rw [hg0]
      constructor
      · rintro ⟨_, e⟩
        exact absurd rfl ((Go.Maps.notKey_iff (K.key hkey)).1 e)
      · intro e; cases e
    · rw [hg2 y e, ← hr.1 y yl v hy]
      have hne : yl ≠ kl := fun e2 => e (K.inj hy (e2 ▸ hkey))
      constructor
      · exact fun e => e.1
      · exact fun e => ⟨e, (Go.Maps.notKey_iff (K.key hkey)).2 hne⟩
  · unfold Go.ChangeMaps.delKey at hp
    rw [List.mem_filter] at hp
    exact hr.2 p hp.1
end
end Go.Proofs.YtoajommeiocfpaaDoor
