import PyProof.Rows.All
import Wide.All
import OpenK.AllK
import Wide.FinOn
import HandS.ForMost
import HandS.Lambda
import HandS.AnyAll
import HandS.EndTab
import HandS.TupAny
import HandS.Zip
import HandS.DictTup
import HandS.Codes
import HandS.ExcOwn
import HandS.TryOnly
import HandS.IsInst
import HandS.Wide
import HandS.DictComp
import HandS.DictEq
import HandS.ListItems
import KE.LtSeq
import KE.KSortTup
import HandS.SortOrd
import HandS.SortKw
import HandS.SortRule
import HandS.Defaults
import HandS.WordsExc
import HandS.Dict
import PySem.Challenge.RW_streamstack_k01_rows_as_bytes
import KE.KDictPairs
import KE.KDictWalk
import HandS.Walk
import HandS.Replace
import HandS.Deep
import HandS.Conv
import PyProof.P3In
import KE.DatumOrd
import KE.SortKeyHeap
import KE.DataMinKey
import HandS.RaiseMore
import HandS.FStr
import HandS.RevRange
import HandS.Comp
import HandS.Exc
import KE.KAsSuite
import KE.GoesRaise
import HandS.SuiteRaise
import KE.KExcRaise
import PyProof.GenCompT
import HandS.Iter
import KE.GoesMore
import KE.GoesEnum
import PyProof.Draws
import HandS.TupMul
import KE.KStateDown
import Lean
import HandS.Ends
import HandS.More
import HandS.Words
import HandS.Head0
import HandS.Head1
import HandS.Head2
import HandS.HeadEnd
import HandS.HeadHook1
import HandS.HeadHook2
import HandS.HeadHook3
import HandS.HeadHook4
import HandS.HeadWalk
set_option Elab.async false
set_option linter.all false
set_option maxRecDepth 100000
set_option maxHeartbeats 4000000
namespace KB
open PySem PySem.Spec PyProof.Rows L2
section
variable {prog : Program} {w : World} {K : Type} [DecidableEq K] {knd : HeapKind prog w K} {A : Around} {E : Value → Shared → Prop} {s : Shared}
def hitH (ys : List (K × Addr × Value)) (eqb : Value → Value → Bool) (x : K × Addr × Value) : Bool :=
  match atKey ys x.1 with
  | none => false
  | some q => eqb x.2.2 q.2
theorem samePairsH {nm : String} {a b : Addr} {xs ys : List (K × Addr × Value)} {eqb : Value → Value → Bool} {Q : Bool → Shared → Prop} (ha : (a == sysModules) = false) (hb : (b == sysModules) = false)
    (da : s.heap.DictOfH knd a xs) (db : s.heap.DictOfH knd b ys) (hu : knd.room A)
    (heq : ∀ x ∈ xs, ∀ q, atKey ys x.1 = some q → ∀ (R : Bool → Shared → Prop) (F : Value → Shared → Prop), R (eqb x.2.2 q.2) s → wpAny (model prog w) A (eqBool x.2.2 q.2) R F s)
    (h : Q (xs.length == ys.length && xs.all (hitH ys eqb)) s) :
    wpAny (model prog w) A (Builtin.Dict.samePairs nm a b) Q E s := by
  obtain ⟨oa, es, ep, hoa, _, hda, hka, hia, hna⟩ := da
  obtain ⟨ob, es', ep', hob, _, hdb, hkb, hib, hnb⟩ := db
  have hla : xs.length = es.size := (size_of_entries hka).symm
  have hlb : ys.length = es'.size := (size_of_entries hkb).symm
  rw [hla, hlb] at h
  unfold Builtin.Dict.samePairs Builtin.Dict.showsAll
  rw [if_neg (show ¬ (a == sysModules) = true by rw [ha]; exact Bool.false_ne_true), if_neg (show ¬ (b == sysModules) = true by rw [hb]; exact Bool.false_ne_true)]
  refine wpAny_bind (wpAny_pure (wpAny_bind (wpAny_pure ?_)))
  refine wpAny_bind (wpAny_dictEntries hoa hda ?_)
  dsimp only
  refine wpAny_bind (wpAny_dictEntries hob hdb ?_)
  by_cases hsz : es.size = es'.size
  case neg =>
    rw [if_pos (by simpa using hsz)]
    have hbf : (es.size == es'.size) = false := by simpa using hsz
    rw [hbf, Bool.false_and] at h
    exact wpAny_bind (wpAny_rule (wpAny_pure h))
  case pos =>
    have h' : Q (xs.all (hitH ys eqb)) s := by simpa [hsz] using h
    rw [if_neg (by rw [hsz]; simp)]
    refine wpAny_bind (wpAny_dictEpoch hoa hda ?_)
    refine wpAny_bind ?_
    rw [Std.Legacy.Range.forIn_eq_forIn_range']
    simp only [Std.Legacy.Range.size, Nat.sub_zero, Nat.add_sub_cancel, Nat.div_one]
    refine wpAny_forIn_list _
      (fun rest q s' => s' = s ∧ q = (none, ()) ∧ ∃ i, rest = List.range' i (es.size - i) ∧ i ≤ es.size ∧ (xs.drop i).all (hitH ys eqb) = xs.all (hitH ys eqb))
      _ ?_ ?_ _ _ ⟨rfl, rfl, 0, by simp, Nat.zero_le _, by simp⟩
    · rintro x rest q s' ⟨rfl, rfl, i, hr, hi, hpre⟩
      have hlt : i < es.size := by
        rcases Nat.lt_or_ge i es.size with h | h
        · exact h
        · rw [Nat.sub_eq_zero_of_le h] at hr; simp at hr
      obtain ⟨rfl, hrest⟩ : x = i ∧ rest = List.range' (i + 1) (es.size - (i + 1)) := by
        have e : es.size - i = (es.size - (i + 1)) + 1 := by omega
        rw [e, List.range'_succ] at hr
        injection hr with h1 h2
        exact ⟨h1, h2⟩
      refine wpAny_bind (wpAny_dictEntries hoa hda ?_)
      have hlt' : x < xs.length := by rw [hla]; exact hlt
      obtain ⟨k, c, v, hkv⟩ : ∃ k c v, xs[x] = (k, c, v) := ⟨_, _, _, rfl⟩
      have hdrop : xs.drop x = (k, c, v) :: xs.drop (x + 1) := by rw [← hkv]; exact List.drop_eq_getElem_cons hlt'
      have hget : xs[x]? = some (k, c, v) := by rw [List.getElem?_eq_getElem hlt', hkv]
      have hmem : (k, c, v) ∈ xs := List.mem_of_getElem? hget
      have hex : es[x]? = some (entryOfKey knd (k, c, v)) := by rw [entry_at hka x, hget]; rfl
      rw [hex]
      rw [hdrop, List.all_cons] at hpre
      have hkey : knd.is s'.heap k c := hia _ hmem
      show wpAny _ _ (holding [Value.ref c, v] _ >>= _) _ _ _
      refine wpAny_bind (wpAny_holding (wpAny_bind (wpAny_dictFind_heap hu hkey hob hdb hkb hib hnb ?_ ?_)))
      · intro hno
        have hn : atKey ys k = none := atKey_none_of_get hno
        have e1 : hitH ys eqb (k, c, v) = false := by unfold hitH; simp only [hn]
        rw [e1, Bool.false_and] at hpre
        rw [← hpre] at h'
        refine wpAny_pure ?_
        show wpAny _ _ (if (!false) = true then _ else _) _ _ _
        rw [if_pos (by decide)]
        exact wpAny_pure (wpAny_pure h')
      · intro j p hj
        have hp : atKey ys k = some p := atKey_of_get hnb hj
        have e1 : hitH ys eqb (k, c, v) = eqb v p.2 := by unfold hitH; simp only [hp]
        have hey : es'[j]? = some (entryOfKey knd (k, p)) := by rw [entry_at hkb j, hj]; rfl
        refine wpAny_bind (wpAny_dictEntries hob hdb ?_)
        rw [hey]
        refine wpAny_holding (heq _ hmem p hp _ _ ?_)
        show wpAny _ _ (if (!eqb v p.2) = true then _ else _) _ _ _
        cases he : eqb v p.2 with
        | false =>
          rw [e1, he, Bool.false_and] at hpre
          rw [← hpre] at h'
          rw [if_pos (by decide)]
          exact wpAny_pure (wpAny_pure h')
        | true =>
          rw [e1, he, Bool.true_and] at hpre
          rw [if_neg (by decide)]
          refine wpAny_bind (wpAny_dictEpoch hoa hda ?_)
          rw [if_neg (by simp)]
          exact wpAny_pure ⟨rfl, rfl, x + 1, hrest, hlt, hpre⟩
    · rintro q s' ⟨rfl, rfl, i, hr, hi, hpre⟩
      have hin : i = es.size := by
        rcases Nat.lt_or_ge i es.size with h | h
        · have e : es.size - i = (es.size - (i + 1)) + 1 := by omega
          rw [e, List.range'_succ] at hr; exact nomatch hr
        · exact Nat.le_antisymm hi h
      have e2 : xs.all (hitH ys eqb) = true := by
        rw [← hpre, hin, ← hla, List.drop_length]; rfl
      rw [e2] at h'
      exact wpAny_pure h'
end
section
variable {prog : Program} {w : World} {K : Type} [DecidableEq K] {knd : HeapKind prog w K} {A : Around} {E : Value → Shared → Prop} {s : Shared}
theorem eqH {a b : Addr} {xs ys : List (K × Addr × Value)} {eqb : Value → Value → Bool} {Q : Value → Shared → Prop} (ha : (a == sysModules) = false) (hb : (b == sysModules) = false)
    (da : s.heap.DictOfH knd a xs) (db : s.heap.DictOfH knd b ys) (hA : A.units < cLine) (hu : knd.room A.in1)
    (heq : ∀ x ∈ xs, ∀ q, atKey ys x.1 = some q → ∀ (R : Bool → Shared → Prop) (F : Value → Shared → Prop), R (eqb x.2.2 q.2) s → wpAny (model prog w) A.in1 (eqBool x.2.2 q.2) R F s)
    (h : Q (.bool (xs.length == ys.length && xs.all (hitH ys eqb))) s) :
    wpAny (model prog w) A (compareOp .Eq (.ref a) (.ref b)) Q E s := by
  refine wpAny_richCompare_same_room (op := .Eq) da.typeIs db.typeIs PySem.F.slot_dict_eq (wpAny_call_entry PySem.F.slot_dict_eq da.typeIs PySem.F.entry_dict_eq ?_ (PySem.F.args_dict_eq_2 _ _)) hA
  show wpAny _ _ (Builtin.Dict.dictSlotArgs "__eq__" ⟨[.ref a, .ref b], []⟩ >>= _) _ _ s
  refine wpAny_bind ?_
  unfold Builtin.Dict.dictSlotArgs
  refine wpAny_bind (wpAny_notOrdered_dict da.typeIs ?_)
  show wpAny _ _ (pure (Value.ref a, Value.ref b)) _ _ s
  refine wpAny_pure ?_
  refine wpAny_bind (wpAny_isInstance (T := "dict") db.typeIs PySem.F.sub_dict_dict ?_)
  simp only [Bool.not_true, Bool.false_eq_true, if_false]
  refine wpAny_bind (wpAny_pure (wpAny_bind (wpAny_pure ?_)))
  refine wpAny_bind (samePairsH ha hb da db hu heq ?_)
  refine wpAny_pure ⟨_, rfl, ?_, ?_⟩
  · exact fun x => nomatch x
  · simpa using h
theorem neH {a b : Addr} {xs ys : List (K × Addr × Value)} {eqb : Value → Value → Bool} {Q : Value → Shared → Prop} (ha : (a == sysModules) = false) (hb : (b == sysModules) = false)
    (da : s.heap.DictOfH knd a xs) (db : s.heap.DictOfH knd b ys) (hA : A.units < cLine) (hu : knd.room A.in1)
    (heq : ∀ x ∈ xs, ∀ q, atKey ys x.1 = some q → ∀ (R : Bool → Shared → Prop) (F : Value → Shared → Prop), R (eqb x.2.2 q.2) s → wpAny (model prog w) A.in1 (eqBool x.2.2 q.2) R F s)
    (h : Q (.bool (!(xs.length == ys.length && xs.all (hitH ys eqb)))) s) :
    wpAny (model prog w) A (compareOp .NotEq (.ref a) (.ref b)) Q E s := by
  refine wpAny_richCompare_same_room (op := .NotEq) da.typeIs db.typeIs PySem.F.slot_dict_ne (wpAny_call_entry PySem.F.slot_dict_ne da.typeIs PySem.F.entry_dict_ne ?_ (PySem.F.args_dict_ne_2 _ _)) hA
  show wpAny _ _ (Builtin.Dict.dictSlotArgs "__ne__" ⟨[.ref a, .ref b], []⟩ >>= _) _ _ s
  refine wpAny_bind ?_
  unfold Builtin.Dict.dictSlotArgs
  refine wpAny_bind (wpAny_notOrdered_dict da.typeIs ?_)
  show wpAny _ _ (pure (Value.ref a, Value.ref b)) _ _ s
  refine wpAny_pure ?_
  refine wpAny_bind (wpAny_isInstance (T := "dict") db.typeIs PySem.F.sub_dict_dict ?_)
  simp only [Bool.not_true, Bool.false_eq_true, if_false]
  refine wpAny_bind (wpAny_pure (wpAny_bind (wpAny_pure ?_)))
  refine wpAny_bind (samePairsH ha hb da db hu heq ?_)
  refine wpAny_pure ⟨_, rfl, ?_, ?_⟩
  · exact fun x => nomatch x
  · simpa using h
end
def eqT (ks ls : List (List Key × V)) : Bool := (ks.length == ls.length) && ks.all fun p => decide (valV ls p.1 = some p.2)
def intB : Value → Value → Bool
  | .int i _, .int j _ => i == j
  | _, _ => false
def IntVals (ks : List (List Key × V)) : Prop := ∀ p ∈ ks, ∃ i, p.2 = V.int i
theorem mem_r {α β : Type} {R : α → β → Prop} : ∀ {l : List α} {m : List β}, Paired R l m → ∀ y ∈ m, ∃ x ∈ l, R x y
  | _, _, .nil, y, h => nomatch h
  | _, _, .cons (a := a) (b := b) r t, y, h => by
    rcases List.mem_cons.mp h with rfl | h
    · exact ⟨a, List.mem_cons_self, r⟩
    · obtain ⟨x, hx, q⟩ := mem_r t y h
      exact ⟨x, List.mem_cons_of_mem _ hx, q⟩
theorem kt_int {H : Hp} {ks : List (List Key × V)} {xs : List (List Key × Addr × Value)} (r : KT H ks xs) (hi : IntVals ks) : ∀ x ∈ xs, ∃ i t, x.2.2 = Value.int i t := by
  intro x hx
  obtain ⟨p, hp, _, _, rv⟩ := mem_r r x hx
  obtain ⟨i, e⟩ := hi p hp
  rw [e] at rv
  obtain ⟨t, rv⟩ := rv
  exact ⟨i, t, rv⟩
theorem atKey_mem {K : Type} [DecidableEq K] {xs : List (K × Addr × Value)} {k : K} {q : Addr × Value} (h : atKey xs k = some q) : (k, q) ∈ xs := by
  unfold atKey at h
  rw [Option.map_eq_some_iff] at h
  obtain ⟨x, h1, h2⟩ := h
  have h3 := List.find?_some h1
  have h4 := List.mem_of_find?_eq_some h1
  have h5 : x.1 = k := of_decide_eq_true h3
  rw [← h5, ← h2]
  exact h4
theorem all_hits {H : Hp} {ls : List (List Key × V)} {ys : List (List Key × Addr × Value)} (rb : KT H ls ys) : ∀ {ks : List (List Key × V)} {xs : List (List Key × Addr × Value)}, KT H ks xs → IntVals ks → IntVals ls →
    xs.all (hitH ys intB) = ks.all fun p => decide (valV ls p.1 = some p.2)
  | _, _, .nil, _, _ => rfl
  | _, _, .cons (a := p) (b := x) (l₁ := ks) (l₂ := xs) h t, hi, hj => by
    rw [List.all_cons, List.all_cons, all_hits rb t (fun q hq => hi q (List.mem_cons_of_mem _ hq)) hj]
    refine congrArg (fun z => z && _) ?_
    obtain ⟨h1, _, h2⟩ := h
    obtain ⟨i, ei⟩ := hi p List.mem_cons_self
    have rv := rb.val p.1
    unfold hitH
    rw [← h1]
    cases hx : atKey ys p.1 with
    | none =>
      rw [hx] at rv
      cases hv : valV ls p.1 with
      | none => simp
      | some v => rw [hv] at rv; exact rv.elim
    | some q =>
      rw [hx] at rv
      cases hv : valV ls p.1 with
      | none => rw [hv] at rv; exact rv.elim
      | some v =>
        rw [hv] at rv
        have rv : RelV v q.2 := rv
        obtain ⟨j, ej⟩ : ∃ j, v = V.int j := by
          have hm : (p.1, v) ∈ ls := by
            unfold valV at hv
            rw [Option.map_eq_some_iff] at hv
            obtain ⟨y, y1, y2⟩ := hv
            have y3 : y.1 = p.1 := by
              have z := List.find?_some y1
              simpa using z
            have y4 := List.mem_of_find?_eq_some y1
            rw [← y3, ← y2]
            exact y4
          exact hj _ hm
        rw [ei] at h2
        rw [ej] at rv
        obtain ⟨t1, e1⟩ := h2
        obtain ⟨t2, e2⟩ := rv
        show intB x.2.2 q.2 = _
        rw [e1, e2, ei, ej]
        unfold intB
        rw [Bool.eq_iff_iff]
        simp
        exact ⟨fun z => z.symm, fun z => z.symm⟩
def rEqDT : R2 := fun x y H Q => ∃ a b ks ls, x = .ref a ∧ y = .ref b ∧ H a = some (.dT ks) ∧ H b = some (.dT ls) ∧ IntVals ks ∧ IntVals ls ∧ Q (.bl (eqT ks ls)) H
def rNeDT : R2 := fun x y H Q => ∃ a b ks ls, x = .ref a ∧ y = .ref b ∧ H a = some (.dT ks) ∧ H b = some (.dT ls) ∧ IntVals ks ∧ IntVals ls ∧ Q (.bl (!eqT ks ls)) H
section
variable {X : Cx}
theorem eq_ints {A : Around} {s : Shared} {H : Hp} {ks ls : List (List Key × V)} {xs ys : List (List Key × Addr × Value)} (ra : KT H ks xs) (rb : KT H ls ys) (hi : IntVals ks) (hj : IntVals ls) :
    ∀ x ∈ xs, ∀ q, atKey ys x.1 = some q → ∀ (R : Bool → Shared → Prop) (F : Value → Shared → Prop), R (intB x.2.2 q.2) s → wpAny (model X.prog X.w) A (eqBool x.2.2 q.2) R F s := by
  intro x hx q hq R F hR
  obtain ⟨i, t, e1⟩ := kt_int ra hi x hx
  obtain ⟨j, u, e2⟩ := kt_int rb hj (x.1, q) (atKey_mem hq)
  have e2 : q.2 = Value.int j u := e2
  rw [e1, e2] at hR ⊢
  exact SeqAt.EqAt.int_int i t j u _ _ _ _ (by unfold intB at hR; exact hR)
theorem op_eqDT (hu : X.A.units + 1 < cLine) : OpR X (compareOp .Eq) rEqDT := by
  intro pins s σ H x y v u Q I rx ry h
  obtain ⟨a, b, ks, ls, rfl, rfl, ea, eb, hi, hj, q⟩ := h
  obtain rfl : v = Value.ref a := rx
  obtain rfl : u = Value.ref b := ry
  obtain ⟨_, ya, xs, ra, da⟩ := dt_of I.hok ea
  obtain ⟨_, yb, ys, rb, db⟩ := dt_of I.hok eb
  refine eqH (eqb := intB) ya yb da db (by omega) (tupleKind_room_in1 hu) (eq_ints ra rb hi hj) (fin_bl I q ?_)
  unfold eqT
  rw [all_hits rb ra hi hj, Paired.length ra, Paired.length rb]
theorem op_neDT (hu : X.A.units + 1 < cLine) : OpR X (compareOp .NotEq) rNeDT := by
  intro pins s σ H x y v u Q I rx ry h
  obtain ⟨a, b, ks, ls, rfl, rfl, ea, eb, hi, hj, q⟩ := h
  obtain rfl : v = Value.ref a := rx
  obtain rfl : u = Value.ref b := ry
  obtain ⟨_, ya, xs, ra, da⟩ := dt_of I.hok ea
  obtain ⟨_, yb, ys, rb, db⟩ := dt_of I.hok eb
  refine neH (eqb := intB) ya yb da db (by omega) (tupleKind_room_in1 hu) (eq_ints ra rb hi hj) (fin_bl I q ?_)
  unfold eqT
  rw [all_hits rb ra hi hj, Paired.length ra, Paired.length rb]
end
theorem paired_of {α β : Type} {R : α → β → Prop} : ∀ {l : List α} {m : List β}, l.length = m.length → (∀ (j : Nat) a b, l[j]? = some a → m[j]? = some b → R a b) → Paired R l m
  | [], [], _, _ => .nil
  | [], _ :: _, h, _ => by cases h
  | _ :: _, [], h, _ => by cases h
  | a :: l, b :: m, h, k => .cons (k 0 a b rfl rfl) (paired_of (Nat.succ.inj h) fun j x y e1 e2 => k (j + 1) x y e1 e2)
def PairsOf (H : Hp) (ts : List Addr) (kvs : List (List Key × V)) : Prop := Paired (fun (t : Addr) (p : List Key × V) => ∃ q, H t = some (.tup [.ref q, p.2]) ∧ H q = some (.tup (p.1.map kV))) ts kvs
section
variable {X : Cx}
theorem take_all {pins : List (Addr × Obj)} {σ : L2.St} {H0 : Hp} {s : Shared} {h' : Heap} {tk : Nat} {P : Addr → List V → Prop} (I0 : Inv X pins σ H0 s) (L : List Addr) : ∀ H1 : Hp, Inv X pins σ H1 { s with heap := h', toks := tk } → L.Nodup →
    (∀ a ∈ L, s.heap.objs.size ≤ a ∧ H1 a = none ∧ ∃ vs, P a vs ∧ ∀ H2, ObjOk X.prog X.w H2 h' a (.tup vs)) →
    ∃ H2, Inv X pins σ H2 { s with heap := h', toks := tk } ∧ (∀ b o, H1 b = some o → H2 b = some o) ∧ (∀ a ∈ L, ∃ vs, P a vs ∧ H2 a = some (.tup vs)) ∧ ∀ b, b ∉ L → H2 b = H1 b := by
  induction L with
  | nil => exact fun H1 I1 _ _ => ⟨H1, I1, fun _ _ e => e, (fun _ h => nomatch h), fun _ _ => rfl⟩
  | cons a L ih =>
    intro H1 I1 hn h
    obtain ⟨hb, hnone, vs, hP, ok⟩ := h a List.mem_cons_self
    obtain ⟨na, nd⟩ := List.nodup_cons.mp hn
    have J := I1.take (h' := h') (t' := tk) (fun b ob _ e => e) (I0.fpOk hb hnone) (ok _)
    obtain ⟨H2, I3, g, q, off⟩ := ih _ J nd fun c hc => by
      obtain ⟨c1, c2, c3⟩ := h c (List.mem_cons_of_mem _ hc)
      exact ⟨c1, by rw [upd_ne fun z => na (by rw [← z]; exact hc)]; exact c2, c3⟩
    refine ⟨H2, I3, fun b o e => g b o (by rw [upd_ne (ne_of_none e hnone)]; exact e), fun c hc => ?_, fun b hb' => ?_⟩
    · rcases List.mem_cons.mp hc with rfl | hc
      · exact ⟨vs, hP, g _ _ upd_same⟩
      · exact q c hc
    · rw [off b fun z => hb' (List.mem_cons_of_mem _ z), upd_ne fun z => hb' (by rw [z]; exact List.mem_cons_self)]
theorem made_tracked {pins : List (Addr × Obj)} {σ : L2.St} {H H1 : Hp} {s : Shared} {h' : Heap} {tk : Nat} {kvs : List (List Key × V)} {xs : List (List Key × Addr × Value)} {es : Array DictEntry} {as : List Addr} (I : Inv X pins σ H s)
    (rel : KT H kvs xs) (hes : es.toList = xs.map (entryOfKey (tupleKind (mixKind X.prog X.w)))) (hl : as.length = es.size) (hG : DT.Made es s.heap.objs.size h' as)
    (I1 : Inv X pins σ H1 { s with heap := h', toks := tk }) (g1 : ∀ b o, H b = some o → H1 b = some o) (hn : ∀ b ∈ as, H1 b = none) :
    ∃ H2, Inv X pins σ H2 { s with heap := h', toks := tk } ∧ (∀ b o, H1 b = some o → H2 b = some o) ∧ PairsOf H2 as kvs ∧ ∀ b, b ∉ as → H2 b = H1 b := by
  have l1 : kvs.length = xs.length := Paired.length rel
  have l2 : es.size = xs.length := size_of_entries hes
  have nd : as.Nodup := List.Pairwise.imp (fun h => Nat.ne_of_lt h) hG.rise
  have pr : ∀ (j : Nat) (b : Addr), as[j]? = some b → ∃ (p : List Key × V) (q : Addr) (u : Value), kvs[j]? = some p ∧ H q = some (.tup (p.1.map kV)) ∧ RelV p.2 u ∧ h'.get? b = some { cls := .type "tuple", data := .seq #[Value.ref q, u] } := by
    intro j b hj
    obtain ⟨en, he, hg⟩ := hG.pairs j b hj
    rw [entry_at hes j] at he
    cases hxj : xs[j]? with
    | none =>
      rw [hxj] at he
      exact nomatch (show (none : Option DictEntry) = some en from he)
    | some x =>
      rw [hxj] at he
      have een : entryOfKey (tupleKind (mixKind X.prog X.w)) x = en := Option.some.inj he
      obtain ⟨e0, he0, r1, r2, r3⟩ := L2.DX.pget rel hxj
      exact ⟨e0, x.2.1, x.2.2, he0, r2, r3, by rw [hg, ← een]; rfl⟩
  obtain ⟨H2, I2, g, qt, off⟩ := take_all (P := fun b vs => ∃ (j : Nat) (p : List Key × V) (q : Addr), as[j]? = some b ∧ kvs[j]? = some p ∧ vs = [.ref q, p.2] ∧ H q = some (.tup (p.1.map kV))) I as H1 I1 nd fun b hb => by
    obtain ⟨j, hj⟩ := List.mem_iff_getElem?.mp hb
    obtain ⟨p, q, u, hp, hq, ru, hg⟩ := pr j b hj
    exact ⟨Nat.le_of_lt (hG.above b hb), hn b hb, [.ref q, p.2], ⟨j, p, q, hj, hp, rfl, hq⟩, fun H3 => ⟨(by rw [sizeLine_eq]; show 2 ≤ 16777216; omega), [Value.ref q, u], .cons rfl (.cons ru .nil), ⟨_, hg, rfl, 0, rfl⟩⟩⟩
  refine ⟨H2, I2, g, paired_of (by omega) fun j b p hj hp => ?_, off⟩
  obtain ⟨vs, ⟨i, p', q, i1, i2, ev, hq⟩, hH⟩ := qt b (List.mem_of_getElem? hj)
  have eij : j = i := (List.getElem?_inj (List.getElem?_eq_some_iff.mp hj).1 nd).mp (hj.trans i1.symm)
  subst eij
  have ep : p' = p := Option.some.inj (i2.symm.trans hp)
  rw [ev, ep] at hH
  rw [ep] at hq
  exact ⟨q, hH, g _ _ (g1 _ _ hq)⟩
theorem vals_refs : ∀ as : List Addr, Vals (as.map V.ref) (as.map Value.ref)
  | [] => .nil
  | _ :: as => .cons rfl (vals_refs as)
end
section
variable {prog : Program} {w : World} {A : Around} {E : Value → Shared → Prop} {s : Shared} {r d : Addr} {es : Array DictEntry} {ep : Nat}
theorem initI {R : Result → Shared → Prop} (hh : A.handled = none) (hv : s.heap.IsItemsView r d) (hm : DT.Raw s.heap d es ep) (S : Addr) (hSr : S ≠ r) (hSd : d ≠ S) (hS : s.heap.get? S = some { cls := .type "list", data := .seq #[] })
    (hR : ∀ h' tk acc c as, (∀ b o, b ≠ S → s.heap.get? b = some o → h'.get? b = some o) → h'.get? S = some { cls := .type "list", dict := none, data := .seq acc c, slots := #[] } → as.length = es.size → DT.Made es S h' as →
      acc.toList = as.map Value.ref → R (.ok (.ret .none)) { s with heap := h', toks := tk }) (hn : es.size ≤ sizeLine) :
    wpAny (model prog w) A.in1 (Builtin.«list.__init__» ⟨[.ref S, .ref r], []⟩)
      (fun fin s' => match fin with | .done f => R (.ok f) s' | .again c' => c'.quiet = true ∧ codeAny (model prog w) A c' R s') (fun e s' => R (.error e) s') s := by
  show wpAny _ _ (do let old ← Builtin.List.listItems (.ref S); Builtin.List.listUpdate (.ref S) (fun _ => #[]); letGo old.toList.reverse; Builtin.List.listExtendWith (.ref S) (.ref r) .none) _ _ s
  refine wpAny_bind ?_
  unfold Builtin.List.listItems
  refine wpAny_bind (wpAny_seqItems hS rfl (wpAny_pure ?_))
  show wpAny _ _ (updateSeq S (fun _ => #[]) >>= fun _ => letGo (#[] : Array Value).toList.reverse >>= fun _ => Builtin.List.listExtendWith (.ref S) (.ref r) .none) _ _ s
  refine wpAny_bind (wpAny_updateSeq hS rfl ?_)
  have hS₂ := Heap.get?_update_self (Obj.mapSeq (fun _ => (#[] : Array Value))) hS rfl
  have oth : ∀ b o, b ≠ S → s.heap.get? b = some o → (s.heap.update S (Obj.mapSeq (fun _ => (#[] : Array Value)))).get? b = some o :=
    fun b o hb e => (Heap.get?_update_other _ _ (Ne.symm hb)).trans e
  refine wpAny_bind (wpAny_letGo ?_)
  refine DT.extI (es := es) (ep := ep) hh (let ⟨o, ho, x⟩ := hv; ⟨o, oth r o hSr.symm ho, x⟩) (hm.at' fun o e => oth d o hSd e) S hSr hSd .none _ hS₂ (fun h' tk acc c as hk hS' hl hG hacc => ?_) hn
  exact hR h' tk acc c as (fun b o hb e => hk b o hb (oth b o hb e)) hS' hl (hG.low (Nat.le_of_lt (Heap.lt_size hS₂))) hacc
theorem listCallI {Q : Value → Shared → Prop} (hh : A.handled = none) (hv : s.heap.IsItemsView r d) (hm : DT.Raw s.heap d es ep) (hn : es.size ≤ sizeLine)
    (hQ : ∀ h' tk acc c as, (∀ b o, s.heap.get? b = some o → h'.get? b = some o) → h'.get? s.heap.objs.size = some { cls := .type "list", dict := none, data := .seq acc c, slots := #[] } → as.length = es.size → DT.Made es s.heap.objs.size h' as →
      acc.toList = as.map Value.ref → Q (.ref s.heap.objs.size) { s with heap := h', toks := tk }) :
    wpAny (model prog w) A (call (.type "list") [.ref r]) Q E s := by
  refine callType_codes (Q₁ := fun obj s₁ => obj = .ref s.heap.objs.size ∧ s₁ = { s with heap := s.heap.push { cls := .type "list", data := .seq #[] } }) PySem.F.called_list (PySem.F.typeCall_list_1 _) PySem.F.entry_list_init
    (code_list_new _ ⟨rfl, rfl⟩) fun obj s₁ h₁ => ?_
  obtain ⟨rfl, rfl⟩ := h₁
  have hS : (s.heap.push { cls := .type "list", data := .seq #[] }).get? s.heap.objs.size = some { cls := .type "list", data := .seq #[] } := Heap.get?_push_size _ rfl
  have hr : r < s.heap.objs.size := let ⟨_, ho, _⟩ := hv; Heap.lt_size ho
  have hd : d < s.heap.objs.size := hm.lt
  refine ⟨⟨_, hS, rfl⟩, PySem.F.args_list_init_2 _ _, initI (es := es) (ep := ep) (A := A.in1) hh (let ⟨o, ho, x⟩ := hv; ⟨o, Heap.get?_push_of_some _ ho, x⟩) (hm.push _) _ (Nat.ne_of_gt hr) (Nat.ne_of_lt hd) hS (fun h' tk acc c as hk hS' hl hG hacc => ?_) hn⟩
  exact ⟨rfl, hQ h' tk acc c as (fun b o e => hk b o (Nat.ne_of_lt (Heap.lt_size e)) (Heap.get?_push_of_some _ e)) hS' hl hG hacc⟩
end
def rListItT : List V → Hp → VK → Prop := fun vs H Q => ∃ (p a : Addr) (kvs : List (List Key × V)), vs = [.ref p] ∧ H p = some (L2.DX.itemsO p a) ∧ H a = some (.dT kvs) ∧
  ∀ (H' : Hp) (l : Addr) (ts : List Addr), (∀ b o, H b = some o → H' b = some o) → H l = none → H' l = some (.lst (ts.map V.ref)) → PairsOf H' ts kvs → Q (.ref l) H'
section
variable {X : Cx}
theorem cr_listItT (hc : X.calm = true) : CallR X (.type "list") rListItT := by
  intro pins s σ H xs us Q I r h
  obtain ⟨p, a, kvs, rfl, hp, ha, q⟩ := h
  obtain rfl := Vals.ref1 r
  have view : s.heap.IsItemsView p a := (show ObjOk X.prog X.w H s.heap p (L2.DX.itemsO p a) from I.hok p _ hp).1
  obtain ⟨z, hd, xs', rel, o, es, ep, ho, hx, hdat, hes, his, hn⟩ := dt_of I.hok ha
  have l1 : kvs.length = xs'.length := Paired.length rel
  have l2 : es.size = xs'.length := size_of_entries hes
  refine listCallI (es := es) (ep := ep) (I.ok.hd hc) view ⟨o, ho, hx, hdat⟩ (by omega) fun h' tk acc c as hk hS hl hG hacc => ?_
  have newS : H s.heap.objs.size = none := I.hok.fresh (Nat.le_refl _)
  have nS : ∀ b ∈ as, b ≠ s.heap.objs.size := fun b hb => Nat.ne_of_gt (hG.above b hb)
  have I1 : Inv X pins σ (upd H s.heap.objs.size (.lst (as.map V.ref))) { s with heap := h', toks := tk } :=
    I.laid (t' := tk) hk (Nat.le_refl _) ⟨by rw [List.length_map]; omega, acc.toList, c, by rw [hacc]; exact vals_refs as, by rw [Array.toArray_toList]; exact hS⟩
  obtain ⟨H2, I2, g, pp, _⟩ := made_tracked (h' := h') (tk := tk) I rel hes hl hG I1 (fun b o e => by rw [upd_ne (ne_of_none e newS)]; exact e) fun b hb => by
    rw [upd_ne (nS b hb)]
    exact I.hok.fresh (Nat.le_of_lt (hG.above b hb))
  exact ⟨.ref _, H2, I2, rfl, q H2 _ as (fun b o e => g b o (by rw [upd_ne (ne_of_none e newS)]; exact e)) newS (g _ _ upd_same) pp⟩
end
end KB
set_option Elab.async false
set_option linter.all false
set_option maxRecDepth 100000
set_option maxHeartbeats 4000000
namespace PySem.SeqAt
open AutoSeq1 (wpAny_loadPart')
open MeetsSeq MeetsSeq2 MeetsSeq3 SeqRoads2
theorem kc_tuple_lt (l b : Addr) (items items2 : Array Value) (n n2 : Nat) (dd dd2 : Option Addr) (sl sl2 : Array (Option Value)) (e r : Nat → Bool) :
    Meets (Builtin.«tuple.__lt__» ⟨[.ref l, .ref b], []⟩)
      (fun A R s => s.heap.get? l = some { cls := .type "tuple", dict := dd, data := .seq items n, slots := sl } ∧ s.heap.get? b = some { cls := .type "tuple", dict := dd2, data := .seq items2 n2, slots := sl2 } ∧
        (∀ j (h1 : j < items.size) (h2 : j < items2.size), EqAt A.in1 s items[j] items2[j] (e j)) ∧ (∀ j (h1 : j < items.size) (h2 : j < items2.size), (∀ i, i < j → e i = true) → e j = false → RcLt A.in1 s items[j] items2[j] (r j)) ∧
        R (.ok (.ret (.bool (firstLt e r (decide (items.size < items2.size)) (List.range (min items.size items2.size)))))) s) :=
  .of_wp fun prog w A R s h => by
    obtain ⟨hp, g, d, tk, os⟩ := s; obtain ⟨hl, hb, he, hr, h⟩ := h
    have f2 := AutoSeq1.sub_tuple_tuple
    have hZ : (items.toList.zip items2.toList).length = min items.size items2.size := by simp
    wp_walk using wpAny_loadPart' hl, wpAny_loadPart' hb, wpAny_forIn_list _ (fun rest b s' => b.1 = none ∧ s' = ⟨hp, g, d, tk, os⟩ ∧ ∃ i, rest = (items.toList.zip items2.toList).drop i ∧ (∀ m, m < i → e m = true) ∧
      R (.ok (.ret (.bool (firstLt e r (decide (items.size < items2.size)) ((List.range (min items.size items2.size)).drop i))))) ⟨hp, g, d, tk, os⟩) _
    case turn =>
      rintro ⟨y, x⟩ rest b s' ⟨hb', rfl, i, hz, hpre, hR⟩
      have hlt : i < (items.toList.zip items2.toList).length := by
        rcases Nat.lt_or_ge i (items.toList.zip items2.toList).length with h' | h'
        · exact h'
        · rw [List.drop_of_length_le h'] at hz; cases hz
      have hm : i < min items.size items2.size := hZ ▸ hlt
      have h1 : i < items.size := Nat.lt_of_lt_of_le hm (Nat.min_le_left _ _)
      have h2 : i < items2.size := Nat.lt_of_lt_of_le hm (Nat.min_le_right _ _)
      rw [List.drop_eq_getElem_cons hlt] at hz
      injection hz with hyx hrest
      have hy : y = items[i] := by have := congrArg Prod.fst hyx; simpa using this
      have hx : x = items2[i] := by have := congrArg Prod.snd hyx; simpa using this
      subst hy hx
      have hd : (List.range (min items.size items2.size)).drop i = i :: (List.range (min items.size items2.size)).drop (i + 1) := by simp [List.drop_eq_getElem_cons, hm]
      rw [hd] at hR
      refine wpAny_bind (he i h1 h2 prog w _ _ ?_)
      cases hy : e i with
      | true =>
        rw [firstLt_yes hy] at hR
        wp_walk
        refine ⟨rfl, rfl, i + 1, hrest, fun m hm => ?_, hR⟩
        rcases Nat.lt_or_ge m i with z | z
        · exact hpre m z
        · have : m = i := by omega
          rw [this]; exact hy
      | false =>
        rw [firstLt_no hy] at hR
        rw [if_pos (by rfl)]
        show wpAny _ _ (do rule "tuple.compare.by-the-first-pair-that-differs"; let v ← richCompare CmpOp.Lt items[i] items2[i]; let v' ← ret v; pure (ForInStep.done (some v', ()))) _ _ _
        refine wpAny_bind (wpAny_rule ?_)
        refine wpAny_bind (hr i h1 h2 hpre hy prog w _ _ ?_)
        wp_walk
        exact ⟨_, rfl, hR⟩
    case fin =>
      rintro ⟨b1, b2⟩ s' ⟨hb', rfl, i, hz, hpre, hR⟩
      simp only at hb'
      subst hb'
      have hge : min items.size items2.size ≤ i := by
        rcases Nat.lt_or_ge i (items.toList.zip items2.toList).length with h' | h'
        · rw [List.drop_eq_getElem_cons h'] at hz; cases hz
        · exact hZ ▸ h'
      rw [List.drop_of_length_le (by simpa using hge)] at hR
      wp_walk
      exact ⟨_, rfl, by simpa [Builtin.Tuple.tupleCompareSizes, firstLt] using hR⟩
    case h =>
      exact ⟨rfl, rfl, 0, rfl, fun m hm => absurd hm (Nat.not_lt_zero _), by simpa using h⟩
section
variable {A : Around} {s : Shared}
theorem RcLt.tuplesF {l b : Addr} {items items2 : Array Value} {e r : Nat → Bool} (hl : s.heap.IsTuple l items) (hb : s.heap.IsTuple b items2) (hu : A.units < cLine)
    (he : ∀ j (h1 : j < items.size) (h2 : j < items2.size), EqAt A.in1 s items[j] items2[j] (e j)) (hr : ∀ j (h1 : j < items.size) (h2 : j < items2.size), (∀ i, i < j → e i = true) → e j = false → RcLt A.in1 s items[j] items2[j] (r j)) :
    RcLt A s (.ref l) (.ref b) (firstLt e r (decide (items.size < items2.size)) (List.range (min items.size items2.size))) := fun prog w E Q h => by
  obtain ⟨⟨cls, dd, data, sl⟩, ho, hc, n, hd⟩ := id hl
  obtain ⟨⟨cls2, dd2, data2, sl2⟩, ho2, hc2, n2, hd2⟩ := id hb
  simp only at hc hd hc2 hd2
  subst hc hd hc2 hd2
  exact richCompare_meets_room (op := .Lt) ⟨_, ho, rfl⟩ ⟨_, ho2, rfl⟩ F.slot_tuple_lt F.entry_tuple_lt (F.args_tuple_lt_2 _ _) (kc_tuple_lt l b items items2 n n2 dd dd2 sl sl2 e r)
    ⟨ho, ho2, he, hr, show Value.bool (firstLt e r (decide (items.size < items2.size)) (List.range (min items.size items2.size))) ≠ Value.notImplemented ∧ Q (.bool (firstLt e r (decide (items.size < items2.size)) (List.range (min items.size items2.size)))) s from ⟨(fun x => nomatch x), h⟩⟩ hu
end
end PySem.SeqAt
namespace KC
open PySem PySem.Spec PyProof.Rows L2 KB PySem.SeqAt
mutual
def ltD : PyData → PyData → Bool
  | .int i, .int j => decide (i < j)
  | .str x, .str y => decide (x.cps.toList < y.cps.toList)
  | .tuple xs, .tuple ys => ltL xs ys
  | _, _ => false
def ltL : List PyData → List PyData → Bool
  | [], [] => false
  | [], _ :: _ => true
  | _ :: _, [] => false
  | x :: xs, y :: ys => if PyData.eqv x y = true then ltL xs ys else ltD x y
end
mutual
def okD : PyData → PyData → Bool
  | .int _, .int _ => true
  | .str _, .str _ => true
  | .tuple xs, .tuple ys => okL xs ys
  | _, _ => false
def okL : List PyData → List PyData → Bool
  | [], _ => true
  | _ :: _, [] => true
  | x :: xs, y :: ys => if PyData.eqv x y = true then okL xs ys else okD x y
end
theorem firstLt_shift {e r : Nat → Bool} {fin : Bool} : ∀ l : List Nat, firstLt e r fin (l.map (· + 1)) = firstLt (fun j => e (j + 1)) (fun j => r (j + 1)) fin l
  | [] => rfl
  | j :: l => by
    show (if e (j + 1) = true then firstLt e r fin (l.map (· + 1)) else r (j + 1)) = _
    rw [firstLt_shift l]
    rfl
theorem ltL_first : ∀ (xs ys : List PyData) (e r : Nat → Bool), (∀ j x y, xs[j]? = some x → ys[j]? = some y → e j = PyData.eqv x y ∧ r j = ltD x y) →
    firstLt e r (decide (xs.length < ys.length)) (List.range (min xs.length ys.length)) = ltL xs ys
  | [], [], _, _, _ => by unfold ltL; rfl
  | [], _ :: _, _, _, _ => by
    unfold ltL
    simp [firstLt]
  | _ :: _, [], _, _, _ => by
    unfold ltL
    simp [firstLt]
  | x :: xs, y :: ys, e, r, h => by
    have h0 := h 0 x y rfl rfl
    have e1 : min (x :: xs).length (y :: ys).length = min xs.length ys.length + 1 := by simp only [List.length_cons]; omega
    rw [e1, List.range_succ_eq_map]
    have e2 : decide ((x :: xs).length < (y :: ys).length) = decide (xs.length < ys.length) := by simp
    rw [e2]
    unfold ltL
    show (if e 0 = true then firstLt e r _ (List.map Nat.succ _) else r 0) = _
    rw [h0.1, h0.2]
    by_cases q : PyData.eqv x y = true
    · rw [if_pos q, if_pos q]
      rw [show (List.map Nat.succ (List.range (min xs.length ys.length))) = (List.range (min xs.length ys.length)).map (· + 1) from rfl, firstLt_shift]
      exact ltL_first xs ys _ _ fun j a b ha hb => h (j + 1) a b ha hb
    · rw [if_neg q, if_neg q]
end KC
namespace KC
open PySem PySem.Spec PyProof.Rows L2 KB PySem.SeqAt
theorem lt_str_b {prog : Program} {w : World} {A : Around} {E : Value → Shared → Prop} {s : Shared} {x y : Str} {t u : Tok} {Q : Value → Shared → Prop} (h : Q (.bool (decide (x.cps.toList < y.cps.toList))) s) :
    wpAny (model prog w) A (richCompare .Lt (.str x t) (.str y u)) Q E s := DT.rcLt_str A s x t y u prog w E Q h
mutual
theorem rcLt_data : ∀ (da db : PyData) (A : Around) (s : Shared) (a b : Value) (as bs : List Addr), Reads s.heap a da as → Reads s.heap b db bs → da.canLay0 = true → db.canLay0 = true → okD da db = true →
    A.units + min da.depth db.depth < cLine → RcLt A s a b (ltD da db)
  | .int x, .int y, A, s, _, _, _, _, ra, rb, _, _, _, hu => by
    cases ra; cases rb
    intro prog w E Q h
    exact PyProof.Rows.lt_int (by unfold ltD at h; exact h)
  | .str x, .str y, A, s, _, _, _, _, ra, rb, _, _, _, hu => by
    cases ra; cases rb
    intro prog w E Q h
    exact lt_str_b (by unfold ltD at h; exact h)
  | .tuple xs, .tuple ys, A, s, _, _, _, _, ra, rb, ha, hb, hok, hu => by
    cases ra with
    | @tuple l o vs n _ as₁ h1 h2 h3 h4 =>
      cases rb with
      | @tuple l' o' vs' n' _ bs₁ k1 k2 k3 k4 =>
        have hl : s.heap.IsTuple l vs := ⟨_, h1, h2, _, h3⟩
        have hl' : s.heap.IsTuple l' vs' := ⟨_, k1, k2, _, k3⟩
        have n1 : vs.size = xs.length := by simpa using ReadsAll.length _ _ _ h4
        have n2 : vs'.size = ys.length := by simpa using ReadsAll.length _ _ _ k4
        have hok' : okL xs ys = true := by unfold okD at hok; exact hok
        have e : ltD (.tuple xs) (.tuple ys) = firstLt (pairEq xs ys) (fun j => ltD (xs.getD j .none) (ys.getD j .none)) (decide (vs.size < vs'.size)) (List.range (min vs.size vs'.size)) := by
          rw [n1, n2, ltL_first xs ys]
          · unfold ltD; rfl
          · intro j x y hx hy
            simp [pairEq, List.getD, hx, hy]
        rw [e]
        refine RcLt.tuplesF hl hl' (room_here hu) (fun j j1 j2 => ?_) (fun j j1 j2 hp hf => ?_)
        · have := eqAt_readsAll xs ys A.in1 s vs.toList vs'.toList _ _ h4 k4 ha hb (room_in hu) j (by simpa using j1) (by simpa using j2)
          simpa using this
        · have := rcLt_all xs ys A.in1 s vs.toList vs'.toList _ _ h4 k4 ha hb hok' (room_in hu) j (by simpa using j1) (by simpa using j2) hp hf
          simpa using this
  | .none, _, _, _, _, _, _, _, _, _, _, _, hok, _ => by unfold okD at hok; cases hok
  | .bool _, _, _, _, _, _, _, _, _, _, _, _, hok, _ => by unfold okD at hok; cases hok
  | .list _, _, _, _, _, _, _, _, _, _, _, _, hok, _ => by unfold okD at hok; cases hok
  | .dict _, _, _, _, _, _, _, _, _, _, _, _, hok, _ => by unfold okD at hok; cases hok
  | .int _, .none, _, _, _, _, _, _, _, _, _, _, hok, _ => by unfold okD at hok; cases hok
  | .int _, .bool _, _, _, _, _, _, _, _, _, _, _, hok, _ => by unfold okD at hok; cases hok
  | .int _, .str _, _, _, _, _, _, _, _, _, _, _, hok, _ => by unfold okD at hok; cases hok
  | .int _, .list _, _, _, _, _, _, _, _, _, _, _, hok, _ => by unfold okD at hok; cases hok
  | .int _, .tuple _, _, _, _, _, _, _, _, _, _, _, hok, _ => by unfold okD at hok; cases hok
  | .int _, .dict _, _, _, _, _, _, _, _, _, _, _, hok, _ => by unfold okD at hok; cases hok
  | .str _, .none, _, _, _, _, _, _, _, _, _, _, hok, _ => by unfold okD at hok; cases hok
  | .str _, .bool _, _, _, _, _, _, _, _, _, _, _, hok, _ => by unfold okD at hok; cases hok
  | .str _, .int _, _, _, _, _, _, _, _, _, _, _, hok, _ => by unfold okD at hok; cases hok
  | .str _, .list _, _, _, _, _, _, _, _, _, _, _, hok, _ => by unfold okD at hok; cases hok
  | .str _, .tuple _, _, _, _, _, _, _, _, _, _, _, hok, _ => by unfold okD at hok; cases hok
  | .str _, .dict _, _, _, _, _, _, _, _, _, _, _, hok, _ => by unfold okD at hok; cases hok
  | .tuple _, .none, _, _, _, _, _, _, _, _, _, _, hok, _ => by unfold okD at hok; cases hok
  | .tuple _, .bool _, _, _, _, _, _, _, _, _, _, _, hok, _ => by unfold okD at hok; cases hok
  | .tuple _, .int _, _, _, _, _, _, _, _, _, _, _, hok, _ => by unfold okD at hok; cases hok
  | .tuple _, .str _, _, _, _, _, _, _, _, _, _, _, hok, _ => by unfold okD at hok; cases hok
  | .tuple _, .list _, _, _, _, _, _, _, _, _, _, _, hok, _ => by unfold okD at hok; cases hok
  | .tuple _, .dict _, _, _, _, _, _, _, _, _, _, _, hok, _ => by unfold okD at hok; cases hok
theorem rcLt_all : ∀ (xs ys : List PyData) (A : Around) (s : Shared) (vs ws : List Value) (as bs : List Addr), ReadsAll s.heap vs xs as → ReadsAll s.heap ws ys bs → PyData.canLayAll0 xs = true → PyData.canLayAll0 ys = true → okL xs ys = true →
    A.units + min (PyData.depthAll xs) (PyData.depthAll ys) < cLine → ∀ j (h1 : j < vs.length) (h2 : j < ws.length), (∀ i, i < j → pairEq xs ys i = true) → pairEq xs ys j = false → RcLt A s vs[j] ws[j] (ltD (xs.getD j .none) (ys.getD j .none))
  | [], _, _, _, _, _, _, _, ra, _, _, _, _, _, j, h1, _, _, _ => by cases ra; exact absurd h1 (Nat.not_lt_zero _)
  | _ :: _, [], _, _, _, _, _, _, _, rb, _, _, _, _, j, _, h2, _, _ => by cases rb; exact absurd h2 (Nat.not_lt_zero _)
  | x :: xs, y :: ys, A, s, _, _, _, _, ra, rb, ha, hb, hok, hu, j, h1, h2, hp, hf => by
    have ha' : x.canLay0 = true ∧ PyData.canLayAll0 xs = true := by simpa [PyData.canLayAll0] using ha
    have hb' : y.canLay0 = true ∧ PyData.canLayAll0 ys = true := by simpa [PyData.canLayAll0] using hb
    unfold okL at hok
    cases ra with
    | cons r rs =>
      cases rb with
      | cons r' rs' =>
        cases j with
        | zero =>
          have e0 : PyData.eqv x y = false := hf
          rw [if_neg (by rw [e0]; exact Bool.false_ne_true)] at hok
          exact rcLt_data x y A s _ _ _ _ r r' ha'.1 hb'.1 hok (room_head hu)
        | succ j =>
          have e0 : PyData.eqv x y = true := hp 0 (Nat.succ_pos _)
          rw [if_pos e0] at hok
          exact rcLt_all xs ys A s _ _ _ _ rs rs' ha'.2 hb'.2 hok (room_tail hu) j (Nat.lt_of_succ_lt_succ h1) (Nat.lt_of_succ_lt_succ h2) (fun i hi => hp (i + 1) (Nat.succ_lt_succ hi)) hf
end
def rLtD (K : PySem.W.Frag) : R2 := fun x y H Q => ∃ d e, Dp K H x d ∧ Dp K H y e ∧ shaped d = true ∧ shaped e = true ∧ okD d e = true ∧ Q (.bl (ltD d e)) H
theorem op_ltD {X : Cx} (hu : X.A.units + 64 < cLine) : OpR X (compareOp .Lt) (rLtD X.K) := by
  intro pins s σ H x y v u Q I rx ry h
  obtain ⟨d, e, hd, he, sd, se, hok, q⟩ := h
  obtain ⟨as, r1⟩ := Dp.reads I d x v hd rx
  obtain ⟨bs, r2⟩ := Dp.reads I e y u he ry
  exact rcLt_data d e X.A s v u as bs r1 r2 (canLay_of_shaped sd) (canLay_of_shaped se) hok (room_of_shaped sd hu) X.prog X.w X.xe _ ⟨.bl _, H, I, rfl, q⟩
theorem keyLt_data {prog : Program} {w : World} {A : Around} {E : Value → Shared → Prop} {s : Shared} {xs ys : List PyData} {u v : Value} {as bs : List Addr} {Q : Bool → Shared → Prop} (ra : Reads s.heap u (.tuple xs) as) (rb : Reads s.heap v (.tuple ys) bs)
    (ha : (PyData.tuple xs).canLay0 = true) (hb : (PyData.tuple ys).canLay0 = true) (hok : okL xs ys = true) (hu : A.units + min (PyData.tuple xs).depth (PyData.tuple ys).depth < cLine) (h : Q (ltL xs ys) s) :
    wpAny (model prog w) A (keyLt' (tuples' false) u v) Q E s := by
  cases ra with
  | @tuple l o vs n _ as₁ h1 h2 h3 h4 =>
    cases rb with
    | @tuple l' o' vs' n' _ bs₁ k1 k2 k3 k4 =>
      refine PySem.W.kat_lt h1 h3 k1 k3 ?_
      have n1 : vs.size = xs.length := by simpa using ReadsAll.length _ _ _ h4
      have n2 : vs'.size = ys.length := by simpa using ReadsAll.length _ _ _ k4
      rw [n1, n2]
      have hu0 : A.units + min (PyData.depthAll xs) (PyData.depthAll ys) < cLine := by
        have q := room_in hu
        omega
      clear h3 k3 n1 n2 h1 k1
      generalize vs.toList = us at h4
      generalize vs'.toList = ws at k4
      have key : ∀ (xs ys : List PyData) (us ws : List Value) (as bs : List Addr) (i : Nat), ReadsAll s.heap us xs as → ReadsAll s.heap ws ys bs → PyData.canLayAll0 xs = true → PyData.canLayAll0 ys = true → okL xs ys = true →
          A.units + min (PyData.depthAll xs) (PyData.depthAll ys) < cLine → Q (ltL xs ys) s → PySem.W.KatLex prog w A false (decide (xs.length < ys.length)) Q (us.zip ws) i s := by
        intro xs
        induction xs with
        | nil =>
          intro ys us ws as bs i ra rb _ _ _ _ hq
          cases ra
          cases ys with
          | nil =>
            cases rb
            exact PySem.W.kat_nil (by unfold ltL at hq; exact hq)
          | cons y ys =>
            cases rb
            exact PySem.W.kat_nil (by unfold ltL at hq; simpa using hq)
        | cons x xs ih =>
          intro ys us ws as bs i ra rb ha hb hok hu hq
          cases ys with
          | nil =>
            cases rb
            cases ra
            exact PySem.W.kat_nil (by unfold ltL at hq; simpa using hq)
          | cons y ys =>
            have ha' : x.canLay0 = true ∧ PyData.canLayAll0 xs = true := by simpa [PyData.canLayAll0] using ha
            have hb' : y.canLay0 = true ∧ PyData.canLayAll0 ys = true := by simpa [PyData.canLayAll0] using hb
            unfold okL at hok
            unfold ltL at hq
            cases ra with
            | cons r rs =>
              cases rb with
              | cons r' rs' =>
                have e1 : decide ((x :: xs).length < (y :: ys).length) = decide (xs.length < ys.length) := by simp
                rw [e1]
                refine PySem.W.kat_cons (eqAt_reads x y A s _ _ _ _ r r' ha'.1 hb'.1 (room_head hu) prog w _ _ ?_)
                refine PySem.W.kat_go (fun e => ?_) (fun e => ?_)
                · rw [if_pos e] at hok hq
                  exact PySem.W.kat_yes (ih ys _ _ _ _ (i + 1) rs rs' ha'.2 hb'.2 hok (room_tail hu) hq)
                · rw [if_neg (by rw [e]; exact Bool.false_ne_true)] at hok hq
                  refine PySem.W.kat_no ?_
                  rw [Bool.false_and]
                  exact PySem.W.kat_one _ _ (rcLt_data x y A s _ _ _ _ r r' ha'.1 hb'.1 hok (room_head hu) prog w _ _ hq)
      exact key xs ys _ _ _ _ 0 h4 k4 ha hb hok hu0 h
end KC
set_option Elab.async false
set_option linter.all false
set_option maxRecDepth 100000
set_option maxHeartbeats 4000000
namespace KD
open PySem PySem.Spec PyProof.Rows L2 KB KC LamX
def LamO (f : Addr) (q : Str) (params : Arguments) (body : Expr) (scope : Scope) (c' : Addr) : HO := .ext fun h => ∃ pm ctv, h.get? f = some (PySem.W.kla_obj "<lambda>" q params body scope [] pm c' ctv)
theorem lam_run {CX : CXT} {P : Program} {w : World} {K : PySem.W.Frag} {mg : Str → Option Value} {base : Heap} {k : Nat} {f c' : Addr} {q : Str} {params : Arguments} {body : Expr} {scope : Scope} {N ps : List Str} (S : FnScope N ps scope)
    {A : Around} {outer : List Env} {s : Shared} {H : Hp} {args : Args} {us : List Value} {vs : List V} {Q : VK} {E : XK} (hr : Room (k + 1) A) (e0 : Env0 P w K mg base A outer s H)
    (hf : H f = some (LamO f q params body scope c')) (hc : H c' = some (CodeO c' q)) (hb : ∀ pm ctv, BindsTo s (PySem.W.kla_fn "<lambda>" q params body scope [] pm (.ref c') ctv) args (ps.zip us)) (r : Vals vs us) (hl : vs.length = ps.length)
    (hbody : Room k (A.deeper (envOfC q scope s.heap.objs.size f (.ref c'))) → ∃ t, PE (cxOf CX P w K mg base N q scope f (.ref c') A outer s H E) body t ∧ t (start N vs) H Q) :
    codeAny (model P w) A (.call (.ref f) args) (CR CX outer P w H s Q E) s := by
  have lim : s.heap.NoLimit := e0.mod.nolimit.keeps fun b o e => (e0.bs b o e).1
  have hkind : ∀ y ∈ ps.zip us, scope.names.lookup y.1 = some .local ∨ (scope.names.lookup y.1 = some .cell ∧ ((cellsFrom (s.heap.objs.size + 1) scope.names []).lookup y.1).isSome = true) := fun ⟨n, v⟩ hy =>
    (S.par n (List.of_mem_zip hy).1).elim .inl fun q => .inr ⟨q, PySem.W.cellsFrom_some _ _ _ (.inl q)⟩
  obtain ⟨⟨pm, ctv, of1⟩, _, _⟩ := e0.hok f _ hf
  obtain ⟨⟨oc, vsc, t, hoc, hdc, hvc⟩, _, _⟩ := e0.hok c' _ hc
  refine PySem.W.kla_callFunE hr.depth of1 rfl S.co S.gen rfl ⟨c', oc, vsc, t, rfl, hoc, hdc, hvc⟩ ?_
  refine hb pm ctv _ _ _ _ ?_
  refine wpAny_newFunctionEnv_cells S.kind hkind fun env he s1 x => ?_
  subst he
  refine ⟨lim.keeps x.toInCall.keep, ?_⟩
  obtain ⟨t, ht, hq⟩ := hbody (hr.deeper _)
  have I : Inv (cxOf CX P w K mg base N q scope f (.ref c') A outer s H E) [] (start N vs) H s1 := inv_start S hr.hd e0 hl r x
  refine PySem.W.kla_codeExpr (wpAny_mono (ht.run [] s1 (start N vs) H Q I hq) (fun v s' hs => ?_) fun e s' hs => hs)
  obtain ⟨v', H', J, rv, q⟩ := hs
  exact ⟨v', H', J.os, J.bare, J.base, J.hok, rv, q⟩
theorem lamO_ok {P : Program} {w : World} {H : Hp} {h : Heap} {f c' : Addr} {q : Str} {params : Arguments} {body : Expr} {scope : Scope} {pm ctv : Value} (e : h.get? f = some (PySem.W.kla_obj "<lambda>" q params body scope [] pm c' ctv)) :
    ObjOk P w H h f (LamO f q params body scope c') := ⟨⟨pm, ctv, e⟩, ⟨_, e⟩, fun h1 h2 ⟨a, b, z⟩ k => ⟨a, b, k _ z⟩⟩
theorem tabs_upd {T : List (Addr × Str)} {H : Hp} {a : Addr} {o : HO} (t : Tabs T H) (n : H a = none) : Tabs T (upd H a o) := t.ext fun b u e => by rw [upd_ne (ne_of_none e n)]; exact e
theorem extN_upd {H : Hp} {a : Addr} {o : HO} (n : H a = none) : ExtN H (upd H a o) := fun b u e _ => by rw [upd_ne (ne_of_none e n)]; exact e
def tLamV (T : List (Addr × Str)) (q : Str) (params : Arguments) (body : Expr) (scope : Scope) : TE := fun _ H Q => Tabs T H ∧ ∀ f c' H1, ExtN H H1 → Tabs T H1 → H1 f = some (LamO f q params body scope c') → H1 c' = some (CodeO c' q) → H f = none → Q (.ref f) H1
section
variable {X : Cx}
theorem pe_lamV {T : List (Addr × Str)} {c P : Addr} {params : Arguments} {body : Expr} {scope : Scope} {pos : Pos} (TB : TabB X.base X.mg c P) (hcode : X.env.code = .ref c) (hm : (P, X.env.qual ++ "<lambda>") ∈ T) (hu : ∀ p ∈ T, p.1 = P → p.2 = X.env.qual ++ "<lambda>")
    (hdef : defaultsOf params X.env = ([], [])) (hfree : ∀ y ∈ scope.names, y.2 ≠ .free) (hclo : cloFrom X.env.cells scope.names [] = []) : PE X (.Lambda params body scope pos) (tLamV T (X.env.qual ++ "<lambda>") params body scope) := by
  refine ⟨fun pins s σ H Q I h => ?_⟩
  obtain ⟨hT, h⟩ := h
  obtain ⟨ps, hP, ht, ha⟩ := hT _ hm
  refine PySem.W.kla_eval hdef ?_
  have bP : s.heap.BuiltinsAt X.mg P := TB.bm.keeps I.bk
  have hP' : s.heap.get? P = some { cls := .none, data := .fields ps } := I.hok P _ hP
  have hcl : closureFor scope X.env = pure [] := by
    have z := closure_ok (env := X.env) (scope := scope) (fun y hy e => absurd e (hfree y hy))
    rw [hclo] at z
    exact z
  have end_ : ∀ (f c' : Addr) (ctv : Value) (H1 : Hp) (h' : Heap) (tk : Nat), Inv X pins σ H1 { s with heap := h', toks := tk } → s.heap.objs.size ≤ h'.objs.size → ExtN H H1 → Tabs T H1 → H1 h'.objs.size = none → H1 c' = some (CodeO c' (X.env.qual ++ "<lambda>")) →
      EP X pins σ Q (.ref h'.objs.size) { s with heap := h'.push (PySem.W.kla_obj "<lambda>" (X.env.qual ++ "<lambda>") params body scope [] ((X.mg "__name__").getD .none) c' ctv), toks := tk } := by
    intro f c' ctv H1 h' tk I1 hz e1 t1 n1 co
    have J : Inv X pins σ (upd H1 h'.objs.size (LamO h'.objs.size (X.env.qual ++ "<lambda>") params body scope c')) { s with heap := h'.push (PySem.W.kla_obj "<lambda>" (X.env.qual ++ "<lambda>") params body scope [] ((X.mg "__name__").getD .none) c' ctv), toks := tk } :=
      I1.laid (t' := tk) (fun b u e => Heap.get?_push_of_some _ e) (Nat.le_refl _) (lamO_ok (Heap.get?_push_size _ rfl))
    refine ⟨.ref h'.objs.size, _, J, rfl, h h'.objs.size c' _ (e1.trans (extN_upd n1)) (tabs_upd t1 n1) upd_same (by rw [upd_ne (ne_of_none co n1)]; exact co) (I.hok.fresh hz)⟩
  cases hc : codeAmong pos ps.toList with
  | none =>
    refine PySem.W.kla_makeFunction (mg := X.mg) (c := c) (P := P) (ps := ps) hcl I.ok.glob (I.mod.glob.keeps I.bk) hcode (TB.code.keeps I.bk) hP' ht hc TB.gP bP fun c' ctv h' tk hx hge hlt hrec htb => ?_
    obtain ⟨c2, oc, vs, t, e2, hoc, hd, hv⟩ := hrec
    cases e2
    have nC : H c' = none := I.hok.fresh hge
    have nPc : P ≠ c' := ne_of_none hP nC
    have I1 := inv_table (t' := tk) (more := #[rawInt pos.line, rawInt pos.col, .ref c']) (h' := h') I hP hx htb hge ⟨oc, vs, t, hoc, hd, hv⟩
    have hE : ExtN H (upd (upd H P (.tbl (ps ++ #[rawInt pos.line, rawInt pos.col, .ref c']))) c' (CodeO c' (X.env.qual ++ "<lambda>"))) := fun b o e n => by
      rw [upd_ne (ne_of_none e nC), upd_ne (fun z => n ps (Option.some.inj (e.symm.trans (by rw [z]; exact hP))))]
      exact e
    have eL : (ps ++ #[rawInt pos.line, rawInt pos.col, .ref c']).toList = ps.toList ++ [rawInt pos.line, rawInt pos.col, .ref c'] := by simp
    refine end_ h'.objs.size c' ctv _ h' tk I1 (Nat.le_trans hge (Nat.le_of_lt hlt)) hE (fun p hp => ?_) ?_ upd_same
    · by_cases hb : p.1 = P
      · rw [hu p hp hb, hb]
        refine ⟨_, by rw [upd_ne nPc, upd_same], by rw [eL]; exact PySem.TriplesOk_snoc _ _ _ _ ht, fun p' cv hcv => ?_⟩
        rw [eL] at hcv
        rcases among_app _ ht hcv with z | z
        · obtain ⟨c0, e1, e2⟩ := ha p' cv z
          exact ⟨c0, e1, hE _ _ e2 codeO_ne⟩
        · exact ⟨c', z, upd_same⟩
      · obtain ⟨ps', a1, a2, a3⟩ := hT p hp
        refine ⟨ps', by rw [upd_ne (ne_of_none a1 nC), upd_ne hb]; exact a1, a2, fun p' cv hcv => ?_⟩
        obtain ⟨c0, e1, e2⟩ := a3 p' cv hcv
        exact ⟨c0, e1, hE _ _ e2 codeO_ne⟩
    · have n1 : h'.objs.size ≠ c' := Nat.ne_of_gt hlt
      have n2 : h'.objs.size ≠ P := Nat.ne_of_gt (Nat.lt_of_lt_of_le (Heap.lt_size hP') (Nat.le_trans hge (Nat.le_of_lt hlt)))
      rw [upd_ne n1, upd_ne n2]
      exact I.hok.fresh (Nat.le_trans hge (Nat.le_of_lt hlt))
  | some cv =>
    obtain ⟨c', e, hco⟩ := ha pos cv hc
    subst e
    refine PySem.W.kla_makeFunctionHit (mg := X.mg) (c := c) (P := P) (ps := ps) hcl I.ok.glob (I.mod.glob.keeps I.bk) hcode (TB.code.keeps I.bk) hP' ht hc bP fun ctv h' tk hx hsz => ?_
    exact end_ h'.objs.size c' ctv H h' tk (I.kept (t' := tk) hx) hsz (ExtN.refl H) hT (I.hok.fresh hsz) hco
end
end KD
set_option Elab.async false
set_option linter.all false
set_option maxRecDepth 100000
set_option maxHeartbeats 4000000
namespace KS
open PySem PySem.Spec PyProof.Rows L2 KB KC KD LamX PySem.SeqAt SrtO Srt
def Ex (H H' : Hp) : Prop := ∀ b o, H b = some o → H' b = some o
theorem Ex.refl (H : Hp) : Ex H H := fun _ _ h => h
theorem Ex.trans {H H1 H2 : Hp} (a : Ex H H1) (b : Ex H1 H2) : Ex H H2 := fun c o h => b c o (a c o h)
theorem Ex.upd {H : Hp} {a : Addr} {o : HO} (n : H a = none) : Ex H (upd H a o) := fun b u e => by rw [upd_ne (ne_of_none e n)]; exact e
theorem Ex.rd {H H' : Hp} {a : Addr} {u : HO} (e : Ex H H') (h : Rd H a u) : Rd H' a u := h.elim (fun h => .inl (e _ _ h)) fun ⟨o, h⟩ => .inr ⟨o, e _ _ h⟩
mutual
theorem dp_ex {K : PySem.W.Frag} {H H' : Hp} (e : Ex H H') : ∀ {v : V} {d : PyData}, Dp K H v d → Dp K H' v d
  | _, _, .non => .non
  | _, _, .bl b => .bl b
  | _, _, .int i => .int i
  | _, _, .str x => .str x
  | _, _, .lst h t => .lst (h.elim (fun h => .inl (e.rd h)) .inr) (dpAll_ex e t)
  | _, _, .tup h t => .tup (h.elim (fun h => .inl (e.rd h)) .inr) (dpAll_ex e t)
theorem dpAll_ex {K : PySem.W.Frag} {H H' : Hp} (e : Ex H H') : ∀ {vs : List V} {ds : List PyData}, DpAll K H vs ds → DpAll K H' vs ds
  | _, _, .nil => .nil
  | _, _, .cons h t => .cons (dp_ex e h) (dpAll_ex e t)
end
def KeyCall (X : Cx) (f : Addr) (H : Hp) (kvs : List (List Key × V)) (kd : List Key × V → List PyData) : Prop :=
  ∀ x ∈ kvs, ∀ (t q : Addr) (H1 : Hp), Ex H H1 → H1 t = some (.tup [.ref q, x.2]) → H1 q = some (.tup (x.1.map kV)) → ∀ (pins : List (Addr × Obj)) (σ : L2.St) (s1 : Shared) (R : Value → Shared → Prop), Inv X pins σ H1 s1 →
    (∀ y u H2 s2, Inv X pins σ H2 s2 → Ex H1 H2 → RelV y u → Dp X.K H2 y (.tuple (kd x)) → R u s2) → wpAny (model X.prog X.w) X.A.in1.in1 (call (.ref f) [.ref t]) R (fun _ _ => False) s1
section
variable {X : Cx} {pins : List (Addr × Obj)} {σ : L2.St}
theorem lst_raw {H : Hp} {s : Shared} {a : Addr} {ys : List V} (I : Inv X pins σ H s) (h : H a = some (.lst ys)) : ys.length ≤ sizeLine ∧ ∃ (its : List Value) (n : Nat), Vals ys its ∧ s.heap.get? a = some (seqObj "list" its.toArray n) := I.hok a _ h
theorem lst_write {H : Hp} {s : Shared} {a : Addr} {ys zs : List V} {us vs : List Value} {n tk : Nat} (I : Inv X pins σ H s) (h : H a = some (.lst ys)) (hr : s.heap.get? a = some (seqObj "list" us.toArray n)) (hz : zs.length ≤ sizeLine) (rz : Vals zs vs) (g : Array Value → Array Value) (hg : g us.toArray = vs.toArray) :
    Inv X pins σ (upd H a (.lst zs)) { s with heap := s.heap.update a (Obj.mapSeq g), toks := tk } := by
  have e := get?_update_seq hr g
  rw [hg] at e
  exact I.write (t' := tk) (x := a) (e := a) (by rw [h]; exact True.intro) (.inl rfl) (fun b u hb q => (Heap.get?_update_ne _ _ _ _ hb).trans q) ⟨_, e⟩ ⟨hz, vs, _, rz, e⟩
theorem swo_rank {α : Type} (r : α → Int) : Swo fun p q : α => decide (r p < r q) :=
  ⟨fun x y h => by have h := of_decide_eq_true h; exact decide_eq_false (by omega), fun x y z h1 h2 => by have h1 := of_decide_eq_false h1; have h2 := of_decide_eq_false h2; exact decide_eq_false (by omega)⟩
def rankOf (as : List Addr) (kvs : List (List Key × V)) (ρ : List Key × V → Int) (v : Value) : Int :=
  match v with
  | .ref t => match (as.zip kvs).find? (fun z => decide (z.1 = t)) with
    | some z => ρ z.2
    | none => 0
  | _ => 0
theorem find_zip {as : List Addr} {kvs : List (List Key × V)} (nd : as.Nodup) : ∀ {j : Nat} {t : Addr} {x : List Key × V}, as[j]? = some t → kvs[j]? = some x → (as.zip kvs).find? (fun z => decide (z.1 = t)) = some (t, x) := by
  induction as generalizing kvs with
  | nil => intro j t x h; simp at h
  | cons b as ih =>
    intro j t x h1 h2
    rw [List.nodup_cons] at nd
    cases kvs with
    | nil => simp at h2
    | cons y kvs =>
      cases j with
      | zero =>
        simp only [List.getElem?_cons_zero, Option.some.injEq] at h1 h2
        subst h1 h2
        simp
      | succ j =>
        simp only [List.getElem?_cons_succ] at h1 h2
        have hne : ¬ b = t := fun z => nd.1 (by rw [z]; exact List.mem_of_getElem? h1)
        rw [List.zip_cons_cons, List.find?_cons_of_neg (by simpa using hne)]
        exact ih nd.2 h1 h2
theorem rank_at {as : List Addr} {kvs : List (List Key × V)} {ρ : List Key × V → Int} (nd : as.Nodup) {j : Nat} {t : Addr} {x : List Key × V} (h1 : as[j]? = some t) (h2 : kvs[j]? = some x) : rankOf as kvs ρ (.ref t) = ρ x := by
  unfold rankOf
  simp only [find_zip nd h1 h2]
end
mutual
def pureD : PyData → Bool
  | .none => true
  | .bool _ => true
  | .int _ => true
  | .str _ => true
  | .tuple xs => pureL xs
  | _ => false
def pureL : List PyData → Bool
  | [] => true
  | x :: xs => pureD x && pureL xs
end
mutual
theorem dp_tups {K : PySem.W.Frag} {H H' : Hp} (e : ∀ b xs, Rd H b (.tup xs) → Rd H' b (.tup xs)) : ∀ {v : V} {d : PyData}, pureD d = true → Dp K H v d → Dp K H' v d
  | _, _, _, .non => .non
  | _, _, _, .bl b => .bl b
  | _, _, _, .int i => .int i
  | _, _, _, .str x => .str x
  | _, _, h, .lst _ _ => by unfold pureD at h; cases h
  | _, _, h, .tup a t => .tup (a.elim (fun a => .inl (e _ _ a)) .inr) (dpAll_tups e (by unfold pureD at h; exact h) t)
theorem dpAll_tups {K : PySem.W.Frag} {H H' : Hp} (e : ∀ b xs, Rd H b (.tup xs) → Rd H' b (.tup xs)) : ∀ {vs : List V} {ds : List PyData}, pureL ds = true → DpAll K H vs ds → DpAll K H' vs ds
  | _, _, _, .nil => .nil
  | _, _, h, .cons a t => by
    have h2 := h
    unfold pureL at h2
    rw [Bool.and_eq_true] at h2
    exact .cons (dp_tups e h2.1 a) (dpAll_tups e h2.2 t)
end
theorem kat_of {h : Heap} : ∀ its : List Value, (∀ u ∈ its, ∃ l r as, Reads h u (.tuple (.tuple l :: r)) as) → ∃ fs : List Value, PySem.W.KatTups h its fs ∧ fs.length = its.length ∧ ∀ v ∈ fs, ∃ (b : Addr) (o : Obj), v = .ref b ∧ h.get? b = some o ∧ o.cls = .type "tuple"
  | [], _ => ⟨[], PySem.W.KatTups.nil, rfl, fun v hv => by simp at hv⟩
  | u :: its, hr => by
    obtain ⟨fs, k1, k2, k3⟩ := kat_of its fun u' hu' => hr u' (List.mem_cons_of_mem _ hu')
    obtain ⟨l, r, as, q⟩ := hr u List.mem_cons_self
    cases q with
    | @tuple a o vs n _ as₁ h1 h2 h3 h4 =>
      generalize ev : vs.toList = vl at h4
      cases h4 with
      | @cons v0 vr _ _ as1 as2 r0 rr =>
        cases r0 with
        | @tuple b ob vs' n' _ as₂ g1 g2 g3 g4 =>
          refine ⟨.ref b :: fs, PySem.W.KatTups.cons h1 h2 h3 (by rw [← Array.getElem?_toList, ev]; rfl) k1, by rw [List.length_cons, List.length_cons, k2], fun v hv => ?_⟩
          rcases List.mem_cons.mp hv with e | hv
          · exact ⟨b, ob, e, g1, g2⟩
          · exact k3 v hv
section
variable {X : Cx} {pins : List (Addr × Obj)} {σ : L2.St}
theorem sort_body {f D : Addr} {H : Hp} {s : Shared} {h2 : Heap} {tk : Nat} {kvs : List (List Key × V)} {xs : List (List Key × Addr × Value)} {es : Array DictEntry} {as : List Addr} {kd : List Key × V → List PyData} {ρ : List Key × V → Int} {P : PySem.Fin → Shared → Prop} {E : Value → Shared → Prop}
    (I : Inv X pins σ H s) (hk : ∀ b o, s.heap.get? b = some o → h2.get? b = some o) (hD : h2.get? D = some (seqObj "list" (as.map Value.ref).toArray 0)) (hsD : s.heap.objs.size ≤ D)
    (rel : KT H kvs xs) (hes : es.toList = xs.map (entryOfKey (tupleKind (mixKind X.prog X.w)))) (hl : as.length = es.size) (hG : DT.Made es s.heap.objs.size h2 as) (hz : kvs.length ≤ sizeLine)
    (hsh : ∀ x ∈ kvs, shaped (.tuple (kd x)) = true) (hpu : ∀ x ∈ kvs, pureL (kd x) = true) (hft : ∀ x ∈ kvs, ∃ l r, kd x = .tuple l :: r) (hok : ∀ x ∈ kvs, ∀ y ∈ kvs, okL (kd x) (kd y) = true) (hρ : ∀ x ∈ kvs, ∀ y ∈ kvs, ltL (kd x) (kd y) = decide (ρ x < ρ y))
    (hu : X.A.units + 66 < cLine) (hcall : KeyCall X f H kvs kd)
    (q : ∀ (H' : Hp) (s' : Shared) (zs : List (Addr × (List Key × V))), Inv X pins σ H' s' → Ex H H' → H D = none → H' D = some (.lst (zs.map fun z => V.ref z.1)) → (zs.map (·.2)).Perm kvs → (zs.map (·.2)).Pairwise (fun x y => ¬ ρ y < ρ x) →
      (∀ z ∈ zs, ∃ q, H' z.1 = some (.tup [.ref q, z.2.2]) ∧ H' q = some (.tup (z.2.1.map kV))) → P (.done (.ret .none)) s') :
    wpAny (model X.prog X.w) X.A.in1.in1 (ksk_tree D (.ref f) false) P E { s with heap := h2, toks := tk } := by
  have l1 : kvs.length = xs.length := Paired.length rel
  have l2 : es.size = xs.length := size_of_entries hes
  have lak : as.length = kvs.length := by omega
  have nd : as.Nodup := List.Pairwise.imp (fun h => Nat.ne_of_lt h) hG.rise
  have szl : (as.map Value.ref).toArray.size = kvs.length := by rw [List.size_toArray, List.length_map, lak]
  have asz : (as.map Value.ref).length ≤ sizeLine := by rw [List.length_map]; omega
  have nD : H D = none := I.hok.fresh hsD
  have asD : ∀ b ∈ as, b ≠ D ∧ b < h2.objs.size := fun b hb => by
    obtain ⟨j, hj⟩ := List.mem_iff_getElem?.mp hb
    obtain ⟨_, _, e⟩ := hG.pairs j b hj
    refine ⟨fun z => ?_, Heap.lt_size e⟩
    rw [z, hD] at e
    exact absurd (Value.type.inj (congrArg Obj.cls (Option.some.inj e))) (by decide)
  unfold ksk_tree
  refine wpAny_bind (listItems_at hD rfl ?_)
  refine wpAny_bind (listUpdate_at hD rfl ?_ (by rw [szl]; exact hz) (Nat.zero_le _))
  obtain ⟨e1, ho1⟩ : ∃ e1, (h2.update D (Obj.mapSeq fun _ => (#[] : Array Value))).get? D = some (seqObj "list" #[] e1) := ⟨_, get?_update_seq hD fun _ => #[]⟩
  refine wpAny_bind (seqEpoch_at ho1 rfl ?_)
  refine wpAny_bind (wpAny_newTuple ?_ asz)
  refine wpAny_bind (wpAny_newList ?_ (Nat.zero_le _))
  refine wpAny_holding ?_
  generalize hh4 : (h2.update D (Obj.mapSeq fun _ => (#[] : Array Value))).push (seqObj "tuple" (as.map Value.ref).toArray 0) = h4
  have z4 : h4.objs.size = h2.objs.size + 1 := by rw [← hh4, size_push', Heap.size_update]
  have keep4 : ∀ b o, b ≠ D → h2.get? b = some o → h4.get? b = some o := fun b o hb e => by
    rw [← hh4]
    exact Heap.get?_push_of_some _ ((Heap.get?_update_ne _ _ _ _ hb).trans e)
  have hD4 : h4.get? D = some (seqObj "list" #[] e1) := by rw [← hh4]; exact Heap.get?_push_of_some _ ho1
  have I1 : Inv X pins σ (upd H h4.objs.size (.lst [])) { s with heap := h4.push (seqObj "list" #[] 0), toks := tk } :=
    I.laid (t' := tk) (fun b o e => Heap.get?_push_of_some _ (keep4 b o (fun z => by rw [z] at e; exact absurd (Heap.lt_size e) (Nat.not_lt.mpr hsD)) (hk b o e))) (by rw [z4]; exact Nat.le_succ_of_le (Nat.le_trans hsD (Nat.le_of_lt (Heap.lt_size hD))))
      ⟨Nat.zero_le _, [], 0, .nil, Heap.get?_push_size _ rfl⟩
  have hkn : H h4.objs.size = none := I.hok.fresh (by rw [z4]; exact Nat.le_succ_of_le (Nat.le_trans hsD (Nat.le_of_lt (Heap.lt_size hD))))
  have hDk : D ≠ h4.objs.size := by rw [z4]; exact Nat.ne_of_lt (Nat.lt_succ_of_lt (Heap.lt_size hD))
  have hG5 : DT.Made es s.heap.objs.size (h4.push (seqObj "list" #[] 0)) as := ⟨hG.rise, hG.above, fun j b hj => by
    obtain ⟨e, he, hg⟩ := hG.pairs j b hj
    exact ⟨e, he, Heap.get?_push_of_some _ (keep4 b _ (asD b (List.mem_of_getElem? hj)).1 hg)⟩⟩
  obtain ⟨H2, I2, g2, pp, off⟩ := made_tracked (h' := h4.push (seqObj "list" #[] 0)) (tk := tk) I rel hes hl hG5 I1 (Ex.upd hkn) fun b hb => by
    rw [upd_ne (by rw [z4]; exact Nat.ne_of_lt (Nat.lt_succ_of_lt (asD b hb).2))]
    exact I.hok.fresh (Nat.le_of_lt (hG.above b hb))
  have exH2 : Ex H H2 := (Ex.upd hkn).trans g2
  have hkS2 : H2 h4.objs.size = some (.lst []) := g2 _ _ upd_same
  have hD2 : H2 D = none := by rw [off D fun z => (asD D z).1 rfl, upd_ne hDk]; exact nD
  have fD : ∀ H', H' D = none → FpOk X pins H' D := fun H' n => I.fpOk hsD n
  have I3 : Inv X (pins ++ [(D, seqObj "list" #[] e1)]) σ H2 { s with heap := h4.push (seqObj "list" #[] 0), toks := tk } := I2.pins_of fun p hp => by
    rcases List.mem_append.mp hp with hp | hp
    · exact I2.pin p (List.mem_append_right _ hp)
    · rw [List.mem_singleton.mp hp]
      obtain ⟨_, f1, f2, _⟩ := fD H2 hD2
      exact ⟨Heap.get?_push_of_some _ hD4, hD2, f1, f2, fun v z => by cases z⟩
  have pget : ∀ {j : Nat} {t : Addr}, as[j]? = some t → ∃ x q, kvs[j]? = some x ∧ H2 t = some (.tup [.ref q, x.2]) ∧ H2 q = some (.tup (x.1.map kV)) := fun {j t} hj => by
    obtain ⟨x, hx, q, q1, q2⟩ := LiI.paired_get pp hj
    exact ⟨x, q, hx, q1, q2⟩
  unfold ksk_rest
  refine wpAny_bind (wpAny_rule ?_)
  first
    | rw [List.forIn_toArray]
    | (rw [← Array.forIn_toList]; simp only [List.toList_toArray])
  refine wpAny_bind (ksk_fold (fun i s' => ∃ (Hi : Hp) (ys : List V), Inv X (pins ++ [(D, seqObj "list" #[] e1)]) σ Hi s' ∧ (∀ b o, b ≠ h4.objs.size → H2 b = some o → Hi b = some o) ∧ Hi h4.objs.size = some (.lst ys) ∧ ys.length = i ∧
      ∀ (j : Nat) (y : V), ys[j]? = some y → ∃ x, kvs[j]? = some x ∧ Dp X.K Hi y (.tuple (kd x))) (as.map Value.ref) 0 _ ⟨H2, [], I3, fun b o _ e => e, hkS2, rfl, fun j y h => by simp at h⟩ ?step ?done)
  case step =>
    rintro j v s' hv ⟨Hi, ys, Ii, ei, hki, hlen, hdp⟩
    simp only [Nat.zero_add] at hlen ⊢
    rw [List.getElem?_map] at hv
    obtain ⟨t, ht, rfl⟩ := Option.map_eq_some_iff.mp hv
    obtain ⟨x, qa, hx, q1, q2⟩ := pget ht
    have nk : ∀ {b : Addr} {vs : List V}, H2 b = some (.tup vs) → b ≠ h4.objs.size := fun e z => by rw [z, hkS2] at e; cases e
    have hxm : x ∈ kvs := List.mem_of_getElem? hx
    refine wpAny_bind (wpAny_attempt (wpAny_mono (hcall x hxm t qa Hi (fun b o e => ei b o (fun z => by rw [z, hkn] at e; cases e) (exH2 b o e)) (ei _ _ (nk q1) q1) (ei _ _ (nk q2) q2) _ _ s'
      (fun u s'' => ∃ y H3, Inv X (pins ++ [(D, seqObj "list" #[] e1)]) σ H3 s'' ∧ Ex Hi H3 ∧ RelV y u ∧ Dp X.K H3 y (.tuple (kd x))) Ii fun y u H3 s2 J e3 ry dy => ⟨y, H3, J, e3, ry, dy⟩) (fun u s'' he => ?_) fun _ _ hF => hF.elim))
    obtain ⟨y, H3, J, e3, ry, dy⟩ := he
    have hk3 := e3 _ _ hki
    obtain ⟨hzy, its, n, ri, hraw⟩ := lst_raw J hk3
    have jl : j < as.length := (List.getElem?_eq_some_iff.mp ht).1
    have il : its.length = ys.length := ri.length.symm
    try dsimp only
    refine wpAny_bind (listUpdate_at hraw rfl ?_ (by rw [List.size_toArray]; omega) (by rw [Array.size_push, List.size_toArray]; omega))
    refine wpAny_pure ⟨rfl, _, ys ++ [y], lst_write (tk := s''.toks) J hk3 hraw (by rw [List.length_append, List.length_singleton]; omega) (ri.append (.cons ry .nil)) (·.push u) (by simp), fun b o hb e => ?_, upd_same, by rw [List.length_append, List.length_singleton]; omega, fun i z hz' => ?_⟩
    · rw [upd_ne hb]
      exact e3 _ _ (ei b o hb e)
    · have mono : ∀ {v : V} {x : List Key × V}, x ∈ kvs → Dp X.K H3 v (.tuple (kd x)) → Dp X.K (upd H3 h4.objs.size (.lst (ys ++ [y]))) v (.tuple (kd x)) := fun {v x} hm hd =>
        dp_tups (fun b vs r => r.elim (fun r => .inl (by rw [upd_ne (ne_of r hk3 (fun z => by cases z))]; exact r)) fun ⟨o, r⟩ => .inr ⟨o, by rw [upd_ne (ne_of r hk3 (fun z => by cases z))]; exact r⟩) (by unfold pureD; exact hpu x hm) hd
      by_cases hi : i < ys.length
      · rw [List.getElem?_append_left hi] at hz'
        obtain ⟨x', hx', hd'⟩ := hdp i z hz'
        exact ⟨x', hx', mono (List.mem_of_getElem? hx') (dp_ex e3 hd')⟩
      · rw [List.getElem?_append_right (by omega)] at hz'
        have e0 : i - ys.length = 0 := by
          have := (List.getElem?_eq_some_iff.mp hz').1
          simp at this
          omega
        rw [e0] at hz'
        have e4 : y = z := by simpa using hz'
        have e5 : i = j := by omega
        rw [← e4, e5]
        exact ⟨x, hx, mono hxm dy⟩
  case done =>
    rintro s' ⟨Hi, ys, Ii, ei, hki, hlen, hdp⟩
    rw [List.length_map, Nat.zero_add] at hlen
    obtain ⟨_, its, n, ri, hraw⟩ := lst_raw Ii hki
    have il : its.length = ys.length := ri.length.symm
    try dsimp only
    refine wpAny_bind (listItems_at hraw rfl ?_)
    have pairsL : (its.toArray.zip (as.map Value.ref).toArray).toList = its.zip (as.map Value.ref) := by
      first
        | simp
        | rfl
    have mem_at : ∀ p ∈ its.zip (as.map Value.ref), ∃ (j : Nat) (t : Addr) (x : List Key × V), p.2 = .ref t ∧ as[j]? = some t ∧ kvs[j]? = some x ∧ its[j]? = some p.1 := fun p hp => by
      obtain ⟨j, hj⟩ := List.mem_iff_getElem?.mp hp
      obtain ⟨j1, j2⟩ := List.getElem?_zip_eq_some.mp hj
      rw [List.getElem?_map] at j2
      obtain ⟨t, ht, e⟩ := Option.map_eq_some_iff.mp j2
      obtain ⟨x, _, hx, _⟩ := pget ht
      exact ⟨j, t, x, e.symm, ht, hx, j1⟩
    have tail : ∀ st' : SortSt, Srtd (fun p q : Keyed => decide (rankOf as kvs ρ p.2 < rankOf as kvs ρ q.2)) (arrOf st').toList → Stb (fun p q : Keyed => decide (rankOf as kvs ρ p.2 < rankOf as kvs ρ q.2)) (arrOf st').toList (its.zip (as.map Value.ref)) → failedOf st' = none →
        wpAny (model X.prog X.w) X.A.in1.in1 (ksk_tail D false e1 (.ref h4.objs.size) st') P E s' := by
      intro st' hs hb hf
      have out_perm : ((arrOf st').toList.map (·.2)).Perm (as.map Value.ref) := by
        have z := hb.perm.map (·.2)
        rw [List.map_snd_zip (by rw [List.length_map]; omega)] at z
        exact z
      have ezip : (as.zip kvs).map (fun z => Value.ref z.1) = as.map Value.ref := by
        rw [show (fun z : Addr × (List Key × V) => Value.ref z.1) = Value.ref ∘ Prod.fst from rfl, ← List.map_map, List.map_fst_zip (by omega)]
      obtain ⟨zs, pz, ez⟩ := perm_lift (fun z : Addr × (List Key × V) => Value.ref z.1) out_perm (as.zip kvs) ezip
      have zmem : ∀ z ∈ zs, ∃ j : Nat, as[j]? = some z.1 ∧ kvs[j]? = some z.2 := fun z hz => by
        obtain ⟨j, hj⟩ := List.mem_iff_getElem?.mp (pz.mem_iff.mp hz)
        exact ⟨j, List.getElem?_zip_eq_some.mp hj⟩
      have zlen : zs.length = kvs.length := by
        rw [pz.length_eq, List.length_zip]
        omega
      have osz : ((arrOf st').map (·.2)).size = kvs.length := by
        have z := out_perm.length_eq
        rw [List.length_map, Array.length_toList, List.length_map] at z
        rw [Array.size_map]
        omega
      have oeq : ((arrOf st').map (·.2)).toList = zs.map fun z => Value.ref z.1 := by rw [Array.toList_map, ← ez]
      have J1 := lst_write (tk := s'.toks) (zs := []) (vs := []) Ii hki hraw (Nat.zero_le _) .nil (fun _ => (#[] : Array Value)) rfl
      obtain ⟨pD, nD5, _⟩ := J1.pin (D, seqObj "list" #[] e1) (List.mem_append_right _ (List.mem_append_right _ (List.mem_singleton.mpr rfl)))
      unfold ksk_tail
      try dsimp only
      refine wpAny_bind (listUpdate_at hraw rfl ?_ (by rw [List.size_toArray]; omega) (Nat.zero_le _))
      refine wpAny_bind (wpAny_letGo ?_)
      refine wpAny_bind (seqEpoch_at pD rfl ?_)
      refine wpAny_bind (listUpdate_at pD rfl ?_ (Nat.zero_le _) (by simp only [Bool.false_eq_true, if_false]; rw [osz]; omega))
      rw [hf]
      simp only [bne_self_eq_false, Bool.false_eq_true, if_false]
      refine wpAny_pure ?_
      have J2 := J1.pins_of (pins' := pins) fun p hp => J1.pin p (List.mem_append_right _ (List.mem_append_left _ hp))
      have eD := get?_update_seq pD fun _ => (arrOf st').map (·.2)
      have dk : D ≠ h4.objs.size := hDk
      have J3 := J2.take (t' := s'.toks) (o := .lst (zs.map fun z => V.ref z.1)) (h' := (s'.heap.update h4.objs.size (Obj.mapSeq fun _ => (#[] : Array Value))).update D (Obj.mapSeq fun _ => (arrOf st').map (·.2))) (fun b u hb e => (Heap.get?_update_ne _ _ _ _ hb).trans e) (fD _ nD5)
        ⟨by rw [List.length_map]; omega, zs.map (fun z => Value.ref z.1), _, vals_maps (fun z : Addr × (List Key × V) => V.ref z.1) (fun z => Value.ref z.1) zs fun _ _ => rfl, by rw [← oeq, Array.toArray_toList]; exact eD⟩
      refine q _ _ zs J3 (fun b o e => ?_) nD upd_same ?_ ?_ fun z hz' => ?_
      · rw [upd_ne (ne_of_none e nD), upd_ne (ne_of_none e hkn)]
        exact ei b o (ne_of_none e hkn) (exH2 b o e)
      · have z := pz.map (·.2)
        rw [List.map_snd_zip (by omega)] at z
        exact z
      · have s1 : (zs.map fun z => Value.ref z.1).Pairwise (fun v u => decide (rankOf as kvs ρ u < rankOf as kvs ρ v) = false) := by
          rw [ez, List.pairwise_map]
          exact hs
        rw [List.pairwise_map] at s1 ⊢
        refine List.Pairwise.imp_of_mem (fun {x y} hx hy h => ?_) s1
        obtain ⟨j, j1, j2⟩ := zmem x hx
        obtain ⟨i, i1, i2⟩ := zmem y hy
        rw [rank_at nd j1 j2, rank_at nd i1 i2] at h
        exact of_decide_eq_false h
      · obtain ⟨j, j1, j2⟩ := zmem z hz'
        obtain ⟨x, qa, hx, q1, q2⟩ := pget j1
        have e : x = z.2 := Option.some.inj (hx.symm.trans j2)
        rw [e] at q1 q2
        have up : ∀ {b : Addr} {vs : List V}, H2 b = some (.tup vs) → (upd (upd Hi h4.objs.size (.lst [])) D (.lst (zs.map fun z => V.ref z.1))) b = some (.tup vs) := fun {b vs} h => by
          rw [upd_ne (fun z => by rw [z, hD2] at h; cases h), upd_ne (fun z => by rw [z, hkS2] at h; cases h)]
          exact ei _ _ (fun z => by rw [z, hkS2] at h; cases h) h
        exact ⟨qa, up q1, up q2⟩
    unfold ksk_end
    simp only [Bool.false_eq_true, if_false]
    by_cases h2s : (as.map Value.ref).toArray.size < 2
    · rw [if_pos h2s, if_pos h2s]
      refine wpAny_bind (wpAny_pure ?_)
      rw [StateT.run_pure]
      refine wpAny_bind (wpAny_pure ?_)
      try dsimp only
      refine tail (SortSt.mk' general' (its.toArray.zip (as.map Value.ref).toArray) #[] 7 none) ?_ ?_ rfl
      · show List.Pairwise _ (its.toArray.zip (as.map Value.ref).toArray).toList
        rw [pairsL]
        have ll : (its.zip (as.map Value.ref)).length < 2 := by
          rw [List.length_zip, List.length_map]
          rw [szl] at h2s
          omega
        match h : its.zip (as.map Value.ref), ll with
        | [], _ => exact List.Pairwise.nil
        | [v], _ => exact List.pairwise_singleton _ _
        | _ :: _ :: l, h3 => exact absurd h3 (by rw [List.length_cons, List.length_cons]; omega)
      · show Stb _ (its.toArray.zip (as.map Value.ref).toArray).toList _
        rw [pairsL]
        exact Stb.refl _
    · rw [if_neg h2s, if_neg h2s]
      have rd : ∀ {j : Nat} {u : Value}, its[j]? = some u → ∃ x as', kvs[j]? = some x ∧ Reads s'.heap u (.tuple (kd x)) as' := fun {j u} hj => by
        have jl : j < ys.length := by
          have := (List.getElem?_eq_some_iff.mp hj).1
          omega
        obtain ⟨x, hx, hd⟩ := hdp j ys[j] (List.getElem?_eq_getElem jl)
        obtain ⟨u', hu', ru⟩ := ri.get (List.getElem?_eq_getElem jl)
        have e : u' = u := Option.some.inj (hu'.symm.trans hj)
        rw [e] at ru
        obtain ⟨as', r⟩ := Dp.reads Ii _ _ _ hd ru
        exact ⟨x, as', hx, r⟩
      have cmp : Cmp X.prog X.w X.A.in1.in1 s' (tuples' false) (fun p => p ∈ its.zip (as.map Value.ref)) (fun p q : Keyed => decide (rankOf as kvs ρ p.2 < rankOf as kvs ρ q.2)) := by
        intro p q hp hq
        obtain ⟨j, t, x, e1, h1, h2, h3⟩ := mem_at p hp
        obtain ⟨i, t', x', e1', h1', h2', h3'⟩ := mem_at q hq
        obtain ⟨y, bs, hy, r⟩ := rd h3
        obtain ⟨y', bs', hy', r'⟩ := rd h3'
        have ey : y = x := Option.some.inj (hy.symm.trans h2)
        have ey' : y' = x' := Option.some.inj (hy'.symm.trans h2')
        rw [ey] at r
        rw [ey'] at r'
        have m := List.mem_of_getElem? h2
        have m' := List.mem_of_getElem? h2'
        refine keyLt_data r r' (canLay_of_shaped (hsh x m)) (canLay_of_shaped (hsh x' m')) (hok x m x' m') (room_of_shaped (hsh x m) (by show X.A.units + 1 + 1 + 64 < cLine; omega)) ⟨rfl, ?_⟩
        show ltL (kd x) (kd x') = decide (rankOf as kvs ρ p.2 < rankOf as kvs ρ q.2)
        rw [e1, e1', rank_at nd h1 h2, rank_at nd h1' h2', hρ x m x' m']
      have kk : ∀ (R : SortKind → Shared → Prop), R (tuples' false) s' → wpAny (model X.prog X.w) X.A.in1.in1 (keyKind' its.toArray) R E s' := by
        intro R hR
        obtain ⟨fs, k1, k2, k3⟩ := kat_of (h := s'.heap) its fun u hu' => by
          obtain ⟨j, hj⟩ := List.mem_iff_getElem?.mp hu'
          obtain ⟨x, as', hx, r⟩ := rd hj
          obtain ⟨l, r', e⟩ := hft x (List.mem_of_getElem? hx)
          rw [e] at r
          exact ⟨l, r', as', r⟩
        refine PySem.W.kat_kind (T := .type "tuple") k1 (by rw [szl] at h2s; omega) (fun v hv => ?_) (by decide) (by
          have z : (Value.type "tuple" != Value.type "tuple") = false := by decide
          rw [z]
          exact hR)
        obtain ⟨b, o, rfl, ho, hc⟩ := k3 v hv
        rw [← hc]
        exact (PySem.W.Looks.ld ho).andThen .now
      refine wpAny_bind (kk _ ?_)
      refine wpAny_bind (wpAny_mono (wpS_sortO (st0 := SortSt.mk' (tuples' false) (its.toArray.zip (as.map Value.ref).toArray) #[] 7 none)
        (Q := fun _ st' => Srtd (fun p q : Keyed => decide (rankOf as kvs ρ p.2 < rankOf as kvs ρ q.2)) (arrOf st').toList ∧ Stb (fun p q : Keyed => decide (rankOf as kvs ρ p.2 < rankOf as kvs ρ q.2)) (arrOf st').toList (its.zip (as.map Value.ref)) ∧ failedOf st' = none) (swo_rank fun p : Keyed => rankOf as kvs ρ p.2) cmp rfl
        (fun p hp => by
          have hp : p ∈ (its.toArray.zip (as.map Value.ref).toArray).toList := hp
          rw [pairsL] at hp
          exact hp) rfl rfl fun st' a1 a2 a3 => ⟨a1, by
            have a2 : Stb _ (arrOf st').toList (its.toArray.zip (as.map Value.ref).toArray).toList := a2
            rw [pairsL] at a2
            exact a2, a3⟩) ?_ fun _ _ e => e)
      rintro ⟨⟨⟩, st'⟩ s'' ⟨rfl, a1, a2, a3⟩
      try dsimp only
      exact tail st' a1 a2 a3
end
end KS
set_option Elab.async false
set_option linter.all false
set_option maxRecDepth 100000
set_option maxHeartbeats 2000000
namespace TL
open PySem PySem.Spec PyProof.Rows L2 KB KC KD LamX
def Beh (P : Program) (w : World) (K : PySem.W.Frag) (mg : Str → Option Value) (base : Heap) (k : Nat) (f c' : Addr) (q : Str) (body : Expr) (scope : Scope) (N : List Str) (H : Hp) (Q : VK) (E1 : XK) : Prop :=
  ∀ E : XK, (∀ cls d H', E1 cls d H' → E cls d H') → ∀ (A : Around) (outer : List Env) (s : Shared), Room k (A.deeper (envOfC q scope s.heap.objs.size f (.ref c'))) →
    ∃ t, PE (cxOf (L2.CX P w) P w K mg base N q scope f (.ref c') A outer s H E) body t ∧ t (start N []) H Q
def LamAt (P : Program) (w : World) (K : PySem.W.Frag) (mg : Str → Option Value) (base : Heap) (k : Nat) (f : Addr) (H : Hp) (Q : VK) (E1 : XK) : Prop :=
  ∃ (c' : Addr) (q : Str) (params : Arguments) (body : Expr) (scope : Scope) (N : List Str), H f = some (LamO f q params body scope c') ∧ H c' = some (CodeO c' q) ∧ FnScope N [] scope ∧
    (∀ pm ctv, bindArgs (PySem.W.kla_fn "<lambda>" q params body scope [] pm (.ref c') ctv) ⟨[], []⟩ = pure []) ∧ Beh P w K mg base k f c' q body scope N H Q E1
section
variable {X : Cx}
theorem pe_callLam {k i : Nat} {a : Str} {E : L2.St → XK} {p1 p2 : Pos} (hr : Room (k + 1) X.A) (hx : ∀ σ, PassesAt (L2.CX X.prog X.w) X σ (E σ)) (hN : X.N[i]? = some a) (hv : Vis X.env.scope a) (hd : (a == ("__debug__" : Str)) = false := by decide) (hcd : (a == ("__classdict__" : Str)) = false := by decide) :
    PE X (.Call (.Name a p1) [] [] p2) (fun σ H Q => ∃ f, σ[i]? = some (some (.ref f)) ∧ LamAt X.prog X.w X.K X.mg X.base k f H Q (E σ)) := by
  refine ⟨fun pins s σ H Q I hw => ?_⟩
  obtain ⟨f, hs, c', q, params, body, scope, N, hf, hc, S, hb, beh⟩ := hw
  have nm := (pe_var (pos := p1) (i := i) hN hv hd hcd).run pins s σ H (fun v H1 => v = .ref f ∧ H1 = H) I ⟨_, hs, rfl, rfl⟩
  refine wpAny_Call_Name_kw (thn nm fun u s1 hu => ?_)
  obtain ⟨v, H1, I1, rv, ev, eH⟩ := hu
  subst ev
  subst eH
  have eu : u = Value.ref f := rv
  subst eu
  obtain ⟨⟨pm, ctv, of1⟩, _, _⟩ := I1.hok f _ hf
  refine PySem.W.callWith_F0 ⟨_, _, _, _, of1⟩ ?_
  have run := lam_run (CX := L2.CX X.prog X.w) (Q := Q) (E := E σ) (vs := []) (us := []) (args := ⟨[], []⟩) (ps := []) S hr I1.env0 hf hc (fun pm ctv => .of_eq (hb pm ctv)) .nil rfl (fun hr' => beh (E σ) (fun _ _ _ z => z) _ _ _ hr')
  refine wpAny_call (codeAny_mono run fun r s2 hq => ?_)
  match r, hq with
  | .error e, hq => exact hx σ pins H1 s1 e s2 I1 hq
  | .ok (.ret u), hq => exact I1.after hq
  | .ok .next, hq => exact False.elim hq
  | .ok .brk, hq => exact False.elim hq
  | .ok .cont, hq => exact False.elim hq
end
theorem LamAt.mono {P : Program} {w : World} {K : PySem.W.Frag} {mg : Str → Option Value} {base : Heap} {k : Nat} {f : Addr} {H : Hp} {Q : VK} {E1 E2 : XK} (h : LamAt P w K mg base k f H Q E1) (e : ∀ cls d H', E1 cls d H' → E2 cls d H') : LamAt P w K mg base k f H Q E2 := by
  obtain ⟨c', q, params, body, scope, N, hf, hc, S, hb, beh⟩ := h
  exact ⟨c', q, params, body, scope, N, hf, hc, S, hb, fun E he => beh E fun cls d H' z => he cls d H' (e cls d H' z)⟩
@[irreducible] def spToldV (P : Program) (w : World) (K : PySem.W.Frag) (mg : Str → Option Value) (base : Heap) (k : Nat) (CR : Addr) (ret : Str) : Sp := fun vs H Q _ => ∃ f, vs = [.ref f] ∧
  LamAt P w K mg base k f H Q (fun cls _ H' => ∃ b, PySem.W.exmOne K cls (.ref CR) = some b ∧ (b = true → Q (.str ret) H') ∧ (b = false → False))
section
variable {P : Program} {w : World} {K : PySem.W.Frag} {mg : Str → Option Value} {base : Heap}
theorem ok_toldV {x a e ret : Str} {pg : Arguments} {sg : Scope} {Ng : List Str} {f CR : Addr} {fd : FuncData} {j k : Nat} {p1 p2 p3 p4 p5 p6 p7 p8 : Pos}
    (F : FunD K x x pg [.Try [.Return (some (.Call (.Name a p1) [] [] p2)) p3] [.ExceptHandler (some (.Name e p4)) none [.Return (some (.Constant (.str ret) j p5)) p6] p7] [] [] p8] sg [] [] f fd) (S : FnScope Ng [a] sg) (hN : Ng[0]? = some a) (hva : Vis sg a)
    (h0 : ∀ f : Addr, (L2.start Ng [V.ref f])[0]? = some (some (V.ref f))) (hge : sg.names.lookup e = some .globalImplicit) (hme : mg e = some (.ref CR)) (hde : (e == ("__debug__" : Str)) = false) (hd : (a == ("__debug__" : Str)) = false) (hcd : (a == ("__classdict__" : Str)) = false) :
    FnOk P w K mg base CX0 (k + 2) f fd [a] (spToldV P w K mg base k CR ret) := by
  refine F.ok S (fun vs H Q E h => ?_) (fun cdv A outer s H vs Q E hr h => ?_)
  · unfold spToldV at h
    obtain ⟨_, rfl, _⟩ := h; rfl
  · unfold spToldV at h
    obtain ⟨fl, rfl, hl⟩ := h
    have hgl : Gl (cxOf CX0 P w K mg base Ng x sg f cdv A outer s H E).nox e := hge
    refine ⟨_, PSs.nox <| pss_one (ps_try_only (c := .ref CR) (tb := fun W => tRet fun σ H Q => ∃ fz, σ[0]? = some (some (V.ref fz)) ∧ LamAt P w K mg base k fz H Q (WE W σ)) rfl rfl ⟨hgl, hde, .inl hme⟩ L2.takes0
      (fun W pn xe tk _ => pss_one (ps_ret (pe_callLam (k := k) (i := 0) (E := fun σ => WE W σ) hr (fun σ => passAt tk σ) hN hva hd hcd))) (fun a oe cls d pn _ _ => pss_one (ps_ret pe_str))), ?_⟩
    exact ⟨fl, h0 fl, hl.mono fun cls d H' ⟨b, e1, e2, e3⟩ => ⟨b, e1, fun hb a _ => e2 hb, fun hb => e3 hb⟩⟩
end
end TL
set_option Elab.async false
set_option linter.all false
set_option maxRecDepth 100000
namespace KN1
open PySem PySem.Spec L2
def natL (n : Nat) : List Int := if n < 128 then [(n : Int)] else ((n % 128 : Nat) + 128 : Int) :: natL (n / 128)
termination_by n
decreasing_by omega
theorem natL_small {n : Nat} (h : n < 128) : natL n = [(n : Int)] := by rw [natL, if_pos h]
theorem natL_big {n : Nat} (h : ¬ n < 128) : natL n = ((n % 128 : Nat) + 128 : Int) :: natL (n / 128) := by rw [natL, if_neg h]
def pN1 : List Int → Option (Nat × List Int)
  | [] => none
  | b :: r => if 128 ≤ b then (pN1 r).map fun q => ((b - 128).toNat + 128 * q.1, q.2) else if b = 0 then none else some (b.toNat, r)
def pN : List Int → Option (Nat × List Int)
  | [] => none
  | b :: r => if 128 ≤ b then (pN1 r).map fun q => ((b - 128).toNat + 128 * q.1, q.2) else some (b.toNat, r)
theorem pN1_enc : ∀ (n : Nat) (rest : List Int), 0 < n → pN1 (natL n ++ rest) = some (n, rest)
  | n, rest, h0 => by
    by_cases h : n < 128
    · rw [natL_small h]
      show (if 128 ≤ (n : Int) then _ else if (n : Int) = 0 then none else some ((n : Int).toNat, rest)) = _
      rw [if_neg (by omega), if_neg (by omega)]
      rfl
    · rw [natL_big h]
      have ih := pN1_enc (n / 128) rest (by omega)
      show (if 128 ≤ ((n % 128 : Nat) + 128 : Int) then (pN1 (natL (n / 128) ++ rest)).map _ else _) = _
      rw [if_pos (by omega), ih]
      show some ((((n % 128 : Nat) + 128 : Int) - 128).toNat + 128 * (n / 128), rest) = _
      congr 2
      omega
termination_by n => n
decreasing_by omega
theorem pN_enc (n : Nat) (rest : List Int) : pN (natL n ++ rest) = some (n, rest) := by
  by_cases h : n < 128
  · rw [natL_small h]
    show (if 128 ≤ (n : Int) then _ else some ((n : Int).toNat, rest)) = _
    rw [if_neg (by omega)]
    rfl
  · rw [natL_big h]
    show (if 128 ≤ ((n % 128 : Nat) + 128 : Int) then (pN1 (natL (n / 128) ++ rest)).map _ else _) = _
    rw [if_pos (by omega), pN1_enc (n / 128) rest (by omega)]
    show some ((((n % 128 : Nat) + 128 : Int) - 128).toNat + 128 * (n / 128), rest) = _
    congr 2
    omega
def Bytes (l : List Int) : Prop := ∀ b ∈ l, 0 ≤ b ∧ b < 256
theorem Bytes.tail {b : Int} {r : List Int} (h : Bytes (b :: r)) : Bytes r := fun x hx => h x (List.mem_cons_of_mem _ hx)
theorem enc_pN1 : ∀ {l : List Int} {n : Nat} {rest : List Int}, Bytes l → pN1 l = some (n, rest) → 0 < n ∧ l = natL n ++ rest
  | [], n, rest, _, e => by cases e
  | b :: r, n, rest, hb, e => by
    have h := hb b (List.mem_cons_self ..)
    have e' : (if 128 ≤ b then (pN1 r).map (fun q => ((b - 128).toNat + 128 * q.1, q.2)) else if b = 0 then none else some (b.toNat, r)) = some (n, rest) := e
    by_cases c : 128 ≤ b
    · rw [if_pos c] at e'
      obtain ⟨q, hq, eq⟩ := Option.map_eq_some_iff.mp e'
      obtain ⟨m, rs⟩ := q
      obtain ⟨e1, e2⟩ := Prod.mk.inj eq
      obtain ⟨p, ih⟩ := enc_pN1 hb.tail hq
      have e1' : (b - 128).toNat + 128 * m = n := e1
      have e2' : rs = rest := e2
      subst e2'
      refine ⟨by omega, ?_⟩
      rw [natL_big (by omega), ih]
      have a1 : n / 128 = m := by omega
      have a2 : ((n % 128 : Nat) + 128 : Int) = b := by omega
      rw [a1, a2]
      rfl
    · rw [if_neg c] at e'
      by_cases c0 : b = 0
      · rw [if_pos c0] at e'; cases e'
      · rw [if_neg c0] at e'
        obtain ⟨e1, e2⟩ := Prod.mk.inj (Option.some.inj e')
        subst e2
        refine ⟨by omega, ?_⟩
        rw [natL_small (by omega)]
        have : ((n : Nat) : Int) = b := by omega
        rw [this]
        rfl
theorem enc_pN {l : List Int} {n : Nat} {rest : List Int} (hb : Bytes l) (e : pN l = some (n, rest)) : l = natL n ++ rest := by
  cases l with
  | nil => cases e
  | cons b r =>
    have h := hb b (List.mem_cons_self ..)
    have e' : (if 128 ≤ b then (pN1 r).map (fun q => ((b - 128).toNat + 128 * q.1, q.2)) else some (b.toNat, r)) = some (n, rest) := e
    by_cases c : 128 ≤ b
    · rw [if_pos c] at e'
      obtain ⟨q, hq, eq⟩ := Option.map_eq_some_iff.mp e'
      obtain ⟨m, rs⟩ := q
      obtain ⟨e1, e2⟩ := Prod.mk.inj eq
      obtain ⟨p, ih⟩ := enc_pN1 hb.tail hq
      have e1' : (b - 128).toNat + 128 * m = n := e1
      have e2' : rs = rest := e2
      subst e2'
      rw [natL_big (by omega), ih]
      have a1 : n / 128 = m := by omega
      have a2 : ((n % 128 : Nat) + 128 : Int) = b := by omega
      rw [a1, a2]
      rfl
    · rw [if_neg c] at e'
      obtain ⟨e1, e2⟩ := Prod.mk.inj (Option.some.inj e')
      subst e2
      rw [natL_small (by omega)]
      have : ((n : Nat) : Int) = b := by omega
      rw [this]
      rfl
theorem natL_bytes : ∀ n : Nat, Bytes (natL n)
  | n => by
    by_cases h : n < 128
    · rw [natL_small h]
      intro b hb
      rw [List.mem_singleton] at hb
      omega
    · rw [natL_big h]
      intro b hb
      rcases List.mem_cons.mp hb with rfl | hb
      · omega
      · exact natL_bytes (n / 128) b hb
termination_by n => n
decreasing_by omega
section
variable (tab : List Nat)
def idx (c : Nat) : Nat := tab.findIdx fun d => decide (d = c)
def pT : Nat → List Int → Option (List Nat × List Int)
  | 0, l => some ([], l)
  | _ + 1, [] => none
  | n + 1, b :: r => match tab[b.toNat]? with
    | none => none
    | some c => (pT n r).map fun q => (c :: q.1, q.2)
theorem pT_enc : ∀ (cs : List Nat) (rest : List Int), (∀ c ∈ cs, c ∈ tab) → pT tab cs.length (cs.map (fun c => ((idx tab c : Nat) : Int)) ++ rest) = some (cs, rest)
  | [], rest, _ => rfl
  | c :: cs, rest, h => by
    have hc := h c (List.mem_cons_self ..)
    have hl : idx tab c < tab.length := List.findIdx_lt_length_of_exists ⟨c, hc, by simp⟩
    have hg : tab[idx tab c]? = some c := by
      rw [List.getElem?_eq_getElem hl]
      have := List.findIdx_getElem (w := hl)
      have h2 : tab[idx tab c] = c := by
        unfold idx
        simpa using this
      rw [h2]
    show (match tab[(((idx tab c : Nat) : Int)).toNat]? with | none => none | some d => (pT tab cs.length (cs.map (fun c => ((idx tab c : Nat) : Int)) ++ rest)).map fun q : List Nat × List Int => (d :: q.1, q.2)) = some (c :: cs, rest)
    rw [Int.toNat_natCast, hg, pT_enc cs rest fun d hd => h d (List.mem_cons_of_mem _ hd)]
    rfl
theorem enc_pT (nd : tab.Nodup) : ∀ {n : Nat} {l : List Int} {cs : List Nat} {rest : List Int}, Bytes l → pT tab n l = some (cs, rest) → cs.length = n ∧ (∀ c ∈ cs, c ∈ tab) ∧ l = cs.map (fun c => ((idx tab c : Nat) : Int)) ++ rest
  | 0, l, cs, rest, _, e => by
    obtain ⟨rfl, rfl⟩ := Prod.mk.inj (Option.some.inj e)
    exact ⟨rfl, fun c h => (by cases h), rfl⟩
  | n + 1, [], cs, rest, _, e => by cases e
  | n + 1, b :: r, cs, rest, hb, e => by
    have hb0 := hb b (List.mem_cons_self ..)
    have e' : (match tab[b.toNat]? with | none => none | some c => (pT tab n r).map fun q => (c :: q.1, q.2)) = some (cs, rest) := e
    cases ht : tab[b.toNat]? with
    | none => rw [ht] at e'; cases e'
    | some c =>
      rw [ht] at e'
      obtain ⟨q, hq, eq⟩ := Option.map_eq_some_iff.mp e'
      obtain ⟨cs', rs⟩ := q
      obtain ⟨e1, e2⟩ := Prod.mk.inj eq
      have e1' : c :: cs' = cs := e1
      have e2' : rs = rest := e2
      subst e1' e2'
      obtain ⟨h1, h2, h3⟩ := enc_pT nd hb.tail hq
      obtain ⟨hlt, hget⟩ := List.getElem?_eq_some_iff.mp ht
      have hi : idx tab c = b.toNat := by
        have hc : c ∈ tab := List.mem_of_getElem? ht
        have hl : idx tab c < tab.length := List.findIdx_lt_length_of_exists ⟨c, hc, by simp⟩
        have hv : tab[idx tab c] = c := by
          have := List.findIdx_getElem (w := hl)
          unfold idx
          simpa using this
        exact (List.getElem_inj nd).mp (hv.trans hget.symm)
      refine ⟨by rw [List.length_cons, h1], fun d hd => (List.mem_cons.mp hd).elim (fun z => by rw [z]; exact List.mem_of_getElem? ht) (h2 d), ?_⟩
      rw [h3]
      show b :: _ = ((idx tab c : Nat) : Int) :: _
      rw [hi]
      congr 1
      omega
end
end KN1
set_option Elab.async false
set_option linter.all false
set_option maxRecDepth 100000
namespace KN1
open PySem PySem.Spec L2
section
variable (tab : List Nat)
def valL : Key → List Int
  | .inl v => if v < 0 then 1 :: natL (-v - 1).toNat else 0 :: natL v.toNat
  | .inr s => 2 :: (natL s.cps.toList.length ++ s.cps.toList.map fun c => ((idx tab c : Nat) : Int))
theorem valL_neg {v : Int} (c : v < 0) : valL tab (.inl v) = 1 :: natL (-v - 1).toNat := if_pos c
theorem valL_pos {v : Int} (c : ¬ v < 0) : valL tab (.inl v) = 0 :: natL v.toNat := if_neg c
def rowL (k : List Key) : List Int := natL k.length ++ k.flatMap (valL tab)
def pV : List Int → Option (Key × List Int)
  | [] => none
  | m :: r => if m = 0 then (pN r).map fun q => (.inl (q.1 : Int), q.2) else if m = 1 then (pN r).map fun q => (.inl (-(q.1 : Int) - 1), q.2) else if m = 2 then
      (match pN r with
      | none => none
      | some q => if q.2.length < q.1 then none else (pT tab q.1 q.2).map fun z => (.inr ⟨z.1.toArray⟩, z.2)) else none
def pVs : Nat → List Int → Option (List Key × List Int)
  | 0, l => some ([], l)
  | n + 1, l => match pV tab l with
    | none => none
    | some q => (pVs n q.2).map fun z => (q.1 :: z.1, z.2)
def pRow (l : List Int) : Option (List Key × List Int) := match pN l with
  | none => none
  | some q => if 20 < q.1 then none else pVs tab q.1 q.2
def InTab : Key → Prop
  | .inl _ => True
  | .inr s => ∀ c ∈ s.cps.toList, c ∈ tab
theorem pV_0 (r : List Int) : pV tab (0 :: r) = (pN r).map fun q : Nat × List Int => ((.inl (q.1 : Int) : Key), q.2) := rfl
theorem pV_1 (r : List Int) : pV tab (1 :: r) = (pN r).map fun q : Nat × List Int => ((.inl (-(q.1 : Int) - 1) : Key), q.2) := rfl
theorem pV_2 (r : List Int) : pV tab (2 :: r) = (match pN r with
  | none => none
  | some q => if q.2.length < q.1 then none else (pT tab q.1 q.2).map fun z : List Nat × List Int => ((.inr ⟨z.1.toArray⟩ : Key), z.2)) := rfl
theorem pV_enc {k : Key} (rest : List Int) (h : InTab tab k) : pV tab (valL tab k ++ rest) = some (k, rest) := by
  cases k with
  | inl v =>
    by_cases c : v < 0
    · have e : valL tab (.inl v) ++ rest = 1 :: (natL (-v - 1).toNat ++ rest) := by rw [valL_neg tab c]; rfl
      rw [e]
      rw [pV_1, pN_enc]
      show some (Sum.inl (-(((-v - 1).toNat : Nat) : Int) - 1), rest) = _
      congr 3
      omega
    · have e : valL tab (.inl v) ++ rest = 0 :: (natL v.toNat ++ rest) := by rw [valL_pos tab c]; rfl
      rw [e]
      rw [pV_0, pN_enc]
      show some (Sum.inl ((v.toNat : Nat) : Int), rest) = _
      congr 3
      omega
  | inr s =>
    have e : valL tab (.inr s) ++ rest = 2 :: (natL s.cps.toList.length ++ (s.cps.toList.map (fun c => ((idx tab c : Nat) : Int)) ++ rest)) := by
      show 2 :: ((natL _ ++ _) ++ rest) = _
      rw [List.append_assoc]
    rw [e]
    rw [pV_2, pN_enc]
    show (if (s.cps.toList.map (fun c => ((idx tab c : Nat) : Int)) ++ rest).length < s.cps.toList.length then none else (pT tab s.cps.toList.length (s.cps.toList.map (fun c => ((idx tab c : Nat) : Int)) ++ rest)).map fun z : List Nat × List Int => (Sum.inr (⟨z.1.toArray⟩ : Str), z.2)) = some (Sum.inr s, rest)
    rw [if_neg (by rw [List.length_append, List.length_map]; omega), pT_enc tab _ _ h]
    show some (Sum.inr (⟨s.cps.toList.toArray⟩ : Str), rest) = _
    rw [Array.toArray_toList]
theorem pVs_enc : ∀ (k : List Key) (rest : List Int), (∀ x ∈ k, InTab tab x) → pVs tab k.length (k.flatMap (valL tab) ++ rest) = some (k, rest)
  | [], rest, _ => rfl
  | x :: k, rest, h => by
    have e : (x :: k).flatMap (valL tab) ++ rest = valL tab x ++ (k.flatMap (valL tab) ++ rest) := by rw [List.flatMap_cons, List.append_assoc]
    rw [e]
    show (match pV tab (valL tab x ++ (k.flatMap (valL tab) ++ rest)) with | none => none | some q => (pVs tab k.length q.2).map fun z : List Key × List Int => (q.1 :: z.1, z.2)) = some (x :: k, rest)
    rw [pV_enc tab _ (h x (List.mem_cons_self ..))]
    show (pVs tab k.length (k.flatMap (valL tab) ++ rest)).map (fun z : List Key × List Int => (x :: z.1, z.2)) = _
    rw [pVs_enc k rest fun y hy => h y (List.mem_cons_of_mem _ hy)]
    rfl
theorem pRow_enc {k : List Key} (rest : List Int) (h : ∀ x ∈ k, InTab tab x) (hl : k.length ≤ 20) : pRow tab (rowL tab k ++ rest) = some (k, rest) := by
  have e : rowL tab k ++ rest = natL k.length ++ (k.flatMap (valL tab) ++ rest) := by unfold rowL; rw [List.append_assoc]
  unfold pRow
  rw [e, pN_enc]
  show (if 20 < k.length then none else pVs tab k.length (k.flatMap (valL tab) ++ rest)) = _
  rw [if_neg (by omega), pVs_enc tab k rest h]
theorem Bytes.of_app {a b : List Int} (h : Bytes (a ++ b)) : Bytes b := fun x hx => h x (List.mem_append_right _ hx)
theorem enc_pV (nd : tab.Nodup) {l rest : List Int} {k : Key} (hb : Bytes l) (e : pV tab l = some (k, rest)) : InTab tab k ∧ l = valL tab k ++ rest := by
  cases l with
  | nil => cases e
  | cons m r =>
    have e' : (if m = 0 then (pN r).map (fun q => ((.inl (q.1 : Int) : Key), q.2)) else if m = 1 then (pN r).map (fun q => ((.inl (-(q.1 : Int) - 1) : Key), q.2)) else if m = 2 then
      (match pN r with
      | none => none
      | some q => if q.2.length < q.1 then none else (pT tab q.1 q.2).map fun z : List Nat × List Int => ((.inr ⟨z.1.toArray⟩ : Key), z.2)) else none) = some (k, rest) := e
    by_cases c0 : m = 0
    · rw [if_pos c0] at e'
      obtain ⟨⟨n, rs⟩, hq, eq⟩ := Option.map_eq_some_iff.mp e'
      obtain ⟨e1, e2⟩ := Prod.mk.inj eq
      have e1' : (.inl (n : Int) : Key) = k := e1
      have e2' : rs = rest := e2
      subst e1' e2' c0
      refine ⟨trivial, ?_⟩
      rw [enc_pN hb.tail hq]
      rw [valL_pos tab (by omega), Int.toNat_natCast]
      rfl
    · rw [if_neg c0] at e'
      by_cases c1 : m = 1
      · rw [if_pos c1] at e'
        obtain ⟨⟨n, rs⟩, hq, eq⟩ := Option.map_eq_some_iff.mp e'
        obtain ⟨e1, e2⟩ := Prod.mk.inj eq
        have e1' : (.inl (-(n : Int) - 1) : Key) = k := e1
        have e2' : rs = rest := e2
        subst e1' e2' c1
        refine ⟨trivial, ?_⟩
        rw [enc_pN hb.tail hq]
        have z : (-(-(n : Int) - 1) - 1).toNat = n := by omega
        rw [valL_neg tab (by omega), z]
        rfl
      · rw [if_neg c1] at e'
        by_cases c2 : m = 2
        · rw [if_pos c2] at e'
          cases hp : pN r with
          | none => rw [hp] at e'; cases e'
          | some q =>
            obtain ⟨n, r2⟩ := q
            rw [hp] at e'
            have e3 : (if r2.length < n then none else (pT tab n r2).map fun z : List Nat × List Int => ((.inr ⟨z.1.toArray⟩ : Key), z.2)) = some (k, rest) := e'
            by_cases c3 : r2.length < n
            · rw [if_pos c3] at e3; cases e3
            · rw [if_neg c3] at e3
              obtain ⟨⟨cs, rs⟩, hq, eq⟩ := Option.map_eq_some_iff.mp e3
              obtain ⟨e1, e2⟩ := Prod.mk.inj eq
              have e1' : (.inr ⟨cs.toArray⟩ : Key) = k := e1
              have e2' : rs = rest := e2
              have hr := enc_pN hb.tail hp
              have hb2 : Bytes r2 := by
                have h := hb.tail
                rw [hr] at h
                exact h.of_app
              obtain ⟨h1, h2, h3⟩ := enc_pT tab nd hb2 hq
              subst e1' e2' c2
              refine ⟨h2, ?_⟩
              rw [hr, h3]
              show 2 :: (natL n ++ (cs.map (fun c => ((idx tab c : Nat) : Int)) ++ rs)) = 2 :: ((natL cs.length ++ cs.map (fun c => ((idx tab c : Nat) : Int))) ++ rs)
              rw [List.append_assoc, h1]
        · rw [if_neg c2] at e'; cases e'
theorem enc_pVs (nd : tab.Nodup) : ∀ {n : Nat} {l rest : List Int} {k : List Key}, Bytes l → pVs tab n l = some (k, rest) → k.length = n ∧ (∀ x ∈ k, InTab tab x) ∧ l = k.flatMap (valL tab) ++ rest
  | 0, l, rest, k, _, e => by
    obtain ⟨rfl, rfl⟩ := Prod.mk.inj (Option.some.inj e)
    exact ⟨rfl, fun x h => (by cases h), rfl⟩
  | n + 1, l, rest, k, hb, e => by
    have e' : (match pV tab l with | none => none | some q => (pVs tab n q.2).map fun z : List Key × List Int => (q.1 :: z.1, z.2)) = some (k, rest) := e
    cases hp : pV tab l with
    | none => rw [hp] at e'; cases e'
    | some q =>
      obtain ⟨x, r⟩ := q
      rw [hp] at e'
      obtain ⟨⟨ks, rs⟩, hq, eq⟩ := Option.map_eq_some_iff.mp e'
      obtain ⟨e1, e2⟩ := Prod.mk.inj eq
      have e1' : x :: ks = k := e1
      have e2' : rs = rest := e2
      obtain ⟨h0, h0'⟩ := enc_pV tab nd hb hp
      have hb2 : Bytes r := by
        rw [h0'] at hb
        exact hb.of_app
      obtain ⟨h1, h2, h3⟩ := enc_pVs nd hb2 hq
      subst e1' e2'
      refine ⟨by rw [List.length_cons, h1], fun y hy => (List.mem_cons.mp hy).elim (fun z => by rw [z]; exact h0) (h2 y), ?_⟩
      rw [h0', List.flatMap_cons, List.append_assoc, h3]
theorem enc_pRow (nd : tab.Nodup) {l rest : List Int} {k : List Key} (hb : Bytes l) (e : pRow tab l = some (k, rest)) : k.length ≤ 20 ∧ (∀ x ∈ k, InTab tab x) ∧ l = rowL tab k ++ rest := by
  unfold pRow at e
  cases hp : pN l with
  | none => rw [hp] at e; cases e
  | some q =>
    obtain ⟨n, r⟩ := q
    rw [hp] at e
    have e' : (if 20 < n then none else pVs tab n r) = some (k, rest) := e
    by_cases c : 20 < n
    · rw [if_pos c] at e'; cases e'
    · rw [if_neg c] at e'
      have hl := enc_pN hb hp
      have hb2 : Bytes r := by
        rw [hl] at hb
        exact hb.of_app
      obtain ⟨h1, h2, h3⟩ := enc_pVs tab nd hb2 e'
      refine ⟨by omega, h2, ?_⟩
      unfold rowL
      rw [hl, h3, h1, List.append_assoc]
theorem cut_none (nd : tab.Nodup) {k k' : List Key} {a b rest : List Int} (h : ∀ x ∈ k, InTab tab x) (hl : k.length ≤ 20) (e : rowL tab k = a ++ b) (hb : b ≠ []) (ha : Bytes a) : pRow tab a ≠ some (k', rest) := by
  intro z
  obtain ⟨h1, h2, h3⟩ := enc_pRow tab nd ha z
  have p1 := pRow_enc tab [] h hl
  rw [List.append_nil, e, h3, List.append_assoc, pRow_enc tab (rest ++ b) h2 h1] at p1
  obtain ⟨_, e2⟩ := Prod.mk.inj (Option.some.inj p1)
  exact hb (List.append_eq_nil_iff.mp e2).2
end
end KN1
set_option Elab.async false
set_option linter.all false
set_option maxRecDepth 100000
set_option maxHeartbeats 4000000
namespace KO1
open PySem PySem.Spec PyProof.Rows L2 KB KC
def top (i : Nat) : Stmt := PySem.Challenge.pw_streamstack_k01_rows_as_bytes.main.body.getD i (.Pass ⟨0, 0, 0, 0⟩)
abbrev sKind : Stmt := top 7
abbrev sShape : Stmt := top 8
abbrev sNat : Stmt := top 9
abbrev sVal : Stmt := top 10
abbrev sRow : Stmt := top 11
abbrev sReader : Stmt := top 12
abbrev sRead : Stmt := top 13
abbrev sHash : Stmt := top 14
abbrev sDice : Stmt := top 16
abbrev sRoll : Stmt := top 17
abbrev sRounds : Stmt := top 18
abbrev sTold : Stmt := top 19
abbrev sLNat : Stmt := top 20
abbrev sDrawn : Stmt := top 21
abbrev sLBytes : Stmt := top 22
abbrev sLaw : Stmt := top 23
abbrev FnP (K : PySem.W.Frag) (x q : Str) (st : Stmt) (dvs : List V) (f : Addr) (fd : FuncData) : Prop := FunD K x q (defArgs st) (defBody st) (defScope st) dvs [] f fd
def rIxD : R2 := fun x y H Q => ∃ p xs i v, x = .ref p ∧ y = .int i ∧ H p = some (.lst xs) ∧ atI xs i = some v ∧ Q v H
theorem ix_listD {X : Cx} : IxR X rIxD := by
  intro value slice pins s σ H x y v u Q I rx ry h hs
  obtain ⟨p, xs, i, z, e1, e2, hq, he, q⟩ := h
  exact ix_list value slice pins s σ H x y v u Q I rx ry ⟨p, xs, i, z, e1, e2, SqL.of hq, he, q⟩ hs
theorem sc_int {a b : Int} : scal (.int a) (.int b) = true := rfl
theorem at3_0 {a b c : V} : atI [a, b, c] 0 = some a := rfl
theorem at3_1 {a b c : V} : atI [a, b, c] 1 = some b := rfl
theorem at3_2 {a b c : V} : atI [a, b, c] 2 = some c := rfl
theorem at2_0 {a b : V} : atI [a, b] 0 = some a := rfl
theorem at2_1 {a b : V} : atI [a, b] 1 = some b := rfl
theorem ix3_0 : ixN (0 + 1 + 1 + 1) 0 = some 0 := rfl
theorem ix3_1 : ixN (0 + 1 + 1 + 1) 1 = some 1 := rfl
theorem ix3_2 : ixN (0 + 1 + 1 + 1) 2 = some 2 := rfl
theorem upd2 {H : Hp} {a : Addr} {o o' : HO} : upd (upd H a o) a o' = upd H a o' := by
  funext b
  by_cases e : b = a
  · subst e; rw [upd_same, upd_same]
  · rw [upd_ne e, upd_ne e, upd_ne e]
structure TxtL (mg : Str → Option Value) : Prop where
  abs : mg "abs" = none
  int : mg "int" = none
  range : mg "range" = none
  dict : mg "dict" = none
  list : mg "list" = none
  tuple : mg "tuple" = none
  len : mg "len" = none
  zip : mg "zip" = none
  isi : mg "isinstance" = none
  str : mg "str" = none
  sorted : mg "sorted" = none
  all : mg "all" = none
def IsDice (H : Hp) (d : Addr) : Prop := ∃ a b k : Int, H d = some (.lst [.int a, .int b, .int k])
def ExD (d : Addr) (H H' : Hp) : Prop := ∀ b o, b ≠ d → H b = some o → H' b = some o
def spDice : Sp := fun vs H Q _ => ∃ c : Int, vs = [.int c] ∧ ∀ p a b k, H p = none → Q (.ref p) (upd H p (.lst [.int a, .int b, .int k]))
@[irreducible] def spRoll : Sp := fun vs H Q _ => ∃ (d : Addr) (m : Int), vs = [.ref d, .int m] ∧ IsDice H d ∧ 0 < m ∧ m ≤ 100000000 ∧
  ∀ (r : Int) a b k, 0 ≤ r → r < m → Q (.int r) (upd H d (.lst [.int a, .int b, .int k]))
section
variable {P : Program} {w : World} {K : PySem.W.Frag} {mg : Str → Option Value} {base : Heap} {f : Addr} {fd : FuncData}
theorem scDice : FnScope ["cell"] ["cell"] (defScope sDice) := ⟨rfl, rfl, rfl, by decide +kernel, rfl, by decide +kernel, by decide +kernel⟩
theorem ok_dice (F : FnP K "_law_dice" "_law_dice" sDice [] f fd) (T : TxtL mg) : FnOk P w K mg base CX0 1 f fd ["cell"] spDice := by
  refine F.ok scDice (fun vs H Q E h => ?_) (fun cdv A outer s H vs Q E hr h => ?_)
  · obtain ⟨c, rfl, _⟩ := h; rfl
  · obtain ⟨c, rfl, k⟩ := h
    refine ⟨_, PSs.nox <| pss_cons (ps_if (pt_chain op_lt op_lt (pe_op op_sub pe_int pe_int) (pv 0) pe_int)
        (pss_one (ps_ret (pe_lst (pa_cons (pe_callB call_abs (by rfl) T.abs (by decide +kernel) (pa_cons (pv 0) pa_nil)) (pa_cons pe_int (pa_cons pe_int pa_nil)))))) pss_nil)
      (pss_one (ps_ret (pe_lst (pa_cons (pv 0) (pa_cons (pe_op op_add pe_int (pe_op op_mod (pe_callTy call_int1 (by rfl) T.int (by decide +kernel) (pa_cons (pv 0) pa_nil)) pe_int))
        (pa_cons (pe_callTy call_int1 (by rfl) T.int (by decide +kernel) (pa_cons (pe_cmpR op_ge (pv 0) (pe_op op_pow pe_int pe_int) (nomark _)) pa_nil)) pa_nil)))))), ?_⟩
    simp only [tSeq, tIfS, tIf, tTest, tChain, tOp, tC, tVar, tRet, tLst, tTup, tCons, tCB, tNil, tAsg, gName, tCall, tDrop, tOr, tAnd, tNot, gSub, rI0, rI, tNext, L2.start, List.set_cons_zero, List.set_cons_succ, List.map, List.replicate, List.length, List.append_nil, List.getElem?_cons_zero, List.getElem?_cons_succ, List.cons_append, List.nil_append, Option.some.injEq, exists_eq_left', exists_eq_left, exists_and_left, V.int.injEq, V.ref.injEq, List.cons.injEq, and_true, true_and, V.bl.injEq, reduceCtorEq, false_and, and_false, exists_false, or_false, false_or, HO.lst.injEq]
    have hs : 0 + 1 + 1 + 1 ≤ sizeLine := by decide
    have hp : CPow 10 18 := by unfold CPow; decide
    have h9 : (0 : Int) < 1009 := by decide
    split
    · split
      · exact ⟨hs, fun p e => k p _ _ _ e⟩
      · exact ⟨h9, hp, hs, fun p e => k p _ _ _ e⟩
    · rw [if_neg (fun z => z)]
      exact ⟨h9, hp, hs, fun p e => k p _ _ _ e⟩
theorem scRoll : FnScope ["dice", "many", "found"] ["dice", "many"] (defScope sRoll) := ⟨rfl, rfl, rfl, by decide +kernel, rfl, by decide +kernel, by decide +kernel⟩
theorem ok_roll (F : FnP K "_law_roll" "_law_roll" sRoll [] f fd) (T : TxtL mg) : FnOk P w K mg base CX0 1 f fd ["dice", "many"] spRoll := by
  refine F.ok scRoll (fun vs H Q E h => ?_) (fun cdv A outer s H vs Q E hr h => ?_)
  · unfold spRoll at h
    obtain ⟨d, m, rfl, _⟩ := h; rfl
  · unfold spRoll at h
    obtain ⟨d, m, rfl, ⟨a, b, k, hd⟩, h0, h1, q⟩ := h
    refine ⟨_, PSs.nox <| pss_cons (ps_if (PW.pt (pw_or (pt_cmpR op_eq (pe_ix ix_listD (pv 0) pe_int (fun _ _ => rfl)) pe_int (nomark _)) (pw_or1 (PW.pt (pw_and (pt_cmpR op_eq (pe_ix ix_listD (pv 0) pe_int (fun _ _ => rfl)) pe_int (nomark _)) (pw_and1 (pt_cmpR op_gt (pe_ix ix_listD (pv 0) pe_int (fun _ _ => rfl)) pe_int (nomark _))))))))
        (pss_cons (ps_set (i := 2) scRoll.nd rfl (Or.inl rfl) (pe_op op_mod (pe_callTy call_int1 (by rfl) T.int (by decide +kernel) (pa_cons (pe_ix ix_listD (pv 0) pe_int (fun _ _ => rfl)) pa_nil)) (pv 1)))
          (pss_cons (ps_asg (pe_op op_fdiv (pe_ix ix_listD (pv 0) pe_int (fun _ _ => rfl)) (pv 1)) (pg_sub (pv 0) pe_int set_list)) (pss_one (ps_ret (pv 2))))) pss_nil)
      (pss_cons (ps_asg pe_int (pg_sub (pv 0) pe_int set_list))
      (pss_cons (ps_if (pt_cmpR op_gt (pv 1) pe_int (nomark _)) pss_never pss_nil)
      (pss_cons (ps_asg (pe_op op_mod (pe_callTy call_int1 (by rfl) T.int (by decide +kernel) (pa_cons (pe_op op_add (pe_op op_add (pe_op op_mul (pe_ix ix_listD (pv 0) pe_int (fun _ _ => rfl)) pe_int) (pe_op op_mul (pe_ix ix_listD (pv 0) pe_int (fun _ _ => rfl)) pe_int)) pe_int) pa_nil)) pe_int) (pg_sub (pv 0) pe_int set_list))
      (pss_cons (ps_asg (pe_op op_add (pe_ix ix_listD (pv 0) pe_int (fun _ _ => rfl)) pe_int) (pg_sub (pv 0) pe_int set_list))
      (pss_one (ps_ret (pe_op op_mod (pe_callTy call_int1 (by rfl) T.int (by decide +kernel) (pa_cons (pe_op op_fdiv (pe_ix ix_listD (pv 0) pe_int (fun _ _ => rfl)) pe_int) pa_nil)) (pv 1)))))))), ?_⟩
    have hm : decide ((100000000 : Int) < m) = false := decide_eq_false (by omega)
    simp only [tSeq, tIfS, tIf, tTest, tChain, tOp, tC, tVar, tRet, tLst, tTup, tCons, tCB, tNil, tAsg, gName, tCall, tDrop, tOr, tAnd, tNot, gSub, rI0, rI, tNext, L2.start, List.set_cons_zero, List.set_cons_succ, List.map, List.replicate, List.length, List.append_nil, List.getElem?_cons_zero, List.getElem?_cons_succ, List.cons_append, List.nil_append, Option.some.injEq, exists_eq_left', exists_eq_left, exists_and_left, V.int.injEq, V.ref.injEq, List.cons.injEq, and_true, true_and, V.bl.injEq, reduceCtorEq, false_and, and_false, exists_false, or_false, false_or, HO.lst.injEq, rIxD, rSetL, rEq, sc_int, hd, upd_same, upd2, at3_0, at3_1, at3_2, ix3_0, ix3_1, ix3_2, hm, if_true, if_false, Bool.false_eq_true]
    have g0 : (0 : Int) < 2147483647 := by decide
    have gm : ∀ x : Int, CMul x 48271 := fun x => .inr ⟨by decide, by decide⟩
    have gn : ∀ x : Int, CMul x 69621 := fun x => .inr ⟨by decide, by decide⟩
    have gd : ∀ x : Int, CDiv x 7 := fun x => ⟨by decide, by decide⟩
    have gq : ∀ x : Int, CDiv x m := fun x => ⟨h0, by omega⟩
    have lo : ∀ x : Int, 0 ≤ x % m := fun x => Int.emod_nonneg _ (by omega)
    have hi : ∀ x : Int, x % m < m := fun x => Int.emod_lt_of_pos _ h0
    split
    · exact ⟨h0, gq _, q _ _ _ _ (lo _) (hi _)⟩
    · split
      · split
        · exact ⟨h0, gq _, q _ _ _ _ (lo _) (hi _)⟩
        · exact ⟨gm _, gn _, g0, gd _, h0, q _ _ _ _ (lo _) (hi _)⟩
      · exact ⟨gm _, gn _, g0, gd _, h0, q _ _ _ _ (lo _) (hi _)⟩
end
end KO1
set_option Elab.async false
set_option linter.all false
set_option maxRecDepth 100000
set_option maxHeartbeats 4000000
namespace KO1
open PySem PySem.Spec PyProof.Rows L2 KB KC KS
@[irreducible] def spRounds (K : PySem.W.Frag) : Sp := fun vs H Q _ => ∃ (s : Addr) (ns : List Int), vs = [.ref s, .int 1] ∧ SqL K H s (ns.map V.int) ∧ ∀ H' p d, Ex H H' → H' p = some (.lst [.ref d]) → IsDice H' d → Q (.ref p) H'
theorem IsDice.upd_ne {H : Hp} {d a : Addr} {o : HO} (h : IsDice H d) (n : H a = none) : IsDice (upd H a o) d := by
  obtain ⟨x, y, z, e⟩ := h
  exact ⟨x, y, z, by rw [L2.upd_ne (ne_of_none e n)]; exact e⟩
theorem Ex.on {H H1 : Hp} {a : Addr} {o : HO} (e : Ex H H1) (n : H a = none) : Ex H (upd H1 a o) := fun b u h => by rw [L2.upd_ne (ne_of_none h n)]; exact e b u h
section
variable {P : Program} {w : World} {K : PySem.W.Frag} {mg : Str → Option Value} {base : Heap} {f fD : Addr} {fd fdD : FuncData}
theorem scRounds : FnScope ["script", "most", "cells", "cell"] ["script", "most"] (defScope sRounds) := ⟨rfl, rfl, rfl, by decide +kernel, rfl, by decide +kernel, by decide +kernel⟩
theorem ok_rounds (F : FnP K "_law_rounds" "_law_rounds" sRounds [] f fd) (T : TxtL mg) (FD : FnP K "_law_dice" "_law_dice" sDice [] fD fdD) (gD : mg "_law_dice" = some (.ref fD)) :
    FnOk P w K mg base CX0 2 f fd ["script", "most"] (spRounds K) := by
  have GD : FnOk P w K mg base CX0 1 fD fdD ["cell"] spDice := ok_dice FD T
  have bD : Binds K fdD ["cell"] [] := FD.bindsN fun _ _ _ _ _ _ us hl => match us, hl with | [_], _ => rfl
  refine F.ok scRounds (fun vs H Q E h => ?_) (fun cdv A outer s H vs Q E hr h => ?_)
  · unfold spRounds at h
    obtain ⟨c, d, rfl, _⟩ := h; rfl
  · unfold spRounds at h
    obtain ⟨a, ns, rfl, hS, q⟩ := h
    refine ⟨_, PSs.nox <| pss_cons (ps_set (i := 2) scRounds.nd rfl (Or.inl rfl) (pe_slice sl_list (pv 0) po_none (po_some (pv 1))))
      (pss_cons (ps_if (pt_cmpR (op_eqD hr.units) (pv 2) (pe_lst pa_nil) (nomark _)) (pss_one (ps_set (i := 2) scRounds.nd rfl (Or.inl rfl) (pe_lst (pa_cons pe_int pa_nil)))) pss_nil)
      (pss_one (ps_ret (pe_lc (own := [("cell", 3)]) (g := gName 3) (tt := tYes) rfl scRounds.nd (pi_list (pv 2)) (blkOk_by (N := ["script", "most", "cells", "cell"]) (sc := defScope sRounds) (by decide +kernel))
        (fun _ _ _ _ _ => pg_name (i := 3) scRounds.nd rfl (Or.inl rfl)) (fun _ _ _ _ _ => pts_nil)
        (fun _ _ _ _ _ => pe_call GD hr rfl gD FD.kp bD .nil pass0 (pa_cons (pv 3) pa_nil)))))), ?_⟩
    have fin : ∀ (c : Addr) (n : Int) (H1 : Hp), Ex H H1 → H1 c = some (.lst [.int n]) →
        (tRet (tLc (iList K (tVar 2)) (gName 3) tYes (tCall spDice [] E0 (tCons (tVar 3) tNil)) [3])) { nx := fun _ H' => Q .non H', rt := Q } [some (.ref a), some (.int 1), some (.ref c), none] H1 := by
      intro c n H1 e1 hc
      refine ⟨_, rfl, c, rfl, ⟨_, SqL.of hc⟩, fun D hD => lc_list (xs := [V.int n])
        (fun i H2 => Ex H1 H2 ∧ ((i = 0 ∧ H2 D = some (.lst [])) ∨ (i = 1 ∧ ∃ d, H2 D = some (.lst [.ref d]) ∧ IsDice H2 d))) ?_ ?_ ?_ ?_⟩
      · exact ⟨Ex.upd hD, .inl ⟨rfl, upd_same⟩⟩
      · rintro i H2 _ ⟨e2, _⟩
        exact SqL.of (e2 c _ hc)
      · rintro i x H2 hx ⟨e2, h2⟩
        rcases h2 with ⟨rfl, h2⟩ | ⟨rfl, _⟩
        · cases hx
          refine ⟨rfl, ?_⟩
          refine ⟨_, rfl, n, rfl, fun p x y z hp => ⟨[], ?_, (by decide), ?_⟩⟩
          · rw [L2.upd_ne (ne_of_none h2 hp)]; exact h2
          · refine ⟨Ex.on (e2.trans (Ex.upd hp)) hD, .inr ⟨rfl, p, upd_same, x, y, z, ?_⟩⟩
            rw [L2.upd_ne (fun e => by rw [e, h2] at hp; cases hp), upd_same]
        · cases hx
      · rintro H2 ⟨e2, h2⟩
        rcases h2 with ⟨h, _⟩ | ⟨_, d, h2, h3⟩
        · cases h
        · exact q H2 D d (e1.trans e2) h2 h3
    refine ⟨_, rfl, _, rfl, 1, rfl, a, _, rfl, hS, fun p hp => ?_⟩
    cases ns with
    | nil =>
      refine ⟨_, rfl, (by decide), fun p2 hp2 => ⟨.list [], .list [], .lst (.inl (.inl ?_)) .nil, .lst (.inl (.inl upd_same)) .nil, rfl, rfl, true, rfl, ?_⟩⟩
      · rw [L2.upd_ne (ne_of_none upd_same hp2)]; exact upd_same
      · refine ⟨(by decide), fun p3 hp3 => fin p3 0 _ ?_ upd_same⟩
        exact ((Ex.upd hp).trans (Ex.upd hp2)).trans (Ex.upd hp3)
    | cons n r =>
      have e : cutV ((n :: r).map V.int) none (some 1) = [V.int n] := by
        unfold cutV HT.sIx
        simp
      rw [e] at *
      refine ⟨_, rfl, (by decide), fun p2 hp2 => ⟨.list [.int n], .list [], .lst (.inl (.inl ?_)) (.cons (.int _) .nil), .lst (.inl (.inl upd_same)) .nil, rfl, rfl, false, rfl, ?_⟩⟩
      · rw [L2.upd_ne (ne_of_none upd_same hp2)]; exact upd_same
      · refine fin p n _ ((Ex.upd hp).trans (Ex.upd hp2)) ?_
        rw [L2.upd_ne (ne_of_none upd_same hp2)]; exact upd_same
end
end KO1
set_option Elab.async false
set_option linter.all false
set_option maxRecDepth 100000
set_option maxHeartbeats 1000000
namespace KO1
open PySem PySem.Spec PyProof.Rows L2 KB KC KS KN1
@[irreducible] def spNat : Sp := fun vs H Q _ => ∃ n : Int, vs = [.int n] ∧ 0 ≤ n ∧ n < 2 ^ 2000 ∧ ∀ H' p, Ex H H' → H' p = some (.tup ((natL n.toNat).map V.int)) → Q (.ref p) H'
theorem natL_len : ∀ (k n : Nat), n < 128 ^ (k + 1) → (natL n).length ≤ k + 1
  | 0, n, h => by rw [natL_small (by simpa using h)]; exact Nat.le_refl _
  | k + 1, n, h => by
    by_cases c : n < 128
    · rw [natL_small c]; show 1 ≤ _; omega
    · rw [natL_big c, List.length_cons]
      have h2 : n / 128 < 128 ^ (k + 1) := by
        rw [Nat.div_lt_iff_lt_mul (by decide)]
        rw [← Nat.pow_succ]
        exact h
      have := natL_len k (n / 128) h2
      omega
theorem natL_short {n : Int} (h : n < 2 ^ 2000) : (natL n.toNat).length ≤ 300 := by
  refine natL_len 299 n.toNat ?_
  have h1 : n.toNat < 2 ^ 2000 := by
    have : ((2 ^ 2000 : Nat) : Int) = 2 ^ 2000 := by decide +kernel
    omega
  exact Nat.lt_of_lt_of_le h1 (by decide +kernel)
theorem nat_step {H : Hp} {n : Int} {Q : VK} {E : XK} (h0 : 0 ≤ n) (h1 : n < 2 ^ 2000) (fin : ∀ H' p, Ex H H' → H' p = some (.tup ((natL n.toNat).map V.int)) → Q (.ref p) H') : spNat [.int n] H Q E := by
  unfold spNat
  exact ⟨n, rfl, h0, h1, fin⟩
section
variable {P : Program} {w : World} {K : PySem.W.Frag} {mg : Str → Option Value} {base : Heap} {f : Addr} {fd : FuncData}
theorem scNat : FnScope ["number", "found", "left"] ["number"] (defScope sNat) := ⟨rfl, rfl, rfl, by decide +kernel, rfl, by decide +kernel, by decide +kernel⟩
theorem ok_nat (F : FnP K "natural_bytes" "natural_bytes" sNat [] f fd) (T : TxtL mg) : FnOk P w K mg base CX0 1 f fd ["number"] spNat := by
  refine F.ok scNat (fun vs H Q E h => ?_) (fun cdv A outer s H vs Q E hr h => ?_)
  · unfold spNat at h
    obtain ⟨_, rfl, _⟩ := h; rfl
  · unfold spNat at h
    obtain ⟨n, rfl, h0, h1, fin⟩ := h
    refine ⟨_, PSs.nox <| pss_cons (ps_set (i := 1) scNat.nd rfl (Or.inl rfl) (pe_lst pa_nil))
      (pss_cons (ps_set (i := 2) scNat.nd rfl (Or.inl rfl) (pv 0))
      (pss_cons (ps_while PassesOwn.never (pt_cmpR op_ge (pv 2) pe_int (nomark _))
        (pss_cons (ps_expr (pe_bm PySem.F.plainAttrs_list PySem.F.slot_list_append PySem.F.type_list_append mt_append (pv 1) (pa_cons (pe_op op_add (pe_op op_mod (pv 2) pe_int) pe_int) pa_nil)))
          (pss_one (ps_set (i := 2) scNat.nd rfl (Or.inl rfl) (pe_op op_fdiv (pv 2) pe_int)))))
      (pss_cons (ps_expr (pe_bm PySem.F.plainAttrs_list PySem.F.slot_list_append PySem.F.type_list_append mt_append (pv 1) (pa_cons (pv 2) pa_nil)))
      (pss_one (ps_ret (pe_callTy call_tuple_of (by rfl) T.tuple (by decide +kernel) (pa_cons (pv 1) pa_nil))))))), ?_⟩
    have hlen := natL_short h1
    have hz : sizeLine = 16777216 := rfl
    refine ⟨by decide, fun l hl => ⟨_, rfl, ?_⟩⟩
    refine while_by (fun σ H2 => ∃ (left : Nat) (pre : List Int), σ = [some (.int n), some (.ref l), some (.int (left : Int))] ∧ KS.Ex H H2 ∧ H2 l = some (.lst (pre.map V.int)) ∧ pre ++ natL left = natL n.toNat)
      (fun σ _ => match σ with | [_, _, some (.int left)] => left.toNat | _ => 0) ⟨n.toNat, [], by rw [Int.toNat_of_nonneg h0]; rfl, Ex.upd hl, upd_same, rfl⟩ ?_ ?_
    · rintro σ H2 ⟨left, pre, rfl, e2, hl2, hp⟩
      have hpl : pre.length ≤ 300 := by
        have := congrArg List.length hp
        rw [List.length_append] at this
        omega
      refine ⟨_, rfl, _, _, rfl, rfl, _, rfl, ?_⟩
      by_cases c : (128 : Int) ≤ (left : Int)
      · refine ite2 (fun _ => ?_) (fun z => absurd (decide_eq_true c) z)
        refine ⟨_, rfl, .inl ⟨rfl, _, SqL.of hl2⟩, _, rfl, _, _, rfl, rfl, by show (0 : Int) < 128; decide, _, _, rfl, rfl, l, _, _, rfl, rfl, hl2, by rw [List.length_map]; omega, ?_⟩
        refine ⟨_, rfl, _, _, rfl, rfl, ⟨by decide, by decide⟩, ?_⟩
        refine ⟨⟨left / 128, pre ++ [((left % 128 : Nat) : Int) + 128], ?_, Ex.on e2 hl, ?_, ?_⟩, ?_⟩
        · show [some (.int n), some (.ref l), some (V.int ((left : Int) / 128))] = _
          rw [Int.natCast_ediv]
          rfl
        · rw [upd_same, List.map_append]
          rfl
        · rw [List.append_assoc]
          show pre ++ ((((left % 128 : Nat) : Int) + 128) :: natL (left / 128)) = _
          rw [← natL_big (by omega)]
          exact hp
        · show ((left : Int) / 128).toNat < ((left : Int)).toNat
          omega
      · refine ite2 (fun z => absurd (of_decide_eq_true z) c) (fun _ => ?_)
        refine ⟨_, rfl, .inl ⟨rfl, _, SqL.of hl2⟩, _, rfl, l, _, _, rfl, rfl, hl2, by rw [List.length_map]; omega, ?_⟩
        refine ⟨_, rfl, l, _, rfl, .inl ⟨SqL.of upd_same, fun q hq => ?_⟩⟩
        refine fin _ q ((Ex.on e2 hl).trans (Ex.upd hq)) ?_
        rw [upd_same]
        have : pre ++ [(left : Int)] = natL n.toNat := by rw [← hp, natL_small (by omega)]
        rw [← this, List.map_append]
        rfl
    · rintro σ H Q Q' imp ⟨x, hx, i, j, e1, e2, c, e3, q⟩
      exact ⟨x, hx, i, j, e1, e2, c, e3, imp _ _ q⟩
end
end KO1
set_option Elab.async false
set_option linter.all false
set_option maxRecDepth 100000
set_option maxHeartbeats 1000000
namespace KO1
open PySem PySem.Spec PyProof.Rows L2 KB KC KS KN1
section
variable {P : Program} {w : World} {K : PySem.W.Frag} {mg : Str → Option Value} {base : Heap} {f : Addr} {fd : FuncData}
theorem scLNat : FnScope ["number", "found"] ["number"] (defScope sLNat) := ⟨rfl, rfl, rfl, by decide +kernel, rfl, by decide +kernel, by decide +kernel⟩
theorem cat_one {K : PySem.W.Frag} {H : Hp} {a b : Addr} {pre : List Int} {x : Int} {Q : VK} (ha : H a = some (.tup (pre.map V.int))) (hb : H b = some (.tup [.int x])) (hl : pre.length ≤ 1000)
    (q : ∀ H' c, Ex H H' → H' c = some (.tup ((pre ++ [x]).map V.int)) → Q (.ref c) H') : rCatA K (.ref a) (.ref b) H Q := by
  refine ⟨a, b, _, _, rfl, rfl, SqT.of ha, SqT.of hb, ?_, fun h => ?_, fun _ h => (by cases h), fun _ _ p hp => ?_⟩
  · have hz : sizeLine = 16777216 := rfl
    rw [List.length_map]
    show pre.length + 1 ≤ sizeLine
    omega
  · have hp : pre = [] := by cases pre with | nil => rfl | cons _ _ => cases h
    subst hp
    exact q H b (Ex.refl H) hb
  · refine q _ p (Ex.upd hp) ?_
    rw [upd_same, List.map_append]
    rfl
theorem ok_lnat (F : FnP K "_law_natural" "_law_natural" sLNat [] f fd) (T : TxtL mg) : FnOk P w K mg base CX0 1 f fd ["number"] spNat := by
  refine F.ok scLNat (fun vs H Q E h => ?_) (fun cdv A outer s H vs Q E hr h => ?_)
  · unfold spNat at h
    obtain ⟨_, rfl, _⟩ := h; rfl
  · unfold spNat at h
    obtain ⟨n, rfl, h0, h1, fin⟩ := h
    refine ⟨_, PSs.nox <| pss_cons (ps_set (i := 1) scLNat.nd rfl (Or.inl rfl) (pe_tup pa_nil))
      (pss_cons (ps_while PassesOwn.never (pt_cmpR op_gt (pv 0) pe_int (nomark _))
        (pss_one (ps_par (i := 1) (j := 0) rfl scLNat.nd rfl rfl (by decide) rfl rfl (pa_cons (pe_op op_catA (pv 1) (pe_tup (pa_cons (pe_op op_add pe_int (pe_op op_mod (pv 0) pe_int)) pa_nil))) (pa_cons (pe_op op_fdiv (pv 0) pe_int) pa_nil)) (by rfl))))
      (pss_one (ps_ret (pe_op op_catA (pv 1) (pe_tup (pa_cons (pv 0) pa_nil)))))), ?_⟩
    have hlen := natL_short h1
    have hz : sizeLine = 16777216 := rfl
    have one : 1 ≤ sizeLine := by decide
    refine ⟨by decide, fun l hl => ?_⟩
    refine while_by (fun σ H2 => ∃ (left : Nat) (pre : List Int) (fo : Addr), σ = [some (.int (left : Int)), some (.ref fo)] ∧ KS.Ex H H2 ∧ H2 fo = some (.tup (pre.map V.int)) ∧ pre ++ natL left = natL n.toNat)
      (fun σ _ => match σ with | [some (.int left), _] => left.toNat | _ => 0) ⟨n.toNat, [], l, by rw [Int.toNat_of_nonneg h0]; rfl, Ex.upd hl, upd_same, rfl⟩ ?_ ?_
    · rintro σ H2 ⟨left, pre, fo, rfl, e2, hl2, hp⟩
      have hpl : pre.length ≤ 300 := by
        have := congrArg List.length hp
        rw [List.length_append] at this
        omega
      refine ⟨_, rfl, _, _, rfl, rfl, _, rfl, ?_⟩
      by_cases c : (127 : Int) < (left : Int)
      · refine ite2 (fun _ => ?_) (fun z => absurd (decide_eq_true c) z)
        refine ⟨_, rfl, _, rfl, _, _, rfl, rfl, by show (0 : Int) < 128; decide, _, _, rfl, rfl, one, fun t ht => cat_one (Ex.upd ht _ _ hl2) upd_same (by omega) fun H3 c3 e3 h3 => ⟨_, rfl, _, _, rfl, rfl, ⟨by decide, by decide⟩, _, _, rfl, ?_⟩⟩
        refine ⟨⟨left / 128, pre ++ [(128 + (left : Int) % 128)], c3, ?_, (e2.trans (Ex.upd ht)).trans e3, h3, ?_⟩, ?_⟩
        · show [some (V.int ((left : Int) / 128)), some (.ref c3)] = _
          rw [Int.natCast_ediv]
          rfl
        · rw [List.append_assoc]
          have e : (128 + (left : Int) % 128) = ((left % 128 : Nat) : Int) + 128 := by omega
          rw [e]
          show pre ++ ((((left % 128 : Nat) : Int) + 128) :: natL (left / 128)) = _
          rw [← natL_big (by omega)]
          exact hp
        · show ((left : Int) / 128).toNat < ((left : Int)).toNat
          omega
      · refine ite2 (fun z => absurd (of_decide_eq_true z) c) (fun _ => ?_)
        refine ⟨_, rfl, _, rfl, one, fun t ht => cat_one (Ex.upd ht _ _ hl2) upd_same (by omega) fun H3 c3 e3 h3 => ?_⟩
        refine fin H3 c3 ((e2.trans (Ex.upd ht)).trans e3) ?_
        have : pre ++ [(left : Int)] = natL n.toNat := by rw [← hp, natL_small (by omega)]
        rw [← this]
        exact h3
    · rintro σ H Q Q' imp ⟨x, hx, i, j, e1, e2, c, e3, q⟩
      exact ⟨x, hx, i, j, e1, e2, c, e3, imp _ _ q⟩
end
end KO1
set_option Elab.async false
set_option linter.all false
set_option maxRecDepth 100000
set_option maxHeartbeats 4000000
namespace KS
open PySem PySem.Spec PyProof.Rows PySem.Calls L2 KB KC KD LamX PySem.SeqAt
def rSortItK (X : Cx) : List V → List V → Hp → VK → Prop := fun vs zs H Q => ∃ (p a f : Addr) (kvs : List (List Key × V)) (kd : List Key × V → List PyData) (ρ : List Key × V → Int), vs = [.ref p] ∧ zs = [.ref f] ∧ H p = some (L2.DX.itemsO p a) ∧ H a = some (.dT kvs) ∧
  (∀ x ∈ kvs, shaped (.tuple (kd x)) = true) ∧ (∀ x ∈ kvs, pureL (kd x) = true) ∧ (∀ x ∈ kvs, ∃ l r, kd x = .tuple l :: r) ∧ (∀ x ∈ kvs, ∀ y ∈ kvs, okL (kd x) (kd y) = true) ∧ (∀ x ∈ kvs, ∀ y ∈ kvs, ltL (kd x) (kd y) = decide (ρ x < ρ y)) ∧ KeyCall X f H kvs kd ∧
  ∀ (H' : Hp) (D : Addr) (zs : List (Addr × (List Key × V))), Ex H H' → H D = none → H' D = some (.lst (zs.map fun z => V.ref z.1)) → (zs.map (·.2)).Perm kvs → (zs.map (·.2)).Pairwise (fun x y => ¬ ρ y < ρ x) →
    (∀ z ∈ zs, ∃ q, H' z.1 = some (.tup [.ref q, z.2.2]) ∧ H' q = some (.tup (z.2.1.map kV))) → Q (.ref D) H'
section
variable {X : Cx}
theorem cr_sortedItK (hc : X.calm = true) (hu : X.A.units + 66 < cLine) : CallRK X (.builtin "sorted") [Str.ofString "key"] (rSortItK X) := by
  intro pins s σ H xs zs us ws Q I r rz h
  obtain ⟨p, a, f, kvs, kd, ρ, rfl, rfl, hp, ha, hsh, hpu, hft, hok, hρ, hcall, q⟩ := h
  obtain rfl := Vals.ref1 r
  obtain rfl := Vals.ref1 rz
  have view : s.heap.IsItemsView p a := (show ObjOk X.prog X.w H s.heap p (L2.DX.itemsO p a) from I.hok p _ hp).1
  obtain ⟨z, hd, xs', rel, o, es, ep, ho, hx, hdat, hes, his, hn⟩ := dt_of I.hok ha
  have l1 : kvs.length = xs'.length := Paired.length rel
  have l2 : es.size = xs'.length := size_of_entries hes
  show wpAny _ _ (call (.builtin "sorted") [.ref p] [(Str.ofString "key", .ref f)]) _ _ s
  refine call_function_entry_kw kind_sorted plain_sorted entry_sorted (ksk_s1 _ _) ?_
  unfold Builtin.«sorted»
  refine wpAny_bind (m := checkCount "sorted" 1 1 _) (wpAny_pure ?_)
  refine wpAny_bind (DT.collectI (A := X.A.in1) (es := es) (ep := ep) (I.ok.hd hc) view ⟨o, ho, hx, hdat⟩ (by omega) fun h' tk as hk hlt hl hG => ?_)
  refine wpAny_bind (wpAny_newList ?_ (by rw [List.length_map, hl]; omega))
  have hoL : (h'.push (seqObj "list" (as.map Value.ref).toArray 0)).get? h'.objs.size = some (seqObj "list" (as.map Value.ref).toArray 0) := Heap.get?_push_size _ rfl
  refine wpAny_bind (wpAny_holding (wpAny_call_entry_kw slot_list_sort ⟨_, hoL, rfl⟩ entry_list_sort ?body (ksk_l1 _ _)))
  case body =>
    show wpAny (model X.prog X.w) X.A.in1.in1 (Builtin.«list.sort» ⟨[.ref h'.objs.size], [(Str.ofString "key", .ref f)]⟩) _ _ _
    rw [ksk_t1]
    refine sort_body (s := s) (h2 := h'.push (seqObj "list" (as.map Value.ref).toArray 0)) (tk := tk) (ρ := ρ) I (fun b u e => Heap.get?_push_of_some _ (hk b u e)) hoL (Nat.le_of_lt hlt) rel hes hl
      ⟨hG.rise, hG.above, fun j b hj => let ⟨e, he, hg⟩ := hG.pairs j b hj; ⟨e, he, Heap.get?_push_of_some _ hg⟩⟩ z hsh hpu hft hok hρ hu hcall fun H' s' zs J e1 e2 e3 e4 e5 e6 => ⟨_, rfl, ?_⟩
    exact wpAny_pure ⟨_, rfl, .ref h'.objs.size, H', J, rfl, q H' h'.objs.size zs e1 e2 e3 e4 e5 e6⟩
theorem keyCall_lam {k : Nat} {f c' : Addr} {qn : Str} {params : Arguments} {body : Expr} {scope : Scope} {N : List Str} {pn : Str} {H : Hp} {kvs : List (List Key × V)} {kd : List Key × V → List PyData} (S : FnScope N [pn] scope) (hr : Room (k + 3) X.A)
    (hf : H f = some (LamO f qn params body scope c')) (hc : H c' = some (CodeO c' qn)) (hb : ∀ (s : Shared) (pm ctv u : Value), BindsTo s (PySem.W.kla_fn "<lambda>" qn params body scope [] pm (.ref c') ctv) ⟨[u], []⟩ ([pn].zip [u]))
    (hbody : ∀ (A : Around) (outer : List Env) (s : Shared) (H1 : Hp), Room k (A.deeper (envOfC qn scope s.heap.objs.size f (.ref c'))) → ∀ x ∈ kvs, ∀ (t q : Addr) (Q : VK), Ex H H1 → H1 t = some (.tup [.ref q, x.2]) → H1 q = some (.tup (x.1.map kV)) →
      (∀ y H2, Ex H1 H2 → Dp X.K H2 y (.tuple (kd x)) → Q y H2) → ∃ tt, PE (cxOf CX0 X.prog X.w X.K X.mg X.base N qn scope f (.ref c') A outer s H1 E0) body tt ∧ tt (start N [.ref t]) H1 Q) : KeyCall X f H kvs kd := by
  intro x hx t q H1 e1 h1 h2 pins σ s1 R J hR
  have hr2 : Room (k + 1) X.A.in1.in1 := (show Room (k + 2) X.A.in1 from Room.in1 hr).in1
  have rc := lam_run (CX := CX0) (Q := fun y H2 => Ex H1 H2 ∧ Dp X.K H2 y (.tuple (kd x))) (E := E0) (vs := [.ref t]) (us := [.ref t]) (args := ⟨[.ref t], []⟩) S hr2 J.env0.in1.in1 (e1 _ _ hf) (e1 _ _ hc) (fun pm ctv => hb s1 pm ctv _) (.cons rfl .nil) rfl
    (fun hr' => hbody _ _ s1 H1 hr' x hx t q _ e1 h1 h2 fun y H2 a b => ⟨a, b⟩)
  refine wpAny_call (codeAny_mono rc fun r s2 hq => ?_)
  cases r with
  | error e => exact (show False from hq).elim
  | ok fl =>
    cases fl with
    | ret u =>
      obtain ⟨y, H2, J2, ry, a, b⟩ := J.after hq
      exact hR y u H2 s2 J2 a ry b
    | next => exact False.elim hq
    | brk => exact False.elim hq
    | cont => exact False.elim hq
end
end KS
set_option Elab.async false
set_option linter.all false
set_option maxRecDepth 100000
set_option maxHeartbeats 4000000
namespace KG
open PySem PySem.Spec PyProof.Rows PySem.Calls L2 KB
def mergeT (acc kvs : List (List Key × V)) : List (List Key × V) := kvs.foldl (fun acc p => putK acc p.1 p.2) acc
theorem kt_merge {H : Hp} : ∀ {kvs : List (List Key × V)} {xs : List (List Key × Addr × Value)} {acc : List (List Key × V)} {ys : List (List Key × Addr × Value)}, KT H kvs xs → KT H acc ys → KT H (mergeT acc kvs) (storedAllH ys xs)
  | _, _, _, _, .nil, r => r
  | _, _, _, _, .cons (a := p) (b := x) (l₁ := kvs) (l₂ := xs) h t, r => by
    obtain ⟨h1, h2, h3⟩ := h
    have z := KT.put r p.1 (b := x.2.1) (by exact h2) h3
    show KT H (mergeT (putK _ p.1 p.2) kvs) (storedAllH (storedH _ x.1 x.2.1 x.2.2) xs)
    rw [← h1]
    exact kt_merge t z
theorem putK_len {κ : Type} [DecidableEq κ] (kvs : List (κ × V)) (k : κ) (v : V) : (putK kvs k v).length ≤ kvs.length + 1 := by
  unfold putK
  split
  · rw [List.length_map]; omega
  · rw [List.length_append]; simp
theorem merge_len : ∀ (kvs acc : List (List Key × V)), (mergeT acc kvs).length ≤ acc.length + kvs.length
  | [], acc => Nat.le_refl _
  | p :: kvs, acc => by
    have h1 := merge_len kvs (putK acc p.1 p.2)
    have h2 := putK_len acc p.1 p.2
    rw [List.length_cons]
    show (mergeT (putK acc p.1 p.2) kvs).length ≤ _
    omega
section
variable {X : Cx} {pins : List (Addr × Obj)} {σ : L2.St} {H : Hp} {s : Shared}
theorem pairs_raw (I : Inv X pins σ H s) : ∀ {ts : List Addr} {kvs : List (List Key × V)}, PairsOf H ts kvs → ∃ xs : List (List Key × Addr × Value), KT H kvs xs ∧ xs.length = ts.length ∧ ∀ (j : Nat) (x : List Key × Addr × Value), xs[j]? = some x → ∃ t, ts[j]? = some t ∧ s.heap.IsTuple t #[.ref x.2.1, x.2.2]
  | _, _, .nil => ⟨[], .nil, rfl, fun j x h => by simp at h⟩
  | _, _, .cons (a := t) (b := p) (l₁ := ts) (l₂ := kvs) h r => by
    obtain ⟨xs, k1, k2, k3⟩ := pairs_raw I r
    obtain ⟨q, h1, h2⟩ := h
    obtain ⟨_, its, rv, ht⟩ := (show ObjOk X.prog X.w H s.heap t (.tup [.ref q, p.2]) from I.hok t _ h1)
    cases rv with
    | cons r1 r2 =>
      cases r2 with
      | @cons _ u _ _ r3 r4 =>
        cases r4
        cases r1
        refine ⟨(p.1, q, u) :: xs, .cons ⟨rfl, h2, r3⟩ k1, by rw [List.length_cons, List.length_cons, k2], fun j x hj => ?_⟩
        cases j with
        | zero =>
          simp only [List.getElem?_cons_zero, Option.some.injEq] at hj
          subst hj
          exact ⟨t, rfl, ht⟩
        | succ j =>
          simp only [List.getElem?_cons_succ] at hj
          exact k3 j x hj
def rDictT : List V → Hp → VK → Prop := fun vs H Q => ∃ (a : Addr) (ts : List Addr) (kvs : List (List Key × V)), vs = [.ref a] ∧ (H a = some (.lst (ts.map V.ref)) ∨ ∃ o, H a = some (.frz o (.tup (ts.map V.ref))) ∧ o.dict = none) ∧ PairsOf H ts kvs ∧ ∀ p, H p = none → Q (.ref p) (upd H p (.dT (mergeT [] kvs)))
theorem cr_dictT (hc : X.calm = true) (hu : X.A.units + 4 < cLine) : CallR X (.type "dict") rDictT := by
  intro pins s σ H vs us Q I r h
  obtain ⟨a, ts, kvs, rfl, ha, hp, q⟩ := h
  obtain rfl := Vals.ref1 r
  obtain ⟨xs, k1, k2, k3⟩ := pairs_raw I hp
  have lk : kvs.length = xs.length := Paired.length k1
  have items : PairItems s.heap (ts.map Value.ref).toArray (fun j => ts.getD j 0) (xs.map fun x => (Value.ref x.2.1, x.2.2)) := by
    refine ⟨by simp [k2], fun j k v hj => ?_⟩
    rw [List.getElem?_map] at hj
    obtain ⟨x, hx, e⟩ := Option.map_eq_some_iff.mp hj
    obtain ⟨t, ht, hT⟩ := k3 j x hx
    cases e
    refine ⟨by simp [ht], .inl ?_⟩
    have e2 : ts.getD j 0 = t := by simp [List.getD, ht]
    show s.heap.IsTuple (ts.getD j 0) _
    rw [e2]
    exact hT
  have nps : (xs.map fun x => (Value.ref x.2.1, x.2.2)).length = xs.length := List.length_map _
  have hc2 : PairsHaveH (tupleKind (mixKind X.prog X.w)) (xs.map fun x => (Value.ref x.2.1, x.2.2)).length (PairRel (xs.map fun x => (Value.ref x.2.1, x.2.2))) xs := by
    refine ⟨by rw [nps], fun i key v hj => ?_⟩
    have hj : (xs.map fun x => (Value.ref x.2.1, x.2.2))[i]? = some (key, v) := hj
    rw [List.getElem?_map] at hj
    obtain ⟨x, hx, e⟩ := Option.map_eq_some_iff.mp hj
    cases e
    exact ⟨x.1, x.2.1, by rw [hx], rfl⟩
  have keys : ∀ x ∈ xs, (tupleKind (mixKind X.prog X.w)).is s.heap x.1 x.2.1 := fun x hx => by
    obtain ⟨p, _, e1, e2, _⟩ := mem_r k1 x hx
    rw [← e1]
    exact key_of I.hok e2
  have hst : KeysStay (tupleKind (mixKind X.prog X.w)) s.heap s.heap.objs.size [] xs := fun h' hk x hx => by
    obtain ⟨o, its, n, ho, hc', hd, hi⟩ := keys x hx
    exact ⟨o, its, n, hk _ _ (Nat.ne_of_lt (Heap.lt_size ho)) (by simp) ho, hc', hd, hi⟩
  have hroom : (tupleKind (mixKind X.prog X.w)).room X.A.in1.in1 := tupleKind_room_in1 (by show X.A.units + 1 + 1 < cLine; omega)
  have hm : (s.heap.objs.size == sysModules) = false := beq_eq_false_iff_ne.mpr (Nat.ne_of_gt I.big)
  have fin : ∀ (h' : Heap) (tk : Nat), h'.DictOfH (tupleKind (mixKind X.prog X.w)) s.heap.objs.size (storedAllH [] xs) → (∀ b o, b ∉ ([] : List Addr) → s.heap.get? b = some o → h'.get? b = some o) → kvs.length ≤ sizeLine → EP X pins σ Q (.ref s.heap.objs.size) { s with heap := h', toks := tk } := by
    intro h' tk hd hk hz
    obtain ⟨o, es, ep, d1, d2, d3, d4, _, d6⟩ := hd
    have kt : KT (upd H s.heap.objs.size (.dT (mergeT [] kvs))) (mergeT [] kvs) (storedAllH [] xs) := (kt_merge k1 .nil).keeps fun b ys e => by rw [upd_ne (ne_of_none e (I.hok.fresh (Nat.le_refl _)))]; exact e
    have hz2 := merge_len kvs []
    exact ⟨.ref s.heap.objs.size, _, I.laid (t' := tk) (o := .dT (mergeT [] kvs)) (fun b o e => hk b o (by simp) e) (Nat.le_refl _) ⟨by simp at hz2; omega, hm, _, kt, o, es, ep, d1, d2, d3, d4, d6⟩, rfl, q _ (I.hok.fresh (Nat.le_refl _))⟩
  rcases ha with ha | ha
  · obtain ⟨hz, its, n, ri, hraw⟩ := (show ObjOk X.prog X.w H s.heap a (.lst (ts.map V.ref)) from I.hok a _ ha)
    have ei : its = ts.map Value.ref := refs_at ri
    subst ei
    rw [List.length_map] at hz
    exact call_dict_pairsH (knd := tupleKind (mixKind X.prog X.w)) (PairArg.list a _ _ _) (I.ok.hd hc) hroom ⟨⟨_, n, hraw, rfl, rfl, rfl⟩, items⟩ hc2 hst (by rw [nps]; omega) fun h' tk hd hk => fin h' tk hd hk (by omega)
  · obtain ⟨o, ha, hdn⟩ := ha
    obtain ⟨ho, hz, its, ri, hraw⟩ := (show ObjOk X.prog X.w H s.heap a (.frz o (.tup (ts.map V.ref))) from I.hok a _ ha)
    have ei : its = ts.map Value.ref := refs_at ri
    subst ei
    rw [List.length_map] at hz
    obtain ⟨o', ho', hcl, n, hdat⟩ := hraw
    have e : o' = o := Option.some.inj (ho'.symm.trans ho)
    subst e
    exact call_dict_pairsH (knd := tupleKind (mixKind X.prog X.w)) (PairArg.tuple a _ _ _) (I.ok.hd hc) hroom ⟨⟨o', n, ho, hcl, hdn, hdat⟩, items⟩ hc2 hst (by rw [nps]; omega) fun h' tk hd hk => fin h' tk hd hk (by omega)
def rTupleF (K : PySem.W.Frag) : List V → Hp → VK → Prop := fun vs H Q => ∃ (p : Addr) (ys : List V), vs = [.ref p] ∧ SqL K H p ys ∧ ∀ (l : Addr) (o : Obj), o.dict = none → H l = none → Q (.ref l) (upd H l (.frz o (.tup ys)))
theorem cr_tupleF : CallR X (.type "tuple") (rTupleF X.K) := by
  intro pins s σ H vs us Q I r h
  obtain ⟨p, ys, rfl, hq, q⟩ := h
  obtain rfl := Vals.ref1 r
  obtain ⟨its, r', pl, hz⟩ := I.list hq
  have hlen := r'.length
  refine call_tuple_list pl.isList (fun h' kp => ?_) (by simp only [List.size_toArray]; omega)
  have I1 : Inv X pins σ H { s with heap := h' } := I.kept (t' := s.toks) kp
  have hget : (h'.push { cls := .type "tuple", data := .seq its.toArray }).get? h'.objs.size = some { cls := .type "tuple", data := .seq its.toArray } := Heap.get?_push_size _ rfl
  exact ⟨.ref h'.objs.size, _, I1.laid (t' := s.toks) (o := .frz { cls := .type "tuple", data := .seq its.toArray } (.tup ys)) (fun b o e => Heap.get?_push_of_some _ e) (Nat.le_refl _) ⟨hget, hz, its, r', _, hget, rfl, 0, rfl⟩, rfl, q _ _ rfl (I1.hok.fresh (Nat.le_refl _))⟩
end
end KG
set_option Elab.async false
set_option linter.all false
set_option maxRecDepth 100000
set_option maxHeartbeats 4000000
namespace KH
open PySem PySem.Spec PyProof.Rows PySem.Calls L2 KB GxR
def EltI (prog : Program) (w : World) (scope : Scope) (x : Str) (elt : Expr) (pb : Int → Bool) : Prop :=
  ∀ (cenv : Env) (A' : Around) (E' : Value → Shared → Prop) (i : Int) (t : Tok) (s₂ : Shared) (m₂ : Str → Option Value), cenv.scope = scope → s₂.heap.Ns cenv.locals m₂ → m₂ x = some (.int i t) →
    wpAny (model prog w) A' (eval elt cenv) (fun y s₃ => y = .bool (pb i) ∧ Keeps s₂ s₃) E' s₂
theorem elt_gt {prog : Program} {w : World} {scope : Scope} {x : Str} {n : Int} {j : Nat} {p1 p2 p3 : Pos} (hk : scope.kind = .function) (hl : scope.names.lookup x = some .local) (hd : (x == ("__debug__" : Str)) = false := by decide) :
    EltI prog w scope x (.Compare (.Name x p1) [.Gt] [.Constant (.int n) j p2] p3) (fun i => decide (n < i)) := by
  intro cenv A' E' i t s₂ m₂ hs hn hm
  refine wpAny_Compare1 ?_
  refine wpAny_Name (wpAny_loadName_local (by rw [hs]; exact hk) (show cenv.scope.names.lookup x = some .local by rw [hs]; exact hl) hn hm ?_) hd
  refine wpAny_Constant_int ?_
  exact PyProof.Rows.gt_int ⟨rfl, keeps_tok _ _⟩
def intP (pb : Int → Bool) : Value → Bool
  | .int i _ => pb i
  | _ => false
def vP (pb : Int → Bool) : V → Bool
  | .int i => pb i
  | _ => false
def trE (pb : Int → Bool) (es : Array DictEntry) (j : Nat) : Bool := match es[j]? with
  | some e => intP pb e.val
  | none => false
theorem all_trE (pb : Int → Bool) (es : Array DictEntry) : (List.range es.size).all (trE pb es) = es.toList.all fun e => intP pb e.val := by
  rw [Bool.eq_iff_iff, List.all_eq_true, List.all_eq_true]
  constructor
  · intro h e he
    obtain ⟨j, hj, hx⟩ := List.getElem_of_mem he
    have hj' : j < es.size := by rw [← Array.length_toList]; exact hj
    have q := h j (List.mem_range.mpr hj')
    unfold trE at q
    rw [Array.getElem?_eq_getElem hj'] at q
    rw [Array.getElem_toList] at hx
    rw [← hx]
    exact q
  · intro h j hj
    have hj' := List.mem_range.mp hj
    unfold trE
    rw [Array.getElem?_eq_getElem hj']
    exact h _ (Array.mem_toList_iff.mpr (Array.getElem_mem hj'))
theorem all_kt (pb : Int → Bool) {H : Hp} : ∀ {kvs : List (List Key × V)} {xs : List (List Key × Addr × Value)}, KT H kvs xs → (xs.all fun x => intP pb x.2.2) = kvs.all fun p => vP pb p.2
  | _, _, .nil => rfl
  | _, _, .cons (a := p) (b := x) h t => by
    rw [List.all_cons, List.all_cons, all_kt pb t]
    obtain ⟨_, _, rv⟩ := h
    have e : intP pb x.2.2 = vP pb p.2 := by
      cases hp : p.2 with
      | int i =>
        rw [hp] at rv
        obtain ⟨t, e⟩ := rv
        rw [e]
        rfl
      | non => rw [hp] at rv; rw [show x.2.2 = Value.none from rv]; rfl
      | bl b => rw [hp] at rv; rw [show x.2.2 = Value.bool b from rv]; rfl
      | str z => rw [hp] at rv; obtain ⟨t, e⟩ := rv; rw [e]; rfl
      | byt z => rw [hp] at rv; obtain ⟨t, e⟩ := rv; rw [e]; rfl
      | flt z => rw [hp] at rv; obtain ⟨t, e⟩ := rv; rw [e]; rfl
      | ref a => rw [hp] at rv; rw [show x.2.2 = Value.ref a from rv]; rfl
      | ty n => rw [hp] at rv; rw [show x.2.2 = Value.type n from rv]; rfl
    rw [e]
theorem nat1 {a b c : Nat} (h : a < b) (e : c = b + 1) (q : a = c) : False := by omega
theorem nat2 {a b c : Nat} (h : a < b) (e : b ≤ c) (q : a = c) : False := by omega
section
variable {X : Cx} {pins : List (Addr × Obj)} {σ : L2.St} {H : Hp} {s : Shared}
def ReadyI (X : Cx) (pins : List (Addr × Obj)) (σ : L2.St) (H1 : Hp) (P : Addr) (es : Array DictEntry) (pb : Int → Bool) (g : Addr) (s5 : Shared) : Prop :=
  ∃ (fp wr : List Addr) (G : Array GenState → Array GenState → Prop) (F : Nat → Value → Prop) (St : Nat → Shared → Prop),
    WalksS X.prog X.w X.A.in1 g fp wr G es.size F St ∧ St 0 s5 ∧ TruthOf X.prog X.w X.A.in1 F (trE pb es) ∧ ∀ s', Moved wr G s5 s' → ∃ H2, Tabbed P H1 H2 ∧ Inv X pins σ H2 s'
theorem gen_vals {c P : Addr} {elt e : Expr} {x : Str} {px gpos apos cpos : Pos} {scope : Scope} {pb : Int → Bool} {te : TE} {k : Nat} {Q' : Value → Shared → Prop} {R : List (List Key × V) → Hp → Prop}
    (hr : Room k X.A) (TB : TabB X.base X.mg c P) (hcode : X.env.code = .ref c) (S : GenS X.env scope x) (hi : PE X e te) (hel : EltI X.prog X.w scope x elt pb)
    (hbase : attributeBase e "values" X.env (eval e X.env) = eval e X.env) (hline : (apos.endLine == cpos.line) = true)
    (hs : ∀ v, genFold (.Call (.Attribute e "values" apos) [] [] cpos) X.env v = pure v) (I : Inv X pins σ H s) (h : te σ H fun v H1 => ∃ (d : Addr) (kvs : List (List Key × V)), v = .ref d ∧ H1 d = some (.dT kvs) ∧ IntVals kvs ∧ TabG H1 P ∧ R kvs H1)
    (hQ : ∀ kvs H1 es g s5, R kvs H1 → (es.toList.all fun e => intP pb e.val) = (kvs.all fun p => vP pb p.2) → ReadyI X pins σ H1 P es pb g s5 → Q' (.ref g) s5) :
    wpAny (model X.prog X.w) X.A (eval (.GeneratorExp elt [⟨.Name x px, .Call (.Attribute e "values" apos) [] [] cpos, [], 0⟩] scope gpos) X.env) Q' X.xe s := by
  refine wpAny_GeneratorExp_walksQ hr.hd S.co (closure_ok S.free) S.cell S.dot S.loc S.kind (by have := hr.dp; omega) ?_ hs
  refine wpAny_Call_method (T := "dict") (id := "dict.values") hbase rfl hline F.plainAttrs_dict F.slot_dict_values F.type_dict_values (thn (hi.run pins s σ H _ I h) fun u s1 ⟨v, H1, I1, r1, d, kvs, ev, hd, hiv, ⟨ps, hP, ht⟩, q1⟩ => ?_)
  subst ev
  obtain rfl : u = Value.ref d := r1
  obtain ⟨z, hm0, xs, rel, o, es, ep, ho, hx, hdat, hes, his, hn⟩ := dt_of I1.hok hd
  have raw : s1.heap.DictRaw d es ep := ⟨o, ho, hx, hdat⟩
  refine ⟨raw.typeIs, fun a e => by cases e; exact ⟨o, ho, hx.2.1⟩, ?_⟩
  show wpAny _ _ (callWith cpos (.builtin "dict.values") [.ref d] [] []) _ X.xe s1
  refine method_meetsIn F.slot_dict_values F.entry_dict_values rfl (PySem.evalArgs_none ⟨rfl, raw.typeIs, F.args_dict_values_1 _, _, meets_dict_values_raw d hm0, ⟨es, ep, raw⟩, ?_⟩)
  refine wpAny_pyIter_values_raw ⟨_, Heap.get?_push_size _ rfl, rfl, rfl⟩ (raw.at fun o e => Heap.get?_push_of_some _ e) ?_
  generalize hva : s1.heap.push { cls := .type "dict_values", data := .fields #[.ref d] } = hv
  have kv : ∀ b u, s1.heap.get? b = some u → hv.get? b = some u := fun b u e => by rw [← hva]; exact Heap.get?_push_of_some _ e
  have zv : hv.objs.size = s1.heap.objs.size + 1 := by rw [← hva, Heap.size_push]
  show _ ∧ _
  generalize hio : ({ cls := .type "dict_valueiterator", data := .fields #[.ref d, .int 0 0, .int es.size 0, .int ep 0] } : Obj) = io
  have k2 : ∀ b u, s1.heap.get? b = some u → (hv.push io).get? b = some u := fun b u e => Heap.get?_push_of_some _ (kv b u e)
  have hPs : s1.heap.get? P = some { cls := .none, data := .fields ps } := I1.hok P _ hP
  have hPlt : P < s1.heap.objs.size := Heap.lt_size hPs
  have hdlt : d < s1.heap.objs.size := Heap.lt_size ho
  have hP2 : (hv.push io).get? P = some { cls := .none, data := .fields ps } := k2 _ _ hPs
  have cd : PySem.W.CodeHd (hv.push io) c P := TB.code.keeps fun b u e => k2 b u (I1.bk b u e)
  have lim2 : (hv.push io).NoLimit := I1.nolimit.keeps k2
  have hst : (hv.push io).IsValIter hv.objs.size d 0 es.size ep ∧ (hv.push io).DictRaw d es ep := ⟨⟨_, Heap.get?_push_size _ (by rw [← hio]; rfl), by rw [← hio], by rw [← hio]; rfl⟩, raw.at fun o e => k2 _ _ e⟩
  have W : ∀ A' : Around, A'.handled = none → Walks X.prog X.w A' hv.objs.size [hv.objs.size, d] [hv.objs.size] es.size (fun i v => ∃ hi : i < es.size, v = es[i].val) (fun i h => h.IsValIter hv.objs.size d i es.size ep ∧ h.DictRaw d es ep) :=
    fun A' hA => Walks.rawValues hA _ d (by rw [zv]; exact Nat.ne_of_lt (Nat.lt_succ_of_lt hdlt)) es ep
  have vints : ∀ (i : Nat) (hi : i < es.size), ∃ n t, es[i].val = Value.int n t := fun i hi => by
    have hi' : i < xs.length := by rw [← size_of_entries hes]; exact hi
    have e1 := entry_at hes i
    rw [Array.getElem?_eq_getElem hi, List.getElem?_eq_getElem hi'] at e1
    have e2 := Option.some.inj e1
    obtain ⟨n, t, e3⟩ := kt_int rel hiv xs[i] (List.getElem_mem hi')
    exact ⟨n, t, by rw [e2]; exact e3⟩
  have hall : (es.toList.all fun e => intP pb e.val) = kvs.all fun p => vP pb p.2 := by
    rw [hes, List.all_map, ← all_kt pb rel]
    rfl
  have cont : ∀ (code : Value) (h3 : Heap) (tk : Nat) (ps' : Array Value), Heap.ExtBut P (hv.push io) h3 → (hv.push io).objs.size ≤ h3.objs.size → h3.get? P = some { cls := .none, data := .fields ps' } → (∃ more, ps' = ps ++ more) → TriplesOk ps'.toList →
      wpAny (model X.prog X.w) X.A (builtinsFor X.env.globals X.env.builtins) (fun bi s₄ =>
        ∃ Ia fp wr n₀ Pf St₀ pz F, Value.ref hv.objs.size = .ref Ia ∧ (∀ A' : Around, A'.handled = none → Walks X.prog X.w A' Ia fp wr n₀ Pf St₀) ∧ St₀ 0 s₄.heap ∧ (∀ b ∈ fp, b < s₄.heap.objs.size) ∧ s₄.heap.NoLimit ∧ cStatics ∉ wr ∧
          (∀ href : Heap, (∀ b o, s₄.heap.get? b = some o → href.get? b = some o) →
            QuietGen X.prog X.w (genEnv scope (cloFrom X.env.cells scope.names []) s₄.heap.objs.size code bi X.env) x [] elt (List.range s₄.heap.objs.size) wr Pf pz F href) ∧
          (∀ a h₅ tk gs, gs.bare = true → s₄.heap.objs.size < a → h₅.objs.size = a + 1 → (∀ b o, s₄.heap.get? b = some o → h₅.get? b = some o) →
            WalksS X.prog X.w X.A.in4 a (a :: s₄.heap.objs.size :: List.range s₄.heap.objs.size) (s₄.heap.objs.size :: wr) (GenOnlyQ s₄.gens.size) (passing pz n₀ 0).length
              (fun j y => ∃ i, (passing pz n₀ 0)[j]? = some i ∧ F i y) (GenAt X.prog X.w X.A.in4 a s₄.gens.size s₄.heap.objs.size (List.range s₄.heap.objs.size) wr pz n₀ F) →
            GenAt X.prog X.w X.A.in4 a s₄.gens.size s₄.heap.objs.size (List.range s₄.heap.objs.size) wr pz n₀ F 0 { s₄ with gens := s₄.gens.push gs, toks := tk, heap := h₅ } →
            Q' (.ref a) { s₄ with gens := s₄.gens.push gs, toks := tk, heap := h₅ })) X.xe { s1 with heap := h3, toks := tk } := by
    intro code h3 tk ps' hx3 hsz hP3 hmore ht3
    obtain ⟨bm, ob, e1, e2, e3, e4, e5, e6, e7, e8⟩ := TB.bm
    have hcP : cStatics ≠ P := fun e => by
      obtain ⟨_, hns, _⟩ := I1.nolimit
      obtain ⟨o', es', ep', ho', hd', _⟩ := hns
      rw [e, hPs] at ho'
      cases ho'
      cases hd'
    have hcl : cStatics < s1.heap.objs.size := let ⟨_, hns, _⟩ := I1.nolimit; hns.lt
    have sz2 : (hv.push io).objs.size = s1.heap.objs.size + 2 := by rw [Heap.size_push, zv]
    have keep3 : ∀ b u, b ≠ P → s1.heap.get? b = some u → h3.get? b = some u := fun b u hb e => hx3 b u hb (k2 b u e)
    refine wpAny_builtinsFor (m := X.mg) (by rw [I1.ok.glob]; exact (((I1.mod.glob.keeps I1.bk).keeps k2)).extBut hx3 TB.gP) e1 e2 (keep3 _ _ e4 (I1.bk _ _ e5)) e6 e7 e8 ?_
    refine ⟨hv.objs.size, [hv.objs.size, d], [hv.objs.size], es.size, _, _, (fun _ => true), (fun i y => ∃ hi : i < es.size, y = .bool (intP pb es[i].val)), rfl, W, ?_, ?_, lim2.extBut hx3 hcP, ?_, ?_, ?_⟩
    · refine (W X.A hr.hd).frame _ _ _ hst fun b hb u e => hx3 b u (fun z => ?_) e
      rcases List.mem_cons.mp hb with z2 | z2
      · exact (nat1 hPlt zv (z.symm.trans z2)).elim
      · rcases List.mem_cons.mp z2 with z2 | z2
        · rw [z.symm.trans z2, ho] at hPs
          cases hPs
          cases hdat
        · cases z2
    · intro b hb
      rcases List.mem_cons.mp hb with z | z
      · rw [z]
        show hv.objs.size < h3.objs.size
        omega
      · rcases List.mem_cons.mp z with z | z
        · rw [z]
          exact Nat.lt_of_lt_of_le hdlt (show s1.heap.objs.size ≤ h3.objs.size by omega)
        · cases z
    · intro z
      rcases List.mem_cons.mp z with z | z
      · exact (nat1 hcl zv z).elim
      · cases z
    · intro href hhref
      refine ⟨fun A' E' i v s₂ m₂ hA hPv hn hm hk => ?_, fun A' E' i v s₂ m₂ hA hPv hp hn hm hk => ?_⟩
      · simp only [List.forIn_nil]
        exact wpAny_pure ⟨rfl, keeps_refl _⟩
      · obtain ⟨hi', rfl⟩ := hPv
        obtain ⟨n, t, e⟩ := vints i hi'
        rw [e] at hm
        exact wpAny_mono (hel _ A' E' n t s₂ m₂ rfl hn hm) (fun y s3 r => ⟨⟨hi', by rw [r.1, e]; rfl⟩, r.2⟩) fun _ _ e => e
    · intro g h5 tk5 gs hgb hag hsz5 hk5 W5 hat
      simp only [GxR.passing_true, List.length_range] at W5
      refine hQ kvs H1 es g _ q1 hall ⟨_, _, _, _, _, W5.in4_1, hat, ?_, fun s' hmv => ?_⟩
      · intro j y sj Qj Ej hy hQj
        obtain ⟨i, hij, hi', rfl⟩ := hy
        obtain ⟨hj, ej⟩ := List.getElem?_eq_some_iff.mp hij
        rw [List.getElem_range] at ej
        subst ej
        have hQ2 : Qj (trE pb es j) sj := hQj
        unfold trE at hQ2
        rw [Array.getElem?_eq_getElem hi'] at hQ2
        exact wpAny_truthy_bool hQ2
      · obtain ⟨more, em⟩ := hmore
        have nwr : ∀ b u, s1.heap.get? b = some u → b ∉ h3.objs.size :: [hv.objs.size] := fun b u e hb => by
          have hl := Heap.lt_size e
          rcases List.mem_cons.mp hb with z | z
          · exact (nat2 hl (by omega) z).elim
          · rcases List.mem_cons.mp z with z | z
            · exact (nat1 hl zv z).elim
            · cases z
        have J := inv_tab (more := more) (h' := s'.heap) (g' := s'.gens) (d' := s'.drawn) (t' := s'.toks) I1 hP (fun b u hb e => hmv.heap b u (nwr b u e) (hk5 b u (keep3 b u hb e)))
          (by rw [← em]; exact hmv.heap P _ (nwr P _ hPs) (hk5 P _ hP3)) (AllBare.movedS (I1.bare.push hgb) hmv)
        rw [sh_eta s1 s' hmv.os] at J
        exact ⟨upd H1 P (.tbl (ps ++ more)), ⟨⟨ps ++ more, upd_same, by rw [← em]; exact ht3⟩, fun b hb => upd_ne hb⟩, J⟩
  refine ⟨lim2, ?_⟩
  cases hf : codeAmong gpos ps.toList with
  | none =>
    refine wpAny_genexprCodeX hcode (cd.code hP2 ht) (cd.tab hP2) hf fun c' h' tk hx3 hge hlt hco' _ htab' _ => ?_
    obtain ⟨o1, vs, f1, tf, fl, tg, inF, tx, tt, op, _, _, _, _, _, _, _, _, _, htr, _⟩ := hco'
    exact cont _ h' tk _ hx3 (Nat.le_trans hge (Nat.le_of_lt hlt)) htab'.2 ⟨_, rfl⟩ htr
  | some cv =>
    refine wpAny_genexprCode_hit hcode (cd.code hP2 ht) hf ?_
    exact cont cv (hv.push io) s1.toks ps (Heap.ExtBut.refl _ _) (Nat.le_refl _) hP2 ⟨#[], by simp⟩ ht
def tAllV (P : Addr) (pb : Int → Bool) (te : TE) : TE := fun σ H Q => te σ H fun v H1 => ∃ (d : Addr) (kvs : List (List Key × V)), v = .ref d ∧ H1 d = some (.dT kvs) ∧ IntVals kvs ∧ TabG H1 P ∧ ∀ H2, Tabbed P H1 H2 → Q (.bl (kvs.all fun p => vP pb p.2)) H2
theorem pe_allV {c P : Addr} {elt e : Expr} {x : Str} {px p pos gpos apos cpos : Pos} {scope : Scope} {pb : Int → Bool} {te : TE} {k : Nat}
    (hr : Room k X.A) (hg : Gl X "all") (hm : X.mg "all" = none) (TB : TabB X.base X.mg c P) (hcode : X.env.code = .ref c) (S : GenS X.env scope x) (hi : PE X e te) (hel : EltI X.prog X.w scope x elt pb)
    (hbase : attributeBase e "values" X.env (eval e X.env) = eval e X.env := by rfl) (hline : (apos.endLine == cpos.line) = true := by rfl)
    (hs : ∀ v, genFold (.Call (.Attribute e "values" apos) [] [] cpos) X.env v = pure v := by intro _; rfl)
    (he : starEach [.GeneratorExp elt [⟨.Name x px, .Call (.Attribute e "values" apos) [] [] cpos, [], 0⟩] scope gpos] X.env = (false, eval (.GeneratorExp elt [⟨.Name x px, .Call (.Attribute e "values" apos) [] [] cpos, [], 0⟩] scope gpos) X.env) :: starEach [] X.env := by rfl) :
    PE X (.Call (.Name "all" p) [.GeneratorExp elt [⟨.Name x px, .Call (.Attribute e "values" apos) [] [] cpos, [], 0⟩] scope gpos] [] pos) (tAllV P pb te) := by
  refine ⟨fun pins s σ H Q I h => ?_⟩
  refine wpAny_Call_Name_kw (ld_blt I hg hm boot_all ?_)
  refine PyProof.Rows.callWith_builtin1 ?_ he (by rfl)
  rw [he]
  show wpAny _ _ (spliced ((false, eval (.GeneratorExp elt [⟨.Name x px, .Call (.Attribute e "values" apos) [] [] cpos, [], 0⟩] scope gpos) X.env) :: backTo pos (starEach [] X.env))) _ _ s
  refine Calls.spliced_cons (gen_vals (R := fun kvs H1 => ∀ H2, Tabbed P H1 H2 → Q (.bl (kvs.all fun p => vP pb p.2)) H2) hr TB hcode S hi hel hbase hline hs I h fun kvs H1 es g s5 hR hal hG => ?_)
  obtain ⟨fp, wr, G, F, St, W, hst, htr, hI⟩ := hG
  refine Calls.spliced_nil ?_
  refine call_all_walkS (W.self 0 _ _ _ hst ⟨g, fp, wr, G, _, F, St, _, rfl, W, hst, htr, fun s' hmv => ?_⟩)
  obtain ⟨H2, hT, J⟩ := hI s' hmv
  refine ⟨.bl _, H2, J, rfl, ?_⟩
  rw [all_trE pb es, hal]
  exact hR H2 hT
end
end KH
set_option Elab.async false
set_option linter.all false
set_option maxRecDepth 100000
set_option maxHeartbeats 4000000
namespace KH
open PySem PySem.Spec PyProof.Rows PySem.Calls L2 KB GxR
def TabbedS (P : Addr) (q : Str) (H H' : Hp) : Prop := LamX.TabS H' P q ∧ ∀ b o, b ≠ P → H b = some o → H' b = some o
theorem ltN {a n s h : Nat} (h1 : n ≤ a) (h2 : n = s + 2) (h3 : h = s + 1) (z : a = h) : False := by omega
section
variable {X : Cx} {pins : List (Addr × Obj)} {σ : L2.St} {H : Hp} {s : Shared}
def ReadyS (X : Cx) (pins : List (Addr × Obj)) (σ : L2.St) (H1 : Hp) (P : Addr) (q : Str) (es : Array DictEntry) (pb : Int → Bool) (g : Addr) (s5 : Shared) : Prop :=
  ∃ (fp wr : List Addr) (G : Array GenState → Array GenState → Prop) (F : Nat → Value → Prop) (St : Nat → Shared → Prop),
    WalksS X.prog X.w X.A.in1 g fp wr G es.size F St ∧ St 0 s5 ∧ TruthOf X.prog X.w X.A.in1 F (trE pb es) ∧ ∀ s', Moved wr G s5 s' → ∃ H2, TabbedS P q H1 H2 ∧ Inv X pins σ H2 s'
theorem gen_valsS {c P : Addr} {q : Str} {elt e : Expr} {x : Str} {px gpos apos cpos : Pos} {scope : Scope} {pb : Int → Bool} {te : TE} {k : Nat} {Q' : Value → Shared → Prop} {R : List (List Key × V) → Hp → Prop}
    (hq : X.env.qual ++ Str.ofString "<genexpr>" = q) (hr : Room k X.A) (TB : TabB X.base X.mg c P) (hcode : X.env.code = .ref c) (S : GenS X.env scope x) (hi : PE X e te) (hel : EltI X.prog X.w scope x elt pb)
    (hbase : attributeBase e "values" X.env (eval e X.env) = eval e X.env) (hline : (apos.endLine == cpos.line) = true)
    (hs : ∀ v, genFold (.Call (.Attribute e "values" apos) [] [] cpos) X.env v = pure v) (I : Inv X pins σ H s) (h : te σ H fun v H1 => ∃ (d : Addr) (kvs : List (List Key × V)), v = .ref d ∧ H1 d = some (.dT kvs) ∧ IntVals kvs ∧ LamX.TabS H1 P q ∧ R kvs H1)
    (hQ : ∀ kvs H1 es g s5, R kvs H1 → (es.toList.all fun e => intP pb e.val) = (kvs.all fun p => vP pb p.2) → ReadyS X pins σ H1 P q es pb g s5 → Q' (.ref g) s5) :
    wpAny (model X.prog X.w) X.A (eval (.GeneratorExp elt [⟨.Name x px, .Call (.Attribute e "values" apos) [] [] cpos, [], 0⟩] scope gpos) X.env) Q' X.xe s := by
  refine wpAny_GeneratorExp_walksQ hr.hd S.co (closure_ok S.free) S.cell S.dot S.loc S.kind (by have := hr.dp; omega) ?_ hs
  refine wpAny_Call_method (T := "dict") (id := "dict.values") hbase rfl hline F.plainAttrs_dict F.slot_dict_values F.type_dict_values (thn (hi.run pins s σ H _ I h) fun u s1 ⟨v, H1, I1, r1, d, kvs, ev, hd, hiv, ⟨ps, hP, ht, ha⟩, q1⟩ => ?_)
  subst ev
  obtain rfl : u = Value.ref d := r1
  obtain ⟨z, hm0, xs, rel, o, es, ep, ho, hx, hdat, hes, his, hn⟩ := dt_of I1.hok hd
  have raw : s1.heap.DictRaw d es ep := ⟨o, ho, hx, hdat⟩
  refine ⟨raw.typeIs, fun a e => by cases e; exact ⟨o, ho, hx.2.1⟩, ?_⟩
  show wpAny _ _ (callWith cpos (.builtin "dict.values") [.ref d] [] []) _ X.xe s1
  refine method_meetsIn F.slot_dict_values F.entry_dict_values rfl (PySem.evalArgs_none ⟨rfl, raw.typeIs, F.args_dict_values_1 _, _, meets_dict_values_raw d hm0, ⟨es, ep, raw⟩, ?_⟩)
  refine wpAny_pyIter_values_raw ⟨_, Heap.get?_push_size _ rfl, rfl, rfl⟩ (raw.at fun o e => Heap.get?_push_of_some _ e) ?_
  generalize hva : s1.heap.push { cls := .type "dict_values", data := .fields #[.ref d] } = hv
  have kv : ∀ b u, s1.heap.get? b = some u → hv.get? b = some u := fun b u e => by rw [← hva]; exact Heap.get?_push_of_some _ e
  have zv : hv.objs.size = s1.heap.objs.size + 1 := by rw [← hva, Heap.size_push]
  show _ ∧ _
  generalize hio : ({ cls := .type "dict_valueiterator", data := .fields #[.ref d, .int 0 0, .int es.size 0, .int ep 0] } : Obj) = io
  have k2 : ∀ b u, s1.heap.get? b = some u → (hv.push io).get? b = some u := fun b u e => Heap.get?_push_of_some _ (kv b u e)
  have hPs : s1.heap.get? P = some { cls := .none, data := .fields ps } := I1.hok P _ hP
  have hPlt : P < s1.heap.objs.size := Heap.lt_size hPs
  have hdlt : d < s1.heap.objs.size := Heap.lt_size ho
  have hP2 : (hv.push io).get? P = some { cls := .none, data := .fields ps } := k2 _ _ hPs
  have cd : PySem.W.CodeHd (hv.push io) c P := TB.code.keeps fun b u e => k2 b u (I1.bk b u e)
  have lim2 : (hv.push io).NoLimit := I1.nolimit.keeps k2
  have hst : (hv.push io).IsValIter hv.objs.size d 0 es.size ep ∧ (hv.push io).DictRaw d es ep := ⟨⟨_, Heap.get?_push_size _ (by rw [← hio]; rfl), by rw [← hio], by rw [← hio]; rfl⟩, raw.at fun o e => k2 _ _ e⟩
  have W : ∀ A' : Around, A'.handled = none → Walks X.prog X.w A' hv.objs.size [hv.objs.size, d] [hv.objs.size] es.size (fun i v => ∃ hi : i < es.size, v = es[i].val) (fun i h => h.IsValIter hv.objs.size d i es.size ep ∧ h.DictRaw d es ep) :=
    fun A' hA => Walks.rawValues hA _ d (by rw [zv]; exact Nat.ne_of_lt (Nat.lt_succ_of_lt hdlt)) es ep
  have vints : ∀ (i : Nat) (hi : i < es.size), ∃ n t, es[i].val = Value.int n t := fun i hi => by
    have hi' : i < xs.length := by rw [← size_of_entries hes]; exact hi
    have e1 := entry_at hes i
    rw [Array.getElem?_eq_getElem hi, List.getElem?_eq_getElem hi'] at e1
    have e2 := Option.some.inj e1
    obtain ⟨n, t, e3⟩ := kt_int rel hiv xs[i] (List.getElem_mem hi')
    exact ⟨n, t, by rw [e2]; exact e3⟩
  have hall : (es.toList.all fun e => intP pb e.val) = kvs.all fun p => vP pb p.2 := by
    rw [hes, List.all_map, ← all_kt pb rel]
    rfl
  have cont : ∀ (code : Value) (h3 : Heap) (tk : Nat) (ps' : Array Value), Heap.ExtBut P (hv.push io) h3 → (hv.push io).objs.size ≤ h3.objs.size → h3.get? P = some { cls := .none, data := .fields ps' } → (∃ more, ps' = ps ++ more) → TriplesOk ps'.toList → ∀ co : Option Addr, (∀ pos' cv, codeAmong pos' ps'.toList = some cv → codeAmong pos' ps.toList = some cv ∨ ∃ c', co = some c' ∧ cv = .ref c') → (∀ c', co = some c' → (hv.push io).objs.size ≤ c' ∧ c' < h3.objs.size ∧ h3.CodeRec (.ref c') q) →
      wpAny (model X.prog X.w) X.A (builtinsFor X.env.globals X.env.builtins) (fun bi s₄ =>
        ∃ Ia fp wr n₀ Pf St₀ pz F, Value.ref hv.objs.size = .ref Ia ∧ (∀ A' : Around, A'.handled = none → Walks X.prog X.w A' Ia fp wr n₀ Pf St₀) ∧ St₀ 0 s₄.heap ∧ (∀ b ∈ fp, b < s₄.heap.objs.size) ∧ s₄.heap.NoLimit ∧ cStatics ∉ wr ∧
          (∀ href : Heap, (∀ b o, s₄.heap.get? b = some o → href.get? b = some o) →
            QuietGen X.prog X.w (genEnv scope (cloFrom X.env.cells scope.names []) s₄.heap.objs.size code bi X.env) x [] elt (List.range s₄.heap.objs.size) wr Pf pz F href) ∧
          (∀ a h₅ tk gs, gs.bare = true → s₄.heap.objs.size < a → h₅.objs.size = a + 1 → (∀ b o, s₄.heap.get? b = some o → h₅.get? b = some o) →
            WalksS X.prog X.w X.A.in4 a (a :: s₄.heap.objs.size :: List.range s₄.heap.objs.size) (s₄.heap.objs.size :: wr) (GenOnlyQ s₄.gens.size) (passing pz n₀ 0).length
              (fun j y => ∃ i, (passing pz n₀ 0)[j]? = some i ∧ F i y) (GenAt X.prog X.w X.A.in4 a s₄.gens.size s₄.heap.objs.size (List.range s₄.heap.objs.size) wr pz n₀ F) →
            GenAt X.prog X.w X.A.in4 a s₄.gens.size s₄.heap.objs.size (List.range s₄.heap.objs.size) wr pz n₀ F 0 { s₄ with gens := s₄.gens.push gs, toks := tk, heap := h₅ } →
            Q' (.ref a) { s₄ with gens := s₄.gens.push gs, toks := tk, heap := h₅ })) X.xe { s1 with heap := h3, toks := tk } := by
    intro code h3 tk ps' hx3 hsz hP3 hmore ht3 co hnew hco
    obtain ⟨bm, ob, e1, e2, e3, e4, e5, e6, e7, e8⟩ := TB.bm
    have hcP : cStatics ≠ P := fun e => by
      obtain ⟨_, hns, _⟩ := I1.nolimit
      obtain ⟨o', es', ep', ho', hd', _⟩ := hns
      rw [e, hPs] at ho'
      cases ho'
      cases hd'
    have hcl : cStatics < s1.heap.objs.size := let ⟨_, hns, _⟩ := I1.nolimit; hns.lt
    have sz2 : (hv.push io).objs.size = s1.heap.objs.size + 2 := by rw [Heap.size_push, zv]
    have keep3 : ∀ b u, b ≠ P → s1.heap.get? b = some u → h3.get? b = some u := fun b u hb e => hx3 b u hb (k2 b u e)
    refine wpAny_builtinsFor (m := X.mg) (by rw [I1.ok.glob]; exact (((I1.mod.glob.keeps I1.bk).keeps k2)).extBut hx3 TB.gP) e1 e2 (keep3 _ _ e4 (I1.bk _ _ e5)) e6 e7 e8 ?_
    refine ⟨hv.objs.size, [hv.objs.size, d], [hv.objs.size], es.size, _, _, (fun _ => true), (fun i y => ∃ hi : i < es.size, y = .bool (intP pb es[i].val)), rfl, W, ?_, ?_, lim2.extBut hx3 hcP, ?_, ?_, ?_⟩
    · refine (W X.A hr.hd).frame _ _ _ hst fun b hb u e => hx3 b u (fun z => ?_) e
      rcases List.mem_cons.mp hb with z2 | z2
      · exact (nat1 hPlt zv (z.symm.trans z2)).elim
      · rcases List.mem_cons.mp z2 with z2 | z2
        · rw [z.symm.trans z2, ho] at hPs
          cases hPs
          cases hdat
        · cases z2
    · intro b hb
      rcases List.mem_cons.mp hb with z | z
      · rw [z]
        show hv.objs.size < h3.objs.size
        omega
      · rcases List.mem_cons.mp z with z | z
        · rw [z]
          exact Nat.lt_of_lt_of_le hdlt (show s1.heap.objs.size ≤ h3.objs.size by omega)
        · cases z
    · intro z
      rcases List.mem_cons.mp z with z | z
      · exact (nat1 hcl zv z).elim
      · cases z
    · intro href hhref
      refine ⟨fun A' E' i v s₂ m₂ hA hPv hn hm hk => ?_, fun A' E' i v s₂ m₂ hA hPv hp hn hm hk => ?_⟩
      · simp only [List.forIn_nil]
        exact wpAny_pure ⟨rfl, keeps_refl _⟩
      · obtain ⟨hi', rfl⟩ := hPv
        obtain ⟨n, t, e⟩ := vints i hi'
        rw [e] at hm
        exact wpAny_mono (hel _ A' E' n t s₂ m₂ rfl hn hm) (fun y s3 r => ⟨⟨hi', by rw [r.1, e]; rfl⟩, r.2⟩) fun _ _ e => e
    · intro g h5 tk5 gs hgb hag hsz5 hk5 W5 hat
      simp only [GxR.passing_true, List.length_range] at W5
      refine hQ kvs H1 es g _ q1 hall ⟨_, _, _, _, _, W5.in4_1, hat, ?_, fun s' hmv => ?_⟩
      · intro j y sj Qj Ej hy hQj
        obtain ⟨i, hij, hi', rfl⟩ := hy
        obtain ⟨hj, ej⟩ := List.getElem?_eq_some_iff.mp hij
        rw [List.getElem_range] at ej
        subst ej
        have hQ2 : Qj (trE pb es j) sj := hQj
        unfold trE at hQ2
        rw [Array.getElem?_eq_getElem hi'] at hQ2
        exact wpAny_truthy_bool hQ2
      · obtain ⟨more, em⟩ := hmore
        have nwr : ∀ b u, s1.heap.get? b = some u → b ∉ h3.objs.size :: [hv.objs.size] := fun b u e hb => by
          have hl := Heap.lt_size e
          rcases List.mem_cons.mp hb with z | z
          · exact (nat2 hl (by omega) z).elim
          · rcases List.mem_cons.mp z with z | z
            · exact (nat1 hl zv z).elim
            · cases z
        have J := inv_tab (more := more) (h' := s'.heap) (g' := s'.gens) (d' := s'.drawn) (t' := s'.toks) I1 hP (fun b u hb e => hmv.heap b u (nwr b u e) (hk5 b u (keep3 b u hb e)))
          (by rw [← em]; exact hmv.heap P _ (nwr P _ hPs) (hk5 P _ hP3)) (AllBare.movedS (I1.bare.push hgb) hmv)
        rw [sh_eta s1 s' hmv.os] at J
        cases co with
        | none =>
          refine ⟨upd H1 P (.tbl (ps ++ more)), ⟨⟨ps ++ more, upd_same, by rw [← em]; exact ht3, fun pos' cv hcv => ?_⟩, fun b o hb e => by rw [upd_ne hb]; exact e⟩, J⟩
          rw [← em] at hcv
          rcases hnew pos' cv hcv with z | ⟨c', z, _⟩
          · obtain ⟨c0, e1, e2⟩ := ha pos' cv z
            exact ⟨c0, e1, by rw [upd_ne (fun z => by rw [z, hP] at e2; cases e2)]; exact e2⟩
          · cases z
        | some c' =>
          obtain ⟨hge, hlt, cr⟩ := hco c' rfl
          obtain ⟨c2, oc, vs, t, e2, hoc, hd2, hv2⟩ := id cr
          cases e2
          have hge1 : s1.heap.objs.size ≤ c' := by omega
          have nC : H1 c' = none := I1.hok.fresh hge1
          have nPc : P ≠ c' := ne_of_none hP nC
          have nw : c' ∉ h3.objs.size :: [hv.objs.size] := fun z => by
            rcases List.mem_cons.mp z with z | z
            · exact Nat.lt_irrefl _ (z ▸ hlt)
            · rcases List.mem_cons.mp z with z | z
              · exact ltN hge sz2 zv z
              · cases z
          have ho' : s'.heap.get? c' = some oc := hmv.heap c' _ nw (hk5 c' _ hoc)
          have nC2 : upd H1 P (.tbl (ps ++ more)) c' = none := by rw [upd_ne nPc.symm]; exact nC
          have J2 : Inv X pins σ (upd (upd H1 P (.tbl (ps ++ more))) c' (LamX.CodeO c' q)) s' := J.take (h' := s'.heap) (t' := s'.toks) (fun b ob _ e => e) (I1.fpOk hge1 nC2)
            (show ObjOk X.prog X.w _ s'.heap c' (LamX.CodeO c' q) from ⟨⟨oc, vs, t, ho', hd2, hv2⟩, ⟨_, ho'⟩, fun h1 h2 ⟨o1, v1, t1, z1, z2, z3⟩ k => ⟨o1, v1, t1, k _ z1, z2, z3⟩⟩)
          refine ⟨_, ⟨⟨ps ++ more, by rw [upd_ne nPc, upd_same], by rw [← em]; exact ht3, fun pos' cv hcv => ?_⟩, fun b o hb e => by rw [upd_ne (ne_of_none e nC), upd_ne hb]; exact e⟩, J2⟩
          rw [← em] at hcv
          rcases hnew pos' cv hcv with z | ⟨c3, z, e3⟩
          · obtain ⟨c0, e1, e2⟩ := ha pos' cv z
            exact ⟨c0, e1, by rw [upd_ne (ne_of_none e2 nC), upd_ne (fun z => by rw [z, hP] at e2; cases e2)]; exact e2⟩
          · cases z
            exact ⟨c', e3, upd_same⟩
  refine ⟨lim2, ?_⟩
  cases hf : codeAmong gpos ps.toList with
  | none =>
    refine wpAny_genexprCodeX hcode (cd.code hP2 ht) (cd.tab hP2) hf fun c' h' tk hx3 hge hlt hco' hrec' htab' _ => ?_
    obtain ⟨o1, vs, f1, tf, fl, tg, inF, tx, tt, op, _, _, _, _, _, _, _, _, _, htr, _⟩ := hco'
    have eL : (ps ++ #[rawInt gpos.line, rawInt gpos.col, .ref c']).toList = ps.toList ++ [rawInt gpos.line, rawInt gpos.col, .ref c'] := by simp
    refine cont _ h' tk _ hx3 (Nat.le_trans hge (Nat.le_of_lt hlt)) htab'.2 ⟨_, rfl⟩ htr (some c') (fun pos' cv hcv => ?_) (fun c3 e => ?_)
    · rw [eL] at hcv
      rcases LamX.among_app _ ht hcv with z | z
      · exact .inl z
      · exact .inr ⟨c', rfl, z⟩
    · cases e
      exact ⟨hge, hlt, hq ▸ hrec'⟩
  | some cv =>
    refine wpAny_genexprCode_hit hcode (cd.code hP2 ht) hf ?_
    exact cont cv (hv.push io) s1.toks ps (Heap.ExtBut.refl _ _) (Nat.le_refl _) hP2 ⟨#[], by simp⟩ ht none (fun _ _ z => .inl z) (fun _ e => nomatch e)
def tAllS (P : Addr) (q : Str) (pb : Int → Bool) (te : TE) : TE := fun σ H Q => te σ H fun v H1 => ∃ (d : Addr) (kvs : List (List Key × V)), v = .ref d ∧ H1 d = some (.dT kvs) ∧ IntVals kvs ∧ LamX.TabS H1 P q ∧ ∀ H2, TabbedS P q H1 H2 → Q (.bl (kvs.all fun p => vP pb p.2)) H2
theorem pe_allS {c P : Addr} {elt e : Expr} {x : Str} {px p pos gpos apos cpos : Pos} {scope : Scope} {pb : Int → Bool} {te : TE} {k : Nat}
    (hq : X.env.qual ++ Str.ofString "<genexpr>" = q) (hr : Room k X.A) (hg : Gl X "all") (hm : X.mg "all" = none) (TB : TabB X.base X.mg c P) (hcode : X.env.code = .ref c) (S : GenS X.env scope x) (hi : PE X e te) (hel : EltI X.prog X.w scope x elt pb)
    (hbase : attributeBase e "values" X.env (eval e X.env) = eval e X.env := by rfl) (hline : (apos.endLine == cpos.line) = true := by rfl)
    (hs : ∀ v, genFold (.Call (.Attribute e "values" apos) [] [] cpos) X.env v = pure v := by intro _; rfl)
    (he : starEach [.GeneratorExp elt [⟨.Name x px, .Call (.Attribute e "values" apos) [] [] cpos, [], 0⟩] scope gpos] X.env = (false, eval (.GeneratorExp elt [⟨.Name x px, .Call (.Attribute e "values" apos) [] [] cpos, [], 0⟩] scope gpos) X.env) :: starEach [] X.env := by rfl) :
    PE X (.Call (.Name "all" p) [.GeneratorExp elt [⟨.Name x px, .Call (.Attribute e "values" apos) [] [] cpos, [], 0⟩] scope gpos] [] pos) (tAllS P q pb te) := by
  refine ⟨fun pins s σ H Q I h => ?_⟩
  refine wpAny_Call_Name_kw (ld_blt I hg hm boot_all ?_)
  refine PyProof.Rows.callWith_builtin1 ?_ he (by rfl)
  rw [he]
  show wpAny _ _ (spliced ((false, eval (.GeneratorExp elt [⟨.Name x px, .Call (.Attribute e "values" apos) [] [] cpos, [], 0⟩] scope gpos) X.env) :: backTo pos (starEach [] X.env))) _ _ s
  refine Calls.spliced_cons (gen_valsS (R := fun kvs H1 => ∀ H2, TabbedS P q H1 H2 → Q (.bl (kvs.all fun p => vP pb p.2)) H2) hq hr TB hcode S hi hel hbase hline hs I h fun kvs H1 es g s5 hR hal hG => ?_)
  obtain ⟨fp, wr, G, F, St, W, hst, htr, hI⟩ := hG
  refine Calls.spliced_nil ?_
  refine call_all_walkS (W.self 0 _ _ _ hst ⟨g, fp, wr, G, _, F, St, _, rfl, W, hst, htr, fun s' hmv => ?_⟩)
  obtain ⟨H2, hT, J⟩ := hI s' hmv
  refine ⟨.bl _, H2, J, rfl, ?_⟩
  rw [all_trE pb es, hal]
  exact hR H2 hT
end
end KH
set_option Elab.async false
set_option linter.all false
set_option maxRecDepth 100000
set_option maxHeartbeats 4000000
namespace GS
open PySem PySem.Spec PyProof.Rows PySem.Calls L2 KB GxR KH
def ReadyG (X : Cx) (pins : List (Addr × Obj)) (σ : L2.St) (H1 : Hp) (P : Addr) (q : Str) (n : Nat) (tr : Nat → Bool) (g : Addr) (s5 : Shared) : Prop :=
  ∃ (fp wr : List Addr) (G : Array GenState → Array GenState → Prop) (F : Nat → Value → Prop) (St : Nat → Shared → Prop),
    WalksS X.prog X.w X.A.in1 g fp wr G n F St ∧ St 0 s5 ∧ TruthOf X.prog X.w X.A.in1 F tr ∧ ∀ s', Moved wr G s5 s' → ∃ H2, TabbedS P q H1 H2 ∧ Inv X pins σ H2 s'
def EltG (prog : Program) (w : World) (mg : Str → Option Value) (scope : Scope) (x : Str) (elt : Expr) (Pv : Nat → Value → Prop) (tr : Nat → Bool) : Prop :=
  ∀ (cenv : PySem.Env) (A' : Around) (E' : Value → Shared → Prop) (i : Nat) (v : Value) (s₂ : Shared) (m₂ : Str → Option Value), cenv.scope = scope → cenv.globals = mainGlobals → A'.handled = none → s₂.heap.Ns mainGlobals mg → Pv i v → s₂.heap.Ns cenv.locals m₂ → m₂ x = some v →
    wpAny (model prog w) A' (eval elt cenv) (fun y s₃ => y = .bool (tr i) ∧ Keeps s₂ s₃) E' s₂
structure Src (X : Cx) (pins : List (Addr × Obj)) (σ : L2.St) (P : Addr) (q : Str) (x : Str) (elt : Expr) (scope : Scope) (Q' : Value → Shared → Prop) (it : Value) (sb : Shared) (s1 : Shared) (H1 : Hp) (J : Addr) (fp wr : List Addr) (n : Nat) (Pv : Nat → Value → Prop) (St : Nat → Heap → Prop) (tr : Nat → Bool) : Prop where
  it : it = .ref J
  inv : Inv X pins σ H1 s1
  same : sb = { s1 with heap := sb.heap, toks := sb.toks }
  keep : ∀ b u, s1.heap.get? b = some u → sb.heap.get? b = some u
  size : s1.heap.objs.size ≤ sb.heap.objs.size
  walk : ∀ A' : Around, A'.handled = none → Walks X.prog X.w A' J fp wr n Pv St
  st : St 0 sb.heap
  fps : ∀ b ∈ fp, b < sb.heap.objs.size ∧ b ≠ P
  wrs : ∀ b ∈ wr, s1.heap.objs.size ≤ b
  tab : LamX.TabS H1 P q
  elt : EltG X.prog X.w X.mg scope x elt Pv tr
  next : ∀ g s5, ReadyG X pins σ H1 P q n tr g s5 → Q' (.ref g) s5
theorem lt_or {a b c d : Nat} (h1 : a ≤ b) (h2 : b ≤ c) (h3 : d < a) (e : d = c) : False := by omega
section
variable {X : Cx} {pins : List (Addr × Obj)} {σ : L2.St} {s : Shared}
theorem gen_S {c P : Addr} {q : Str} {elt iter : Expr} {x : Str} {px gpos : Pos} {scope : Scope} {k : Nat} {Q' : Value → Shared → Prop} (hq : X.env.qual ++ Str.ofString "<genexpr>" = q) (hr : Room k X.A) (TB : GxR.TabB X.base X.mg c P) (hcode : X.env.code = .ref c) (S : GenS X.env scope x)
    (hs : ∀ v, genFold iter X.env v = pure v)
    (src : wpAny (model X.prog X.w) X.A (eval iter X.env) (fun xv sa => wpAny (model X.prog X.w) X.A (pyIter xv) (fun it sb => ∃ s1 H1 J fp wr n Pv St tr, Src X pins σ P q x elt scope Q' it sb s1 H1 J fp wr n Pv St tr) X.xe sa) X.xe s) :
    wpAny (model X.prog X.w) X.A (eval (.GeneratorExp elt [⟨.Name x px, iter, [], 0⟩] scope gpos) X.env) Q' X.xe s := by
  refine wpAny_GeneratorExp_walksQ hr.hd S.co (closure_ok S.free) S.cell S.dot S.loc S.kind (by have := hr.dp; omega) (wpAny_mono src (fun xv sa h1 => wpAny_mono h1 (fun it sb h2 => ?_) fun _ _ e => e) fun _ _ e => e) hs
  obtain ⟨s1, H1, J, fp, wr, n, Pv, St, tr, Z⟩ := h2
  obtain ⟨ps, hP, ht, ha⟩ := Z.tab
  obtain ⟨hb, gb, db, kb, ob⟩ := sb
  have sm := Z.same
  have I1 := Z.inv
  have hPs : s1.heap.get? P = some { cls := .none, data := .fields ps } := I1.hok P _ hP
  have hPlt : P < s1.heap.objs.size := Heap.lt_size hPs
  have hP2 : hb.get? P = some { cls := .none, data := .fields ps } := Z.keep _ _ hPs
  have cd : PySem.W.CodeHd hb c P := TB.code.keeps fun b u e => Z.keep b u (I1.bk b u e)
  have lim2 : hb.NoLimit := I1.nolimit.keeps Z.keep
  rw [sm]
  refine ⟨lim2, ?_⟩
  have hsz2 : s1.heap.objs.size ≤ hb.objs.size := Z.size
  have cst : cStatics < s1.heap.objs.size := let ⟨_, hns, _⟩ := I1.nolimit; hns.lt
  have goOn : ∀ (code : Value) (h3 : Heap) (tk : Nat) (more : Array Value), Heap.ExtBut P hb h3 → hb.objs.size ≤ h3.objs.size → h3.get? P = some { cls := .none, data := .fields (ps ++ more) } → TriplesOk (ps ++ more).toList →
      ∀ co : Option Addr, (∀ p' cv, codeAmong p' (ps ++ more).toList = some cv → codeAmong p' ps.toList = some cv ∨ ∃ c', co = some c' ∧ cv = .ref c') → (∀ c', co = some c' → hb.objs.size ≤ c' ∧ c' < h3.objs.size ∧ h3.CodeRec (.ref c') q) →
      wpAny (model X.prog X.w) X.A (builtinsFor X.env.globals X.env.builtins) (fun bi s₄ => ∃ I fp wr n₀ P St₀ pz F, it = .ref I ∧ (∀ A' : Around, A'.handled = none → Walks X.prog X.w A' I fp wr n₀ P St₀) ∧ St₀ 0 s₄.heap ∧ (∀ b ∈ fp, b < s₄.heap.objs.size) ∧ s₄.heap.NoLimit ∧ cStatics ∉ wr ∧
          (∀ href : Heap, (∀ b o, s₄.heap.get? b = some o → href.get? b = some o) → QuietGen X.prog X.w (genEnv scope (cloFrom X.env.cells scope.names []) s₄.heap.objs.size code bi X.env) x [] elt (List.range s₄.heap.objs.size) wr P pz F href) ∧
          (∀ a h₅ tk gs, gs.bare = true → s₄.heap.objs.size < a → h₅.objs.size = a + 1 → (∀ b o, s₄.heap.get? b = some o → h₅.get? b = some o) →
            WalksS X.prog X.w X.A.in4 a (a :: s₄.heap.objs.size :: List.range s₄.heap.objs.size) (s₄.heap.objs.size :: wr) (GenOnlyQ s₄.gens.size) (passing pz n₀ 0).length
              (fun j y => ∃ i, (passing pz n₀ 0)[j]? = some i ∧ F i y) (GenAt X.prog X.w X.A.in4 a s₄.gens.size s₄.heap.objs.size (List.range s₄.heap.objs.size) wr pz n₀ F) →
            GenAt X.prog X.w X.A.in4 a s₄.gens.size s₄.heap.objs.size (List.range s₄.heap.objs.size) wr pz n₀ F 0 { s₄ with gens := s₄.gens.push gs, toks := tk, heap := h₅ } →
            Q' (.ref a) { s₄ with gens := s₄.gens.push gs, toks := tk, heap := h₅ })) X.xe { s1 with heap := h3, toks := tk } := by
    intro code h3 tk more hx3 hsz hP3 ht3 co hnew hco
    obtain ⟨bm, bo, e1, e2, e3, e4, e5, e6, e7, e8⟩ := TB.bm
    have hcP : cStatics ≠ P := fun e => by
      obtain ⟨_, hns, _⟩ := I1.nolimit
      obtain ⟨o', es', ep', ho', hd', _⟩ := hns
      rw [e, hPs] at ho'
      cases ho'
      cases hd'
    have keep3 : ∀ b u, b ≠ P → s1.heap.get? b = some u → h3.get? b = some u := fun b u n e => hx3 b u n (Z.keep b u e)
    have nsG : h3.Ns mainGlobals X.mg := ((I1.mod.glob.keeps I1.bk).keeps Z.keep).extBut hx3 TB.gP
    have glt : mainGlobals < s1.heap.objs.size := (I1.mod.glob.keeps I1.bk).lt
    refine wpAny_builtinsFor (m := X.mg) (by rw [I1.ok.glob]; exact (((I1.mod.glob.keeps I1.bk).keeps Z.keep)).extBut hx3 TB.gP) e1 e2 (keep3 _ _ e4 (I1.bk _ _ e5)) e6 e7 e8 ?_
    refine ⟨J, fp, wr, n, Pv, St, (fun _ => true), (fun i y => y = .bool (tr i)), Z.it, Z.walk, (Z.walk X.A hr.hd).frame _ _ _ Z.st fun b hbf u e => hx3 b u (Z.fps b hbf).2 e, fun b hbf => Nat.lt_of_lt_of_le (Z.fps b hbf).1 hsz, lim2.extBut hx3 hcP, fun z => Nat.lt_irrefl _ (Nat.lt_of_lt_of_le cst (Z.wrs _ z)), fun href hhr => ⟨fun A' E' i v s₂ m₂ _ _ _ _ _ => ?_, fun A' E' i v s₂ m₂ hA hPv _ hn hm hk => Z.elt _ A' E' i v s₂ m₂ rfl I1.ok.glob hA (nsG.at fun o e => hk _ (List.mem_range.mpr (Heap.lt_size e)) (fun z => Nat.lt_irrefl _ (Nat.lt_of_lt_of_le glt (Z.wrs _ z))) _ (hhr _ _ e)) hPv hn hm⟩, ?_⟩
    · simp only [List.forIn_nil]
      exact wpAny_pure ⟨rfl, keeps_refl _⟩
    · intro g h5 tk5 gs hgb hag hsz5 hk5 W5 hat
      simp only [GxR.passing_true, List.length_range] at W5
      refine Z.next g _ ⟨_, _, _, _, _, W5.in4_1, hat, fun j y sj Qj Ej hy hQj => ?_, fun s' hmv => ?_⟩
      · obtain ⟨i, hij, hF⟩ := hy
        obtain ⟨hj, ej⟩ := List.getElem?_eq_some_iff.mp hij
        rw [List.getElem_range] at ej
        have hF' : y = .bool (tr i) := hF
        rw [hF', ← ej]
        exact wpAny_truthy_bool hQj
      · have apart : ∀ b u, s1.heap.get? b = some u → b ∉ h3.objs.size :: wr := fun b u e z => by
          have hl := Heap.lt_size e
          rcases List.mem_cons.mp z with z | z
          · exact lt_or hsz2 hsz hl z
          · exact Nat.lt_irrefl _ (Nat.lt_of_lt_of_le hl (Z.wrs _ z))
        have JJ := inv_tab (more := more) (h' := s'.heap) (g' := s'.gens) (d' := s'.drawn) (t' := s'.toks) I1 hP (fun b u n e => hmv.heap b u (apart b u e) (hk5 b u (keep3 b u n e)))
          (hmv.heap P _ (apart P _ hPs) (hk5 P _ hP3)) (AllBare.movedS (I1.bare.push hgb) hmv)
        rw [sh_eta s1 s' hmv.os] at JJ
        cases co with
        | none =>
          refine ⟨_, ⟨⟨ps ++ more, upd_same, ht3, fun p' cv hcv => ?_⟩, fun b o n e => by rw [upd_ne n]; exact e⟩, JJ⟩
          rcases hnew p' cv hcv with z | ⟨c', z, _⟩
          · obtain ⟨c0, y1, y2⟩ := ha p' cv z
            exact ⟨c0, y1, by rw [upd_ne (fun z => by rw [z, hP] at y2; cases y2)]; exact y2⟩
          · cases z
        | some c' =>
          obtain ⟨hge, hlt, cr⟩ := hco c' rfl
          obtain ⟨c2, oc, vs, t, y0, hoc, hd2, hv2⟩ := id cr
          cases y0
          have nC : H1 c' = none := I1.hok.fresh (Nat.le_trans hsz2 hge)
          have nPc : P ≠ c' := ne_of_none hP nC
          have nw : c' ∉ h3.objs.size :: wr := fun z => by
            rcases List.mem_cons.mp z with z | z
            · exact Nat.lt_irrefl _ (z ▸ hlt)
            · exact Nat.lt_irrefl _ (Nat.lt_of_lt_of_le (Z.fps c' ((Z.walk X.A hr.hd).sub c' z)).1 hge)
          have ho' : s'.heap.get? c' = some oc := hmv.heap c' _ nw (hk5 c' _ hoc)
          have nC2 : upd H1 P (.tbl (ps ++ more)) c' = none := by rw [upd_ne nPc.symm]; exact nC
          have J2 := JJ.take (h' := s'.heap) (t' := s'.toks) (o := LamX.CodeO c' q) (fun b ob _ e => e) (I1.fpOk (Nat.le_trans hsz2 hge) nC2)
            (show ObjOk X.prog X.w _ s'.heap c' (LamX.CodeO c' q) from ⟨⟨oc, vs, t, ho', hd2, hv2⟩, ⟨_, ho'⟩, fun k1 k2 ⟨o1, v1, t1, z1, z2, z3⟩ kk => ⟨o1, v1, t1, kk _ z1, z2, z3⟩⟩)
          refine ⟨_, ⟨⟨ps ++ more, by rw [upd_ne nPc, upd_same], ht3, fun p' cv hcv => ?_⟩, fun b o n e => by rw [upd_ne (ne_of_none e nC), upd_ne n]; exact e⟩, J2⟩
          rcases hnew p' cv hcv with z | ⟨c3, z, e3'⟩
          · obtain ⟨c0, y1, y2⟩ := ha p' cv z
            exact ⟨c0, y1, by rw [upd_ne (ne_of_none y2 nC), upd_ne (fun z => by rw [z, hP] at y2; cases y2)]; exact y2⟩
          · cases z
            exact ⟨c', e3', upd_same⟩
  cases hf : codeAmong gpos ps.toList with
  | none =>
    refine wpAny_genexprCodeX hcode (cd.code hP2 ht) (cd.tab hP2) hf fun c' h' tk hx3 hge hlt hco' hrec' htab' _ => ?_
    obtain ⟨o1, vs, f1, tf, fl, tg, inF, tx, tt, op, _, _, _, _, _, _, _, _, _, htr, _⟩ := hco'
    refine goOn _ h' tk _ hx3 (Nat.le_trans hge (Nat.le_of_lt hlt)) htab'.2 htr (some c') (fun p' cv hcv => ?_) fun c3 e => by cases e; exact ⟨hge, hlt, hq ▸ hrec'⟩
    have eL : (ps ++ #[rawInt gpos.line, rawInt gpos.col, .ref c']).toList = ps.toList ++ [rawInt gpos.line, rawInt gpos.col, .ref c'] := by simp
    rw [eL] at hcv
    exact (LamX.among_app _ ht hcv).elim .inl fun z => .inr ⟨c', rfl, z⟩
  | some cv =>
    refine wpAny_genexprCode_hit hcode (cd.code hP2 ht) hf ?_
    have e0 : ps ++ #[] = ps := by simp
    exact goOn cv hb kb #[] (Heap.ExtBut.refl _ _) (Nat.le_refl _) (by rw [e0]; exact hP2) (by rw [e0]; exact ht) none (fun p' v z => by rw [e0] at z; exact .inl z) (fun _ e => nomatch e)
end
end GS
set_option Elab.async false
set_option linter.all false
set_option maxRecDepth 100000
set_option maxHeartbeats 4000000
namespace GS
open PySem PySem.Spec PyProof.Rows PySem.Calls L2 KB GxR KH
theorem elt_notInG {prog : Program} {w : World} {mg : Str → Option Value} {scope : Scope} {x g : Str} {a wd : Str} {tk : Tok} {p1 p2 p3 : Pos} (hk : scope.kind = .function) (hl : scope.names.lookup x = some .local) (hg : scope.names.lookup g = some .globalImplicit) (hm : mg g = some (.str wd tk)) (hd : (x == ("__debug__" : Str)) = false := by decide) (hd2 : (g == ("__debug__" : Str)) = false := by decide) :
    EltG prog w mg scope x (.Compare (.Name x p1) [.NotIn] [.Name g p2] p3) (SignAt a) (trF (fun c => !decide (c ∈ wd.cps.toList)) a.cps.toList) := by
  intro cenv A' E' i v s₂ m₂ hs hgl hA nsG hPv hn hmx
  obtain ⟨c, u, hc, rfl⟩ := hPv
  refine wpAny_Compare1 ?_
  refine wpAny_Name (wpAny_loadName_local (by rw [hs]; exact hk) (show cenv.scope.names.lookup x = some .local by rw [hs]; exact hl) hn hmx ?_) hd
  refine Calls.Name_function_global (by rw [hs]; exact hk) (show cenv.scope.names.lookup g = some .globalImplicit by rw [hs]; exact hg) (Calls.loadGlobal_global (by rw [hgl]; exact nsG) hm ?_) hd2
  refine PyProof.Rows.notIn_str ⟨?_, keeps_tok _ _⟩
  rw [trF_some (b := c) (by rw [Array.getElem?_toList]; exact hc)]
  exact congrArg Value.bool (congrArg Bool.not (PySem.StrLaws.found_one wd c))
section
variable {X : Cx}
def tAnyT (P : Addr) (q : Str) (pb : Nat → Bool) (te : TE) : TE := fun σ H Q => te σ H fun v H1 => ∃ a : Str, v = .str a ∧ LamX.TabS H1 P q ∧ ∀ H2, TabbedS P q H1 H2 → Q (.bl (a.cps.toList.any pb)) H2
theorem pe_anyT {c P : Addr} {q : Str} {elt iter : Expr} {x : Str} {px p pos gpos : Pos} {scope : Scope} {pb : Nat → Bool} {te : TE} {k : Nat}
    (hq : X.env.qual ++ Str.ofString "<genexpr>" = q) (hr : Room k X.A) (hg : Gl X "any") (hm : X.mg "any" = none) (TB : TabB X.base X.mg c P) (hcode : X.env.code = .ref c) (S : GenS X.env scope x) (hi : PE X iter te) (hel : ∀ a : Str, EltG X.prog X.w X.mg scope x elt (SignAt a) (trF pb a.cps.toList))
    (hs : ∀ v, genFold iter X.env v = pure v)
    (he : starEach [.GeneratorExp elt [⟨.Name x px, iter, [], 0⟩] scope gpos] X.env = (false, eval (.GeneratorExp elt [⟨.Name x px, iter, [], 0⟩] scope gpos) X.env) :: starEach [] X.env := by rfl) :
    PE X (.Call (.Name "any" p) [.GeneratorExp elt [⟨.Name x px, iter, [], 0⟩] scope gpos] [] pos) (tAnyT P q pb te) := by
  refine ⟨fun pins s σ H Q I h => ?_⟩
  refine wpAny_Call_Name_kw (ld_blt I hg hm boot_any ?_)
  refine PyProof.Rows.callWith_builtin1 ?_ he (by rfl)
  rw [he]
  show wpAny _ _ (spliced ((false, eval (.GeneratorExp elt [⟨.Name x px, iter, [], 0⟩] scope gpos) X.env) :: backTo pos (starEach [] X.env))) _ _ s
  refine Calls.spliced_cons (gen_S (pins := pins) (σ := σ) hq hr TB hcode S hs (thn (hi.run pins s σ H _ I h) fun xv s1 ⟨v, H1, I1, r1, q1⟩ => ?_))
  obtain ⟨a, rfl, tab, q1⟩ := q1
  obtain ⟨t, rfl⟩ := _root_.id r1
  refine wpAny_pyIter_str fun o St W hst => ?_
  have hPlt : P < s1.heap.objs.size := let ⟨_, e, _⟩ := tab; Heap.lt_size (I1.hok P _ e)
  refine ⟨s1, H1, s1.heap.objs.size, [s1.heap.objs.size], [s1.heap.objs.size], a.cps.size, SignAt a, St, trF pb a.cps.toList, rfl, I1, rfl, fun b u e => Heap.get?_push_of_some _ e, Nat.le_of_lt (by rw [Heap.size_push]; exact Nat.lt_succ_self _), W, hst, fun b hb => ?_, fun b hb => ?_, tab, hel a, fun g s5 hG => ?_⟩
  · rw [List.mem_singleton.mp hb]
    exact ⟨by show _ < (s1.heap.push o).objs.size; rw [Heap.size_push]; exact Nat.lt_succ_self _, fun z => Nat.lt_irrefl _ (z ▸ hPlt)⟩
  · rw [List.mem_singleton.mp hb]
    exact Nat.le_refl _
  · obtain ⟨fp, wr, G, F, St, W, hst, htr, hI⟩ := hG
    refine Calls.spliced_nil ?_
    refine call_any_walkS (W.self 0 _ _ _ hst ⟨g, fp, wr, G, _, F, St, _, rfl, W, hst, htr, fun s' hmv => ?_⟩)
    obtain ⟨H2, hT, J⟩ := hI s' hmv
    refine ⟨.bl _, H2, J, rfl, ?_⟩
    rw [any_signs a pb]
    exact q1 H2 hT
end
end GS
set_option Elab.async false
set_option linter.all false
set_option maxRecDepth 100000
set_option maxHeartbeats 4000000
namespace KO1
open PySem PySem.Spec PyProof.Rows L2 KB KC KS KN1 LamX
theorem okC {P : Program} {w : World} {K : PySem.W.Frag} {mg : Str → Option Value} {base : Heap} {x qual : Str} {st : Stmt} {dvs : List V} {f c : Addr} {fd : FuncData} {CX : CXT} {N ps : List Str} {k : Nat} {sp : Sp} (F : FnP K x qual st dvs f fd) (hc : fd.code = .ref c) (S : FnScope N ps (defScope st)) (len : ∀ vs H Q E, sp vs H Q E → vs.length = ps.length)
    (hbody : ∀ (A : Around) (outer : List Env) (s : Shared) (H : Hp) (vs : List V) (Q : VK) (E : XK), Room k (A.deeper (envOfC qual (defScope st) s.heap.objs.size f (.ref c))) → sp vs H Q E →
      ∃ t, PSs (cxOf CX P w K mg base N qual (defScope st) f (.ref c) A outer s H E) (defBody st) t ∧ t { nx := fun _ H' => Q .non H', rt := Q } (start N vs) H) : FnOk P w K mg base CX (k + 1) f fd ps sp := by
  obtain ⟨oc, od, dV, kV, doc, pm, an, cdv, ct, osl, rfl, lk, hcd, hD, hK⟩ := F.ex
  have e : cdv = .ref c := hc
  subst e
  exact fn_of lk hcd S len hbody
def veB : List Value := [.type "ValueError", .type "Exception", .type "BaseException", .type "object"]
structure TxtX (K : PySem.W.Frag) (mg : Str → Option Value) (CR : Addr) : Prop where
  g : mg "RowError" = some (.ref CR)
  x : PySem.W.excIn K CR veB "ValueError.__new__" = true
  k : PySem.W.keepIn K (.ref CR) = true
  b : PySem.W.subIn K (.ref CR) (.type "BaseException") = some true
  t : PySem.W.typeIn K (.ref CR) = some (.type "type")
  e : PySem.W.exmOne K (.ref CR) (.ref CR) = some true
def ltrs : Str := "\n !\"#$&'()*+,-./0123456789:;<=>?@ABCDEFGHIJKLMNOPQRSTUVWXYZ[\\]^_`abcdefghijklmnopqrstuvwxyz{|}~"
structure TxtK (mg : Str → Option Value) : Prop where
  l : ∃ tk, mg "LETTERS" = some (.str ltrs tk)
  bool : mg "bool" = none
  any : mg "any" = none
def badT (a : Str) : Bool := a.cps.toList.any fun c => !decide (c ∈ ltrs.cps.toList)
abbrev qK : Str := "kind_of.<locals>.<genexpr>"
def KindR (CR Ps : Addr) (H : Hp) (Q : VK) (E : XK) : V → Prop
  | .int _ => Q (.str "int") H
  | .bl _ => E (.ref CR) none H
  | .non => E (.ref CR) none H
  | .ref p => (∃ xs, H p = some (.tup xs)) ∧ E (.ref CR) none H
  | .str a => TabS H Ps qK ∧ ∀ H', KH.TabbedS Ps qK H H' → if badT a = true then E (.ref CR) none H' else Q (.str "text") H'
  | _ => False
@[irreducible] def spKind (CR Ps : Addr) : Sp := fun vs H Q E => ∃ v, vs = [v] ∧ KindR CR Ps H Q E v
@[irreducible] def rIsiB (K : PySem.W.Frag) : List V → Hp → VK → Prop := rIsi K
theorem call_isiB {X : Cx} : CallR X (.builtin "isinstance") (rIsiB X.K) := by
  unfold rIsiB
  exact call_isi
theorem isi_ty {K : PySem.W.Frag} {H : Hp} {x : V} {a b : String} {r : Bool} {Q : VK} (ty : TyOf K H x (.type a)) (h : kitB a b = some r) (q : Q (.bl r) H) : rIsiB K [x, .ty b] H Q := by
  unfold rIsiB
  exact ⟨x, .ty b, .type a, .type b, r, rfl, .ty b, .base ty, kit_ty h, q⟩
section
variable {P : Program} {w : World} {K : PySem.W.Frag} {mg : Str → Option Value} {base : Heap} {f cK Ps CR : Addr} {fd : FuncData}
theorem scKind : FnScope ["value"] ["value"] (defScope sKind) := ⟨rfl, rfl, rfl, by decide +kernel, rfl, by decide +kernel, by decide +kernel⟩
theorem ok_kind (F : FnP K "kind_of" "kind_of" sKind [] f fd) (hc : fd.code = .ref cK) (TBs : GxR.TabB base mg cK Ps) (T : TxtL mg) (TK : TxtK mg) (TX : TxtX K mg CR) : FnOk P w K mg base (L2.CX P w) 1 f fd ["value"] (spKind CR Ps) := by
  obtain ⟨tk, hL⟩ := TK.l
  refine okC F hc scKind (fun vs H Q E h => ?_) (fun A outer s H vs Q E hr h => ?_)
  · unfold spKind at h
    obtain ⟨_, rfl, _⟩ := h; rfl
  · unfold spKind at h
    obtain ⟨v, rfl, h⟩ := h
    refine ⟨_, pss_cons (ps_if (pt_val (pe_callB call_isiB (by rfl) T.isi PyProof.Rows.boot_isinstance (pa_cons (pv 0) (pa_cons (pe_bltn (v := .ty "bool") (u := .type "bool") (by rfl) TK.bool (by decide +kernel) rfl) pa_nil))))
        (pss_one (ps_raise rfl (takes_of rfl rfl rfl rfl) (pmk_own PySem.F.excBase_ValueError TX.x TX.g TX.k (raises_own TX.b TX.t) rfl))) pss_nil)
      (pss_cons (ps_if (pt_val (pe_callB call_isiB (by rfl) T.isi PyProof.Rows.boot_isinstance (pa_cons (pv 0) (pa_cons (pe_bltn (v := .ty "int") (u := .type "int") (by rfl) T.int (by decide +kernel) rfl) pa_nil))))
        (pss_one (ps_ret pe_str)) pss_nil)
      (pss_cons (ps_if (PW.pt (pw_or (pt_not (pt_val (pe_callB call_isiB (by rfl) T.isi PyProof.Rows.boot_isinstance (pa_cons (pv 0) (pa_cons (pe_bltn (v := .ty "str") (u := .type "str") (by rfl) T.str (by decide +kernel) rfl) pa_nil)))))
          (pw_or1 (pt_val (GS.pe_anyT (c := cK) (P := Ps) (q := qK) (pb := fun c => !decide (c ∈ ltrs.cps.toList)) (x := "sign") (show (Str.ofString "kind_of" ++ Str.ofString ".<locals>.") ++ Str.ofString "<genexpr>" = qK by decide +kernel) hr (by rfl) TK.any TBs rfl
            ⟨rfl, rfl, by decide +kernel, rfl, rfl, fun y hy e => by
              rcases List.mem_cons.mp hy with rfl | hy
              · cases e
              · rcases List.mem_cons.mp hy with rfl | hy
                · cases e
                · rcases List.mem_cons.mp hy with rfl | hy
                  · cases e
                  · cases hy⟩ (pv 0) (fun a => GS.elt_notInG rfl rfl rfl hL) (fun _ => rfl))))))
        (pss_one (ps_raise rfl (takes_of rfl rfl rfl rfl) (pmk_own PySem.F.excBase_ValueError TX.x TX.g TX.k (raises_own TX.b TX.t) rfl))) pss_nil)
      (pss_one (ps_ret pe_str)))), ?_⟩
    have no : ∀ {b : Bool} {A B : Prop}, b = false → B → if b = true then A else B := fun h q => by rw [h, if_neg (by decide)]; exact q
    cases v with
    | int n =>
      refine ⟨_, rfl, ?_⟩
      show rIsiB K [_, .ty "bool"] H _
      refine isi_ty (.int n) (by decide +kernel) ⟨_, rfl, no rfl ?_⟩
      refine ⟨_, rfl, ?_⟩
      show rIsiB K [_, .ty "int"] H _
      refine isi_ty (.int n) (by decide +kernel) ⟨_, rfl, iteT ?_⟩
      exact h
    | bl b =>
      refine ⟨_, rfl, ?_⟩
      show rIsiB K [_, .ty "bool"] H _
      refine isi_ty (.bl b) (by decide +kernel) ⟨_, rfl, iteT ?_⟩
      exact h
    | non =>
      refine ⟨_, rfl, ?_⟩
      show rIsiB K [_, .ty "bool"] H _
      refine isi_ty .non (by decide +kernel) ⟨_, rfl, no rfl ?_⟩
      refine ⟨_, rfl, ?_⟩
      show rIsiB K [_, .ty "int"] H _
      refine isi_ty .non (by decide +kernel) ⟨_, rfl, no rfl ?_⟩
      refine ⟨_, rfl, ?_⟩
      show rIsiB K [_, .ty "str"] H _
      refine isi_ty (r := false) .non (by decide +kernel) ⟨_, rfl, ?_⟩
      exact h
    | ref p =>
      obtain ⟨⟨xs, hp⟩, h⟩ := h
      refine ⟨_, rfl, ?_⟩
      show rIsiB K [_, .ty "bool"] H _
      refine isi_ty (r := false) (.tup hp) (by decide +kernel) ⟨_, rfl, no rfl ?_⟩
      refine ⟨_, rfl, ?_⟩
      show rIsiB K [_, .ty "int"] H _
      refine isi_ty (.tup hp) (by decide +kernel) ⟨_, rfl, no rfl ?_⟩
      refine ⟨_, rfl, ?_⟩
      show rIsiB K [_, .ty "str"] H _
      refine isi_ty (r := false) (.tup hp) (by decide +kernel) ⟨_, rfl, ?_⟩
      exact h
    | str a =>
      obtain ⟨tab, h⟩ := h
      refine ⟨_, rfl, ?_⟩
      show rIsiB K [_, .ty "bool"] H _
      refine isi_ty (.str a) (by decide +kernel) ⟨_, rfl, no rfl ?_⟩
      refine ⟨_, rfl, ?_⟩
      show rIsiB K [_, .ty "int"] H _
      refine isi_ty (.str a) (by decide +kernel) ⟨_, rfl, no rfl ?_⟩
      refine ⟨_, rfl, ?_⟩
      show rIsiB K [_, .ty "str"] H _
      refine isi_ty (r := true) (.str a) (by decide +kernel) ⟨_, rfl, ?_⟩
      refine no rfl ⟨_, rfl, a, rfl, tab, fun H2 tb => ⟨_, rfl, ?_⟩⟩
      have h2 := h H2 tb
      show if badT a = true then _ else _
      exact h2
    | _ => exact False.elim h
end
end KO1
set_option Elab.async false
set_option linter.all false
set_option maxRecDepth 100000
set_option maxHeartbeats 4000000
namespace KO1
open PySem PySem.Spec PyProof.Rows L2 KB KC KS KN1 LamX
abbrev tabL : List Nat := ltrs.cps.toList
theorem idx_occ : ∀ c ∈ tabL, Builtin.Str.occurrences ltrs ⟨#[c]⟩ 0 ltrs.length 1 = [idx tabL c] := by decide +kernel
abbrev Tb (Ps : Addr) (H H' : Hp) : Prop := KH.TabbedS Ps qK H H'
theorem Tb.refl {Ps : Addr} {H : Hp} (t : TabS H Ps qK) : Tb Ps H H := ⟨t, fun _ _ _ e => e⟩
theorem Tb.trans {Ps : Addr} {H H1 H2 : Hp} (a : Tb Ps H H1) (b : Tb Ps H1 H2) : Tb Ps H H2 := ⟨b.1, fun x o n e => b.2 x o n (a.2 x o n e)⟩
theorem Tb.ex {Ps : Addr} {H H1 H2 : Hp} (a : Tb Ps H H1) (e : Ex H1 H2) : Tb Ps H H2 := ⟨a.1.ext e, fun x o n h => e x o (a.2 x o n h)⟩
def OkV : Key → Prop
  | .inl v => -(2 ^ 1990) < v ∧ v < 2 ^ 1990
  | .inr s => badT s = false ∧ s.cps.toList.length ≤ 1000
@[irreducible] def spVal (CR Ps : Addr) : Sp := fun vs H Q E => ∃ v, vs = [v] ∧ ((∃ b, v = .bl b ∧ E (.ref CR) none H) ∨
  (∃ k, v = kV k ∧ OkV k ∧ TabS H Ps qK ∧ ∀ H' p, Tb Ps H H' → H' p = some (.tup ((valL tabL k).map V.int)) → Q (.ref p) H'))
theorem cat_two {K : PySem.W.Frag} {H : Hp} {a b : Addr} {x y : List Int} {Q : VK} (ha : H a = some (.tup (x.map V.int))) (hb : H b = some (.tup (y.map V.int))) (hl : x.length + y.length ≤ 100000)
    (q : ∀ H' c, Ex H H' → H' c = some (.tup ((x ++ y).map V.int)) → Q (.ref c) H') : rCatA K (.ref a) (.ref b) H Q := by
  refine ⟨a, b, _, _, rfl, rfl, SqT.of ha, SqT.of hb, ?_, fun h => ?_, fun _ h => ?_, fun _ _ p hp => ?_⟩
  · have hz : sizeLine = 16777216 := rfl
    rw [List.length_map, List.length_map]
    omega
  · have e : x = [] := List.map_eq_nil_iff.mp h
    exact q H b (Ex.refl H) (by rw [e]; exact hb)
  · have e : y = [] := List.map_eq_nil_iff.mp h
    exact q H a (Ex.refl H) (by rw [e, List.append_nil]; exact ha)
  · refine q _ p (Ex.upd hp) ?_
    rw [upd_same, List.map_append]
theorem ifT {c A B : Prop} [Decidable c] (h : c) (a : A) : if c then A else B := by rw [if_pos h]; exact a
theorem ifF {c A B : Prop} [Decidable c] (h : ¬ c) (b : B) : if c then A else B := by rw [if_neg h]; exact b
@[irreducible] def tIdx : TE := fun σ H Q => ∃ c, σ[1]? = some (some (.str ⟨#[c]⟩)) ∧ c ∈ tabL ∧ Q (.int ((idx tabL c : Nat) : Int)) H
theorem pe_lidx {X : Cx} {tk : Tok} {p1 p2 p3 p4 : Pos} (hg : Gl X "LETTERS") (hm : X.mg "LETTERS" = some (.str ltrs tk)) (hN : X.N[1]? = some (Str.ofString "sign")) (hv : Vis X.env.scope "sign") (hline : (p2.endLine == p4.line) = true := by rfl) :
    PE X (.Call (.Attribute (.Name "LETTERS" p1) "index" p2) [.Name "sign" p3] [] p4) tIdx := by
  have h := pe_bm (X := X) (cpos := p4) (apos := p2) (name := "index") PySem.F.plainAttrs_str PySem.F.slot_str_index PySem.F.type_str_index mt_sindex (pe_glob (x := "LETTERS") (pos := p1) (v := .str ltrs) hg hm ⟨_, rfl⟩) (pa_cons (pe_var (pos := p3) (i := 1) (x := "sign") hN hv) pa_nil) (hline := hline)
  refine ⟨fun pins s σ H Q I hw => h.run pins s σ H Q I ?_⟩
  unfold tIdx at hw
  obtain ⟨c, h1, h2, q⟩ := hw
  exact ⟨rfl, _, h1, _, _, _, _, rfl, rfl, idx_occ c h2, q⟩
theorem idx_step {σ : L2.St} {H : Hp} {c : Nat} {Q : VK} (h1 : σ[1]? = some (some (.str ⟨#[c]⟩))) (h2 : c ∈ tabL) (q : Q (.int ((idx tabL c : Nat) : Int)) H) : tIdx σ H Q := by
  unfold tIdx
  exact ⟨c, h1, h2, q⟩
theorem kind_step {CR Ps : Addr} {H : Hp} {Q : VK} {E : XK} {v : V} (h : KindR CR Ps H Q E v) : spKind CR Ps [v] H Q E := by
  unfold spKind
  exact ⟨v, rfl, h⟩
theorem okT_mem {s : Str} (h : badT s = false) {c : Nat} (hc : c ∈ s.cps.toList) : c ∈ tabL := by
  unfold badT at h
  have := List.any_eq_false.mp h c hc
  simpa using this
section
variable {P : Program} {w : World} {K : PySem.W.Frag} {mg : Str → Option Value} {base : Heap} {f fK fN cK Ps CR : Addr} {fd fdK fdN : FuncData}
theorem scVal : FnScope ["value", "sign"] ["value"] (defScope sVal) := ⟨rfl, rfl, rfl, by decide +kernel, rfl, by decide +kernel, by decide +kernel⟩
theorem ok_val (F : FnP K "value_bytes" "value_bytes" sVal [] f fd) (FK : FnP K "kind_of" "kind_of" sKind [] fK fdK) (gK : mg "kind_of" = some (.ref fK)) (hc : fdK.code = .ref cK) (TBs : GxR.TabB base mg cK Ps)
    (FN : FnP K "natural_bytes" "natural_bytes" sNat [] fN fdN) (gN : mg "natural_bytes" = some (.ref fN)) (T : TxtL mg) (TK : TxtK mg) (TX : TxtX K mg CR) : FnOk P w K mg base (L2.CX P w) 2 f fd ["value"] (spVal CR Ps) := by
  have GK : FnOk P w K mg base (L2.CX P w) 1 fK fdK ["value"] (spKind CR Ps) := ok_kind FK hc TBs T TK TX
  have GN : FnOk P w K mg base CX0 1 fN fdN ["number"] spNat := ok_nat FN T
  have bK : Binds K fdK ["value"] [] := FK.bindsN fun _ _ _ _ _ _ us hl => match us, hl with | [_], _ => rfl
  have bN : Binds K fdN ["number"] [] := FN.bindsN fun _ _ _ _ _ _ us hl => match us, hl with | [_], _ => rfl
  obtain ⟨tk, hL⟩ := TK.l
  refine F.ok scVal (fun vs H Q E h => ?_) (fun cdv A outer s H vs Q E hr h => ?_)
  · unfold spVal at h
    obtain ⟨_, rfl, _⟩ := h; rfl
  · unfold spVal at h
    obtain ⟨v, rfl, h⟩ := h
    refine ⟨_, pss_cons (ps_if (pt_cmpR op_eq (pe_callS GK hr (by rfl) gK FK.kp bK (fun σ => passAt (takes_of rfl rfl rfl rfl) σ) (pa_cons (pv 0) pa_nil)) pe_str (nomark _))
        (PSs.nox <| pss_one (ps_ret (pe_op op_catA (pe_op op_catA (pe_tup (pa_cons pe_int pa_nil)) (pe_call GN hr (by rfl) gN FN.kp bN .nil pass0 (pa_cons (pe_callB call_len_str (by rfl) T.len (by decide +kernel) (pa_cons (pv 0) pa_nil)) pa_nil)))
          (pe_callTy call_tuple_of (by rfl) T.tuple (by decide +kernel) (pa_cons (pe_lc (own := [("sign", 1)]) (g := gName 1) (tt := tYes) rfl scVal.nd (pi_str (pv 0)) (blkOk_by (N := ["value", "sign"]) (sc := defScope sVal) (by decide +kernel))
            (fun _ _ _ _ _ => pg_name (i := 1) scVal.nd rfl (Or.inl rfl)) (fun _ _ _ _ _ => pts_nil)
            (fun _ _ _ _ _ => pe_lidx rfl hL rfl (.inl rfl))) pa_nil))))) pss_nil)
      (PSs.nox <| pss_cons (ps_if (pt_cmpR op_lt (pv 0) pe_int (nomark _)) (pss_one (ps_ret (pe_op op_catA (pe_tup (pa_cons pe_int pa_nil)) (pe_call GN hr (by rfl) gN FN.kp bN .nil pass0 (pa_cons (pe_op op_sub (pe_un un_neg (pv 0)) pe_int) pa_nil))))) pss_nil)
        (pss_one (ps_ret (pe_op op_catA (pe_tup (pa_cons pe_int pa_nil)) (pe_call GN hr (by rfl) gN FN.kp bN .nil pass0 (pa_cons (pv 0) pa_nil)))))), ?_⟩
    have one : 1 ≤ sizeLine := by decide
    have big : (2 : Int) ^ 1990 < 2 ^ 2000 := by decide +kernel
    rcases h with ⟨b, rfl, h⟩ | ⟨k, rfl, ok, tab, fin⟩
    · exact ⟨_, rfl, kind_step h⟩
    · cases k with
      | inl n =>
        obtain ⟨n1, n2⟩ := ok
        refine ⟨_, rfl, kind_step ?_⟩
        refine ⟨rfl, _, rfl, ifF (by decide +kernel) ?_⟩
        refine ⟨_, rfl, _, _, rfl, rfl, _, rfl, ?_⟩
        by_cases c : n < 0
        · refine ite2 (fun _ => ?_) (fun z => absurd (decide_eq_true c) z)
          refine ⟨one, fun t ht => ⟨_, rfl, _, rfl, _, _, rfl, rfl, nat_step (by omega) (by omega) fun H2 p e2 hp => ?_⟩⟩
          have hl := natL_short (n := -n - 1) (by omega)
          refine cat_two (x := [1]) (e2 _ _ upd_same) hp (by show 1 + _ ≤ _; omega) fun H3 c3 e3 h3 => fin H3 c3 ((Tb.refl tab).ex ((Ex.upd ht).trans (e2.trans e3))) ?_
          rw [valL_neg _ c]
          exact h3
        · refine ite2 (fun z => absurd (of_decide_eq_true z) c) (fun _ => ?_)
          refine ⟨one, fun t ht => ⟨_, rfl, nat_step (by omega) (by omega) fun H2 p e2 hp => ?_⟩⟩
          have hl := natL_short (n := n) (by omega)
          refine cat_two (x := [0]) (e2 _ _ upd_same) hp (by show 1 + _ ≤ _; omega) fun H3 c3 e3 h3 => fin H3 c3 ((Tb.refl tab).ex ((Ex.upd ht).trans (e2.trans e3))) ?_
          rw [valL_pos _ c]
          exact h3
      | inr z =>
        obtain ⟨ok, hz⟩ := ok
        have hz2 : z.length = z.cps.toList.length := by show z.cps.size = _; simp
        have hzl : sizeLine = 16777216 := rfl
        refine ⟨_, rfl, kind_step ⟨tab, fun H1 t1 => ?_⟩⟩
        refine ifF (by rw [ok]; decide) ?_
        refine ⟨rfl, _, rfl, ifT (by decide +kernel) ?_⟩
        have hb : (z.length : Int) < 2 ^ 2000 := by
          have : (1001 : Int) < 2 ^ 2000 := by decide +kernel
          omega
        have hl := natL_short hb
        refine ⟨one, fun t ht => ⟨_, rfl, z, rfl, by omega, nat_step (by omega) hb fun H2 p e2 hp => ?_⟩⟩
        refine cat_two (x := [2]) (e2 _ _ upd_same) hp (by show 1 + _ ≤ _; omega) fun H3 c3 e3 h3 => ?_
        refine ⟨_, rfl, z, rfl, fun D hD => lc_it walk_str (fun i H4 => Ex H3 H4 ∧ H4 D = some (.lst ((z.cps.toList.take i).map fun c => V.int ((idx tabL c : Nat) : Int)))) ⟨Ex.upd hD, upd_same⟩ (fun _ _ _ _ => trivial) ?_ ?_⟩
        · rintro i x H4 H5 hi ⟨e4, hl4⟩ ⟨rfl, c, hc, rfl⟩
          have hi' : i < z.cps.toList.length := by simpa using hi
          have hc' : z.cps.toList[i]? = some c := by rw [Array.getElem?_toList]; exact hc
          refine ⟨rfl, ?_⟩
          show tIdx _ _ _
          refine idx_step rfl (okT_mem ok (List.mem_of_getElem? hc')) ⟨_, hl4, ?_, Ex.on e4 hD, ?_⟩
          · rw [List.length_map, List.length_take]
            omega
          · rw [upd_same, List.take_add_one, hc', List.map_append]
            rfl
        · rintro H4 ⟨e4, hl4⟩
          refine ⟨D, _, rfl, .inl ⟨SqL.of hl4, fun q hq => ?_⟩⟩
          have hs : z.cps.size = z.cps.toList.length := by simp
          refine cat_two (y := z.cps.toList.map fun c => ((idx tabL c : Nat) : Int)) (((Ex.trans e4 (Ex.upd hq))) _ _ h3) ?_ ?_ fun H5 c5 e5 h5 => fin H5 c5 (Tb.ex t1 ((Ex.upd ht).trans (e2.trans (e3.trans (e4.trans ((Ex.upd hq).trans e5)))))) ?_
          · rw [upd_same, hs, List.take_length, List.map_map]
            rfl
          · rw [List.length_append, List.length_map]
            show 1 + _ + _ ≤ _
            omega
          · have e : ((z.length : Int)).toNat = z.cps.toList.length := by omega
            rw [e] at h5
            rw [h5, List.append_assoc]
            rfl
end
end KO1
set_option Elab.async false
set_option linter.all false
set_option maxRecDepth 100000
set_option maxHeartbeats 4000000
namespace PySem
open AutoSeq1
theorem list_extend_tup (l : Addr) (items : Array Value) (n : Nat) (b : Addr) (items2 : Array Value) (n2 : Nat) (dd : Option Addr) (sl : Array (Option Value)) (hs0 : ¬(!items.isEmpty && Builtin.List.listTooLong (items.size + items2.size)) = true) (hs1 : items.size ≤ sizeLine) (hs2 : items.size + items2.size ≤ sizeLine + 1) :
    Meets (Builtin.«list.extend» ⟨[.ref l, .ref b], []⟩) (fun _ R s => s.heap.get? l = some { cls := .type "list", dict := none, data := .seq items n, slots := #[] } ∧ s.heap.get? b = some { cls := .type "tuple", dict := dd, data := .seq items2 n2, slots := sl } ∧ R (.ok (.ret Value.none)) { s with heap := s.heap.update l (Obj.mapSeq fun x => x ++ items2), toks := s.toks }) :=
  .of_wp fun prog w A R s h => by
    obtain ⟨hp, g, d, tk, os⟩ := s; obtain ⟨hl, hb, h⟩ := h; have f1 := idx_int; have f2 := sub_tuple_tuple; have f3 := sub_list_list; have f4 := sub_tuple_list; have f5 := sub_list_tuple;
    have hz' : (items ++ items2).size ≤ sizeLine + 1 := by rw [Array.size_append]; exact hs2
    wp_walk using (wpAny_updateSeq hl rfl (hz := hs1) (_hz' := hz')), wpAny_loadPart' hl, wpAny_loadPart' hb; exact ⟨_, rfl, h⟩
end PySem
namespace KO1
open PySem PySem.Spec PyProof.Rows L2 KB KC KS KN1 LamX
def rExtendT : V → List V → Hp → VK → Prop := fun x vs H Q => ∃ l b xs zs, x = .ref l ∧ vs = [.ref b] ∧ H l = some (.lst xs) ∧ H b = some (.tup zs) ∧ xs.length + zs.length ≤ sizeLine ∧ Q .non (upd H l (.lst (xs ++ zs)))
theorem mt_extendT {X : Cx} : MtM X "list.extend" rExtendT := by
  intro pins s σ H x vs v us Q I rx rv h
  obtain ⟨l, b, xs, zs, rfl, rfl, hH, hB, hz, q⟩ := h
  cases rx
  obtain ⟨u, rfl, ru⟩ := rv.one
  cases ru
  obtain ⟨z, its, n, r, hl, e⟩ := I.lstM hH
  obtain ⟨its2, r2, ⟨o, e2, hc, n2, hd⟩, z2⟩ := I.tuple (SqT.of hB)
  obtain ⟨oc, od, dt, sl⟩ := o
  simp only at hc hd
  subst hc hd
  have l1 := r.length
  have l2 := r2.length
  have hsz : its.toArray.size + its2.toArray.size ≤ sizeLine := by rw [List.size_toArray, List.size_toArray]; omega
  have hlong : ¬ (!its.toArray.isEmpty && Builtin.List.listTooLong (its.toArray.size + its2.toArray.size)) = true := by
    rw [notLongL hsz, Bool.and_false]
    exact Bool.false_ne_true
  refine call_meets F.slot_list_extend ⟨_, e, rfl⟩ F.entry_list_extend (F.args_list_extend_2 _ _)
    (PySem.list_extend_tup l its.toArray n b its2.toArray n2 od sl hlong (by rw [List.size_toArray]; omega) (by omega)) ⟨e, e2, ?_⟩
  refine ⟨.non, _, I.lset (its' := its ++ its2) hH e (by simp) (r.append r2) ?_, rfl, q⟩
  rw [List.length_append]
  omega
theorem tabS_lst {H : Hp} {P l : Addr} {q : Str} {xs ys : List V} (t : TabS H P q) (h : H l = some (.lst xs)) : TabS (upd H l (.lst ys)) P q := by
  obtain ⟨ps, hP, ht, ha⟩ := t
  refine ⟨ps, by rw [L2.upd_ne (fun z => by rw [z, h] at hP; cases hP)]; exact hP, ht, fun pos cv hc => ?_⟩
  obtain ⟨c, e1, e2⟩ := ha pos cv hc
  exact ⟨c, e1, by rw [L2.upd_ne (fun z => by rw [z, h] at e2; cases e2)]; exact e2⟩
theorem valL_len {k : Key} (h : OkV k) : (valL tabL k).length ≤ 1301 := by
  have big : (2 : Int) ^ 1990 < 2 ^ 2000 := by decide +kernel
  cases k with
  | inl n =>
    obtain ⟨n1, n2⟩ := h
    by_cases c : n < 0
    · rw [valL_neg _ c]
      have := natL_short (n := -n - 1) (by omega)
      rw [List.length_cons]
      omega
    · rw [valL_pos _ c]
      have := natL_short (n := n) (by omega)
      rw [List.length_cons]
      omega
  | inr z =>
    have hz := h.2
    have hb : ((z.cps.toList.length : Nat) : Int) < 2 ^ 2000 := by
      have : (1001 : Int) < 2 ^ 2000 := by decide +kernel
      omega
    have := natL_short hb
    rw [Int.toNat_natCast] at this
    show (2 :: (natL z.cps.toList.length ++ _)).length ≤ _
    rw [List.length_cons, List.length_append, List.length_map]
    omega
theorem flat_len : ∀ {l : List Key}, (∀ x ∈ l, OkV x) → (l.flatMap (valL tabL)).length ≤ l.length * 1301
  | [], _ => Nat.le_refl _
  | a :: l, h => by
    rw [List.flatMap_cons, List.length_append, List.length_cons, Nat.succ_mul]
    have h1 := valL_len (h a (List.mem_cons_self ..))
    have h2 := flat_len fun x hx => h x (List.mem_cons_of_mem _ hx)
    omega
theorem val_step {CR Ps : Addr} {H : Hp} {Q : VK} {E : XK} {k : Key} (ok : OkV k) (t : TabS H Ps qK) (fin : ∀ H' p, Tb Ps H H' → H' p = some (.tup ((valL tabL k).map V.int)) → Q (.ref p) H') : spVal CR Ps [kV k] H Q E := by
  unfold spVal
  exact ⟨_, rfl, .inr ⟨k, rfl, ok, t, fin⟩⟩
theorem val_bad {CR Ps : Addr} {H : Hp} {Q : VK} {E : XK} {b : Bool} (h : E (.ref CR) none H) : spVal CR Ps [.bl b] H Q E := by
  unfold spVal
  exact ⟨_, rfl, .inl ⟨b, rfl, h⟩⟩
@[irreducible] def spRow (CR Ps : Addr) : Sp := fun vs H Q E => ∃ r, vs = [.ref r] ∧ ((∃ b, H r = some (.tup [.bl b]) ∧ ∀ H', Ex H H' → E (.ref CR) none H') ∨
  (∃ k : List Key, H r = some (.tup (k.map kV)) ∧ (∀ x ∈ k, OkV x) ∧ k.length ≤ 25 ∧ TabS H Ps qK ∧ ∀ H' p, Tb Ps H H' → H' p = some (.tup ((rowL tabL k).map V.int)) → Q (.ref p) H'))
section
variable {P : Program} {w : World} {K : PySem.W.Frag} {mg : Str → Option Value} {base : Heap} {f fV fK fN cK Ps CR : Addr} {fd fdV fdK fdN : FuncData}
theorem scRow : FnScope ["row", "found", "value"] ["row"] (defScope sRow) := ⟨rfl, rfl, rfl, by decide +kernel, rfl, by decide +kernel, by decide +kernel⟩
theorem ok_row (F : FnP K "row_bytes" "row_bytes" sRow [] f fd) (FV : FnP K "value_bytes" "value_bytes" sVal [] fV fdV) (gV : mg "value_bytes" = some (.ref fV)) (FK : FnP K "kind_of" "kind_of" sKind [] fK fdK) (gK : mg "kind_of" = some (.ref fK)) (hc : fdK.code = .ref cK) (TBs : GxR.TabB base mg cK Ps)
    (FN : FnP K "natural_bytes" "natural_bytes" sNat [] fN fdN) (gN : mg "natural_bytes" = some (.ref fN)) (T : TxtL mg) (TK : TxtK mg) (TX : TxtX K mg CR) : FnOk P w K mg base (L2.CX P w) 3 f fd ["row"] (spRow CR Ps) := by
  have GV : FnOk P w K mg base (L2.CX P w) 2 fV fdV ["value"] (spVal CR Ps) := ok_val FV FK gK hc TBs FN gN T TK TX
  have GN : FnOk P w K mg base CX0 1 fN fdN ["number"] spNat := ok_nat FN T
  have bV : Binds K fdV ["value"] [] := FV.bindsN fun _ _ _ _ _ _ us hl => match us, hl with | [_], _ => rfl
  have bN : Binds K fdN ["number"] [] := FN.bindsN fun _ _ _ _ _ _ us hl => match us, hl with | [_], _ => rfl
  refine F.ok scRow (fun vs H Q E h => ?_) (fun cdv A outer s H vs Q E hr h => ?_)
  · unfold spRow at h
    obtain ⟨_, rfl, _⟩ := h; rfl
  · unfold spRow at h
    obtain ⟨r, rfl, h⟩ := h
    refine ⟨_, pss_cons (ps_set (i := 1) scRow.nd rfl (Or.inl rfl) (pe_callTy call_list_of (by rfl) T.list (by decide +kernel) (pa_cons (pe_call GN (hr.mono (by decide)) (by rfl) gN FN.kp bN .nil pass0 (pa_cons (pe_callB call_len_seq (by rfl) T.len (by decide +kernel) (pa_cons (pv 0) pa_nil)) pa_nil)) pa_nil)))
      (pss_cons (ps_for (passes_of rfl) rfl (pi_tup (pv 0)) (pg_name (i := 2) scRow.nd rfl (Or.inl rfl))
        (pss_one (ps_expr (pe_bm PySem.F.plainAttrs_list PySem.F.slot_list_extend PySem.F.type_list_extend mt_extendT (pv 1) (pa_cons (pe_callS GV hr (by rfl) gV FV.kp bV (fun σ => passAt (takes_of rfl rfl rfl rfl) σ) (pa_cons (pv 2) pa_nil)) pa_nil)))))
      (pss_one (ps_ret (pe_callTy call_tuple_of (by rfl) T.tuple (by decide +kernel) (pa_cons (pv 1) pa_nil))))), ?_⟩
    have hzl : sizeLine = 16777216 := rfl
    rcases h with ⟨b, hR, bad⟩ | ⟨k, hR, ok, hk, tab, fin⟩
    · refine ⟨_, rfl, r, _, rfl, .inr (SqT.of hR), nat_step (show (0 : Int) ≤ 1 by decide) (show (1 : Int) < 2 ^ 2000 by decide +kernel) fun H2 p e2 hp => ?_⟩
      refine ⟨p, _, rfl, .inr (SqT.of hp), fun l hl => ?_⟩
      have e3 : Ex H (upd H2 l (.lst ((natL ((List.length [V.bl b] : Nat) : Int).toNat).map V.int))) := e2.trans (Ex.upd hl)
      refine ⟨_, rfl, r, rfl, ⟨_, SqT.of (e3 _ _ hR)⟩, for_tup (xs := [V.bl b]) (fun i σ H' => (i = 0 ∧ σ = [some (.ref r), some (.ref l), none]) ∧ H' = upd H2 l (.lst ((natL ((List.length [V.bl b] : Nat) : Int).toNat).map V.int))) ⟨⟨rfl, rfl⟩, rfl⟩ ?_ ?_ ?_⟩
      · rintro i σ H' _ ⟨_, rfl⟩
        exact SqT.of (e3 _ _ hR)
      · rintro i x σ H' hx ⟨⟨rfl, rfl⟩, rfl⟩
        cases hx
        exact ⟨_, rfl, .inl ⟨rfl, _, SqL.of upd_same⟩, _, rfl, val_bad (bad _ e3)⟩
      · rintro σ H' ⟨⟨z, _⟩, _⟩
        cases z
    · have hkb : ((k.length : Nat) : Int) < 2 ^ 2000 := by
        have : (26 : Int) < 2 ^ 2000 := by decide +kernel
        omega
      have hkl : (List.length (k.map kV)) = k.length := List.length_map ..
      have hnl := natL_short hkb
      rw [Int.toNat_natCast] at hnl
      refine ⟨_, rfl, r, _, rfl, .inr (SqT.of hR), nat_step (by omega) (by rw [hkl]; exact hkb) fun H2 p e2 hp => ?_⟩
      rw [hkl, Int.toNat_natCast] at hp
      refine ⟨p, _, rfl, .inr (SqT.of hp), fun l hl => ?_⟩
      have e3 : Ex H (upd H2 l (.lst ((natL k.length).map V.int))) := e2.trans (Ex.upd hl)
      have nl : H l = none := by
        cases e : H l with
        | none => rfl
        | some o => rw [e2 _ _ e] at hl; cases hl
      have nP : l ≠ Ps := fun z => by
        obtain ⟨ps, h1, _⟩ := tab
        rw [z, h1] at nl
        cases nl
      have nr : r ≠ Ps := fun z => by
        obtain ⟨ps, h1, _⟩ := tab
        rw [z, h1] at hR
        cases hR
      refine ⟨_, rfl, r, rfl, ⟨_, SqT.of (e3 _ _ hR)⟩, for_tup (xs := k.map kV) (fun i σ H' => (∃ u, σ = [some (.ref r), some (.ref l), u]) ∧ Tb Ps H H' ∧ H' l = some (.lst ((natL k.length ++ (k.take i).flatMap (valL tabL)).map V.int))) ⟨⟨_, rfl⟩, (Tb.refl tab).ex e3, by rw [upd_same]; simp⟩ ?_ ?_ ?_⟩
      · rintro i σ H' _ ⟨_, t', _⟩
        exact SqT.of (t'.2 _ _ nr hR)
      · rintro i x σ H' hx ⟨⟨u, rfl⟩, t', hl'⟩
        rw [List.getElem?_map] at hx
        cases hi : k[i]? with
        | none => rw [hi] at hx; cases hx
        | some key =>
          rw [hi] at hx
          cases hx
          have hm := List.mem_of_getElem? hi
          have h1 := valL_len (ok key hm)
          have h2 := flat_len (l := k.take i) fun x hx => ok x (List.mem_of_mem_take hx)
          have h3 : (k.take i).length ≤ 25 := by rw [List.length_take]; omega
          refine ⟨_, rfl, .inl ⟨rfl, _, SqL.of hl'⟩, _, rfl, val_step (ok key hm) t'.1 fun H5 p5 t5 h5 => ?_⟩
          have hl5 := t5.2 _ _ nP hl'
          refine ⟨l, p5, _, _, rfl, rfl, hl5, h5, ?_, ?_⟩
          · rw [List.length_map, List.length_map, List.length_append]
            omega
          · refine ⟨⟨_, rfl⟩, ⟨tabS_lst t5.1 hl5, fun b o n e => ?_⟩, ?_⟩
            · rw [L2.upd_ne (ne_of_none e nl)]
              exact t5.2 _ _ n (t'.2 _ _ n e)
            · rw [upd_same, ← List.map_append, List.append_assoc, List.take_add_one, hi, List.flatMap_append]
              simp
      · rintro σ H' ⟨⟨u, rfl⟩, t', hl'⟩
        refine ⟨_, rfl, l, _, rfl, .inl ⟨SqL.of hl', fun q hq => fin _ q (t'.ex (Ex.upd hq)) ?_⟩⟩
        rw [upd_same, List.length_map, List.take_length]
        rfl
end
end KO1
set_option Elab.async false
set_option linter.all false
set_option maxRecDepth 100000
set_option maxHeartbeats 4000000
namespace KO1
open PySem PySem.Spec PyProof.Rows L2 KB KC KS KN1 LamX
@[irreducible] def tIdxN (i : Nat) : TE := fun σ H Q => ∃ c, σ[i]? = some (some (.str ⟨#[c]⟩)) ∧ c ∈ tabL ∧ Q (.int ((idx tabL c : Nat) : Int)) H
theorem pe_lidxN {X : Cx} {i : Nat} {tk : Tok} {p1 p2 p3 p4 : Pos} (hg : Gl X "LETTERS") (hm : X.mg "LETTERS" = some (.str ltrs tk)) (hN : X.N[i]? = some (Str.ofString "sign")) (hv : Vis X.env.scope "sign") (hline : (p2.endLine == p4.line) = true := by rfl) :
    PE X (.Call (.Attribute (.Name "LETTERS" p1) "index" p2) [.Name "sign" p3] [] p4) (tIdxN i) := by
  have h := pe_bm (X := X) (cpos := p4) (apos := p2) (name := "index") PySem.F.plainAttrs_str PySem.F.slot_str_index PySem.F.type_str_index mt_sindex (pe_glob (x := "LETTERS") (pos := p1) (v := .str ltrs) hg hm ⟨_, rfl⟩) (pa_cons (pe_var (pos := p3) (i := i) (x := "sign") hN hv) pa_nil) (hline := hline)
  refine ⟨fun pins s σ H Q I hw => h.run pins s σ H Q I ?_⟩
  unfold tIdxN at hw
  obtain ⟨c, h1, h2, q⟩ := hw
  exact ⟨rfl, _, h1, _, _, _, _, rfl, rfl, idx_occ c h2, q⟩
theorem idxN_step {i : Nat} {σ : L2.St} {H : Hp} {c : Nat} {Q : VK} (h1 : σ[i]? = some (some (.str ⟨#[c]⟩))) (h2 : c ∈ tabL) (q : Q (.int ((idx tabL c : Nat) : Int)) H) : tIdxN i σ H Q := by
  unfold tIdxN
  exact ⟨c, h1, h2, q⟩
@[irreducible] def spLBytes (K : PySem.W.Frag) : Sp := fun vs H Q _ => ∃ (r : Addr) (k : List Key), vs = [.ref r] ∧ H r = some (.tup (k.map kV)) ∧ (∀ x ∈ k, OkV x) ∧ k.length ≤ 25 ∧ ∀ H' p, Ex H H' → H' p = some (.tup ((rowL tabL k).map V.int)) → Q (.ref p) H'
section
variable {P : Program} {w : World} {K : PySem.W.Frag} {mg : Str → Option Value} {base : Heap} {f fN : Addr} {fd fdN : FuncData}
abbrev nLB : List Str := ["row", "found", "value", "sign"]
theorem scLB : FnScope nLB ["row"] (defScope sLBytes) := ⟨rfl, rfl, rfl, by decide +kernel, rfl, by decide +kernel, by decide +kernel⟩
theorem ok_lbytes (F : FnP K "_law_bytes" "_law_bytes" sLBytes [] f fd) (FN : FnP K "_law_natural" "_law_natural" sLNat [] fN fdN) (gN : mg "_law_natural" = some (.ref fN)) (T : TxtL mg) (TK : TxtK mg) : FnOk P w K mg base CX0 2 f fd ["row"] (spLBytes K) := by
  have GN : FnOk P w K mg base CX0 1 fN fdN ["number"] spNat := ok_lnat FN T
  have bN : Binds K fdN ["number"] [] := FN.bindsN fun _ _ _ _ _ _ us hl => match us, hl with | [_], _ => rfl
  obtain ⟨tk, hL⟩ := TK.l
  refine F.ok scLB (fun vs H Q E h => ?_) (fun cdv A outer s H vs Q E hr h => ?_)
  · unfold spLBytes at h
    obtain ⟨_, _, rfl, _⟩ := h; rfl
  · unfold spLBytes at h
    obtain ⟨r, k, rfl, hR, ok, hk, fin⟩ := h
    refine ⟨_, PSs.nox <| pss_cons (ps_set (i := 1) scLB.nd rfl (Or.inl rfl) (pe_call GN hr (by rfl) gN FN.kp bN .nil pass0 (pa_cons (pe_callB call_len_seq (by rfl) T.len (by decide +kernel) (pa_cons (pv 0) pa_nil)) pa_nil)))
      (pss_cons (ps_for PassesOwn.never rfl (pi_tup (pv 0)) (pg_name (i := 2) scLB.nd rfl (Or.inl rfl))
        (pss_one (ps_if (pt_val (pe_callB call_isiB (by rfl) T.isi PyProof.Rows.boot_isinstance (pa_cons (pv 2) (pa_cons (pe_bltn (v := .ty "str") (u := .type "str") (by rfl) T.str (by decide +kernel) rfl) pa_nil))))
          (pss_one (ps_set (i := 1) scLB.nd rfl (Or.inl rfl) (pe_op op_catA (pe_op op_catA (pe_op op_catA (pv 1) (pe_tup (pa_cons pe_int pa_nil))) (pe_call GN hr (by rfl) gN FN.kp bN .nil pass0 (pa_cons (pe_callB call_len_str (by rfl) T.len (by decide +kernel) (pa_cons (pv 2) pa_nil)) pa_nil)))
            (pe_callTy call_tuple_of (by rfl) T.tuple (by decide +kernel) (pa_cons (pe_lc (own := [("sign", 3)]) (g := gName 3) (tt := tYes) rfl scLB.nd (pi_str (pv 2)) (blkOk_by (N := nLB) (sc := defScope sLBytes) (by decide +kernel))
              (fun _ _ _ _ _ => pg_name (i := 3) scLB.nd rfl (Or.inl rfl)) (fun _ _ _ _ _ => pts_nil) (fun _ _ _ _ _ => pe_lidxN (i := 3) rfl hL rfl (.inl rfl))) pa_nil)))))
          (pss_one (ps_set (i := 1) scLB.nd rfl (Or.inl rfl) (pe_op op_catA (pv 1) (pe_ifExp (pt_cmpR op_ge (pv 2) pe_int (nomark _)) (pe_op op_catA (pe_tup (pa_cons pe_int pa_nil)) (pe_call GN hr (by rfl) gN FN.kp bN .nil pass0 (pa_cons (pv 2) pa_nil)))
            (pe_op op_catA (pe_tup (pa_cons pe_int pa_nil)) (pe_call GN hr (by rfl) gN FN.kp bN .nil pass0 (pa_cons (pe_op op_sub (pe_un un_neg (pv 2)) pe_int) pa_nil))))))))))
      (pss_one (ps_ret (pv 1)))), ?_⟩
    have hzl : sizeLine = 16777216 := rfl
    have one : 1 ≤ sizeLine := by decide
    have hkb : ((k.length : Nat) : Int) < 2 ^ 2000 := by
      have : (26 : Int) < 2 ^ 2000 := by decide +kernel
      omega
    have hkl : (List.length (k.map kV)) = k.length := List.length_map ..
    have hnl := natL_short hkb
    rw [Int.toNat_natCast] at hnl
    refine ⟨_, rfl, r, _, rfl, .inr (SqT.of hR), nat_step (by omega) (by rw [hkl]; exact hkb) fun H2 p e2 hp => ?_⟩
    rw [hkl, Int.toNat_natCast] at hp
    have big : (2 : Int) ^ 1990 < 2 ^ 2000 := by decide +kernel
    have no : ∀ {b : Bool} {A B : Prop}, b = false → B → if b = true then A else B := fun h q => by rw [h, if_neg (by decide)]; exact q
    refine ⟨_, rfl, r, rfl, ⟨_, SqT.of (e2 _ _ hR)⟩, for_tup (xs := k.map kV) (fun i σ H' => ∃ fo u v, σ = [some (.ref r), some (.ref fo), u, v] ∧ Ex H H' ∧ H' fo = some (.tup ((natL k.length ++ (k.take i).flatMap (valL tabL)).map V.int))) ⟨p, _, _, rfl, e2, by simpa using hp⟩ ?_ ?_ ?_⟩
    · rintro i σ H' _ ⟨_, _, _, _, e', _⟩
      exact SqT.of (e' _ _ hR)
    · rintro i x σ H' hx ⟨fo, u, v, rfl, e', hfo⟩
      rw [List.getElem?_map] at hx
      cases hi : k[i]? with
      | none => rw [hi] at hx; cases hx
      | some key =>
        rw [hi] at hx
        cases hx
        have hm := List.mem_of_getElem? hi
        have okk := ok key hm
        have h1 := valL_len okk
        have h2 := flat_len (l := k.take i) fun x hx => ok x (List.mem_of_mem_take hx)
        have h3 : (k.take i).length ≤ 25 := by rw [List.length_take]; omega
        have hpl : (natL k.length ++ (k.take i).flatMap (valL tabL)).length ≤ 40000 := by rw [List.length_append]; omega
        have next : natL k.length ++ (k.take (i + 1)).flatMap (valL tabL) = (natL k.length ++ (k.take i).flatMap (valL tabL)) ++ valL tabL key := by
          rw [List.take_add_one, hi, List.flatMap_append, List.append_assoc]
          simp
        cases key with
        | inl n =>
          obtain ⟨n1, n2⟩ := okk
          refine ⟨_, rfl, ?_⟩
          show rIsiB K [_, .ty "str"] H' _
          refine isi_ty (r := false) (.int n) (by decide +kernel) ⟨_, rfl, no rfl ?_⟩
          refine ⟨_, rfl, _, rfl, _, _, rfl, rfl, _, rfl, ?_⟩
          by_cases c : 0 ≤ n
          · refine ite2 (fun _ => ?_) (fun z => absurd (decide_eq_true c) z)
            refine ⟨one, fun t ht => ⟨_, rfl, nat_step (by omega) (by omega) fun H3 p3 e3 hp3 => ?_⟩⟩
            have hl := natL_short (n := n) (by omega)
            refine cat_two (x := [0]) (e3 _ _ upd_same) hp3 (by show 1 + _ ≤ _; omega) fun H4 c4 e4 h4 => ?_
            have e14 : Ex H' H4 := (Ex.upd ht).trans (e3.trans e4)
            refine cat_two (y := [0] ++ natL n.toNat) (e14 _ _ hfo) h4 (by rw [List.length_append (as := [0])]; show _ + (1 + _) ≤ _; omega) fun H5 c5 e5 h5 => ?_
            refine ⟨c5, _, _, rfl, e'.trans (e14.trans e5), ?_⟩
            rw [next, valL_pos _ (by omega)]
            exact h5
          · refine ite2 (fun z => absurd (of_decide_eq_true z) c) (fun _ => ?_)
            refine ⟨one, fun t ht => ⟨_, rfl, _, rfl, _, _, rfl, rfl, nat_step (by omega) (by omega) fun H3 p3 e3 hp3 => ?_⟩⟩
            have hl := natL_short (n := -n - 1) (by omega)
            refine cat_two (x := [1]) (e3 _ _ upd_same) hp3 (by show 1 + _ ≤ _; omega) fun H4 c4 e4 h4 => ?_
            have e14 : Ex H' H4 := (Ex.upd ht).trans (e3.trans e4)
            refine cat_two (y := [1] ++ natL (-n - 1).toNat) (e14 _ _ hfo) h4 (by rw [List.length_append (as := [1])]; show _ + (1 + _) ≤ _; omega) fun H5 c5 e5 h5 => ?_
            refine ⟨c5, _, _, rfl, e'.trans (e14.trans e5), ?_⟩
            rw [next, valL_neg _ (by omega)]
            exact h5
        | inr z =>
          obtain ⟨okz, hz⟩ := okk
          have hz2 : z.length = z.cps.toList.length := by show z.cps.size = _; simp
          have hb : (z.length : Int) < 2 ^ 2000 := by
            have : (1001 : Int) < 2 ^ 2000 := by decide +kernel
            omega
          have hl := natL_short hb
          refine ⟨_, rfl, ?_⟩
          show rIsiB K [_, .ty "str"] H' _
          refine isi_ty (r := true) (.str z) (by decide +kernel) ⟨_, rfl, iteT ?_⟩
          refine ⟨_, rfl, one, fun t ht => ?_⟩
          refine cat_two (y := [2]) (Ex.upd ht _ _ hfo) upd_same (by show _ + 1 ≤ _; omega) fun Ha ca ea ha => ?_
          refine ⟨_, rfl, z, rfl, by omega, nat_step (by omega) hb fun Hb pb eb hb => ?_⟩
          refine cat_two (eb _ _ ha) hb (by rw [List.length_append (bs := [2])]; show _ + 1 + _ ≤ _; omega) fun Hc cc ec hc => ?_
          have e1c : Ex H' Hc := (Ex.upd ht).trans (ea.trans (eb.trans ec))
          refine ⟨_, rfl, z, rfl, fun D hD => lc_it walk_str (fun i H4 => Ex Hc H4 ∧ H4 D = some (.lst ((z.cps.toList.take i).map fun c => V.int ((idx tabL c : Nat) : Int)))) ⟨Ex.upd hD, upd_same⟩ (fun _ _ _ _ => trivial) ?_ ?_⟩
          · rintro j x H4 H5 hj ⟨e4, hl4⟩ ⟨rfl, c, hcj, rfl⟩
            have hj' : j < z.cps.toList.length := by simpa using hj
            have hc' : z.cps.toList[j]? = some c := by rw [Array.getElem?_toList]; exact hcj
            refine ⟨rfl, ?_⟩
            show tIdxN 3 _ _ _
            refine idxN_step rfl (okT_mem okz (List.mem_of_getElem? hc')) ⟨_, hl4, ?_, Ex.on e4 hD, ?_⟩
            · rw [List.length_map, List.length_take]
              omega
            · rw [upd_same, List.take_add_one, hc', List.map_append]
              rfl
          · rintro H4 ⟨e4, hl4⟩
            refine ⟨D, _, rfl, .inl ⟨SqL.of hl4, fun q hq => ?_⟩⟩
            have hs : z.cps.size = z.cps.toList.length := by simp
            refine cat_two (y := z.cps.toList.map fun c => ((idx tabL c : Nat) : Int)) ((e4.trans (Ex.upd hq)) _ _ hc) ?_ ?_ fun H5 c5 e5 h5 => ?_
            · rw [upd_same, hs, List.take_length, List.map_map]
              rfl
            · rw [List.length_append (bs := natL _), List.length_append (bs := [2]), List.length_map]
              show _ + 1 + _ + _ ≤ _
              omega
            · refine ⟨c5, _, _, rfl, e'.trans (e1c.trans (e4.trans ((Ex.upd hq).trans e5))), ?_⟩
              have e : ((z.length : Int)).toNat = z.cps.toList.length := by omega
              rw [e] at h5
              rw [next, h5]
              simp only [List.append_assoc]
              rfl
    · rintro σ H' ⟨fo, u, v, rfl, e', hfo⟩
      refine ⟨_, rfl, fin _ fo e' ?_⟩
      rw [hfo, List.length_map, List.take_length]
      rfl
end
end KO1
set_option Elab.async false
set_option linter.all false
set_option maxRecDepth 100000
set_option maxHeartbeats 4000000
namespace KO1
open PySem PySem.Spec PyProof.Rows L2 KB KC KS KN1 LamX
def hashStep (a b : Int) : Int := (31 * a + b + 1) % 2147483647
def hashL (l : List Int) : Int := l.foldl hashStep 7
theorem row_step {CR Ps : Addr} {H : Hp} {Q : VK} {E : XK} {r : Addr} {k : List Key} (hR : H r = some (.tup (k.map kV))) (ok : ∀ x ∈ k, OkV x) (hk : k.length ≤ 25) (tab : TabS H Ps qK) (fin : ∀ H' p, Tb Ps H H' → H' p = some (.tup ((rowL tabL k).map V.int)) → Q (.ref p) H') : spRow CR Ps [.ref r] H Q E := by
  unfold spRow
  exact ⟨r, rfl, .inr ⟨k, hR, ok, hk, tab, fin⟩⟩
@[irreducible] def spHash (Ps : Addr) : Sp := fun vs H Q _ => ∃ (r : Addr) (k : List Key), vs = [.ref r] ∧ H r = some (.tup (k.map kV)) ∧ (∀ x ∈ k, OkV x) ∧ k.length ≤ 25 ∧ TabS H Ps qK ∧ ∀ H', Tb Ps H H' → Q (.int (hashL (rowL tabL k))) H'
section
variable {P : Program} {w : World} {K : PySem.W.Frag} {mg : Str → Option Value} {base : Heap} {f fR fV fK fN cK Ps CR : Addr} {fd fdR fdV fdK fdN : FuncData}
theorem scHash : FnScope ["row", "found", "byte"] ["row"] (defScope sHash) := ⟨rfl, rfl, rfl, by decide +kernel, rfl, by decide +kernel, by decide +kernel⟩
theorem ok_hash (F : FnP K "hash_of" "hash_of" sHash [] f fd) (FR : FnP K "row_bytes" "row_bytes" sRow [] fR fdR) (gR : mg "row_bytes" = some (.ref fR)) (FV : FnP K "value_bytes" "value_bytes" sVal [] fV fdV) (gV : mg "value_bytes" = some (.ref fV)) (FK : FnP K "kind_of" "kind_of" sKind [] fK fdK) (gK : mg "kind_of" = some (.ref fK)) (hc : fdK.code = .ref cK) (TBs : GxR.TabB base mg cK Ps)
    (FN : FnP K "natural_bytes" "natural_bytes" sNat [] fN fdN) (gN : mg "natural_bytes" = some (.ref fN)) (T : TxtL mg) (TK : TxtK mg) (TX : TxtX K mg CR) : FnOk P w K mg base (L2.CX P w) 4 f fd ["row"] (spHash Ps) := by
  have GR : FnOk P w K mg base (L2.CX P w) 3 fR fdR ["row"] (spRow CR Ps) := ok_row FR FV gV FK gK hc TBs FN gN T TK TX
  have bR : Binds K fdR ["row"] [] := FR.bindsN fun _ _ _ _ _ _ us hl => match us, hl with | [_], _ => rfl
  refine F.ok scHash (fun vs H Q E h => ?_) (fun cdv A outer s H vs Q E hr h => ?_)
  · unfold spHash at h
    obtain ⟨_, _, rfl, _⟩ := h; rfl
  · unfold spHash at h
    obtain ⟨r, k, rfl, hR, ok, hk, tab, fin⟩ := h
    refine ⟨_, pss_cons (ps_set (i := 1) scHash.nd rfl (Or.inl rfl) pe_int)
      (pss_cons (ps_for (passes_of rfl) rfl (pi_tup (pe_callS GR hr (by rfl) gR FR.kp bR (fun σ => passAt (takes_of rfl rfl rfl rfl) σ) (pa_cons (pv 0) pa_nil))) (pg_name (i := 2) scHash.nd rfl (Or.inl rfl))
        (pss_one (ps_set (i := 1) scHash.nd rfl (Or.inl rfl) (pe_op op_mod (pe_op op_add (pe_op op_add (pe_op op_mul pe_int (pv 1)) (pv 2)) pe_int) pe_int))))
      (pss_one (ps_ret (pv 1)))), ?_⟩
    refine ⟨_, rfl, row_step hR ok hk tab fun H2 p t2 hp => ?_⟩
    refine ⟨p, rfl, ⟨_, SqT.of hp⟩, for_tup (xs := (rowL tabL k).map V.int) (fun i σ H' => H' = H2 ∧ ∃ u, σ = [some (.ref r), some (.int (hashL ((rowL tabL k).take i))), u]) ⟨rfl, _, rfl⟩ ?_ ?_ ?_⟩
    · rintro i σ H' _ ⟨rfl, _⟩
      exact SqT.of hp
    · rintro i x σ H' hx ⟨rfl, u, rfl⟩
      rw [List.getElem?_map] at hx
      cases hi : (rowL tabL k)[i]? with
      | none => rw [hi] at hx; cases hx
      | some b =>
        rw [hi] at hx
        cases hx
        refine ⟨_, rfl, _, _, rfl, rfl, .inl ⟨by decide, by decide⟩, _, rfl, _, _, rfl, rfl, _, _, rfl, rfl, _, _, rfl, rfl, by show (0 : Int) < 2147483647; decide, rfl, some (.int b), ?_⟩
        have e : hashL ((rowL tabL k).take (i + 1)) = hashStep (hashL ((rowL tabL k).take i)) b := by
          rw [List.take_add_one, hi]
          unfold hashL
          rw [List.foldl_append]
          rfl
        rw [e]
        rfl
    · rintro σ H' ⟨rfl, u, rfl⟩
      refine ⟨_, rfl, ?_⟩
      rw [List.length_map, List.take_length]
      exact fin _ t2
end
end KO1
set_option linter.all false
namespace Q1
abbrev Sp2 := Int × Int
structure M (g : Int) (ts : List Int) (s : Sp2) : Prop where
  m1 : s.1 ∈ ts
  m2 : ∀ u ∈ ts, ¬ (s.1 - g < u ∧ u < s.1)
  m3 : s.2 - g ∈ ts
  m4 : ∀ u ∈ ts, ¬ (s.2 - g < u ∧ u < s.2)
  m5 : ∀ x, s.1 ≤ x → x < s.2 - g → ∃ u ∈ ts, x < u ∧ u < x + g
  m6 : s.1 + g ≤ s.2
theorem M.apart {g : Int} {ts : List Int} {a b : Sp2} (hg : 0 < g) (ha : M g ts a) (hb : M g ts b) (h : a.1 ≤ b.1) : a = b ∨ a.2 ≤ b.1 := by
  by_cases e : a.2 ≤ b.1
  · exact .inr e
  · left
    have e1 : a.1 = b.1 := by
      by_cases e2 : b.1 ≤ a.2 - g
      · by_cases e3 : a.1 < b.1
        · exfalso
          by_cases e4 : a.1 ≤ b.1 - g
          · obtain ⟨u, hu, h1, h2⟩ := ha.m5 (b.1 - g) e4 (by omega)
            exact hb.m2 u hu ⟨h1, by omega⟩
          · exact hb.m2 a.1 ha.m1 ⟨by omega, e3⟩
        · omega
      · exact absurd ⟨(by omega : a.2 - g < b.1), (by omega : b.1 < a.2)⟩ (ha.m4 b.1 hb.m1)
    have e2 : a.2 = b.2 := by
      have l1 := ha.m6
      have l2 := hb.m6
      rcases Int.lt_trichotomy a.2 b.2 with h1 | h1 | h1
      · obtain ⟨u, hu, h3, h4⟩ := hb.m5 (a.2 - g) (by omega) (by omega)
        exact absurd ⟨h3, by omega⟩ (ha.m4 u hu)
      · exact h1
      · obtain ⟨u, hu, h3, h4⟩ := ha.m5 (b.2 - g) (by omega) (by omega)
        exact absurd ⟨h3, by omega⟩ (hb.m4 u hu)
    exact Prod.ext e1 e2
theorem M.congr {g : Int} {ts us : List Int} (h : ∀ x, x ∈ ts ↔ x ∈ us) {s : Sp2} (m : M g ts s) : M g us s :=
  ⟨(h _).mp m.m1, fun u hu => m.m2 u ((h _).mpr hu), (h _).mp m.m3, fun u hu => m.m4 u ((h _).mpr hu), fun x h1 h2 => by
    obtain ⟨u, hu, h3⟩ := m.m5 x h1 h2
    exact ⟨u, (h _).mp hu, h3⟩, m.m6⟩
structure Spans (g : Int) (ts : List Int) (S : List Sp2) : Prop where
  mem : ∀ s, s ∈ S ↔ M g ts s
  cover : ∀ u ∈ ts, ∃ s ∈ S, s.1 ≤ u ∧ u + g ≤ s.2
  asc : S.Pairwise fun a b => a.2 ≤ b.1
theorem Spans.congr {g : Int} {ts us : List Int} (h : ∀ x, x ∈ ts ↔ x ∈ us) {S : List Sp2} (m : Spans g ts S) : Spans g us S :=
  ⟨fun s => ⟨fun z => ((m.mem s).mp z).congr h, fun z => (m.mem s).mpr (z.congr fun x => (h x).symm)⟩, fun u hu => m.cover u ((h u).mpr hu), m.asc⟩
theorem asc_eq {g : Int} (hg : 0 < g) : ∀ {A B : List Sp2}, (∀ s ∈ A, s.1 + g ≤ s.2) → A.Pairwise (fun a b => a.2 ≤ b.1) → B.Pairwise (fun a b => a.2 ≤ b.1) → (∀ s, s ∈ A ↔ s ∈ B) → A = B
  | [], [], _, _, _, _ => rfl
  | [], b :: B, _, _, _, h => absurd ((h b).mpr List.mem_cons_self) (by simp)
  | a :: A, [], _, _, _, h => absurd ((h a).mp List.mem_cons_self) (by simp)
  | a :: A, b :: B, w, pa, pb, h => by
    have wB : ∀ s ∈ b :: B, s.1 + g ≤ s.2 := fun s hs => w s ((h s).mpr hs)
    rw [List.pairwise_cons] at pa pb
    have wa := w a List.mem_cons_self
    have wb := wB b List.mem_cons_self
    have e : a = b := by
      rcases List.mem_cons.mp ((h a).mp List.mem_cons_self) with z | z
      · exact z
      rcases List.mem_cons.mp ((h b).mpr List.mem_cons_self) with y | y
      · exact y.symm
      have h1 := pb.1 a z
      have h2 := pa.1 b y
      omega
    subst e
    have na : ∀ {C : List Sp2}, (∀ x ∈ C, a.2 ≤ x.1) → a ∉ C := fun hc hm => by
      have := hc a hm
      omega
    rw [asc_eq hg (fun s hs => w s (List.mem_cons_of_mem _ hs)) pa.2 pb.2 fun s => ?_]
    constructor
    · intro hs
      rcases List.mem_cons.mp ((h s).mp (List.mem_cons_of_mem _ hs)) with z | z
      · exact absurd (z ▸ hs) (na pa.1)
      · exact z
    · intro hs
      rcases List.mem_cons.mp ((h s).mpr (List.mem_cons_of_mem _ hs)) with z | z
      · exact absurd (z ▸ hs) (na pb.1)
      · exact z
theorem Spans.uniq {g : Int} (hg : 0 < g) {ts : List Int} {A B : List Sp2} (a : Spans g ts A) (b : Spans g ts B) : A = B :=
  asc_eq hg (fun s hs => ((a.mem s).mp hs).m6) a.asc b.asc fun s => (a.mem s).trans (b.mem s).symm
def ov (g t : Int) (s : Sp2) : Bool := decide (s.1 < t + g) && decide (t < s.2)
def inner (g t : Int) (S : List Sp2) : List Sp2 := S.filter (ov g t)
def others (g t : Int) (S : List Sp2) : List Sp2 := S.filter fun s => decide (s ∉ inner g t S)
theorem ov_iff {g t : Int} {s : Sp2} : ov g t s = true ↔ s.1 < t + g ∧ t < s.2 := by
  unfold ov
  simp
theorem mem_inner {g t : Int} {S : List Sp2} {s : Sp2} : s ∈ inner g t S ↔ s ∈ S ∧ s.1 < t + g ∧ t < s.2 := by
  unfold inner
  rw [List.mem_filter, ov_iff]
theorem mem_others {g t : Int} {S : List Sp2} {s : Sp2} : s ∈ others g t S ↔ s ∈ S ∧ ¬ (s.1 < t + g ∧ t < s.2) := by
  unfold others
  rw [List.mem_filter, decide_eq_true_eq, mem_inner]
  constructor
  · rintro ⟨h1, h2⟩; exact ⟨h1, fun h => h2 ⟨h1, h⟩⟩
  · rintro ⟨h1, h2⟩; exact ⟨h1, fun h => h2 h.2⟩
structure Joint (g t : Int) (S : List Sp2) (b e : Int) : Prop where
  b1 : b = t ∨ ∃ s ∈ inner g t S, b = s.1
  b2 : b ≤ t
  b3 : ∀ s ∈ inner g t S, b ≤ s.1
  e1 : e = t + g ∨ ∃ s ∈ inner g t S, e = s.2
  e2 : t + g ≤ e
  e3 : ∀ s ∈ inner g t S, s.2 ≤ e
section
variable {g t b e : Int} {ts : List Int} {S : List Sp2}
theorem joint_M (hg : 0 < g) (H : Spans g ts S) (J : Joint g t S b e) : M g (t :: ts) (b, e) := by
  have cov := H.cover
  refine ⟨?_, fun u hu => ?_, ?_, fun u hu => ?_, fun x h1 h2 => ?_, ?_⟩
  · rcases J.b1 with h | ⟨s, hs, h⟩
    · show b ∈ t :: ts
      rw [h]; exact List.mem_cons_self
    · show b ∈ t :: ts
      rw [h]
      exact List.mem_cons_of_mem _ ((H.mem s).mp (mem_inner.mp hs).1).m1
  · show ¬ (b - g < u ∧ u < b)
    rintro ⟨h1, h2⟩
    have hb := J.b2
    rcases List.mem_cons.mp hu with rfl | hu
    · omega
    · rcases J.b1 with h | ⟨s, hs, h⟩
      · obtain ⟨s', hs', h3, h4⟩ := cov u hu
        have := J.b3 s' (mem_inner.mpr ⟨hs', by omega, by omega⟩)
        omega
      · exact ((H.mem s).mp (mem_inner.mp hs).1).m2 u hu ⟨by omega, by omega⟩
  · show e - g ∈ t :: ts
    rcases J.e1 with h | ⟨s, hs, h⟩
    · have : e - g = t := by omega
      rw [this]; exact List.mem_cons_self
    · rw [h]
      exact List.mem_cons_of_mem _ ((H.mem s).mp (mem_inner.mp hs).1).m3
  · show ¬ (e - g < u ∧ u < e)
    rintro ⟨h1, h2⟩
    have he := J.e2
    rcases List.mem_cons.mp hu with rfl | hu
    · omega
    · rcases J.e1 with h | ⟨s, hs, h⟩
      · obtain ⟨s', hs', h3, h4⟩ := cov u hu
        have := J.e3 s' (mem_inner.mpr ⟨hs', by omega, by omega⟩)
        omega
      · exact ((H.mem s).mp (mem_inner.mp hs).1).m4 u hu ⟨by omega, by omega⟩
  · have h1 : b ≤ x := h1
    have h2 : x < e - g := h2
    show ∃ u ∈ t :: ts, x < u ∧ u < x + g
    by_cases hx : x < t
    · -- ahead of t: in the inner span that begins at b
      by_cases hx2 : t < x + g
      · exact ⟨t, List.mem_cons_self, hx, hx2⟩
      · rcases J.b1 with h | ⟨s, hs, h⟩
        · omega
        · obtain ⟨hs1, hs2, hs3⟩ := mem_inner.mp hs
          have m := (H.mem s).mp hs1
          obtain ⟨u, hu, h3⟩ := m.m5 x (by omega) (by omega)
          exact ⟨u, List.mem_cons_of_mem _ hu, h3⟩
    · rcases J.e1 with h | ⟨s, hs, h⟩
      · omega
      · obtain ⟨hs1, hs2, hs3⟩ := mem_inner.mp hs
        have m := (H.mem s).mp hs1
        by_cases hx3 : s.1 ≤ x
        · obtain ⟨u, hu, h3⟩ := m.m5 x hx3 (by omega)
          exact ⟨u, List.mem_cons_of_mem _ hu, h3⟩
        · exact ⟨s.1, List.mem_cons_of_mem _ m.m1, by omega, by omega⟩
  · have := J.b2
    have := J.e2
    show b + g ≤ e
    omega
theorem others_M (hg : 0 < g) (H : Spans g ts S) {s : Sp2} (h : s ∈ others g t S) : M g (t :: ts) s := by
  obtain ⟨h1, h2⟩ := mem_others.mp h
  have m := (H.mem s).mp h1
  have l := m.m6
  refine ⟨List.mem_cons_of_mem _ m.m1, fun u hu => ?_, List.mem_cons_of_mem _ m.m3, fun u hu => ?_, fun x h3 h4 => ?_, m.m6⟩
  · rcases List.mem_cons.mp hu with rfl | hu
    · omega
    · exact m.m2 u hu
  · rcases List.mem_cons.mp hu with rfl | hu
    · omega
    · exact m.m4 u hu
  · obtain ⟨u, hu, h5⟩ := m.m5 x h3 h4
    exact ⟨u, List.mem_cons_of_mem _ hu, h5⟩
theorem joint_mem (hg : 0 < g) (H : Spans g ts S) (J : Joint g t S b e) (s : Sp2) : s ∈ others g t S ++ [(b, e)] ↔ M g (t :: ts) s := by
  have mb := joint_M hg H J
  have lb := J.b2
  have le := J.e2
  rw [List.mem_append, List.mem_singleton]
  constructor
  · rintro (h | rfl)
    · exact others_M hg H h
    · exact mb
  · intro m
    have ls := m.m6
    have ap : s = (b, e) ∨ s.2 ≤ b ∨ e ≤ s.1 := by
      rcases Int.le_total s.1 b with h | h
      · rcases m.apart hg mb h with z | z
        · exact .inl z
        · exact .inr (.inl z)
      · rcases mb.apart hg m h with z | z
        · exact .inl z.symm
        · exact .inr (.inr z)
    rcases ap with z | ap
    · exact .inr z
    · left
      have notT : ∀ u, u ∈ t :: ts → s.1 ≤ u → u < s.2 → u ∈ ts := fun u hu h1 h2 => by
        rcases List.mem_cons.mp hu with rfl | hu
        · exfalso; omega
        · exact hu
      refine mem_others.mpr ⟨(H.mem s).mpr ⟨notT _ m.m1 (by omega) (by omega), fun u hu => m.m2 u (List.mem_cons_of_mem _ hu), notT _ m.m3 (by omega) (by omega), fun u hu => m.m4 u (List.mem_cons_of_mem _ hu), fun x h1 h2 => ?_, m.m6⟩, by omega⟩
      obtain ⟨u, hu, h3, h4⟩ := m.m5 x h1 h2
      exact ⟨u, notT u hu (by omega) (by omega), h3, h4⟩
theorem joint_cover (H : Spans g ts S) (J : Joint g t S b e) : ∀ u ∈ t :: ts, ∃ s ∈ others g t S ++ [(b, e)], s.1 ≤ u ∧ u + g ≤ s.2 := by
  intro u hu
  have lb := J.b2
  have le := J.e2
  have hm : (b, e) ∈ others g t S ++ [(b, e)] := List.mem_append.mpr (.inr (List.mem_singleton.mpr rfl))
  rcases List.mem_cons.mp hu with rfl | hu
  · exact ⟨(b, e), hm, lb, le⟩
  · obtain ⟨s, hs, h1, h2⟩ := H.cover u hu
    by_cases h : s.1 < t + g ∧ t < s.2
    · have hi := mem_inner.mpr ⟨hs, h⟩
      have := J.b3 s hi
      have := J.e3 s hi
      exact ⟨(b, e), hm, by show b ≤ u; omega, by show u + g ≤ e; omega⟩
    · exact ⟨s, List.mem_append.mpr (.inl (mem_others.mpr ⟨hs, h⟩)), h1, h2⟩
theorem asc_nodup (hg : 0 < g) : ∀ {A : List Sp2}, (∀ s ∈ A, s.1 + g ≤ s.2) → A.Pairwise (fun a b => a.2 ≤ b.1) → A.Nodup
  | [], _, _ => List.nodup_nil
  | a :: A, w, p => by
    rw [List.pairwise_cons] at p
    refine List.nodup_cons.mpr ⟨fun h => ?_, asc_nodup hg (fun s hs => w s (List.mem_cons_of_mem _ hs)) p.2⟩
    have := p.1 a h
    have := w a List.mem_cons_self
    omega
theorem joint_nodup (hg : 0 < g) (H : Spans g ts S) (J : Joint g t S b e) : (others g t S ++ [(b, e)]).Nodup := by
  have nS := asc_nodup hg (fun s hs => ((H.mem s).mp hs).m6) H.asc
  have lb := J.b2
  have le := J.e2
  refine List.nodup_append.mpr ⟨nS.filter _, by simp, fun x hx y hy => ?_⟩
  rw [List.mem_singleton] at hy
  subst hy
  rintro rfl
  have := (mem_others.mp hx).2
  exact this ⟨by show b < t + g; omega, by show t < e; omega⟩
def lt2 (a b : Sp2) : Bool := decide (a.1 < b.1) || (decide (a.1 = b.1) && decide (a.2 < b.2))
theorem asc_of_sorted (hg : 0 < g) {A : List Sp2} (hm : ∀ s ∈ A, M g ts s) (nd : A.Nodup) (so : A.Pairwise fun a b => lt2 b a = false) : A.Pairwise fun a b => a.2 ≤ b.1 := by
  induction A with
  | nil => exact .nil
  | cons a A ih =>
    rw [List.pairwise_cons] at so
    rw [List.nodup_cons] at nd
    refine List.pairwise_cons.mpr ⟨fun x hx => ?_, ih (fun s hs => hm s (List.mem_cons_of_mem _ hs)) nd.2 so.2⟩
    have h1 := so.1 x hx
    unfold lt2 at h1
    rw [Bool.or_eq_false_iff, decide_eq_false_iff_not] at h1
    rcases (hm a List.mem_cons_self).apart hg (hm x (List.mem_cons_of_mem _ hx)) (by omega) with z | z
    · exact absurd (z ▸ hx) nd.1
    · exact z
theorem joined_spans (hg : 0 < g) (H : Spans g ts S) (J : Joint g t S b e) {A : List Sp2} (pm : A.Perm (others g t S ++ [(b, e)])) (so : A.Pairwise fun a b => lt2 b a = false) : Spans g (t :: ts) A := by
  have hm : ∀ s, s ∈ A ↔ M g (t :: ts) s := fun s => (pm.mem_iff).trans (joint_mem hg H J s)
  refine ⟨hm, fun u hu => ?_, asc_of_sorted hg (fun s hs => (hm s).mp hs) (pm.nodup_iff.mpr (joint_nodup hg H J)) so⟩
  obtain ⟨s, hs, h⟩ := joint_cover H J u hu
  exact ⟨s, pm.mem_iff.mpr hs, h⟩
theorem taken_eq (hg : 0 < g) (H : Spans g ts S) {A : List Sp2} (pm : A.Perm (inner g t S)) (so : A.Pairwise fun a b => lt2 b a = false) : A = inner g t S := by
  have hi : ∀ s ∈ inner g t S, M g ts s := fun s hs => (H.mem s).mp (mem_inner.mp hs).1
  have ai : (inner g t S).Pairwise fun a b => a.2 ≤ b.1 := H.asc.filter _
  have nd : (inner g t S).Nodup := (asc_nodup hg (fun s hs => ((H.mem s).mp hs).m6) H.asc).filter _
  have hA : ∀ s ∈ A, M g ts s := fun s hs => hi s (pm.mem_iff.mp hs)
  exact asc_eq hg (fun s hs => (hA s hs).m6) (asc_of_sorted hg hA (pm.nodup_iff.mpr nd) so) ai fun s => pm.mem_iff
theorem taken_law (hg : 0 < g) (H : Spans g ts S) (J : Joint g t S b e) {A : List Sp2} (pm : A.Perm (others g t S ++ [(b, e)])) : S.filter (fun s => decide (s ∉ A) || decide (s = (b, e))) = inner g t S := by
  unfold inner
  refine List.filter_congr fun s hs => ?_
  have lb := J.b2
  have le := J.e2
  have hA : s ∈ A ↔ s ∈ others g t S ∨ s = (b, e) := by rw [pm.mem_iff, List.mem_append, List.mem_singleton]
  rw [Bool.eq_iff_iff, ov_iff, Bool.or_eq_true, decide_eq_true_eq, decide_eq_true_eq, hA, mem_others]
  constructor
  · rintro (h | rfl)
    · by_cases z : s.1 < t + g ∧ t < s.2
      · exact z
      · exact absurd (.inl ⟨hs, z⟩) h
    · exact ⟨by show b < t + g; omega, by show t < e; omega⟩
  · intro h
    by_cases z : s = (b, e)
    · exact .inr z
    · left
      rintro (y | y)
      · exact y.2 h
      · exact z y
end
def lsStep (g : Int) (acc : List Sp2) (t : Int) : List Sp2 :=
  match acc.getLast? with
  | some l => if t < l.2 then acc.dropLast ++ [(l.1, t + g)] else acc ++ [(t, t + g)]
  | none => [(t, t + g)]
theorem spans_nil {g : Int} : Spans g [] [] := ⟨fun s => ⟨fun h => by simp at h, fun m => absurd m.m1 (by simp)⟩, fun u hu => absurd hu (by simp), .nil⟩
theorem ls_spans {g t : Int} (hg : 0 < g) {ts : List Int} {S : List Sp2} (H : Spans g ts S) (ht : ∀ u ∈ ts, u ≤ t) : Spans g (t :: ts) (lsStep g S t) := by
  have hs1 : ∀ s ∈ S, s.1 ≤ t := fun s hs => ht _ ((H.mem s).mp hs).m1
  have hs2 : ∀ s ∈ S, s.2 ≤ t + g := fun s hs => by have := ht _ ((H.mem s).mp hs).m3; omega
  rcases List.eq_nil_or_concat S with rfl | ⟨init, l, rfl⟩
  · have J : Joint g t [] t (t + g) := ⟨.inl rfl, Int.le_refl _, fun s hs => absurd hs (by simp [inner]), .inl rfl, Int.le_refl _, fun s hs => absurd hs (by simp [inner])⟩
    exact joined_spans hg H J (A := [(t, t + g)]) (List.Perm.refl _) (by simp)
  · rw [List.concat_eq_append] at H hs1 hs2 ⊢
    have asc := H.asc
    rw [List.pairwise_append] at asc
    have hl := hs1 l (by simp)
    have hl2 := hs2 l (by simp)
    have ml := (H.mem l).mp (by simp)
    have noi : ∀ s ∈ init, s.2 ≤ t := fun s hs => by have := asc.2.2 s hs l (by simp); omega
    have w : ∀ s ∈ init ++ [l], s.1 + g ≤ s.2 := fun s hs => ((H.mem s).mp hs).m6
    unfold lsStep
    rw [List.getLast?_concat]
    show Spans g (t :: ts) (if t < l.2 then _ else _)
    by_cases h : t < l.2
    · rw [if_pos h, List.dropLast_concat]
      have hin : ∀ s, s ∈ inner g t (init ++ [l]) ↔ s = l := fun s => by
        rw [mem_inner]
        constructor
        · rintro ⟨h1, h2, h3⟩
          rcases List.mem_append.mp h1 with z | z
          · have := noi s z; omega
          · exact List.mem_singleton.mp z
        · rintro rfl
          exact ⟨by simp, by omega, h⟩
      have J : Joint g t (init ++ [l]) l.1 (t + g) := ⟨.inr ⟨l, (hin l).mpr rfl, rfl⟩, hl, fun s hs => by rw [(hin s).mp hs]; exact Int.le_refl _, .inl rfl, Int.le_refl _, fun s hs => by rw [(hin s).mp hs]; exact hl2⟩
      have eo : others g t (init ++ [l]) = init := by
        unfold others
        rw [List.filter_append, List.filter_eq_self.mpr fun s hs => ?_]
        · rw [List.filter_cons_of_neg (by simpa using (hin l).mpr rfl)]
          simp
        · rw [decide_eq_true_eq, hin]
          rintro rfl
          have h1 := noi s hs
          omega
      refine joined_spans hg H J (by rw [eo]) ?_
      refine List.pairwise_append.mpr ⟨asc.1.imp_of_mem fun {a b} ha hb hab => ?_, by simp, fun a ha b hb => ?_⟩
      · have := w a (by simp [ha])
        unfold lt2
        simp
        omega
      · rw [List.mem_singleton] at hb
        subst hb
        have h1 := asc.2.2 a ha l (by simp)
        have := w a (by simp [ha])
        unfold lt2
        simp
        omega
    · rw [if_neg h]
      have hin : ∀ s, s ∉ inner g t (init ++ [l]) := fun s hs => by
        obtain ⟨h1, h2, h3⟩ := mem_inner.mp hs
        rcases List.mem_append.mp h1 with z | z
        · have := noi s z; omega
        · rw [List.mem_singleton.mp z] at h3
          exact h h3
      have J : Joint g t (init ++ [l]) t (t + g) := ⟨.inl rfl, Int.le_refl _, fun s hs => absurd hs (hin s), .inl rfl, Int.le_refl _, fun s hs => absurd hs (hin s)⟩
      have eo : others g t (init ++ [l]) = init ++ [l] := by
        unfold others
        exact List.filter_eq_self.mpr fun s _ => by rw [decide_eq_true_eq]; exact hin s
      refine joined_spans hg H J (by rw [eo]) ?_
      refine List.pairwise_append.mpr ⟨H.asc.imp_of_mem fun {a b} ha hb hab => ?_, by simp, fun a ha b hb => ?_⟩
      · have := w a ha
        unfold lt2
        simp
        omega
      · rw [List.mem_singleton] at hb
        subst hb
        have h1 := hs1 a ha
        have h2 := hs2 a ha
        have := w a ha
        have h3 : a.2 ≤ t := by
          rcases List.mem_append.mp ha with z | z
          · exact noi a z
          · rw [List.mem_singleton.mp z]; omega
        unfold lt2
        simp
        omega
def lawSp (g : Int) (ts : List Int) : List Sp2 := ts.foldl (lsStep g) []
theorem lawSp_spans {g : Int} (hg : 0 < g) {ts : List Int} (so : ts.Pairwise (· ≤ ·)) : Spans g ts (lawSp g ts) := by
  have go : ∀ (r p : List Int) (S : List Sp2), Spans g p S → (∀ u ∈ p, ∀ v ∈ r, u ≤ v) → r.Pairwise (· ≤ ·) → Spans g (p ++ r) (r.foldl (lsStep g) S) := by
    intro r
    induction r with
    | nil => intro p S h _ _; simpa using h
    | cons t r ih =>
      intro p S h hp hr
      rw [List.pairwise_cons] at hr
      have h1 := ls_spans hg h fun u hu => hp u hu t List.mem_cons_self
      have h2 := ih (p ++ [t]) (lsStep g S t) (h1.congr fun x => by simp [or_comm]) (fun u hu v hv => ?_) hr.2
      · simpa using h2
      · rcases List.mem_append.mp hu with z | z
        · exact hp u z v (List.mem_cons_of_mem _ hv)
        · rw [List.mem_singleton.mp z]; exact hr.1 v hv
  exact go ts [] [] spans_nil (by simp) so
end Q1
set_option Elab.async false
set_option linter.all false
set_option maxRecDepth 100000
set_option maxHeartbeats 4000000
namespace SrtU
open PySem PyProof.Rows Srt SrtO
section
variable {prog : Program} {w : World} {A : Around} {E : Value → Shared → Prop} {s : Shared}
theorem collect_tup {l : Addr} {vs : List Value} {Q : List Value → Shared → Prop} (hl : s.heap.IsTuple l vs.toArray)
    (h : Q vs { s with heap := (s.heap.push (seqObj "list" #[] 0)).update s.heap.objs.size (Obj.mapSeq (· ++ vs.toArray)) }) (hsz : vs.length ≤ sizeLine) :
    wpAny (model prog w) A (collect (.ref l)) Q E s := by
  obtain ⟨o, ho, hc, n, hd⟩ := id hl
  unfold collect
  refine wpAny_bind (wpAny_runValue (codeAny_builtin entry_proto_collect' ?_))
  show wpAny _ _ (do again (.builtin "list.__iadd__" ⟨[← newList [], .ref l], []⟩)) _ _ s
  refine wpAny_bind (wpAny_newList (wpAny_pure ⟨Code.quiet_builtin _ (by decide +kernel), codeAny_builtin entry_list_iadd' ?_⟩))
  show wpAny _ _ (Builtin.List.listExtendWith (.ref s.heap.objs.size) (.ref l) (.ref s.heap.objs.size)) _ _ { s with heap := s.heap.push (seqObj "list" #[] 0) }
  unfold Builtin.List.listExtendWith
  have ho' : (s.heap.push (seqObj "list" #[] 0)).get? l = some o := Heap.get?_push_of_some _ ho
  refine wpAny_bind (wpAny_typeOf (T := "tuple") ⟨o, ho', hc⟩ ?_)
  have ht : (Value.type "tuple" == Value.type "tuple") = true := by rfl
  rw [if_pos (by rw [ht]; simp)]
  refine wpAny_bind (listItems_at ho' hd ?_)
  refine wpAny_bind (listItems_at (xs := #[]) (n := 0) (Heap.get?_push_size _ rfl) rfl ?_)
  rw [if_neg (by simp)]
  refine wpAny_bind (listUpdate_at (xs := #[]) (n := 0) (Heap.get?_push_size _ rfl) rfl ?_ (Nat.zero_le _) (by show (#[] ++ vs.toArray).size ≤ sizeLine + 1; simp only [Array.size_append, List.size_toArray, List.length_nil]; omega))
  refine wpAny_pure ?_
  show wpAny (model prog w) A (do
      let o ← load s.heap.objs.size
      match o.data with
      | .seq xs _ => pure xs.toList
      | _ => unsupported "internal:collect") Q E { s with heap := (s.heap.push (seqObj "list" #[] 0)).update s.heap.objs.size (Obj.mapSeq (· ++ vs.toArray)) }
  refine wpAny_bind (wpAny_load (get?_update_seq (Heap.get?_push_size _ rfl) _) ?_)
  show wpAny _ _ (pure ((#[] : Array Value) ++ vs.toArray).toList) Q E _
  rw [show ((#[] : Array Value) ++ vs.toArray).toList = vs by simp]
  exact wpAny_pure h
theorem sorted_ordT {l : Addr} {vs : List Value} {ltv : Value → Value → Bool} {Q : Value → Shared → Prop} (O : Swo ltv) (hl : s.heap.IsTuple l vs.toArray) (hz : vs.length ≤ sizeLine)
    (hS : 2 ≤ vs.length → ∀ (h₁ : Heap) (a : Addr), h₁.get? a = some (seqObj "list" vs.toArray 0) → (∀ b o, s.heap.get? b = some o → b ≠ a ∧ h₁.get? b = some o) → SortableO prog w A.in1.in1 { s with heap := h₁ } a vs ltv)
    (h : ∀ out : List Value, Srtd ltv out → Stb ltv out vs → Q (.ref (s.heap.objs.size + 1)) { s with heap := sortedAll s.heap vs out.toArray }) :
    wpAny (model prog w) A (call (.builtin "sorted") [.ref l]) Q E s := by
  refine Calls.call_function_entry kind_sorted plain_sorted entry_sorted (args_sorted1 _) ?_
  unfold Builtin.«sorted»
  refine wpAny_bind (m := checkCount "sorted" 1 1 _) (wpAny_pure ?_)
  refine wpAny_bind (collect_tup hl ?_ hz)
  refine wpAny_bind (wpAny_newList ?_ hz)
  have hsz : ((s.heap.push (seqObj "list" #[] 0)).update s.heap.objs.size (Obj.mapSeq (· ++ vs.toArray))).objs.size = s.heap.objs.size + 1 := by
    rw [Heap.size_update, size_push']
  have hoL : (((s.heap.push (seqObj "list" #[] 0)).update s.heap.objs.size (Obj.mapSeq (· ++ vs.toArray))).push (seqObj "list" vs.toArray 0)).get? (s.heap.objs.size + 1) = some (seqObj "list" vs.toArray 0) := by
    rw [← hsz]; exact Heap.get?_push_size _ rfl
  have keep : ∀ b o, s.heap.get? b = some o → b ≠ s.heap.objs.size + 1 ∧ (((s.heap.push (seqObj "list" #[] 0)).update s.heap.objs.size (Obj.mapSeq (· ++ vs.toArray))).push (seqObj "list" vs.toArray 0)).get? b = some o := fun b o q => by
    have hlt : b < s.heap.objs.size := Heap.lt_size q
    refine ⟨Nat.ne_of_lt (Nat.lt_succ_of_lt hlt), Heap.get?_push_of_some _ ?_⟩
    rw [Heap.get?_update_ne _ _ _ _ (Nat.ne_of_lt hlt)]
    exact Heap.get?_push_of_some _ q
  show wpAny _ _ _ _ _ { s with heap := ((s.heap.push (seqObj "list" #[] 0)).update s.heap.objs.size (Obj.mapSeq (· ++ vs.toArray))).push (seqObj "list" vs.toArray 0) }
  rw [hsz]
  refine wpAny_bind (wpAny_holding (wpAny_call_entry slot_list_sort ⟨_, hoL, rfl⟩ entry_list_sort (list_sort_ord O hoL hz (fun h2 => hS h2 _ _ hoL keep) fun out hs hb => ⟨_, rfl, ?_⟩) (args_list_sort _)))
  exact wpAny_pure ⟨_, rfl, h out hs hb⟩
theorem sorted_pairsT {l : Addr} {vs : List Value} {k : Value → Int × Int} {Q : Value → Shared → Prop} (hl : s.heap.IsTuple l vs.toArray) (hz : vs.length ≤ sizeLine) (hp : ∀ v ∈ vs, IsPair s.heap v (k v).1 (k v).2)
    (h : ∀ (h' : Heap) (d : Addr) (out : List Value), Srtd (fun v u => lexB (k v) (k u)) out → Stb (fun v u => lexB (k v) (k u)) out vs → (∀ b o, s.heap.get? b = some o → h'.get? b = some o) → s.heap.objs.size ≤ d → (∃ n, h'.get? d = some (seqObj "list" out.toArray n)) → Q (.ref d) { s with heap := h' }) :
    wpAny (model prog w) A (call (.builtin "sorted") [.ref l]) Q E s := by
  refine sorted_ordT (swo_lex k) hl hz (fun h2 h₁ a ha kk => ?_) fun out hs hb => ?_
  · refine pairs_sortableO (s := { s with heap := h₁ }) (by omega) (fun v hm => (hp v hm).keeps fun b o e _ => (kk b o e).2) fun o e => ?_
    have e' : some o = some (seqObj "list" vs.toArray 0) := e.symm.trans ha
    cases e'
    intro c
    exact absurd (Value.type.inj c) (by decide)
  · exact h _ _ out hs hb (fun b o e => sortedAll_old e) (Nat.le_succ _) (sortedAll_at s.heap vs out.toArray)
end
end SrtU
namespace R8
open PySem PySem.Spec PyProof.Rows L2 KB KC KS Q1
def pD (p : Sp2) : PyData := .tuple [.int p.1, .int p.2]
def Ps (H : Hp) (us : List Addr) (S : List Sp2) : Prop := Paired (fun (t : Addr) (p : Sp2) => H t = some (.tup [.int p.1, .int p.2])) us S
theorem paired_mono {α β : Type} {R R' : α → β → Prop} (f : ∀ a b, R a b → R' a b) : ∀ {l : List α} {m : List β}, Paired R l m → Paired R' l m
  | _, _, .nil => .nil
  | _, _, .cons h t => .cons (f _ _ h) (paired_mono f t)
theorem paired_app {α β : Type} {R : α → β → Prop} : ∀ {l l' : List α} {m m' : List β}, Paired R l m → Paired R l' m' → Paired R (l ++ l') (m ++ m')
  | _, _, _, _, .nil, h => h
  | _, _, _, _, .cons h t, h' => .cons h (paired_app t h')
theorem Ps.ex {H H' : Hp} {us : List Addr} {S : List Sp2} (p : Ps H us S) (e : ∀ b xs, H b = some (.tup xs) → H' b = some (.tup xs)) : Ps H' us S := paired_mono (fun a b h => e a _ h) p
theorem Ps.dp {K : PySem.W.Frag} {H : Hp} : ∀ {us : List Addr} {S : List Sp2}, Ps H us S → DpAll K H (us.map V.ref) (S.map pD)
  | _, _, .nil => .nil
  | _, _, .cons h t => .cons (.tup (SqT.of h) (.cons (.int _) (.cons (.int _) .nil))) (Ps.dp t)
theorem Ps.at {H : Hp} : ∀ {us : List Addr} {S : List Sp2}, Ps H us S → ∀ {i : Nat} {t : Addr}, us[i]? = some t → ∃ p, S[i]? = some p ∧ H t = some (.tup [.int p.1, .int p.2])
  | _, _, .nil, i, t, h => by simp at h
  | _, _, .cons (a := a) (b := b) h r, i, t, e => by
    cases i with
    | zero => cases e; exact ⟨b, rfl, h⟩
    | succ i => exact Ps.at r (i := i) e
theorem Ps.at2 {H : Hp} : ∀ {us : List Addr} {S : List Sp2}, Ps H us S → ∀ {i : Nat} {p : Sp2}, S[i]? = some p → ∃ t, us[i]? = some t ∧ H t = some (.tup [.int p.1, .int p.2])
  | _, _, .nil, i, t, h => by simp at h
  | _, _, .cons (a := a) (b := b) h r, i, t, e => by
    cases i with
    | zero => cases e; exact ⟨a, rfl, h⟩
    | succ i => exact Ps.at2 r (i := i) e
def kH (H : Hp) : V → Int × Int
  | .ref t => match H t with
    | some (.tup [.int i, .int j]) => (i, j)
    | _ => (0, 0)
  | _ => (0, 0)
theorem kH_at {H : Hp} {t : Addr} {p : Sp2} (h : H t = some (.tup [.int p.1, .int p.2])) : kH H (.ref t) = p := by
  unfold kH
  simp only [h]
theorem Ps.kH {H : Hp} : ∀ {us : List Addr} {S : List Sp2}, Ps H us S → (us.map V.ref).map (kH H) = S
  | _, _, .nil => rfl
  | _, _, .cons h t => by rw [List.map_cons, List.map_cons, kH_at h, Ps.kH t]
theorem eqv_pD (a b : Sp2) : PyData.eqv (pD a) (pD b) = decide (a = b) := by
  obtain ⟨a1, a2⟩ := a
  obtain ⟨b1, b2⟩ := b
  unfold pD
  simp only [PyData.eqv, PyData.eqvAll, Bool.and_true, Prod.mk.injEq]
  rw [Bool.eq_iff_iff]
  simp
theorem any_pD (S : List Sp2) (p : Sp2) : ((S.map pD).any fun z => PyData.eqv z (pD p)) = decide (p ∈ S) := by
  rw [Bool.eq_iff_iff, List.any_eq_true, decide_eq_true_eq]
  constructor
  · rintro ⟨z, hz, h⟩
    obtain ⟨q, hq, rfl⟩ := List.mem_map.mp hz
    rw [eqv_pD, decide_eq_true_eq] at h
    exact h ▸ hq
  · intro h
    exact ⟨pD p, List.mem_map.mpr ⟨p, h, rfl⟩, by rw [eqv_pD]; exact decide_eq_true rfl⟩
theorem shaped_pD (p : Sp2) : SeqAt.shaped (pD p) = true := by
  unfold SeqAt.shaped pD
  simp [PyData.canLay0, PyData.canLayAll0, PyData.depth, PyData.depthAll]
theorem lay_pD : ∀ S : List Sp2, PyData.canLayAll0 (S.map pD) = true
  | [] => by simp [PyData.canLayAll0]
  | p :: S => by
    rw [List.map_cons]
    unfold PyData.canLayAll0
    rw [lay_pD S]
    simp [pD, PyData.canLay0, PyData.canLayAll0]
def rInP (neg : Bool) : R2 := fun x y H Q => ∃ (t a : Addr) (p : Sp2) (us : List Addr) (S : List Sp2), x = .ref t ∧ y = .ref a ∧ H t = some (.tup [.int p.1, .int p.2]) ∧ H a = some (.tup (us.map V.ref)) ∧ Ps H us S ∧ Q (.bl (if neg then !decide (p ∈ S) else decide (p ∈ S))) H
section
variable {X : Cx}
theorem op_inP (hu : X.A.units + 65 < cLine) : OpR X (compareOp .In) (rInP false) := by
  intro pins s σ H x y v u Q I rx ry h
  obtain ⟨t, a, p, us, S, rfl, rfl, ht, ha, hp, q⟩ := h
  obtain ⟨as, r1⟩ := Dp.reads I (pD p) (.ref t) v (.tup (SqT.of ht) (.cons (.int _) (.cons (.int _) .nil))) rx
  obtain ⟨bs, r2⟩ := Dp.reads I (.tuple (S.map pD)) (.ref a) u (.tup (SqT.of ha) hp.dp) ry
  refine SeqAt.in_tuple_reads r2 r1 (lay_pD S) (SeqAt.canLay_of_shaped (shaped_pD p)) (room_in_shaped (shaped_pD p) hu) ⟨.bl _, H, I, rfl, ?_⟩
  rw [any_pD]
  exact q
theorem op_notInP (hu : X.A.units + 65 < cLine) : OpR X (compareOp .NotIn) (rInP true) := by
  intro pins s σ H x y v u Q I rx ry h
  obtain ⟨t, a, p, us, S, rfl, rfl, ht, ha, hp, q⟩ := h
  obtain ⟨as, r1⟩ := Dp.reads I (pD p) (.ref t) v (.tup (SqT.of ht) (.cons (.int _) (.cons (.int _) .nil))) rx
  obtain ⟨bs, r2⟩ := Dp.reads I (.tuple (S.map pD)) (.ref a) u (.tup (SqT.of ha) hp.dp) ry
  refine SeqAt.notIn_tuple_reads r2 r1 (lay_pD S) (SeqAt.canLay_of_shaped (shaped_pD p)) (room_in_shaped (shaped_pD p) hu) ⟨.bl _, H, I, rfl, ?_⟩
  rw [any_pD]
  exact q
end
theorem refs_ex : ∀ {l : List V}, (∀ v ∈ l, ∃ t, v = V.ref t) → ∃ us : List Addr, l = us.map V.ref
  | [], _ => ⟨[], rfl⟩
  | v :: l, h => by
    obtain ⟨t, rfl⟩ := h v List.mem_cons_self
    obtain ⟨us, rfl⟩ := refs_ex fun v hv => h v (List.mem_cons_of_mem _ hv)
    exact ⟨t :: us, rfl⟩
theorem ps_of {H : Hp} : ∀ {us : List Addr}, (∀ t ∈ us, ∃ p : Sp2, H t = some (.tup [.int p.1, .int p.2])) → Ps H us ((us.map V.ref).map (kH H))
  | [], _ => .nil
  | t :: us, h => by
    obtain ⟨p, hp⟩ := h t List.mem_cons_self
    refine .cons ?_ (ps_of fun u hu => h u (List.mem_cons_of_mem _ hu))
    rw [kH_at hp]
    exact hp
theorem Ps.mem {H : Hp} : ∀ {us : List Addr} {S : List Sp2}, Ps H us S → ∀ t ∈ us, ∃ p : Sp2, H t = some (.tup [.int p.1, .int p.2])
  | _, _, .nil, t, h => by simp at h
  | _, _, .cons (b := b) h r, t, ht => by
    rcases List.mem_cons.mp ht with rfl | ht
    · exact ⟨b, h⟩
    · exact Ps.mem r t ht
theorem lexB_lt2 {a b : Sp2} (h : SrtO.lexB a b = false) : lt2 a b = false := by
  have := SrtO.lexB_no.mp h
  unfold lt2
  rw [Bool.or_eq_false_iff, Bool.and_eq_false_iff, decide_eq_false_iff_not, decide_eq_false_iff_not, decide_eq_false_iff_not]
  omega
theorem sort_out {H : Hp} {us : List Addr} {S : List Sp2} {ys : List V} (hp : Ps H us S) (so : SrtO.Srtd (ltP (kH H)) ys) (st : SrtO.Stb (ltP (kH H)) ys (us.map V.ref)) :
    ∃ (us' : List Addr) (S' : List Sp2), ys = us'.map V.ref ∧ Ps H us' S' ∧ S'.Perm S ∧ S'.Pairwise (fun a b => lt2 b a = false) := by
  have pm := st.perm
  obtain ⟨us', rfl⟩ := refs_ex (l := ys) fun v hv => by
    obtain ⟨t, _, e⟩ := List.mem_map.mp (pm.mem_iff.mp hv)
    exact ⟨t, e.symm⟩
  refine ⟨us', (us'.map V.ref).map (kH H), rfl, ps_of fun t ht => ?_, ?_, ?_⟩
  · have := pm.mem_iff.mp (List.mem_map.mpr ⟨t, ht, rfl⟩)
    obtain ⟨t', ht', e⟩ := List.mem_map.mp this
    cases e
    exact hp.mem t ht'
  · rw [← hp.kH]
    exact pm.map _
  · refine List.pairwise_map.mpr (so.imp fun {a b} h => lexB_lt2 h)
def rSortPL : List V → Hp → VK → Prop := fun vs H Q => ∃ (a : Addr) (us : List Addr) (S : List Sp2), vs = [.ref a] ∧ (H a = some (.lst (us.map V.ref)) ∨ H a = some (.tup (us.map V.ref))) ∧ Ps H us S ∧
  ∀ (q : Addr) (us' : List Addr) (S' : List Sp2), H q = none → Ps H us' S' → S'.Perm S → S'.Pairwise (fun a b => lt2 b a = false) → Q (.ref q) (upd H q (.lst (us'.map V.ref)))
section
variable {X : Cx}
theorem cr_sortPL : CallR X (.builtin "sorted") rSortPL := by
  intro pins s σ H vs us0 Q I r h
  obtain ⟨a, us, S, rfl, ha | ha, hp, q⟩ := h
  · refine cr_sortedPO pins s σ H _ us0 Q I r ⟨a, us.map V.ref, kH H, rfl, SqL.of ha, fun x hx => ?_, fun ys p so st hn => ?_⟩
    · obtain ⟨t, ht, rfl⟩ := List.mem_map.mp hx
      obtain ⟨p, h⟩ := hp.mem t ht
      exact ⟨t, rfl, by rw [kH_at h]; exact h⟩
    · obtain ⟨us', S', rfl, h1, h2, h3⟩ := sort_out hp so st
      exact q p us' S' hn h1 h2 h3
  · obtain ⟨its, rv, hl, hz⟩ := I.tuple (SqT.of ha)
    obtain ⟨u, rfl, ru⟩ := vals1 r
    obtain rfl : u = Value.ref a := ru
    obtain ⟨e1, e2⟩ := refs_back rv fun x m => by
      obtain ⟨t, _, e⟩ := List.mem_map.mp m
      exact ⟨t, e.symm⟩
    refine SrtU.sorted_pairsT (k := fun u => kH H (backV u)) hl (by rw [← rv.length]; exact hz) (fun v hv => ?_) fun h' d out h1 h2 kp hd hn => ?_
    · obtain ⟨t, rfl⟩ := e2 v hv
      have hm : V.ref t ∈ us.map V.ref := by rw [e1]; exact List.mem_map.mpr ⟨_, hv, rfl⟩
      obtain ⟨t', ht', e⟩ := List.mem_map.mp hm
      cases e
      obtain ⟨p, hpt⟩ := hp.mem t ht'
      obtain ⟨_, its2, r2, o, ho, hc, n, hd⟩ := I.hok _ _ hpt
      obtain ⟨u1, u2, rfl, ri, rj⟩ := vals2 r2
      obtain ⟨t1, rfl⟩ := ri
      obtain ⟨t2, rfl⟩ := rj
      have e : kH H (backV (.ref t)) = p := kH_at hpt
      rw [e]
      exact ⟨t, o, t1, t2, n, rfl, ho, hc, hd⟩
    · have h3 : ∀ u ∈ out, ∃ a, u = Value.ref a := fun u hu => e2 u (h2.perm.mem_iff.mp hu)
      obtain ⟨n, hn⟩ := hn
      have hb : SrtO.Stb (ltP (kH H)) (out.map backV) (us.map V.ref) := by
        rw [e1]
        exact SrtO.Stb.map (ltP_swo (kH H)) backV h2
      obtain ⟨us', S', e, k1, k2, k3⟩ := sort_out hp (SrtO.srtd_map h1) hb
      have hq := q d us' S' (I.hok.fresh hd) k1 k2 k3
      rw [← e] at hq
      refine ⟨.ref d, upd H d (.lst (out.map backV)), I.laid (t' := s.toks) kp hd ⟨?_, out, n, vals_back h3, hn⟩, rfl, hq⟩
      rw [hb.len]
      exact hz
end
def minDef : List Int → Int → Int
  | [], d => d
  | n :: ns, _ => W.minOf n ns
theorem minOf_spec : ∀ (ns : List Int) (n : Int), W.minOf n ns ∈ n :: ns ∧ ∀ y ∈ n :: ns, W.minOf n ns ≤ y
  | [], n => ⟨List.mem_cons_self, fun y hy => by rw [List.mem_singleton.mp hy]; exact Int.le_refl _⟩
  | m :: ns, n => by
    have e : W.minOf n (m :: ns) = W.minOf (if m < n then m else n) ns := by
      unfold W.minOf
      rw [List.foldl_cons]
      have : (W.DatumOrd.lt m n = true) = (m < n) := by
        show (decide (m < n) = true) = _
        simp
      simp only [this]
    obtain ⟨h1, h2⟩ := minOf_spec ns (if m < n then m else n)
    rw [e]
    refine ⟨?_, fun y hy => ?_⟩
    · rcases List.mem_cons.mp h1 with h | h
      · rw [h]
        split
        · simp
        · simp
      · simp [h]
    · have h0 := h2 _ List.mem_cons_self
      rcases List.mem_cons.mp hy with e | hy
      · generalize W.minOf (if m < n then m else n) ns = z at h0
        split at h0 <;> omega
      rcases List.mem_cons.mp hy with e | hy
      · generalize W.minOf (if m < n then m else n) ns = z at h0
        split at h0 <;> omega
      · exact h2 y (List.mem_cons_of_mem _ hy)
theorem minDef_eq {ns : List Int} {d m : Int} (h : m ∈ ns) (hm : ∀ y ∈ ns, m ≤ y) : minDef ns d = m := by
  cases ns with
  | nil => simp at h
  | cons n ns =>
    obtain ⟨h1, h2⟩ := minOf_spec ns n
    show W.minOf n ns = m
    exact Int.le_antisymm (h2 m h) (hm _ h1)
def rMinDef (K : PySem.W.Frag) : List V → List V → Hp → VK → Prop := fun vs zs H Q => ∃ (a : Addr) (ns : List Int) (d : Int), vs = [.ref a] ∧ zs = [.int d] ∧ SqL K H a (ns.map V.int) ∧ Q (.int (minDef ns d)) H
theorem dp_ints {K : PySem.W.Frag} {H : Hp} : ∀ ns : List Int, DpAll K H (ns.map V.int) (ns.map PyData.int)
  | [] => .nil
  | n :: ns => .cons (.int _) (dp_ints ns)
theorem cr_minDef {X : Cx} (hc : X.calm = true) (hu : X.A.units + 66 < cLine) : CallRK X (.builtin "min") [Str.ofString "default"] (rMinDef X.K) := by
  intro pins s σ H xs zs us ws Q I r rz h
  obtain ⟨a, ns, d, rfl, rfl, ha, q⟩ := h
  obtain rfl := Vals.ref1 r
  obtain ⟨u, rfl, t, rfl⟩ := vals1 rz
  obtain ⟨its, rv, hl, hz⟩ := I.list ha
  obtain ⟨as, ra⟩ := Dp.readsAll I (ns.map PyData.int) _ its (dp_ints ns) rv
  show wpAny _ _ (call (.builtin "min") [.ref a] [(Str.ofString "default", .int d t)]) _ _ s
  refine W.min_list_datum_default (α := Int) (xs := ns) (I.ok.hd hc) hl.isList ⟨as, ra⟩ (by show X.A.units + 1 + 0 < cLine; omega) (fun e h' tk hk => ?_) fun y ys i v h' tk e hv hh hk => ?_
  · subst e
    exact ⟨.int d, H, I.kept (t' := tk) hk, ⟨t, rfl⟩, q⟩
  · subst e
    obtain ⟨bs, rb⟩ := hh
    have : ∃ t, v = Value.int (W.minOf y ys) t := by
      cases rb
      exact ⟨_, rfl⟩
    obtain ⟨t2, rfl⟩ := this
    exact ⟨.int _, H, I.kept (t' := tk) hk, ⟨t2, rfl⟩, q⟩
end R8
set_option Elab.async false
set_option linter.all false
set_option maxRecDepth 100000
set_option maxHeartbeats 4000000
namespace CP
open PySem PySem.Spec PyProof.Rows L2 KB KC KD LamX
def CloO (f : Addr) (q : Str) (params : Arguments) (body : Expr) (scope : Scope) (clo : List (Str × Addr)) (c' : Addr) : HO := .ext fun h => ∃ pm ctv, h.get? f = some (PySem.W.kla_obj "<lambda>" q params body scope clo pm c' ctv)
theorem cloO_ok {P : Program} {w : World} {H : Hp} {h : Heap} {f c' : Addr} {q : Str} {params : Arguments} {body : Expr} {scope : Scope} {clo : List (Str × Addr)} {pm ctv : Value} (e : h.get? f = some (PySem.W.kla_obj "<lambda>" q params body scope clo pm c' ctv)) :
    ObjOk P w H h f (CloO f q params body scope clo c') := ⟨⟨pm, ctv, e⟩, ⟨_, e⟩, fun h1 h2 ⟨a, b, z⟩ k => ⟨a, b, k _ z⟩⟩
def tClo (T : List (Addr × Str)) (q : Str) (params : Arguments) (body : Expr) (scope : Scope) (clo : List (Str × Addr)) : TE := fun _ H Q => Tabs T H ∧ ∀ f c' H1, ExtN H H1 → Tabs T H1 → H1 f = some (CloO f q params body scope clo c') → H1 c' = some (CodeO c' q) → H f = none → Q (.ref f) H1
section
variable {X : Cx}
theorem pe_cloV {T : List (Addr × Str)} {c P : Addr} {params : Arguments} {body : Expr} {scope : Scope} {pos : Pos} (TB : TabB X.base X.mg c P) (hcode : X.env.code = .ref c) (hm : (P, X.env.qual ++ "<lambda>") ∈ T) (hu : ∀ p ∈ T, p.1 = P → p.2 = X.env.qual ++ "<lambda>")
    (hdef : defaultsOf params X.env = ([], [])) (hfree : ∀ y ∈ scope.names, y.2 = .free → X.env.scope.names.lookup y.1 = some .cell ∨ X.env.scope.names.lookup y.1 = some .free) : PE X (.Lambda params body scope pos) (tClo T (X.env.qual ++ "<lambda>") params body scope (cloFrom X.env.cells scope.names [])) := by
  refine ⟨fun pins s σ H Q I h => ?_⟩
  obtain ⟨hT, h⟩ := h
  obtain ⟨ps, hP, ht, ha⟩ := hT _ hm
  refine PySem.W.kla_eval hdef ?_
  have bP : s.heap.BuiltinsAt X.mg P := TB.bm.keeps I.bk
  have hP' : s.heap.get? P = some { cls := .none, data := .fields ps } := I.hok P _ hP
  have hcl : closureFor scope X.env = pure (cloFrom X.env.cells scope.names []) := closure_ok fun y hy e => (hfree y hy e).elim (fun z => I.ok.has _ (.inl z)) fun z => I.ok.has _ (.inr z)
  have end_ : ∀ (c' : Addr) (ctv : Value) (H1 : Hp) (h' : Heap) (tk : Nat), Inv X pins σ H1 { s with heap := h', toks := tk } → s.heap.objs.size ≤ h'.objs.size → ExtN H H1 → Tabs T H1 → H1 h'.objs.size = none → H1 c' = some (CodeO c' (X.env.qual ++ "<lambda>")) →
      EP X pins σ Q (.ref h'.objs.size) { s with heap := h'.push (PySem.W.kla_obj "<lambda>" (X.env.qual ++ "<lambda>") params body scope (cloFrom X.env.cells scope.names []) ((X.mg "__name__").getD .none) c' ctv), toks := tk } := by
    intro c' ctv H1 h' tk I1 hz e1 t1 n1 co
    have J : Inv X pins σ (upd H1 h'.objs.size (CloO h'.objs.size (X.env.qual ++ "<lambda>") params body scope (cloFrom X.env.cells scope.names []) c')) { s with heap := h'.push (PySem.W.kla_obj "<lambda>" (X.env.qual ++ "<lambda>") params body scope (cloFrom X.env.cells scope.names []) ((X.mg "__name__").getD .none) c' ctv), toks := tk } :=
      I1.laid (t' := tk) (fun b u e => Heap.get?_push_of_some _ e) (Nat.le_refl _) (cloO_ok (Heap.get?_push_size _ rfl))
    exact ⟨.ref h'.objs.size, _, J, rfl, h h'.objs.size c' _ (e1.trans (extN_upd n1)) (tabs_upd t1 n1) upd_same (by rw [upd_ne (ne_of_none co n1)]; exact co) (I.hok.fresh hz)⟩
  cases hc : codeAmong pos ps.toList with
  | none =>
    refine PySem.W.kla_makeFunction (mg := X.mg) (c := c) (P := P) (ps := ps) hcl I.ok.glob (I.mod.glob.keeps I.bk) hcode (TB.code.keeps I.bk) hP' ht hc TB.gP bP fun c' ctv h' tk hx hge hlt hrec htb => ?_
    obtain ⟨c2, oc, vs, t, e2, hoc, hd, hv⟩ := hrec
    cases e2
    have nC : H c' = none := I.hok.fresh hge
    have nPc : P ≠ c' := ne_of_none hP nC
    have I1 := inv_table (t' := tk) (more := #[rawInt pos.line, rawInt pos.col, .ref c']) (h' := h') I hP hx htb hge ⟨oc, vs, t, hoc, hd, hv⟩
    have hE : ExtN H (upd (upd H P (.tbl (ps ++ #[rawInt pos.line, rawInt pos.col, .ref c']))) c' (CodeO c' (X.env.qual ++ "<lambda>"))) := fun b o e n => by
      rw [upd_ne (ne_of_none e nC), upd_ne (fun z => n ps (Option.some.inj (e.symm.trans (by rw [z]; exact hP))))]
      exact e
    have eL : (ps ++ #[rawInt pos.line, rawInt pos.col, .ref c']).toList = ps.toList ++ [rawInt pos.line, rawInt pos.col, .ref c'] := by simp
    refine end_ c' ctv _ h' tk I1 (Nat.le_trans hge (Nat.le_of_lt hlt)) hE (fun p hp => ?_) ?_ upd_same
    · by_cases hb : p.1 = P
      · rw [hu p hp hb, hb]
        refine ⟨_, by rw [upd_ne nPc, upd_same], by rw [eL]; exact PySem.TriplesOk_snoc _ _ _ _ ht, fun p' cv hcv => ?_⟩
        rw [eL] at hcv
        rcases among_app _ ht hcv with z | z
        · obtain ⟨c0, e1, e2⟩ := ha p' cv z
          exact ⟨c0, e1, hE _ _ e2 codeO_ne⟩
        · exact ⟨c', z, upd_same⟩
      · obtain ⟨ps', a1, a2, a3⟩ := hT p hp
        refine ⟨ps', by rw [upd_ne (ne_of_none a1 nC), upd_ne hb]; exact a1, a2, fun p' cv hcv => ?_⟩
        obtain ⟨c0, e1, e2⟩ := a3 p' cv hcv
        exact ⟨c0, e1, hE _ _ e2 codeO_ne⟩
    · have n1 : h'.objs.size ≠ c' := Nat.ne_of_gt hlt
      have n2 : h'.objs.size ≠ P := Nat.ne_of_gt (Nat.lt_of_lt_of_le (Heap.lt_size hP') (Nat.le_trans hge (Nat.le_of_lt hlt)))
      rw [upd_ne n1, upd_ne n2]
      exact I.hok.fresh (Nat.le_trans hge (Nat.le_of_lt hlt))
  | some cv =>
    obtain ⟨c', e, hco⟩ := ha pos cv hc
    subst e
    refine PySem.W.kla_makeFunctionHit (mg := X.mg) (c := c) (P := P) (ps := ps) hcl I.ok.glob (I.mod.glob.keeps I.bk) hcode (TB.code.keeps I.bk) hP' ht hc bP fun ctv h' tk hx hsz => ?_
    exact end_ c' ctv H h' tk (I.kept (t' := tk) hx) hsz (ExtN.refl H) hT (I.hok.fresh hsz) hco
end
structure LamP (sc scope : Scope) (pn y : Str) : Prop where
  kind : scope.kind = .function
  co : scope.isCoroutine = false
  gen : scope.isGenerator = false
  own : ∀ z ∈ scope.names, z.2 ≠ .cell
  par : scope.names.lookup pn = some .local
  fy : scope.names.lookup y = some .free
  ne : pn ≠ y
  free : ∀ z ∈ scope.names, z.2 = .free → sc.names.lookup z.1 = some .cell ∨ sc.names.lookup z.1 = some .free
def cxP (X : Cx) (A : Around) (s : Shared) (H : Hp) (E : XK) (scope : Scope) (f c' : Addr) (pn y : Str) : Cx := { lamCx X A X.stack s H E scope f c' with N := [pn, y] }
section
variable {X : Cx} {pins : List (Addr × Obj)} {σ : L2.St} {H : Hp} {s : Shared}
theorem clo_start {A : Around} {E : XK} {scope : Scope} {f c' : Addr} {h₁ : Heap} {tk j : Nat} {pn y : Str} {u : Value} {v vy : V} (I : Inv X pins σ H s) (L : LamP X.env.scope scope pn y) (e0 : Env0 X.prog X.w X.K X.mg X.base A X.stack s H) (hd : A.handled = none)
    (hns : h₁.Ns s.heap.objs.size fun z => ([(pn, u)] : List (Str × Value)).reverse.lookup z) (kp : ∀ b o, s.heap.get? b = some o → h₁.get? b = some o) (rv : RelV v u) (hy : X.N[j]? = some y) (hσ : σ[j]? = some (some vy)) :
    Inv (cxP X A s H E scope f c' pn y) [] [some v, some vy] H { s with heap := h₁, toks := tk } := by
  have down : ∀ {z c}, (cloFrom X.env.cells scope.names []).lookup z = some c → X.env.cells.lookup z = some c := fun {z c} e => by
    rcases cloFrom_mem (PySem.mem_of_lookup e) with hm | ⟨h1, h2⟩
    · cases hm
    · have hz : ∃ c1, X.env.cells.lookup z = some c1 := (L.free _ h1 rfl).elim (fun k => I.ok.has _ (.inl k)) fun k => I.ok.has _ (.inr k)
      obtain ⟨c1, hc⟩ := hz
      have e2 : c = c1 := by
        rw [h2, hc] <;> rfl
      rw [e2]
      exact hc
  have upw : ∀ {z}, scope.names.lookup z = some .free → ∃ c, (cloFrom X.env.cells scope.names []).lookup z = some c := fun {z} hl => by
    have hz : (z, NameKind.free) ∈ scope.names := PySem.mem_of_lookup hl
    exact mem_lookup (cloFrom_has (cells := X.env.cells) (acc := []) hz)
  have cellK : ∀ {c : Addr} {w' : Option Value}, s.heap.IsCell c w' → h₁.IsCell c w' := fun {c w'} ⟨o, ho, hd⟩ => ⟨o, kp _ _ ho, hd⟩
  have noA : ∀ b : Addr, b ∉ (cxP X A s H E scope f c' pn y).ex := fun b z => absurd (show b ∈ ([] : List Addr) from z) (by simp)
  have ok : (cxP X A s H E scope f c' pn y).Ok := ⟨e0.mod, L.kind, rfl, rfl, Nat.le_refl _, fun a b c e1 e2 => I.ok.inj a b c (down e1) (down e2), fun a ha => by
      have ha : scope.names.lookup a = some .cell ∨ scope.names.lookup a = some .free := ha
      rcases ha with ha | ha
      · exact absurd rfl (L.own _ (PySem.mem_of_lookup ha))
      · exact upw ha, fun a c z _ => (by
      have z : false = true := z
      cases z), fun _ => hd, Around.frames_deeper e0.frames, .inr ⟨rfl, rfl⟩, fun b z => absurd z (noA b), e0.bs, e0.bsz, fun b _ _ => noA b, fun b z => absurd z (noA b), e0.funs, e0.frf⟩
  refine ⟨ok, rfl, e0.bare, Un.kept kp, ⟨_, hns, fun i z v' e1 e2 e3 => ?_⟩, fun z c e => ?_, e0.hok.fresh (Nat.le_refl _), fun z c e => ?_, fun q hq => absurd (show q ∈ ([] : List (Addr × Obj)) ++ [] from hq) (by simp), e0.hok.kept kp, rfl⟩
  · match i, e1, e2 with
    | 0, e1, e2 =>
      cases e1
      cases e2
      exact ⟨u, rv, .inl ⟨L.par, by simp [List.lookup]⟩⟩
    | 1, e1, e2 =>
      cases e1
      cases e2
      obtain ⟨m, hn, hl⟩ := I.loc
      have hk := L.free _ (PySem.mem_of_lookup L.fy) rfl
      obtain ⟨w', r, q⟩ := hl j y vy hy hσ (hk.elim (fun k => .inr (.inl k)) fun k => .inr (.inr k))
      obtain ⟨c2, h2⟩ := upw L.fy
      refine ⟨w', r, .inr ⟨.inr L.fy, c2, h2, ?_⟩⟩
      have c1 := down h2
      rcases q with ⟨k', _⟩ | ⟨_, c3, e', z⟩
      · have k' : X.env.scope.names.lookup y = some .local := k'
        rcases hk with k2 | k2 <;> rw [show X.env.scope.names.lookup y = _ from k2] at k' <;> cases k'
      · rw [c1] at e'
        cases e'
        exact cellK z
    | i + 2, e1, e2 => cases e1
  · obtain ⟨w', z⟩ := I.cell z c (down e)
    exact ⟨w', cellK z⟩
  · exact I.freeC z c (down e)
theorem clo_run {A : Around} {E : XK} {k j : Nat} {f c' : Addr} {params : Arguments} {body : Expr} {scope : Scope} {pn y : Str} {u : Value} {v vy : V} {Q : VK} (I : Inv X pins σ H s) (L : LamP X.env.scope scope pn y) (hr : Room (k + 1) A) (e0 : Env0 X.prog X.w X.K X.mg X.base A X.stack s H)
    (hf : H f = some (CloO f (X.env.qual ++ "<lambda>") params body scope (cloFrom X.env.cells scope.names []) c')) (hc : H c' = some (CodeO c' (X.env.qual ++ "<lambda>")))
    (hb : ∀ pm ctv, BindsTo s (PySem.W.kla_fn "<lambda>" (X.env.qual ++ "<lambda>") params body scope (cloFrom X.env.cells scope.names []) pm (.ref c') ctv) ⟨[u], []⟩ [(pn, u)]) (rv : RelV v u) (hy : X.N[j]? = some y) (hσ : σ[j]? = some (some vy))
    (hbody : Room k (A.deeper (lamEnv X scope s.heap.objs.size f c')) → ∃ t, PE (cxP X A s H E scope f c' pn y) body t ∧ t [some v, some vy] H Q) :
    codeAny (model X.prog X.w) A (.call (.ref f) ⟨[u], []⟩) (CR (L2.CX X.prog X.w) X.stack X.prog X.w H s Q E) s := by
  obtain ⟨⟨pm, ctv, of1⟩, _, _⟩ := e0.hok f _ hf
  obtain ⟨⟨oc, vsc, t, hoc, hdc, hvc⟩, _, _⟩ := e0.hok c' _ hc
  refine PySem.W.kla_callFunE hr.depth of1 rfl L.co L.gen rfl ⟨c', oc, vsc, t, rfl, hoc, hdc, hvc⟩ ?_
  refine hb pm ctv _ _ _ _ ?_
  refine wpAny_newFunctionEnv (fun z hz => L.own z hz) (fun z hz => ?_) (fun h₁ hns hsb => ⟨I.nolimit.fresh _ hsb, ?_⟩) L.kind
  · rw [List.mem_singleton.mp hz]
    exact L.par
  · show codeAny _ _ (.expr body (lamEnv X scope s.heap.objs.size f c')) _ _
    have kp : ∀ b o, s.heap.get? b = some o → h₁.get? b = some o := fun b o e => hsb.extBut b o (Nat.ne_of_lt (Heap.lt_size e)) (Heap.get?_push_of_some _ e)
    have J : Inv (cxP X A s H E scope f c' pn y) [] [some v, some vy] H { s with heap := h₁, toks := s.toks + ([(pn, u)] : List (Str × Value)).length } := clo_start I L e0 hr.hd hns kp rv hy hσ
    obtain ⟨t, ht, hq⟩ := hbody (hr.deeper _)
    refine PySem.W.kla_codeExpr (wpAny_mono (ht.run [] _ _ H Q J hq) (fun v s' hq => ?_) fun e s' hq => hq)
    obtain ⟨w', H', J', rv, q⟩ := hq
    exact ⟨w', H', J'.os, J'.bare, J'.base, J'.hok, rv, q⟩
end
end CP
set_option Elab.async false
set_option linter.all false
set_option maxRecDepth 100000
set_option maxHeartbeats 4000000
namespace CP
open PySem PySem.Spec PyProof.Rows PySem.Calls L2 KB KC KD KS LamX PySem.SeqAt PySem.W
def KeyI (X : Cx) (σ : L2.St) (f : Addr) (H : Hp) (bs : List Str) (kf : Str → Int) : Prop :=
  ∀ x ∈ bs, ∀ (H1 : Hp), Ex H H1 → ∀ (pins : List (Addr × Obj)) (s1 : Shared) (v : Value) (R : Value → Shared → Prop), RelV (.str x) v → Inv X pins σ H1 s1 →
    (∀ t H2 s2, Inv X pins σ H2 s2 → Ex H1 H2 → Un (frs X.stack) [] H1 H2 s1.heap s2.heap → R (.int (kf x) t) s2) → wpAny (model X.prog X.w) X.A.in1.in1 (call (.ref f) [v]) R (fun _ _ => False) s1
theorem KeyI.ex {X : Cx} {σ : L2.St} {f : Addr} {H H1 : Hp} {bs : List Str} {kf : Str → Int} (k : KeyI X σ f H bs kf) (e : Ex H H1) : KeyI X σ f H1 bs kf := fun x hx H2 e2 => k x hx H2 (e.trans e2)
section
variable {X : Cx} {pins : List (Addr × Obj)} {σ : L2.St}
theorem each_vals {α : Type} {g : α → V} : ∀ {vs : List Value} {bs : List α}, Vals (bs.map g) vs → EachIs (fun v b => RelV (g b) v) vs bs
  | [], [], _ => .nil
  | v :: vs, b :: bs, .cons h r => .cons h (each_vals r)
  | [], _ :: _, r => by cases r
  | _ :: _, [], r => by cases r
theorem vals_each {α : Type} {g : α → V} : ∀ {vs : List Value} {bs : List α}, EachIs (fun v b => RelV (g b) v) vs bs → Vals (bs.map g) vs
  | _, _, .nil => .nil
  | _, _, .cons h r => .cons h (vals_each r)
theorem ints_each {h : Heap} {kf : Str → Int} : ∀ {vs : List Value} {bs : List Str}, EachIs (fun v b => RelV (V.int (kf b)) v) vs bs → EachIs (fun v b => ∃ as, Reads h v (PyData.int (kf b)) as) vs bs
  | _, _, .nil => .nil
  | _, _, .cons a r => by
    obtain ⟨t, rfl⟩ := a
    exact .cons ⟨[], .int _ t⟩ (ints_each r)
theorem sort_bodyI {f D : Addr} {H : Hp} {s : Shared} {h2 : Heap} {tk : Nat} {bs : List Str} {vs : List Value} {kf : Str → Int} {P : PySem.Fin → Shared → Prop} {E : Value → Shared → Prop}
    (I : Inv X pins σ H s) (hk : ∀ b o, s.heap.get? b = some o → h2.get? b = some o) (hD : h2.get? D = some (seqObj "list" vs.toArray 0)) (hsD : s.heap.objs.size ≤ D)
    (rv : Vals (bs.map V.str) vs) (hz : bs.length ≤ sizeLine) (hu : X.A.units + 66 < cLine) (hcall : KeyI X σ f H bs kf)
    (q : ∀ (H' : Hp) (s' : Shared), Inv X pins σ H' s' → Ex H H' → H D = none → H' D = some (.lst ((bs.mergeSort fun a b => decide (kf a ≤ kf b)).map V.str)) → P (.done (.ret .none)) s') :
    wpAny (model X.prog X.w) X.A.in1.in1 (ksk_tree D (.ref f) false) P E { s with heap := h2, toks := tk } := by
  have lv : vs.length = bs.length := by
    have := rv.length
    rw [List.length_map] at this
    exact this.symm
  have szl : vs.toArray.size = bs.length := by rw [List.size_toArray, lv]
  have nD : H D = none := I.hok.fresh hsD
  unfold ksk_tree
  refine wpAny_bind (listItems_at hD rfl ?_)
  refine wpAny_bind (listUpdate_at hD rfl ?_ (by rw [szl]; exact hz) (Nat.zero_le _))
  obtain ⟨e1, ho1⟩ : ∃ e1, (h2.update D (Obj.mapSeq fun _ => (#[] : Array Value))).get? D = some (seqObj "list" #[] e1) := ⟨_, get?_update_seq hD fun _ => #[]⟩
  refine wpAny_bind (seqEpoch_at ho1 rfl ?_)
  refine wpAny_bind (wpAny_newTuple ?_ (by show vs.length ≤ _; omega))
  refine wpAny_bind (wpAny_newList ?_ (Nat.zero_le _))
  refine wpAny_holding ?_
  generalize hh4 : (h2.update D (Obj.mapSeq fun _ => (#[] : Array Value))).push (seqObj "tuple" vs.toArray 0) = h4
  have z4 : h4.objs.size = h2.objs.size + 1 := by rw [← hh4, size_push', Heap.size_update]
  have keep4 : ∀ b o, b ≠ D → h2.get? b = some o → h4.get? b = some o := fun b o hb e => by
    rw [← hh4]
    exact Heap.get?_push_of_some _ ((Heap.get?_update_ne _ _ _ _ hb).trans e)
  have hD4 : h4.get? D = some (seqObj "list" #[] e1) := by rw [← hh4]; exact Heap.get?_push_of_some _ ho1
  have I1 : Inv X pins σ (upd H h4.objs.size (.lst [])) { s with heap := h4.push (seqObj "list" #[] 0), toks := tk } :=
    I.laid (t' := tk) (fun b o e => Heap.get?_push_of_some _ (keep4 b o (fun z => by rw [z] at e; exact absurd (Heap.lt_size e) (Nat.not_lt.mpr hsD)) (hk b o e))) (by rw [z4]; exact Nat.le_succ_of_le (Nat.le_trans hsD (Nat.le_of_lt (Heap.lt_size hD))))
      ⟨Nat.zero_le _, [], 0, .nil, Heap.get?_push_size _ rfl⟩
  have hkn : H h4.objs.size = none := I.hok.fresh (by rw [z4]; exact Nat.le_succ_of_le (Nat.le_trans hsD (Nat.le_of_lt (Heap.lt_size hD))))
  have hDk : D ≠ h4.objs.size := by rw [z4]; exact Nat.ne_of_lt (Nat.lt_succ_of_lt (Heap.lt_size hD))
  have hD2 : (upd H h4.objs.size (.lst [])) D = none := by rw [upd_ne hDk]; exact nD
  have fD : ∀ H', H' D = none → FpOk X pins H' D := fun H' n => I.fpOk hsD n
  have I3 : Inv X (pins ++ [(D, seqObj "list" #[] e1)]) σ (upd H h4.objs.size (.lst [])) { s with heap := h4.push (seqObj "list" #[] 0), toks := tk } := I1.pins_of fun p hp => by
    rcases List.mem_append.mp hp with hp | hp
    · exact I1.pin p (List.mem_append_right _ hp)
    · rw [List.mem_singleton.mp hp]
      obtain ⟨_, f1, f2, _⟩ := fD _ hD2
      exact ⟨Heap.get?_push_of_some _ hD4, hD2, f1, f2, fun v z => by cases z⟩
  unfold ksk_rest
  refine wpAny_bind (wpAny_rule ?_)
  first
    | rw [List.forIn_toArray]
    | (rw [← Array.forIn_toList]; simp only [List.toList_toArray])
  refine wpAny_bind (ksk_fold (fun i s' => ∃ (Hi : Hp), Inv X (pins ++ [(D, seqObj "list" #[] e1)]) σ Hi s' ∧ Ex H Hi ∧ Hi h4.objs.size = some (.lst ((bs.take i).map fun x => V.int (kf x)))) vs 0 _ ⟨_, I3, Ex.upd hkn, upd_same⟩ ?step ?done)
  case step =>
    rintro j v s' hv ⟨Hi, Ii, ei, hki⟩
    simp only [Nat.zero_add] at hki ⊢
    have jl : j < vs.length := (List.getElem?_eq_some_iff.mp hv).1
    obtain ⟨x, hx⟩ : ∃ x, bs[j]? = some x := ⟨_, List.getElem?_eq_getElem (by omega)⟩
    obtain ⟨v', hv', rx⟩ := rv.get (i := j) (x := .str x) (by rw [List.getElem?_map, hx]; rfl)
    obtain rfl : v' = v := Option.some.inj (hv'.symm.trans hv)
    have hxm : x ∈ bs := List.mem_of_getElem? hx
    refine wpAny_bind (wpAny_attempt (wpAny_mono (hcall x hxm Hi ei _ s' v' (fun u s'' => ∃ t H3, u = .int (kf x) t ∧ Inv X (pins ++ [(D, seqObj "list" #[] e1)]) σ H3 s'' ∧ Ex Hi H3) rx Ii fun t H3 s2 J e3 _ => ⟨t, H3, rfl, J, e3⟩) (fun u s'' he => ?_) fun _ _ hF => hF.elim))
    obtain ⟨t, H3, rfl, J, e3⟩ := he
    have hk3 := e3 _ _ hki
    obtain ⟨hzy, its, n, ri, hraw⟩ := lst_raw J hk3
    have il : its.length = j := by
      have := ri.length
      rw [List.length_map, List.length_take] at this
      omega
    try dsimp only
    refine wpAny_bind (listUpdate_at hraw rfl ?_ (by rw [List.size_toArray]; omega) (by rw [Array.size_push, List.size_toArray]; omega))
    have tk1 : (bs.take (j + 1)).map (fun x => V.int (kf x)) = (bs.take j).map (fun x => V.int (kf x)) ++ [V.int (kf x)] := by
      rw [List.take_add_one, hx, List.map_append]
      rfl
    refine wpAny_pure ⟨rfl, _, lst_write (tk := s''.toks) (zs := (bs.take (j + 1)).map fun x => V.int (kf x)) (vs := its ++ [.int (kf x) t]) J hk3 hraw (by rw [List.length_map, List.length_take]; omega) (by rw [tk1]; exact ri.append (.cons ⟨t, rfl⟩ .nil)) (·.push (.int (kf x) t)) (by simp), fun b o e => ?_, upd_same⟩
    rw [upd_ne (ne_of_none e hkn)]
    exact e3 _ _ (ei _ _ e)
  case done =>
    rintro s' ⟨Hi, Ii, ei, hki⟩
    rw [Nat.zero_add, List.take_of_length_le (by omega)] at hki
    obtain ⟨_, its, n, ri, hraw⟩ := lst_raw Ii hki
    have il : its.length = bs.length := by
      have := ri.length
      rw [List.length_map] at this
      exact this.symm
    try dsimp only
    refine wpAny_bind (listItems_at hraw rfl ?_)
    have hal : AllAlike (bs.map fun x => PyData.int (kf x)) := AllAlike.of fun _ _ => rfl
    have hsk : Sortable (bs.map fun x => PyData.int (kf x)) := Sortable.others fun _ => ⟨fun z => (nomatch z), fun _ z => (nomatch z)⟩
    have ek : EachIs (fun v d => ∃ as, Reads s'.heap v d as) its (bs.map fun x => PyData.int (kf x)) := each_map (R := fun v d => ∃ as, Reads s'.heap v d as) (fun x => PyData.int (kf x)) (ints_each (each_vals (g := fun x => V.int (kf x)) ri))
    have S : SortsAt X.prog X.w X.A.in1.in1 s' (dataKind s'.heap (bs.map fun x => PyData.int (kf x))) its := SortsAt.data (s := s') ek hal hsk fun d hd => by
      obtain ⟨x, _, rfl⟩ := List.mem_map.mp hd
      show X.A.units + 1 + 1 + (PyData.int (kf x)).depth < cLine
      have : (PyData.int (kf x)).depth = 0 := rfl
      omega
    obtain ⟨kd, hlt, hkd⟩ := S.kind
    have hK : PyProof.Rows.KeysOf (dataKind s'.heap (bs.map fun x => PyData.int (kf x))) (its.toArray.zip vs.toArray) := keysOf_zip (by rw [List.toList_toArray]; exact S.keys)
    have hss : (its.toArray.zip vs.toArray).size = vs.length := by rw [Array.size_zip, List.size_toArray, List.size_toArray]; omega
    have out_of : ∀ st' : SortSt, (arrOf st').Perm (its.toArray.zip vs.toArray) → SortedToK (dataKind s'.heap (bs.map fun x => PyData.int (kf x))) (arrOf st') (its.toArray.zip vs.toArray).size → Stable (dataKind s'.heap (bs.map fun x => PyData.int (kf x))) (arrOf st') (its.toArray.zip vs.toArray) →
        ((arrOf st').map (·.2)).toList = sortVals (dataKind s'.heap (bs.map fun x => PyData.int (kf x))) false its vs := fun st' hp hs ht => by
      have e := sort_out (rev := false) (keys := its.toArray) (items := vs.toArray) (xs := arrOf st') hK (by simpa using hp) (by simpa using hs) (by simpa using ht)
      simpa using e
    have eout : EachIs (fun v x => RelV (.str x) v) (sortVals (dataKind s'.heap (bs.map fun x => PyData.int (kf x))) false its vs) (bs.mergeSort fun a b => decide (kf a ≤ kf b)) := by
      have h := keyedOut_each (rev := false) (fun x => PyData.int (kf x)) ⟨s'.heap, its, hal, rfl, ek⟩ (each_vals (g := V.str) rv)
      rw [dataLe_int] at h
      exact h
    have vout : Vals ((bs.mergeSort fun a b => decide (kf a ≤ kf b)).map V.str) (sortVals (dataKind s'.heap (bs.map fun x => PyData.int (kf x))) false its vs) := vals_each (g := V.str) eout
    have lout : (bs.mergeSort fun a b => decide (kf a ≤ kf b)).length = bs.length := List.length_mergeSort ..
    have tail : ∀ st' : SortSt, ((arrOf st').map (·.2)).toList = sortVals (dataKind s'.heap (bs.map fun x => PyData.int (kf x))) false its vs → failedOf st' = none →
        wpAny (model X.prog X.w) X.A.in1.in1 (ksk_tail D false e1 (.ref h4.objs.size) st') P E s' := by
      intro st' ho hf
      have osz : ((arrOf st').map (·.2)).size = bs.length := by
        rw [← Array.length_toList, ho, ← vout.length, List.length_map, lout]
      have J1 := lst_write (tk := s'.toks) (zs := []) (vs := []) Ii hki hraw (Nat.zero_le _) .nil (fun _ => (#[] : Array Value)) rfl
      obtain ⟨pD, nD5, _⟩ := J1.pin (D, seqObj "list" #[] e1) (List.mem_append_right _ (List.mem_append_right _ (List.mem_singleton.mpr rfl)))
      unfold ksk_tail
      try dsimp only
      refine wpAny_bind (listUpdate_at hraw rfl ?_ (by rw [List.size_toArray]; omega) (Nat.zero_le _))
      refine wpAny_bind (wpAny_letGo ?_)
      refine wpAny_bind (seqEpoch_at pD rfl ?_)
      refine wpAny_bind (listUpdate_at pD rfl ?_ (Nat.zero_le _) (by simp only [Bool.false_eq_true, if_false]; rw [osz]; omega))
      rw [hf]
      simp only [bne_self_eq_false, Bool.false_eq_true, if_false]
      refine wpAny_pure ?_
      have J2 := J1.pins_of (pins' := pins) fun p hp => J1.pin p (List.mem_append_right _ (List.mem_append_left _ hp))
      have eD := get?_update_seq pD fun _ => (arrOf st').map (·.2)
      have J3 := J2.take (t' := s'.toks) (o := .lst ((bs.mergeSort fun a b => decide (kf a ≤ kf b)).map V.str)) (h' := (s'.heap.update h4.objs.size (Obj.mapSeq fun _ => (#[] : Array Value))).update D (Obj.mapSeq fun _ => (arrOf st').map (·.2))) (fun b u hb e => (Heap.get?_update_ne _ _ _ _ hb).trans e) (fD _ nD5)
        ⟨by rw [List.length_map, lout]; exact hz, _, _, vout, by rw [← ho, Array.toArray_toList]; exact eD⟩
      refine q _ _ J3 (fun b o e => ?_) nD upd_same
      rw [upd_ne (ne_of_none e nD), upd_ne (ne_of_none e hkn)]
      exact ei b o e
    unfold ksk_end
    simp only [Bool.false_eq_true, if_false]
    by_cases h2s : vs.toArray.size < 2
    · rw [if_pos h2s, if_pos h2s]
      refine wpAny_bind (wpAny_pure ?_)
      rw [StateT.run_pure]
      refine wpAny_bind (wpAny_pure ?_)
      try dsimp only
      refine tail (SortSt.mk' general' (its.toArray.zip vs.toArray) #[] 7 none) (out_of _ (Array.Perm.refl _) (fun i j hij hj => ?_) (Stable.refl _)) rfl
      rw [hss] at hj
      rw [List.size_toArray] at h2s
      have : i = j := by omega
      subst this
      exact KeyOrd.kle_refl _
    · rw [if_neg h2s, if_neg h2s]
      rw [List.size_toArray] at h2s
      refine wpAny_bind (hkd (by omega) _ ?_)
      refine wpAny_bind (wpAny_mono (PyProof.Rows.H.wpS_sortRunsSt (kd := kd) (a₀ := its.toArray.zip vs.toArray) (st := SortSt.mk' kd (its.toArray.zip vs.toArray) #[] 7 none)
        (Q := fun _ st' => failedOf st' = none ∧ ((arrOf st').map (·.2)).toList = sortVals (dataKind s'.heap (bs.map fun x => PyData.int (kf x))) false its vs)
        hlt hK ⟨Array.Perm.refl _, rfl, rfl⟩ rfl (Stable.refl _) (by rw [hss]; omega) fun st' a1 a2 a3 a4 => ⟨a2, out_of st' a1 a3 a4⟩) ?_ fun _ _ e => e)
      rintro ⟨⟨⟩, st'⟩ s'' ⟨rfl, hf, ho⟩
      try dsimp only at ho ⊢
      exact tail st' ho hf
end
end CP
set_option Elab.async false
set_option linter.all false
set_option maxRecDepth 100000
set_option maxHeartbeats 4000000
namespace CP
open PySem PySem.Spec PyProof.Rows PySem.Calls L2 KB KC KD KS LamX PySem.SeqAt PySem.W
section
variable {prog : Program} {w : World} {A : Around} {E : Value → Shared → Prop} {s : Shared} {T : String} {r d : Addr} {n : Nat} {P : Nat → Value → Prop} {OK : Heap → Prop}
theorem collect_src {R : List Value → Shared → Prop} (K : KdlSrc prog w T r d n P OK) (hh : A.handled = none) (hok : OK s.heap) (hn : n ≤ sizeLine)
    (h : ∀ (h' : Heap) (tk : Nat) (acc : Array Value), (∀ b o, s.heap.get? b = some o → h'.get? b = some o) → s.heap.objs.size < h'.objs.size → ItemsOf P acc n → R acc.toList { s with heap := h', toks := tk }) :
    wpAny (model prog w) A (collect (.ref r)) R E s := by
  have hlt := K.there _ hok
  unfold collect
  refine wpAny_bind (wpAny_runValue (codeAny_builtin PyProof.Rows.entry_proto_collect' ?_))
  rw [Around.under_plainId PySem.F.plain_proto_collect _]
  show wpAny _ A.in1 (newList [] >>= fun l => again (.builtin "list.__iadd__" ⟨[l, .ref r], []⟩)) _ _ s
  refine wpAny_bind (wpAny_newObj_type ?_)
  refine wpAny_pure ⟨plainId_quiet PySem.F.plain_list_iadd _, codeAny_builtin PyProof.Rows.entry_list_iadd' ?_⟩
  rw [Around.under_plainId PySem.F.plain_list_iadd _]
  have hS₁ : (s.heap.push { cls := .type "list", data := .seq ([] : List Value).toArray }).get? s.heap.objs.size = some { cls := .type "list", data := .seq #[] } := Heap.get?_push_size _ rfl
  show wpAny _ A.in1 (Builtin.List.listExtendWith (.ref s.heap.objs.size) (.ref r) (.ref s.heap.objs.size)) _ _ _
  have key := kdl_extend (A := A) (s := { s with heap := s.heap.push { cls := .type "list", data := .seq ([] : List Value).toArray } })
    (R := fun (q : Result) (s' : Shared) => ∃ (h' : Heap) (tk : Nat) (acc' : Array Value) (c' : Nat), q = .ok (.ret (.ref s.heap.objs.size)) ∧ s' = { s with heap := h', toks := tk } ∧
      (∀ b o, s.heap.get? b = some o → h'.get? b = some o) ∧ h'.get? s.heap.objs.size = some { cls := .type "list", dict := none, data := .seq acc' c', slots := #[] } ∧ ItemsOf P acc' n)
    K hh (K.keep _ _ hok fun b _ o e => Heap.get?_push_of_some _ e) s.heap.objs.size (Nat.ne_of_gt hlt.1) (Nat.ne_of_gt hlt.2) (.ref s.heap.objs.size) 0 hS₁
    (fun h' tk acc' c' hk hS' hacc => ⟨h', tk, acc', c', rfl, rfl, fun b o e => hk b o (Nat.ne_of_lt (Heap.lt_size e)) (Heap.get?_push_of_some _ e), hS', hacc⟩) hn
  refine wpAny_mono key (fun fin s' x => ?_) fun e s' x => ?_
  · cases fin with
    | done f =>
      obtain ⟨h', tk, acc', c', e, rfl, hk, hS', hacc⟩ := x
      cases e
      show wpAny _ A (load s.heap.objs.size >>= _) _ _ _
      refine wpAny_bind (wpAny_load hS' ?_)
      refine wpAny_pure ?_
      exact h h' tk acc' hk (Heap.lt_size hS') hacc
    | again c₁ =>
      refine ⟨x.1, codeAny_mono x.2 fun q s₂ y => ?_⟩
      obtain ⟨h', tk, acc', c', rfl, rfl, hk, hS', hacc⟩ := y
      show wpAny _ A (load s.heap.objs.size >>= _) _ _ _
      refine wpAny_bind (wpAny_load hS' ?_)
      refine wpAny_pure ?_
      exact h h' tk acc' hk (Heap.lt_size hS') hacc
  · obtain ⟨_, _, _, _, e', _⟩ := x
    cases e'
end
theorem vals_keys {prog : Program} {w : World} {kvs : List (Key × V)} {vs : List (Key × Value)} (rk : kvs.map (·.1) = vs.map (·.1)) {acc : Array Value} (hacc : ItemsOf (fun i v => ∃ k x, vs[i]? = some (k, x) ∧ (mixKind prog w).is k v = true) acc vs.length) : Vals (kvs.map fun kv => kV kv.1) acc.toList := by
  have hl : kvs.length = vs.length := by
    have := congrArg List.length rk
    simpa using this
  have el : acc.toList.length = acc.size := by simp
  refine vals_of_at (by rw [List.length_map, el, hacc.1, hl]) fun j x u h1 h2 => ?_
  obtain ⟨k, y, hky, hi⟩ := hacc.2 j u (by rw [← Array.getElem?_toList]; exact h2)
  have e1 : (kvs.map (·.1))[j]? = some k := by
    rw [rk, List.getElem?_map, hky] <;> rfl
  have e2 : (kvs.map fun kv => kV kv.1)[j]? = some (kV k) := by
    have e3 : (kvs.map fun kv => kV kv.1) = (kvs.map (·.1)).map kV := by rw [List.map_map] <;> rfl
    rw [e3, List.getElem?_map, e1] <;> rfl
  rw [e2] at h1
  cases h1
  exact keyIs_rel hi
section
variable {X : Cx} {pins : List (Addr × Obj)} {σ : L2.St}
theorem collect_dK {A : Around} {s : Shared} {H : Hp} {p : Addr} {kvs : List (Key × V)} {R : List Value → Shared → Prop} {E : Value → Shared → Prop} (I : Inv X pins σ H s) (hh : A.handled = none) (hp : H p = some (.dK kvs))
    (h : ∀ (h' : Heap) (tk : Nat) (us : List Value), (∀ b o, s.heap.get? b = some o → h'.get? b = some o) → s.heap.objs.size < h'.objs.size → Vals (kvs.map fun kv => kV kv.1) us → kvs.length ≤ sizeLine → R us { s with heap := h', toks := tk }) :
    wpAny (model X.prog X.w) A (collect (.ref p)) R E s := by
  obtain ⟨z, lo, vs, rk, hd⟩ := (show ObjOk X.prog X.w H s.heap p (.dK kvs) from I.hok p _ hp)
  obtain ⟨ep, hat⟩ := hd.dictAt
  have hl : kvs.length = vs.length := Paired.length rk
  exact collect_src (kdl_dict (knd := mixKind X.prog X.w) (kvs := vs) (ep := ep) lo) hh hat (by rw [← hl]; exact z) fun h' tk acc hk hlt hacc => h h' tk acc.toList hk hlt (vals_keys (KV.keys rk) hacc) z
def rSortDS : List V → Hp → VK → Prop := fun xs H Q => ∃ (p : Addr) (kvs : List (Key × V)) (bs : List Str), xs = [.ref p] ∧ H p = some (.dK kvs) ∧ kvs.map (fun kv => kV kv.1) = bs.map V.str ∧ ∀ D, H D = none → Q (.ref D) (upd H D (.lst ((bs.mergeSort fun a b => decide (a.cps.toList ≤ b.cps.toList)).map V.str)))
def rSortDI : List V → Hp → VK → Prop := fun xs H Q => ∃ (p : Addr) (kvs : List (Key × V)) (bs : List Int), xs = [.ref p] ∧ H p = some (.dK kvs) ∧ kvs.map (fun kv => kV kv.1) = bs.map V.int ∧ ∀ D, H D = none → Q (.ref D) (upd H D (.lst ((bs.mergeSort fun a b => decide (a ≤ b)).map V.int)))
theorem sorted_flat {α : Type} {enc : α → PyData} {g : α → V} {bs : List α} {le : α → α → Bool} {s : Shared} {H : Hp} {p : Addr} {kvs : List (Key × V)} {Q : VK} (hc : X.calm = true) (hu : X.A.units + 66 < cLine) (I : Inv X pins σ H s) (hp : H p = some (.dK kvs)) (hb : kvs.map (fun kv => kV kv.1) = bs.map g)
    (hal : ∀ b b', alike (enc b) (enc b') = true) (hk : ∀ b, enc b ≠ .none ∧ ∀ xs, enc b ≠ .tuple xs) (hd : ∀ b, (enc b).depth ≤ 1) (hle : dataLe false enc = le) (rd : ∀ (h : Heap) (b : α) (v : Value), RelV (g b) v → Reads h v (enc b) [])
    (q : ∀ D, H D = none → Q (.ref D) (upd H D (.lst ((bs.mergeSort le).map g)))) : wpAny (model X.prog X.w) X.A (call (.builtin "sorted") [.ref p]) (EP X pins σ Q) X.xe s := by
  refine call_function_entry kind_sorted plain_sorted entry_sorted (args_sorted1 _) ?_
  unfold Builtin.«sorted»
  refine wpAny_bind (m := checkCount "sorted" 1 1 _) (wpAny_pure ?_)
  refine wpAny_bind (collect_dK (A := X.A.in1) I (I.ok.hd hc) hp fun h' tk us hkp hlt rv hz => ?_)
  rw [hb] at rv
  have lu : bs.length = us.length := by
    have := rv.length
    rw [List.length_map] at this
    exact this
  have lz : bs.length ≤ sizeLine := by
    have := congrArg List.length hb
    rw [List.length_map, List.length_map] at this
    omega
  refine wpAny_bind (wpAny_newList ?_ (by show us.length ≤ _; omega))
  have hoL : (h'.push (seqObj "list" us.toArray 0)).get? h'.objs.size = some (seqObj "list" us.toArray 0) := Heap.get?_push_size _ rfl
  have er : EachIs (fun v b => ∃ as, Reads (h'.push (seqObj "list" us.toArray 0)) v (enc b) as ∧ h'.objs.size ∉ as) us bs := by
    have := each_vals (g := g) rv
    clear hoL rv lu
    exact go this
  refine wpAny_bind (wpAny_holding ?_)
  refine list_sort_data (A := X.A.in1) (s := { s with heap := h'.push (seqObj "list" us.toArray 0), toks := tk }) (a := h'.objs.size) (n := 0) (enc := enc) (R := fun v b => RelV (g b) v) hoL (each_vals (g := g) rv) er (AllAlike.of hal) (Sortable.others hk) lz (fun b _ => by
    have := hd b
    show X.A.units + 1 + 1 + (enc b).depth < cLine
    omega) fun out hol eo => ?_
  rw [hle] at eo
  have vo := vals_each (g := g) eo
  refine wpAny_pure ⟨_, rfl, ?_⟩
  obtain ⟨e, he⟩ := sortedHeap_at (out := (List.toArray out)) (vs := us) hoL
  have J := I.laid (t' := tk) (a := h'.objs.size) (o := .lst ((bs.mergeSort le).map g)) (h' := sortedHeap (h'.push (seqObj "list" us.toArray 0)) h'.objs.size us (List.toArray out)) (fun b u e1 => by
      have e2 := hkp b u e1
      have l2 := Heap.lt_size e2
      rw [sortedHeap_old (Nat.ne_of_lt l2) (by rw [Heap.size_push]; exact Nat.lt_succ_of_lt l2)]
      exact Heap.get?_push_of_some _ e2) (Nat.le_of_lt hlt) ⟨by rw [List.length_map, List.length_mergeSort]; exact lz, out, e, vo, he⟩
  exact ⟨.ref h'.objs.size, _, J, rfl, q _ (I.hok.fresh (Nat.le_of_lt hlt))⟩
where
  go {h' : Heap} {us : List Value} : ∀ {vs : List Value} {cs : List α}, EachIs (fun v b => RelV (g b) v) vs cs → EachIs (fun v b => ∃ as, Reads (h'.push (seqObj "list" us.toArray 0)) v (enc b) as ∧ h'.objs.size ∉ as) vs cs
    | _, _, .nil => .nil
    | _, _, .cons a r => .cons ⟨[], rd _ _ _ a, by simp⟩ (go r)
theorem cr_sortDS (hc : X.calm = true) (hu : X.A.units + 66 < cLine) : CallR X (.builtin "sorted") rSortDS := by
  intro pins s σ H xs us Q I r h
  obtain ⟨p, kvs, bs, rfl, hp, hb, q⟩ := h
  rw [Vals.ref1 r]
  exact sorted_flat (enc := fun x : Str => PyData.str x) hc hu I hp hb (fun _ _ => rfl) (fun _ => ⟨fun z => (nomatch z), fun _ z => (nomatch z)⟩) (fun _ => by simp [PyData.depth]) (dataLe_str fun x => x) (fun h b v ⟨t, e⟩ => by rw [e]; exact .str b t) q
theorem cr_sortDI (hc : X.calm = true) (hu : X.A.units + 66 < cLine) : CallR X (.builtin "sorted") rSortDI := by
  intro pins s σ H xs us Q I r h
  obtain ⟨p, kvs, bs, rfl, hp, hb, q⟩ := h
  rw [Vals.ref1 r]
  exact sorted_flat (enc := fun x : Int => PyData.int x) hc hu I hp hb (fun _ _ => rfl) (fun _ => ⟨fun z => (nomatch z), fun _ z => (nomatch z)⟩) (fun _ => by simp [PyData.depth]) (dataLe_int fun x => x) (fun h b v ⟨t, e⟩ => by rw [e]; exact .int b t) q
end
end CP
set_option Elab.async false
set_option linter.all false
set_option maxRecDepth 100000
set_option maxHeartbeats 4000000
namespace CP
open PySem PySem.Spec PyProof.Rows PySem.Calls L2 KB KC KD KS LamX PySem.SeqAt PySem.W
def CallS (X : Cx) (f : Value) (ks : List Str) (r : L2.St → List V → List V → Hp → VK → Prop) : Prop :=
  ∀ (pins : List (Addr × Obj)) (s : Shared) (σ : L2.St) (H : Hp) (xs zs : List V) (us ws : List Value) (Q : VK), Inv X pins σ H s → Vals xs us → Vals zs ws → r σ xs zs H Q → wpAny (model X.prog X.w) X.A (call f us (ks.zip ws)) (EP X pins σ Q) X.xe s
section
variable {X : Cx}
theorem pe_callS {x : Str} {p pos : Pos} {e : Expr} {es : List Expr} {kws : List Keyword} {t tk : TA} {id : String} {ks : List Str} {r : L2.St → List V → List V → Hp → VK → Prop} (hc : CallS X (.builtin id) ks r) (hg : Gl X x) (hm : X.mg x = none) (hv : bootBuiltins x = some (.builtin id)) (ha : PA X (e :: es) t) (hk : PK X kws tk) (hn : x ≠ "__name__" := by decide) (hdb : (x == ("__debug__" : Str)) = false := by decide)
    (h1 : backTo pos (starEach (e :: es) X.env) = (false, eval e X.env) :: backTo pos (starEach es X.env) := by rfl) (h2 : (backTo pos (starEach (e :: es) X.env)).any (·.1) = false := by rfl)
    (h3 : (backToKw pos (keywordEach kws X.env)).all (·.1.isSome) = true := by rfl) (h4 : (backToKw pos (keywordEach kws X.env)).any (·.1.isNone) = false := by rfl) (h5 : (backToKw pos (keywordEach kws X.env)).filterMap (·.1) = ks := by rfl) :
    PE X (.Call (.Name x p) (e :: es) kws pos) (fun σ H Q => t σ H fun vs H1 => tk σ H1 fun zs H2 => r σ vs zs H2 Q) := by
  refine ⟨fun pins s σ H Q I h => wpAny_Call_Name_kw (ld_blt I hg hm hv ?_ hn hdb)⟩
  refine PyProof.Rows.callWith_kw (thn (ha.run pos pins s σ H _ I h) fun us sA ⟨vs, HA, IA, rA, qA⟩ => thn (hk.run pos pins sA σ HA _ IA qA) fun ws sB ⟨zs, HB, IB, rB, qB⟩ => ?_) h1 h2 h3 h4
  rw [h5]
  exact hc pins sB σ HB vs zs us ws Q IB rA rB qB
def rSortKC (X : Cx) : L2.St → List V → List V → Hp → VK → Prop := fun σ xs zs H Q => ∃ (p f : Addr) (kvs : List (Key × V)) (bs : List Str) (kf : Str → Int), xs = [.ref p] ∧ zs = [.ref f] ∧ H p = some (.dK kvs) ∧ kvs.map (fun kv => kV kv.1) = bs.map V.str ∧ KeyI X σ f H bs kf ∧
  ∀ H' D, Ex H H' → H D = none → H' D = some (.lst ((bs.mergeSort fun a b => decide (kf a ≤ kf b)).map V.str)) → Q (.ref D) H'
theorem cs_sortKC (hc : X.calm = true) (hu : X.A.units + 66 < cLine) : CallS X (.builtin "sorted") [Str.ofString "key"] (rSortKC X) := by
  intro pins s σ H xs zs us ws Q I r rz h
  obtain ⟨p, f, kvs, bs, kf, rfl, rfl, hp, hb, hcall, q⟩ := h
  obtain rfl := Vals.ref1 r
  obtain rfl := Vals.ref1 rz
  show wpAny _ _ (call (.builtin "sorted") [.ref p] [(Str.ofString "key", .ref f)]) _ _ s
  refine call_function_entry_kw kind_sorted plain_sorted entry_sorted (ksk_s1 _ _) ?_
  unfold Builtin.«sorted»
  refine wpAny_bind (m := checkCount "sorted" 1 1 _) (wpAny_pure ?_)
  refine wpAny_bind (collect_dK (A := X.A.in1) I (I.ok.hd hc) hp fun h' tk us hkp hlt rv hz => ?_)
  rw [hb] at rv
  have lu : bs.length = us.length := by
    have := rv.length
    rw [List.length_map] at this
    exact this
  have lz : bs.length ≤ sizeLine := by
    have := congrArg List.length hb
    rw [List.length_map, List.length_map] at this
    omega
  refine wpAny_bind (wpAny_newList ?_ (by show us.length ≤ _; omega))
  have hoL : (h'.push (seqObj "list" us.toArray 0)).get? h'.objs.size = some (seqObj "list" us.toArray 0) := Heap.get?_push_size _ rfl
  refine wpAny_bind (wpAny_holding (wpAny_call_entry_kw slot_list_sort ⟨_, hoL, rfl⟩ entry_list_sort ?body (ksk_l1 _ _)))
  case body =>
    show wpAny (model X.prog X.w) X.A.in1.in1 (Builtin.«list.sort» ⟨[.ref h'.objs.size], [(Str.ofString "key", .ref f)]⟩) _ _ _
    rw [ksk_t1]
    refine sort_bodyI (s := s) (h2 := h'.push (seqObj "list" us.toArray 0)) (tk := tk) I (fun b u e => Heap.get?_push_of_some _ (hkp b u e)) hoL (Nat.le_of_lt hlt) rv lz hu hcall fun H' s' J e1 e2 e3 => ⟨_, rfl, ?_⟩
    exact wpAny_pure ⟨_, rfl, .ref h'.objs.size, H', J, rfl, q H' h'.objs.size e1 e2 e3⟩
def leastF (kf : Str → Int) (x : Str) (xs : List Str) : Str := xs.foldl (fun a y => if decide (kf y < kf a) = true then y else a) x
def rMinKC (X : Cx) : L2.St → List V → List V → Hp → VK → Prop := fun σ xs zs H Q => ∃ (p f : Addr) (x : Str) (bs : List Str) (kf : Str → Int), xs = [.ref p] ∧ zs = [.ref f] ∧ H p = some (.lst ((x :: bs).map V.str)) ∧ KeyI X σ f H (x :: bs) kf ∧ ∀ H', Ex H H' → Q (.str (leastF kf x bs)) H'
theorem walksV {prog : Program} {w : World} {A : Around} (hh : A.handled = none) (I l : Addr) (hne : l ≠ I) (ys : List V) :
    Walks prog w A I [I, l] [I] ys.length (fun i v => ∃ x, ys[i]? = some x ∧ RelV x v) (fun i h => h.IsListIter I l i ∧ ∃ its : List Value, Vals ys its ∧ h.IsList l its.toArray) where
  sub := fun b hb => by simp at hb; simp [hb]
  frame := fun i h h' st hk => by
    obtain ⟨h1, its, rv, h2⟩ := st
    exact ⟨h1.at fun o e => hk I (by simp) o e, its, rv, h2.at fun o e => hk l (by simp) o e⟩
  item := fun i s Q E hi st hQ => by
    obtain ⟨h1, its, rv, h2⟩ := st
    refine (Walks.list hh I l hne its.toArray).item i s Q E (by rw [List.size_toArray, ← rv.length]; exact hi) ⟨h1, h2⟩ fun v h' tk hv st' hk => ?_
    obtain ⟨x, hx⟩ : ∃ x, ys[i]? = some x := ⟨_, List.getElem?_eq_getElem hi⟩
    obtain ⟨u, hu, ru⟩ := rv.get hx
    have e : u = v := Option.some.inj (hu.symm.trans (by simpa using hv))
    rw [e] at ru
    exact hQ v h' tk ⟨x, hx, ru⟩ ⟨st'.1, its, rv, st'.2⟩ hk
  done := fun s Q E st hQ => by
    obtain ⟨h1, its, rv, h2⟩ := st
    refine (Walks.list hh I l hne its.toArray).done s Q E ⟨?_, h2⟩ hQ
    rw [List.size_toArray, ← rv.length]
    exact h1
  self := fun i s Q E st hQ => wpAny_pyIter_listiter st.1 hQ
theorem cs_minKC (hc : X.calm = true) : CallS X (.builtin "min") [Str.ofString "key"] (rMinKC X) := by
  intro pins s σ H xs zs us ws Q I r rz h
  obtain ⟨p, f, x, bs, kf, rfl, rfl, hp, hcall, q⟩ := h
  obtain rfl := Vals.ref1 r
  obtain rfl := Vals.ref1 rz
  obtain ⟨hz, its0, n0, rv0, hraw0⟩ := lst_raw I hp
  have hisl : s.heap.IsList p its0.toArray := ⟨_, hraw0, rfl, n0, rfl⟩
  have hplt : p < s.heap.objs.size := Heap.lt_size hraw0
  show wpAny _ _ (call (.builtin "min") [.ref p] [(Str.ofString "key", .ref f)]) _ _ s
  refine call_min_walkK (wpAny_pyIter_list hisl ?_)
  generalize hoI : ({ cls := .type "list_iterator", data := .fields #[.ref p, .int 0 0] } : Obj) = oI
  have sz2 : (s.heap.push oI).objs.size = s.heap.objs.size + 1 := Heap.size_push _ _
  have I2 : Inv X pins σ H { s with heap := s.heap.push oI } := I.kept (t' := s.toks) fun b o e => Heap.get?_push_of_some _ e
  have nIt : H s.heap.objs.size = none := I.hok.fresh (Nat.le_refl _)
  have nS : H (s.heap.push oI).objs.size = none := by rw [sz2]; exact I.hok.fresh (Nat.le_succ _)
  have fpI : ∀ H', H' s.heap.objs.size = none → FpOk X pins H' s.heap.objs.size := fun H' n => I.fpOk (Nat.le_refl _) n
  have fpS : ∀ H', H' (s.heap.push oI).objs.size = none → FpOk X pins H' (s.heap.push oI).objs.size := fun H' n => I.fpOk (by rw [sz2]; exact Nat.le_succ _) n
  have nfr : ∀ b, s.heap.objs.size ≤ b → b ∉ frs X.stack := fun b hb z => by
    rcases List.mem_cons.mp (I.stkSub _ z) with e | e
    · have h1 := I.lt
      rw [← e] at h1
      exact Nat.lt_irrefl _ (Nat.lt_of_lt_of_le h1 hb)
    · exact I.nofs hb e
  have gd : ∀ {i : Nat} {v : Value}, (∃ y, ((x :: bs).map V.str)[i]? = some y ∧ RelV y v) → ∃ b, (x :: bs)[i]? = some b ∧ (x :: bs).getD i x = b ∧ RelV (.str b) v := fun {i v} ⟨y, hy, ry⟩ => by
    rw [List.getElem?_map] at hy
    obtain ⟨b, hb, rfl⟩ := Option.map_eq_some_iff.mp hy
    exact ⟨b, hb, by rw [List.getD_eq_getElem?_getD, hb]; rfl, ry⟩
  refine ⟨s.heap.objs.size, [s.heap.objs.size, p], [s.heap.objs.size], (fun a b => b = a), ((x :: bs).map V.str).length, (fun i v => ∃ y, ((x :: bs).map V.str)[i]? = some y ∧ RelV y v), (fun i s' => s'.heap.IsListIter s.heap.objs.size p i ∧ ∃ its : List Value, Vals ((x :: bs).map V.str) its ∧ s'.heap.IsList p its.toArray),
    (fun s' => ∃ Hi, Inv X pins σ Hi s' ∧ Ex H Hi ∧ Hi s.heap.objs.size = none ∧ Hi (s.heap.push oI).objs.size = none), (fun i k _ => ∃ t, k = .int (kf ((x :: bs).getD i x)) t), (fun i j => decide (kf ((x :: bs).getD i x) < kf ((x :: bs).getD j x))),
    rfl, (walksV (A := X.A.in1) (I.ok.hd hc) s.heap.objs.size p (Nat.ne_of_lt hplt) ((x :: bs).map V.str)).toS, ⟨⟨oI, Heap.get?_push_size _ (by rw [← hoI]; rfl), by rw [← hoI], by rw [← hoI]; rfl⟩, its0, rv0, hisl.at fun o e => Heap.get?_push_of_some _ e⟩, fun b hb => ?_, by simp, ?_, ⟨H, I2, Ex.refl H, nIt, nS⟩, fun v s' hP hJ => ?_⟩
  · show b < (s.heap.push oI).objs.size
    rw [sz2]
    rcases List.mem_cons.mp hb with e | hb
    · rw [e]
      exact Nat.lt_succ_self _
    · rw [List.mem_singleton.mp hb]
      exact Nat.lt_succ_of_lt hplt
  · refine ⟨fun s1 s' hJ hm => ?_, fun _ _ _ _ h _ => h, fun i v s1 o Q' E' hi hP hJ hst hS hQ => ?_, fun i j ki kj s1 Q' E' _ hi hj hQ => ?_⟩
    · obtain ⟨Hi, J, e, n1, n2⟩ := hJ
      obtain ⟨h1, g1, d1, t1, o1⟩ := s'
      have eg : g1 = s1.gens := hm.gens
      have ed : d1 = s1.drawn := hm.drawn
      have eo : o1 = s1.os := hm.os
      subst eg
      subst ed
      subst eo
      refine ⟨Hi, J.turnedL (t' := t1) (ch := [(s.heap.push oI).objs.size, s.heap.objs.size]) (fun b o hb e => hm.heap b o hb e) (fun b hb => ?_), e, n1, n2⟩
      rcases List.mem_cons.mp hb with z | hb
      · rw [z]
        exact fpS Hi n2
      · rw [List.mem_singleton.mp hb]
        exact fpI Hi n1
    · obtain ⟨Hi, J, e, n1, n2⟩ := hJ
      obtain ⟨b, hb, hbd, rb⟩ := gd hP
      have hS : s1.heap.get? (s.heap.push oI).objs.size = some o := hS
      refine wpAny_of_in1 (wpAny_mono (hcall b (List.mem_of_getElem? hb) Hi e pins s1 v (fun u s2 => Q' u s2) rb J fun t H2 s2 J2 e2 un => ?_) (fun _ _ h => h) fun _ _ (h : False) => h.elim)
      obtain ⟨hit, its, rvi, hli⟩ := hst
      obtain ⟨oi, hoi, hci, hdi⟩ := hit
      have k1 := un.keep _ _ hoi n1 (nfr _ (Nat.le_refl _)) (by simp)
      have k2 := un.keep _ _ hS n2 (nfr _ (by rw [sz2]; exact Nat.le_succ _)) (by simp)
      have f1 := un.free _ _ hoi n1 (by simp)
      have f2 := un.free _ _ hS n2 (by simp)
      obtain ⟨_, its2, n2', rv2, hraw2⟩ := lst_raw J2 (e2 _ _ (e _ _ hp))
      exact hQ (.int (kf b) t) s2 ⟨H2, J2, e.trans e2, f1, f2⟩ ⟨⟨oi, k1, hci, hdi⟩, its2, rv2, ⟨_, hraw2, rfl, n2', rfl⟩⟩ k2 ⟨t, by rw [hbd]⟩ fun _ _ h => h
    · obtain ⟨t, rfl⟩ := hi
      obtain ⟨u, rfl⟩ := hj
      exact CmpOf.ints_lt (prog := X.prog) (w := X.w) (A := X.A.in1) (P := fun i v => ∃ t, v = .int (kf ((x :: bs).getD i x)) t) (fun i => kf ((x :: bs).getD i x)) (fun i v h => h) i j _ _ _ _ _ ⟨t, rfl⟩ ⟨u, rfl⟩ hQ
  · obtain ⟨Hi, J, e, n1, n2⟩ := hJ
    obtain ⟨b, hb, hbd, rb⟩ := gd hP
    have hf := (argBest_fold (fun a y => decide (kf a < kf y)) x x bs bs.length (Nat.le_refl _)).2
    rw [List.take_length] at hf
    have hn : ((x :: bs).map V.str).length - 1 = bs.length := by simp
    rw [hn] at hbd
    have eb : leastF kf x bs = b := by
      rw [← hbd]
      exact hf.symm
    rw [← eb] at rb
    exact ⟨.str (leastF kf x bs), Hi, J, rb, q Hi e⟩
theorem keyI_clo {σ : L2.St} {k j : Nat} {f c' : Addr} {params : Arguments} {body : Expr} {scope : Scope} {pn y : Str} {H : Hp} {bs : List Str} {kf : Str → Int} {vy : V} (L : LamP X.env.scope scope pn y) (hr : Room (k + 3) X.A)
    (hf : H f = some (CloO f (X.env.qual ++ "<lambda>") params body scope (cloFrom X.env.cells scope.names []) c')) (hc : H c' = some (CodeO c' (X.env.qual ++ "<lambda>")))
    (hb : ∀ (s : Shared) (clo : List (Str × Addr)) (pm ctv u : Value), BindsTo s (PySem.W.kla_fn "<lambda>" (X.env.qual ++ "<lambda>") params body scope clo pm (.ref c') ctv) ⟨[u], []⟩ [(pn, u)]) (hy : X.N[j]? = some y) (hσ : σ[j]? = some (some vy))
    (hbody : ∀ (A : Around) (s : Shared) (H1 : Hp) (E : XK), Room k (A.deeper (lamEnv X scope s.heap.objs.size f c')) → ∀ x ∈ bs, Ex H H1 → ∃ tt, PE (cxP X A s H1 E scope f c' pn y) body tt ∧ ∀ Q : VK, (∀ H2, Ex H1 H2 → Q (.int (kf x)) H2) → tt [some (.str x), some vy] H1 Q) : KeyI X σ f H bs kf := by
  intro x hx H1 e1 pins s1 v R rv I hR
  have hr2 : Room (k + 1) X.A.in1.in1 := (show Room (k + 2) X.A.in1 from Room.in1 hr).in1
  have rc := clo_run (Q := fun y H2 => ∃ H', H' = H2 ∧ y = .int (kf x) ∧ Ex H1 H') (E := fun _ _ _ => False) (u := v) (v := .str x) (vy := vy) I L hr2 I.env0.in1.in1 (e1 _ _ hf) (e1 _ _ hc) (fun pm ctv => hb s1 _ pm ctv _) rv hy hσ
    (fun hr' => let ⟨tt, h1, h2⟩ := hbody _ s1 H1 (fun _ _ _ => False) hr' x hx e1; ⟨tt, h1, h2 _ fun H2 e2 => ⟨H2, rfl, rfl, e2⟩⟩)
  refine wpAny_call (codeAny_mono rc fun r s2 hq => ?_)
  cases r with
  | error e =>
    exact (no_err hq).elim
  | ok fl =>
    cases fl with
    | ret u =>
      obtain ⟨w', H2, os, bare, un, hok, rw', H', rfl, rfl, e2⟩ := hq
      obtain ⟨t, rfl⟩ := rw'
      have J := I.call' (s' := s2) os un hok bare (fun b z => absurd z (by simp))
      exact hR t H' s2 J e2 un
    | next => exact False.elim hq
    | brk => exact False.elim hq
    | cont => exact False.elim hq
where
  no_err {H1 : Hp} {s1 s2 : Shared} {e : Value} (h : L2.CX X.prog X.w X.stack H1 s1 (fun _ _ _ => False) e s2) : False := by
    obtain ⟨_, _, _, _, _, _, _, _, _, _, _, _, z⟩ := h
    exact z
end
end CP
set_option Elab.async false
set_option linter.all false
set_option maxRecDepth 100000
set_option maxHeartbeats 4000000
namespace K7
open PySem PySem.Spec PyProof.Rows L2 KB KC KS LamX R8
theorem Ex.on {H H1 : Hp} {a : Addr} {o : HO} (e : Ex H H1) (n : H a = none) : Ex H (upd H1 a o) := fun b u h => by rw [L2.upd_ne (ne_of_none h n)]; exact e b u h
theorem ifT {c A B : Prop} [Decidable c] (h : c) (a : A) : if c then A else B := by rw [if_pos h]; exact a
theorem ifF {c A B : Prop} [Decidable c] (h : ¬ c) (b : B) : if c then A else B := by rw [if_neg h]; exact b
theorem paired_snoc' {α β : Type} {R : α → β → Prop} {l : List α} {m : List β} {a : α} {b : β} (p : Paired R l m) (h : R a b) : Paired R (l ++ [a]) (m ++ [b]) := paired_app p (.cons h .nil)
theorem paired_len {α β : Type} {R : α → β → Prop} : ∀ {l : List α} {m : List β}, Paired R l m → l.length = m.length
  | _, _, .nil => rfl
  | _, _, .cons _ t => by rw [List.length_cons, List.length_cons, paired_len t]
def KT' (H H' : Hp) : Prop := ∀ b xs, H b = some (.tup xs) → H' b = some (.tup xs)
theorem lcG {J : It} {n : Nat} {G : Hp → Prop} {Y : Nat → Hp → V → Hp → Prop} (w : Walk J n G Y) {α : Type} (R : Hp → V → α → Prop) (out : Nat → Option α) (stab : ∀ H H' v a, KT' H H' → R H v a → R H' v a)
    {g : TG} {tt : TT} {te : TE} {vs : List Nat} {σ : L2.St} {HL : Hp} {D : Addr} {Qd : Hp → Prop} (hD : HL D = none) (hz : n ≤ 1000000) (hG : ∀ H, Ex HL H → G H) (hY : ∀ i H x H1, i < n → Ex HL H → Y i H x H1 → Ex H H1)
    (turn : ∀ (i : Nat) (x : V) (H H1 : Hp) (R0 : V → Hp → Prop) (N0 : Hp → Prop), i < n → Ex HL H → Y i H x H1 → (out i = none → ∀ H2, Ex H1 H2 → N0 H2) → (∀ a, out i = some a → ∀ H2 y, Ex H1 H2 → R H2 y a → R0 y H2) →
      g x (wipe σ vs) H1 fun σ2 H2 => wipe σ2 vs = wipe σ vs ∧ tt σ2 H2 fun b H3 => if b = true then te σ2 H3 R0 else N0 H3)
    (fin : ∀ H xs, Ex HL H → H D = some (.lst xs) → Paired (R H) xs ((List.range n).filterMap out) → Qd H) :
    ∃ W : Nat → Nat → Hp → Prop, (∃ m, W 0 m (upd HL D (.lst []))) ∧ ∀ i m H, W i m H →
      (J.stop i H ∧ Qd H) ∨ (J.go i H ∧ ∃ Nx : Hp → Prop, (∀ H', Nx H' → ∃ m', m' < m ∧ W (i + 1) m' H') ∧ ∀ x H', J.yld i H x H' → g x (wipe σ vs) H' fun σ2 H2 => wipe σ2 vs = wipe σ vs ∧ tt σ2 H2 fun b H3 =>
        if b = true then te σ2 H3 fun y H4 => ∃ acc, H4 D = some (.lst acc) ∧ acc.length < sizeLine ∧ Nx (upd H4 D (.lst (acc ++ [y]))) else Nx H3) := by
  refine lc_it w (fun i H => Ex HL H ∧ ∃ xs, H D = some (.lst xs) ∧ Paired (R H) xs ((List.range i).filterMap out)) ⟨Ex.upd hD, [], upd_same, .nil⟩ (fun i H _ h => hG H h.1) ?_ fun H ⟨e, xs, hx, hp⟩ => fin H xs e hx hp
  rintro i x H H1 hi ⟨e, xs, hx, hp⟩ hy
  have e1 := hY i H x H1 hi e hy
  have hs : (List.range (i + 1)).filterMap out = (List.range i).filterMap out ++ (out i).toList := by
    rw [List.range_succ, List.filterMap_append]
    cases h : out i <;> simp [h]
  refine turn i x H H1 _ _ hi e hy (fun hn H2 e2 => ?_) fun a ha H2 y e2 hr => ?_
  · refine ⟨(e.trans e1).trans e2, xs, e2 _ _ (e1 _ _ hx), ?_⟩
    rw [hs, hn]
    simpa using paired_mono (fun v b h => stab _ _ v b (fun b' xs' h' => e2 _ _ (e1 _ _ h')) h) hp
  · have hx2 := e2 _ _ (e1 _ _ hx)
    have kt : KT' H2 (upd H2 D (.lst (xs ++ [y]))) := fun b ys h => by
      rw [L2.upd_ne (fun z => by rw [z, hx2] at h; cases h)]; exact h
    refine ⟨xs, hx2, ?_, Ex.on ((e.trans e1).trans e2) hD, xs ++ [y], upd_same, ?_⟩
    · have l1 := paired_len hp
      have l2 := List.length_filterMap_le out (List.range i)
      rw [List.length_range] at l2
      have : sizeLine = 16777216 := rfl
      omega
    · rw [hs, ha]
      exact paired_snoc' (paired_mono (fun v b h => stab _ _ v b (fun b' xs' h' => kt _ _ (e2 _ _ (e1 _ _ h'))) h) hp) (stab _ _ _ _ kt hr)
def RInt : Hp → V → Int → Prop := fun _ v a => v = .int a
def RStr : Hp → V → Str → Prop := fun _ v a => v = .str a
theorem RInt.stab : ∀ H H' v a, KT' H H' → RInt H v a → RInt H' v a := fun _ _ _ _ _ h => h
theorem RStr.stab : ∀ H H' v a, KT' H H' → RStr H v a → RStr H' v a := fun _ _ _ _ _ h => h
theorem rint_map {H : Hp} : ∀ {xs : List V} {ns : List Int}, Paired (RInt H) xs ns → xs = ns.map V.int
  | _, _, .nil => rfl
  | _, _, .cons h t => by rw [List.map_cons, ← rint_map t]; rw [show _ = _ from h]
theorem rstr_map {H : Hp} : ∀ {xs : List V} {ns : List Str}, Paired (RStr H) xs ns → xs = ns.map V.str
  | _, _, .nil => rfl
  | _, _, .cons h t => by rw [List.map_cons, ← rstr_map t]; rw [show _ = _ from h]
theorem range_fm {α β : Type} (f : α → Option β) : ∀ xs : List α, (List.range xs.length).filterMap (fun i => xs[i]?.bind f) = xs.filterMap f := by
  intro xs
  induction xs with
  | nil => rfl
  | cons a xs ih =>
    rw [List.length_cons, List.range_succ_eq_map, List.filterMap_cons, List.filterMap_map]
    have e : ((fun i => ((a :: xs)[i]?).bind f) ∘ Nat.succ) = fun i => xs[i]?.bind f := by
      funext i
      simp
    rw [e, ih]
    simp [List.filterMap_cons]
theorem yat_ex {xs : List V} {i : Nat} {H H1 : Hp} {x : V} (h : YAt xs i H x H1) : Ex H H1 := by
  obtain ⟨rfl, _⟩ := h
  exact Ex.refl _
theorem yfn_ex {f : Nat → V} {i : Nat} {H H1 : Hp} {x : V} (h : YFn f i H x H1) : Ex H H1 := by
  obtain ⟨rfl, _⟩ := h
  exact Ex.refl _
theorem pf {X : Cx} (i : Nat) {f x : Str} {p1 p2 : Pos} (hN : X.N[i]? = some x := by rfl) (hv : Vis X.env.scope x := by first | exact .inl rfl | exact .inr (.inl rfl) | exact .inr (.inr rfl) | exact .inr rfl) (hd : (x == ("__debug__" : Str)) = false := by decide) (hcd : (x == ("__classdict__" : Str)) = false := by decide)
    (hb : attributeBase (.Name x p1) f X.env (eval (.Name x p1) X.env) = eval (.Name x p1) X.env := by rfl) : PE X (.Attribute (.Name x p1) f p2) (tFld X.K (tVar i) f) :=
  pe_fld (pe_var (i := i) hN hv hd hcd) hb
def veB : List Value := [.type "ValueError", .type "Exception", .type "BaseException", .type "object"]
structure TxtX (K : PySem.W.Frag) (mg : Str → Option Value) (CE : Addr) : Prop where
  g : mg "GroupError" = some (.ref CE)
  x : PySem.W.excIn K CE veB "ValueError.__new__" = true
  k : PySem.W.keepIn K (.ref CE) = true
  b : PySem.W.subIn K (.ref CE) (.type "BaseException") = some true
  t : PySem.W.typeIn K (.ref CE) = some (.type "type")
  e : PySem.W.exmOne K (.ref CE) (.ref CE) = some true
def rIxP : R2 := fun x y H Q => ∃ p xs i v, x = .ref p ∧ y = .int i ∧ H p = some (.tup xs) ∧ atI xs i = some v ∧ Q v H
theorem ix_tupD {X : Cx} : IxR X rIxP := by
  intro value slice pins s σ H x y v u Q I rx ry h hs
  obtain ⟨p, xs, i, z, e1, e2, hq, he, q⟩ := h
  exact ix_tup value slice pins s σ H x y v u Q I rx ry ⟨p, xs, i, z, e1, e2, SqT.of hq, he, q⟩ hs
theorem filt_fm {α : Type} (f : α → Bool) (xs : List α) : xs.filterMap (fun p => if f p = true then some p else none) = xs.filter f := by
  induction xs with
  | nil => rfl
  | cons a xs ih => cases h : f a <;> simp [h, ih]
theorem map_fm {α β : Type} (f : α → β) (xs : List α) : xs.filterMap (fun p => some (f p)) = xs.map f := by
  induction xs with
  | nil => rfl
  | cons a xs ih => simp
theorem at0 {a b : V} : atI [a, b] 0 = some a := rfl
theorem at1 {a b : V} : atI [a, b] 1 = some b := rfl
theorem wipe_set {σ : L2.St} {i : Nat} {x : Option V} : wipe ((wipe σ [i]).set i x) [i] = wipe σ [i] := by
  show ((σ.set i none).set i x).set i none = σ.set i none
  rw [List.set_set, List.set_set]
end K7

namespace K7
open PySem PySem.Spec PyProof.Rows L2 KB KC KS LamX R8
def putA {α : Type} (es : List (Key × α)) (k : Key) (a : α) : List (Key × α) := if (es.any fun e => decide (e.1 = k)) = true then es.map (fun e => if e.1 = k then (e.1, a) else e) else es ++ [(k, a)]
def foldA {α : Type} (es : List (Key × α)) : List (Key × α) := es.foldl (fun acc e => putA acc e.1 e.2) []
abbrev KvR {α : Type} (R : Hp → V → α → Prop) (H : Hp) (kvs : List (Key × V)) (es : List (Key × α)) : Prop := Paired (fun (p : Key × V) (e : Key × α) => p.1 = e.1 ∧ R H p.2 e.2) kvs es
theorem any_eq {α : Type} {R : Hp → V → α → Prop} {H : Hp} {k : Key} : ∀ {kvs : List (Key × V)} {es : List (Key × α)}, KvR R H kvs es → (kvs.any fun e => decide (e.1 = k)) = es.any fun e => decide (e.1 = k)
  | _, _, .nil => rfl
  | _, _, .cons h t => by rw [List.any_cons, List.any_cons, h.1, any_eq t]
theorem kvR_put {α : Type} {R : Hp → V → α → Prop} {H : Hp} {k : Key} {z : V} {a : α} {kvs : List (Key × V)} {es : List (Key × α)} (r : KvR R H kvs es) (hr : R H z a) : KvR R H (putK kvs k z) (putA es k a) := by
  unfold putK putA
  rw [any_eq r]
  split
  · exact go r
  · exact paired_snoc' r ⟨rfl, hr⟩
where
  go : ∀ {kvs : List (Key × V)} {es : List (Key × α)}, KvR R H kvs es → KvR R H (kvs.map fun kv => if kv.1 = k then (kv.1, z) else kv) (es.map fun e => if e.1 = k then (e.1, a) else e)
    | _, _, .nil => .nil
    | _, _, .cons (a := p) (b := e) h t => by
      rw [List.map_cons, List.map_cons]
      refine .cons ?_ (go t)
      by_cases c : p.1 = k
      · rw [if_pos c, if_pos (h.1 ▸ c)]
        exact ⟨h.1, hr⟩
      · rw [if_neg c, if_neg (h.1 ▸ c)]
        exact h
theorem putA_len {α : Type} (es : List (Key × α)) (k : Key) (a : α) : (putA es k a).length ≤ es.length + 1 := by
  unfold putA
  split
  · rw [List.length_map]; omega
  · rw [List.length_append]; simp
theorem foldA_snoc {α : Type} (es : List (Key × α)) (k : Key) (a : α) : foldA (es ++ [(k, a)]) = putA (foldA es) k a := by
  unfold foldA
  rw [List.foldl_append]
  rfl
theorem foldA_len_go {α : Type} : ∀ (es acc : List (Key × α)), (es.foldl (fun acc e => putA acc e.1 e.2) acc).length ≤ acc.length + es.length
  | [], acc => by simp
  | e :: es, acc => by
    rw [List.foldl_cons]
    have := foldA_len_go es (putA acc e.1 e.2)
    have := putA_len acc e.1 e.2
    rw [List.length_cons]
    omega
theorem foldA_len {α : Type} (es : List (Key × α)) : (foldA es).length ≤ es.length := by
  have := foldA_len_go es []
  unfold foldA
  simpa using this
theorem foldA_self_go {α : Type} : ∀ (es acc : List (Key × α)), ((acc ++ es).map (·.1)).Nodup → es.foldl (fun acc e => putA acc e.1 e.2) acc = acc ++ es
  | [], acc, _ => by simp
  | e :: es, acc, h => by
    have ne : ¬ (acc.any fun x => decide (x.1 = e.1)) = true := by
      rw [List.any_eq_true]
      rintro ⟨x, hx, hk⟩
      have hk := of_decide_eq_true hk
      rw [List.map_append, List.nodup_append] at h
      exact h.2.2 x.1 (List.mem_map.mpr ⟨x, hx, rfl⟩) e.1 (by simp) hk
    have ep : putA acc e.1 e.2 = acc ++ [e] := by unfold putA; rw [if_neg ne]
    rw [List.foldl_cons, ep, foldA_self_go es (acc ++ [e])]
    · simp
    · simpa using h
theorem foldA_self {α : Type} {es : List (Key × α)} (h : (es.map (·.1)).Nodup) : foldA es = es := foldA_self_go es [] (by simpa using h)
def KT2 (H H' : Hp) : Prop := ∀ b o, (∀ ks, o ≠ .dK ks) → H b = some o → H' b = some o
theorem dcG {J : It} {n : Nat} {G : Hp → Prop} {Y : Nat → Hp → V → Hp → Prop} (w : Walk J n G Y) {α : Type} (R : Hp → V → α → Prop) (out : Nat → Option (Key × α)) (stab : ∀ H H' v a, KT2 H H' → R H v a → R H' v a)
    {g : TG} {tt : TT} {tk tv : TE} {vs : List Nat} {σ : L2.St} {HL : Hp} {D : Addr} {Qd : Hp → Prop} (hD : HL D = none) (hz : n ≤ 1000000) (hG : ∀ H, Ex HL H → G H) (hY : ∀ i H x H1, i < n → Ex HL H → Y i H x H1 → Ex H H1)
    (turn : ∀ (i : Nat) (x : V) (H H1 : Hp) (R0 : V → V → Hp → Prop) (N0 : Hp → Prop), i < n → Ex HL H → Y i H x H1 → (out i = none → ∀ H2, Ex H1 H2 → N0 H2) → (∀ k a, out i = some (k, a) → ∀ H2 z, Ex H1 H2 → R H2 z a → R0 (kV k) z H2) →
      g x (wipe σ vs) H1 fun σ2 H2 => wipe σ2 vs = wipe σ vs ∧ tt σ2 H2 fun b H3 => if b = true then tk σ2 H3 fun y H4 => tv σ2 H4 fun z H5 => R0 y z H5 else N0 H3)
    (fin : ∀ H kvs, Ex HL H → H D = some (.dK kvs) → KvR R H kvs (foldA ((List.range n).filterMap out)) → Qd H) :
    ∃ W : Nat → Nat → Hp → Prop, (∃ m, W 0 m (upd HL D (.dK []))) ∧ ∀ i m H, W i m H →
      (J.stop i H ∧ Qd H) ∨ (J.go i H ∧ ∃ Nx : Hp → Prop, (∀ H', Nx H' → ∃ m', m' < m ∧ W (i + 1) m' H') ∧ ∀ x H', J.yld i H x H' → g x (wipe σ vs) H' fun σ2 H2 => wipe σ2 vs = wipe σ vs ∧ tt σ2 H2 fun b H3 =>
        if b = true then tk σ2 H3 fun y H4 => tv σ2 H4 fun z H5 => ∃ kvs k, y = kV k ∧ H5 D = some (.dK kvs) ∧ kvs.length < sizeLine ∧ Nx (upd H5 D (.dK (putK kvs k z))) else Nx H3) := by
  refine ⟨fun i m H => m = n - i ∧ i ≤ n ∧ (Ex HL H ∧ ∃ kvs, H D = some (.dK kvs) ∧ KvR R H kvs (foldA ((List.range i).filterMap out))), ⟨n, by simp, Nat.zero_le _, Ex.upd hD, [], upd_same, .nil⟩, ?_⟩
  rintro i m H ⟨rfl, hi, e, kvs, hx, hp⟩
  have q := hG H e
  by_cases hlt : i < n
  · refine .inr ⟨w.goes i H hlt q, (fun H' => i + 1 ≤ n ∧ (Ex HL H' ∧ ∃ kvs, H' D = some (.dK kvs) ∧ KvR R H' kvs (foldA ((List.range (i + 1)).filterMap out)))), fun H' p' => ⟨n - (i + 1), by omega, rfl, p'⟩, fun x H1 y => ?_⟩
    have y := w.yields i H x H1 hlt q y
    have e1 := hY i H x H1 hlt e y
    have hs : (List.range (i + 1)).filterMap out = (List.range i).filterMap out ++ (out i).toList := by
      rw [List.range_succ, List.filterMap_append]
      cases h : out i <;> simp [h]
    refine turn i x H H1 (fun y z H5 => ∃ kvs k, y = kV k ∧ H5 D = some (.dK kvs) ∧ kvs.length < sizeLine ∧ (fun H' => i + 1 ≤ n ∧ (Ex HL H' ∧ ∃ kvs, H' D = some (.dK kvs) ∧ KvR R H' kvs (foldA ((List.range (i + 1)).filterMap out)))) (upd H5 D (.dK (putK kvs k z)))) _ hlt e y (fun hn H2 e2 => ?_) fun k a ha H2 z e2 hr => ?_
    · refine ⟨hlt, (e.trans e1).trans e2, kvs, e2 _ _ (e1 _ _ hx), ?_⟩
      rw [hs, hn]
      simpa using paired_mono (fun v b h => ⟨h.1, stab _ _ v.2 b.2 (fun b' o' _ h' => e2 _ _ (e1 _ _ h')) h.2⟩) hp
    · have hx2 := e2 _ _ (e1 _ _ hx)
      have kt : KT2 H2 (upd H2 D (.dK (putK kvs k z))) := fun b o ho h => by
        rw [L2.upd_ne (fun z => by rw [z, hx2] at h; exact ho _ (Option.some.inj h).symm)]; exact h
      refine ⟨kvs, k, rfl, hx2, ?_, hlt, Ex.on ((e.trans e1).trans e2) hD, putK kvs k z, upd_same, ?_⟩
      · have l1 := paired_len hp
        have l2 := foldA_len ((List.range i).filterMap out)
        have l3 := List.length_filterMap_le out (List.range i)
        rw [List.length_range] at l3
        have : sizeLine = 16777216 := rfl
        omega
      · rw [hs, ha]
        show KvR R _ _ (foldA (_ ++ [(k, a)]))
        rw [foldA_snoc]
        exact kvR_put (paired_mono (fun v b h => ⟨h.1, stab _ _ v.2 b.2 (fun b' o' n' h' => kt _ _ n' (e2 _ _ (e1 _ _ h'))) h.2⟩) hp) (stab _ _ _ _ kt hr)
  · have e' : i = n := by omega
    subst e'
    exact .inl ⟨w.stops H q, fin H kvs e hx hp⟩
def RTrue : Hp → V → Unit → Prop := fun _ v _ => v = .bl true
theorem RInt.stab2 : ∀ H H' v a, KT2 H H' → RInt H v a → RInt H' v a := fun _ _ _ _ _ h => h
theorem RTrue.stab : ∀ H H' v a, KT2 H H' → RTrue H v a → RTrue H' v a := fun _ _ _ _ _ h => h
theorem kvR_keys {α : Type} {R : Hp → V → α → Prop} {H : Hp} : ∀ {kvs : List (Key × V)} {es : List (Key × α)}, KvR R H kvs es → kvs.map (fun kv => kV kv.1) = es.map fun e => kV e.1
  | _, _, .nil => rfl
  | _, _, .cons h t => by rw [List.map_cons, List.map_cons, kvR_keys t, h.1]
end K7

namespace K7
open PySem PySem.Spec PyProof.Rows L2 KB KC KD KS LamX R8 CP
theorem ps_setDc {X : Cx} {i : Nat} {y : Str} {py : Pos} {kx vx tg iter : Expr} {ifs : List Expr} {scope : Scope} {own : List (Str × Nat)} {pos spos : Pos} {wi : TI} {g : TG} {tt : L2.TT} {tk tv : TE} (hc : X.calm = true) (hN : X.N.Nodup) (hy : X.N[i]? = some y) (hyl : X.env.scope.names.lookup y = some .local)
    (hsw : swapsWith (.DictComp kx vx [⟨tg, iter, ifs, 0⟩] scope pos) (some (.Name y py)) spos.line X.env = pure true) (hi : PI X tg iter wi) (ok : BlkOk X.N X.env.scope scope own)
    (hg : ∀ (s : Shared) (H : Hp) (C : Addr) (cl : List (Str × Addr)) (fp : List Addr), PG (X.blk s H scope (compEnvC scope cl C X.env) fp) tg g) (ht : ∀ (s : Shared) (H : Hp) (C : Addr) (cl : List (Str × Addr)) (fp : List Addr), PTs (X.blk s H scope (compEnvC scope cl C X.env) fp) ifs tt)
    (hk : ∀ (s : Shared) (H : Hp) (C : Addr) (cl : List (Str × Addr)) (fp : List Addr), PE (X.blk s H scope (compEnvC scope cl C X.env) fp) kx tk)
    (he : ∀ (s : Shared) (H : Hp) (C : Addr) (cl : List (Str × Addr)) (fp : List Addr), PE (X.blk s H scope (compEnvC scope cl C X.env) fp) vx tv) (hs : ∀ x, foldedSetIterable iter X.env x = pure x := by intro _; rfl) :
    PS X (.Assign [.Name y py] (.DictComp kx vx [⟨tg, iter, ifs, 0⟩] scope pos) spos) (tAsg (tDc wi g tt tk tv (own.map (·.2))) (gName i)) := by
  refine ⟨fun pins s σ H D I h => ?_⟩
  rw [exec_Assign_Name_used _ _ _ _ hsw]
  refine wpAny_bind (wpAny_standAt (wpAny_bind ?_))
  show wpAny _ X.A (do let _ ← comprehension (.DictComp kx vx [⟨tg, iter, ifs, 0⟩] scope pos) scope X.env (firstIterPos [⟨tg, iter, ifs, 0⟩] pos) newDict false (eval iter X.env) (some (assign (.Name y py) X.env))) _ _ s
  have h : tDc wi g tt tk tv (own.map (·.2)) σ H (fun x H1 => gName i x σ H1 D.nx) := h
  refine wpAny_bind (thn (dc_core (Qf := fun _ s' => SP X pins D .next s') hc hN I hi ok hg ht hk he hs h fun L C s' m H' I' q hn f => ?_) fun _ s' hq => wpAny_pure (wpAny_pure hq))
  show wpAny _ _ (assign (.Name y py) X.env (.ref L)) _ _ _
  refine wpAny_assign_Name (store_ok2 (v := V.ref L) I' hN hy (.inl hyl) rfl (fun s2 I2 ⟨a, sb, ha⟩ => ?_) (.inr hyl))
  obtain ⟨f0, f1, f2, f3, f4, f5⟩ := f
  have haC : C ≠ a := by
    rcases ha with z | z
    · rw [z]; exact f1
    · exact fun e => f4 y a z e.symm
  refine ⟨m, hn.sameBut sb haC, fun h3 sb3 => ?_⟩
  exact ⟨_, H', I2.turned (t' := s2.toks) (fun b o hb e => (sb3.2 b hb).trans e) f0 f1 f3 f4 f5, q⟩
theorem sw_dict {kx vx : Expr} {gs : List Comprehension} {scope : Scope} {pos py : Pos} {y : Str} {l : Nat} {env : Env} (hk : env.scope.kind = .function) (hy : env.scope.names.lookup y = some .local) (hl : (py.line == pos.line) = true)
    (ha : (scope.names.any fun (n, k) => n == y && (k == .local || k == .cell)) = false) : swapsWith (.DictComp kx vx gs scope pos) (some (.Name y py)) l env = pure true := by
  have ky : env.kindOf y = some .local := hy
  have hb : env.blockKind = .function := by unfold Env.blockKind; rw [hk]; rfl
  unfold swapsWith
  simp only [hb, ky, ha, Expr.pos, hl]
  rfl
end K7
set_option Elab.async false
set_option linter.all false
set_option maxRecDepth 100000
set_option maxHeartbeats 2000000
namespace RC
open PySem PySem.Spec PyProof.Rows L2
theorem tracedZ_but {h h' B : Heap} {e C : Addr} {Z : Obj → Prop} {fl : Value} {m : Str → Option Value} (t : HandSPX.TracedZ h B e Z fl) (hn : h.Ns C m) (hs : Heap.SameBut C h h') : HandSPX.TracedZ h' B e Z fl := by
  obtain ⟨oe, vs, T, oT, ts, he, hz, hd, h1, hnT, hTe, hT, hdT, h3⟩ := t
  obtain ⟨oC, es, ep, hoC, hdC, _⟩ := hn
  have n1 : e ≠ C := fun z => by
    rw [z, hoC] at he
    cases he
    rw [hdC] at hd; cases hd
  have n2 : T ≠ C := fun z => by
    rw [z, hoC] at hT
    cases hT
    rw [hdC] at hdT; cases hdT
  exact ⟨oe, vs, T, oT, ts, (hs.2 e n1).trans he, hz, hd, h1, hnT, hTe, (hs.2 T n2).trans hT, hdT, h3⟩
def FlyC (X : Cx) (W : WX) (C : Addr) (u : Value) (s' : Shared) : Prop :=
  ∃ (a : Addr) (B : Heap) (sI : Shared) (pins : List (Addr × Obj)) (σ : L2.St) (H : Hp) (cls : Value) (d : Option Addr),
    u = .ref a ∧ Inv X pins σ H sI ∧ (∀ b o, sI.heap.get? b = some o → b ∉ frs X.stack → B.get? b = some o) ∧ sI.heap.UpToSlots s'.heap ∧
      HandSPX.FlyingZ B X.stack a (Zc cls d) s'.heap ∧ H a = none ∧ s'.os = sI.os ∧ AllBare s'.gens ∧ W cls d σ H ∧ B.get? C = none ∧ sI.heap.get? C = none
section
variable {X : Cx} {s' : Shared}
theorem noted {W : WX} {u : Value} {m : Str → Option Value} {cenv : Env} (hs : X.stack = X.env :: X.outer) (hf : X.env.frame = some X.env.locals) (hcf : cenv.frame = X.env.frame) (tk : Takes X W) (x : FlyC X W cenv.locals u s') (hn : s'.heap.Ns cenv.locals m) :
    notedBy (model X.prog X.w) X.A cenv (fun e s'' => CompFails (model X.prog X.w) X.A X.xe cenv e s'') u s' := by
  obtain ⟨a, B, sI, pins, σ, H, cls, d, rfl, I, nb, up, fl, na, os, ag, w, bC, iC⟩ := x
  have hfr : X.A.frames = some (X.env :: X.outer) := by rw [I.ok.frames, hs]
  show wpAny _ X.A (noteFrame (.ref a) cenv) _ _ s'
  rw [noteFrame_env _ hcf]
  rw [hs] at fl
  refine HandSPX.looks_onZ Zc.steady hfr hf fl fun h1 hh1 up1 => ?_
  obtain ⟨k1, k2, k3, k4⟩ := hh1
  have hn1 : h1.Ns cenv.locals m := up1.ns hn
  refine ⟨m, hn1, fun h2 m2 hn2 hs2 => ?_⟩
  have k1' : B.StaysIn h2 := fun b o hb => (hs2.2 b fun q => by rw [q, bC] at hb; cases hb).trans (k1 b o hb)
  have k3' : h2.FunFrames B (X.env :: X.outer) := Heap.FunFrames.sameBut hs2 hn2 k3
  have k4' := tracedZ_but k4 hn1 hs2
  have hh2 : HandSPX.HeldZ B (X.env :: X.outer) a (Zc cls d) X.env.locals h2 := ⟨k1', k2, k3', k4'⟩
  obtain ⟨oe, vs, T, oT, ts, he, hz, hd, e1, _⟩ := id k4'
  unfold PySem.passOn
  refine wpAny_bind (wpAny_field he hd e1 ?_)
  rw [if_neg (show ¬ ((Value.ref T == Value.none) = true) from by simp)]
  rw [hcf, hf]
  refine wpAny_bind (HandSPX.setFlight_onZ hh2 fun h3 hh3 up3 => wpAny_throw (tk _ _ ?_))
  refine ⟨a, B, sI, pins, σ, H, cls, d, rfl, I, nb, fun b o e nf => ?_, .inr (.inr (by rw [hs]; exact hh3)), na, os, ag, w⟩
  obtain ⟨sl, q⟩ := (up.trans up1) b o e nf
  have nC : b ≠ cenv.locals := fun z => by rw [z, iC] at e; cases e
  obtain ⟨sl2, q2⟩ := up3 b _ ((hs2.2 b nC).trans q) nf
  exact ⟨sl2, q2⟩
theorem fly_of {W : WX} {pins : List (Addr × Obj)} {σ : L2.St} {H : Hp} {s sO : Shared} {E : XK} {C : Addr} {oC : Obj} {u : Value} (I : Inv X pins σ H sO) (hO : sO.heap.get? C = none) (kO : ∀ b o, sO.heap.get? b = some o → s.heap.get? b = some o) (osO : sO.os = s.os) (hC : s.heap.get? C = some oC) (nC : H C = none) (fC : C ∉ frs X.stack)
    (hW : ∀ cls d H', E cls d H' → W cls d σ H') (c : L2.CX X.prog X.w X.stack H s E u s') : FlyC X W C u s' := by
  obtain ⟨a, B0, H', cls, d, rfl, fl0, hok0, ub, na, os, ag, hE⟩ := c
  obtain ⟨B, r1, r2⟩ := restrict B0 fun b => decide (b ≠ C)
  have nC' : H' C = none := ub.free C oC hC nC
  have bs : ∀ b o, B.get? b = some o → B0.get? b = some o ∧ b ≠ C := fun b o e => by
    by_cases z : b = C
    · rw [r2 b (by simp [z])] at e; cases e
    · rw [r1 b (by simp [z])] at e
      exact ⟨e, z⟩
  have bn : ∀ b, B0.get? b = none → B.get? b = none := fun b e => by
    cases q : B.get? b with
    | none => rfl
    | some o => rw [(bs b o q).1] at e; cases e
  have fl : HandSPX.FlyingZ B X.stack a (Zc cls d) s'.heap := by
    obtain ⟨f1, f2, f3, oe, vs, T, oT, ts, he, hz, hd, h1, hnT, rest⟩ := fl0
    exact ⟨fun b o e => f1 b o (bs b o e).1, bn _ f2, funFrames_none f3 fun L hL => bn _ (by
      obtain ⟨q, _⟩ := f3.mem hL
      exact q), oe, vs, T, oT, ts, he, hz, hd, h1, bn _ hnT, rest⟩
  have hok : HOk X.prog X.w H' B := fun b o q => (hok0 b o q).stay (fun c u hc r => by
    have z : c ≠ C := fun z => by
      rcases hc with hc | hc
      · rw [hc] at z
        rw [z, nC'] at q; cases q
      · rw [z, nC'] at hc; cases hc
    rw [r1 c (by simp [z])]
    exact r) (fun _ r => r) fun _ _ r => r
  obtain ⟨G, g1, g2⟩ := restrict s'.heap fun b => (B.get? b).isSome || decide (b ∈ frs X.stack)
  have st : B.StaysIn s'.heap := fl.1
  have gB : ∀ b o, B.get? b = some o → G.get? b = some o := fun b o e => by
    rw [g1 b (by simp [e])]
    exact st b o e
  have gF : ∀ b, b ∈ frs X.stack → G.get? b = s'.heap.get? b := fun b hb => g1 b (by simp [hb])
  have og : ∀ b o, G.get? b = some o → s'.heap.get? b = some o ∧ ((B.get? b).isSome = true ∨ b ∈ frs X.stack) := fun b o e => by
    cases q : ((B.get? b).isSome || decide (b ∈ frs X.stack)) with
    | false => rw [g2 b q] at e; cases e
    | true =>
      rw [g1 b q] at e
      exact ⟨e, by simpa [Bool.or_eq_true] using q⟩
  have bC : B.get? C = none := r2 C (by simp)
  have ne : ∀ b o, sO.heap.get? b = some o → b ≠ C := fun b o e z => by rw [z, hO] at e; cases e
  have kB : ∀ b o, B0.get? b = some o → b ≠ C → B.get? b = some o := fun b o e z => by rw [r1 b (by simp [z])]; exact e
  refine ⟨a, B, { sO with heap := G, gens := s'.gens, drawn := s'.drawn, toks := s'.toks }, pins, σ, H', cls, d, rfl, ?_, fun b o e hb => ?_, Heap.UpToSlots.of_keeps fun b o e => (og b o e).1, fl, na, os.trans osO.symm, ag, hW _ _ _ hE, bC, ?_⟩
  · refine I.call (ch := []) ⟨fun b o e n hb _ => gB b o (kB b o (ub.keep b o (kO b o e) n hb) (ne b o e)), fun b o e n hb _ => ?_, fun b o e n _ => ub.free b o (kO b o e) n, fun b o e _ => ?_, ub.tups, ub.frzs, ub.tbls⟩ (hok.kept gB) ag (fun _ z => nomatch z)
    · obtain ⟨sl, q⟩ := ub.slot b o (kO b o e) hb
      exact ⟨sl, by rw [gF b hb]; exact q⟩
    · by_cases hb : b ∈ frs X.stack
      · obtain ⟨sl, q⟩ := ub.slot b o (kO b o e) hb
        exact ⟨_, by rw [gF b hb]; exact q⟩
      · obtain ⟨o', q⟩ := ub.there b o (kO b o e) hb
        exact ⟨o', gB b o' (kB b o' q (ne b o e))⟩
  · obtain ⟨e', h⟩ := og b o e
    rcases h with h | h
    · obtain ⟨o', q⟩ := Option.isSome_iff_exists.mp h
      have z := st b o' q
      rw [e'] at z; cases z
      exact q
    · exact absurd h hb
  · exact g2 C (by rw [bC]; simp [fC])
end
end RC
set_option Elab.async false
set_option linter.all false
set_option maxRecDepth 100000
set_option maxHeartbeats 2000000
namespace RC
open PySem PySem.Spec PyProof.Rows L2
abbrev blkX (X : Cx) (s : Shared) (H : Hp) (scope : Scope) (cenv : Env) (fp : List Addr) (xe : Value → Shared → Prop) : Cx := { X.blk s H scope cenv fp with xe := xe }
theorem inv_blkX {X : Cx} {s : Shared} {H H' : Hp} {scope : Scope} {cenv : Env} {fp : List Addr} {xe : Value → Shared → Prop} {pins : List (Addr × Obj)} {σ : L2.St} {s' : Shared} (I : Inv (X.blk s H scope cenv fp) pins σ H' s') : Inv (blkX X s H scope cenv fp xe) pins σ H' s' :=
  Inv.unwish (X := blkX X s H scope cenv fp xe) (E := fun _ _ => False) I
section
variable {X : Cx}
def PassB (X : Cx) (E : XK) (Y : Cx) : Prop := Passes (L2.CX X.prog X.w) Y E
theorem ns_keeps {h h' : Heap} {C : Addr} {m : Str → Option Value} (n : h.Ns C m) (k : ∀ o, h.get? C = some o → h'.get? C = some o) : h'.Ns C m := by
  obtain ⟨o, es, ep, h1, r⟩ := n
  exact ⟨o, es, ep, k o h1, r⟩
theorem pe_lcX {elt tg iter : Expr} {ifs : List Expr} {scope : Scope} {own : List (Str × Nat)} {pos : Pos} {wi : TI} {g : TG} {tt : TT} {te : TE} {E : XK} (hc : X.calm = true) (hN : X.N.Nodup) (hst : X.stack = X.env :: X.outer) (hf : X.env.frame = some X.env.locals) (tk : Takes X (fun cls d _ H => E cls d H)) (hi : PI X tg iter wi) (ok : BlkOk X.N X.env.scope scope own)
    (hg : ∀ (s : Shared) (H : Hp) (C : Addr) (cl : List (Str × Addr)) (fp : List Addr) (xe : Value → Shared → Prop), PassB X E (blkX X s H scope (compEnvC scope cl C X.env) fp xe) → PG (blkX X s H scope (compEnvC scope cl C X.env) fp xe) tg g)
    (ht : ∀ (s : Shared) (H : Hp) (C : Addr) (cl : List (Str × Addr)) (fp : List Addr) (xe : Value → Shared → Prop), PassB X E (blkX X s H scope (compEnvC scope cl C X.env) fp xe) → PTs (blkX X s H scope (compEnvC scope cl C X.env) fp xe) ifs tt)
    (he : ∀ (s : Shared) (H : Hp) (C : Addr) (cl : List (Str × Addr)) (fp : List Addr) (xe : Value → Shared → Prop), PassB X E (blkX X s H scope (compEnvC scope cl C X.env) fp xe) → PE (blkX X s H scope (compEnvC scope cl C X.env) fp xe) elt te) (hs : ∀ x, foldedSetIterable iter X.env x = pure x := by intro _; rfl) :
    PE X (.ListComp elt [⟨tg, iter, ifs, 0⟩] scope pos) (tLc wi g tt te (own.map (·.2))) := by
  refine ⟨fun pins s σ H Q I h => ?_⟩
  rw [eval_ListComp]
  have hfree : ∀ y ∈ scope.names, y.2 = .free → ∃ c, X.env.cells.lookup y.1 = some c := fun y hy e => (ok.free y hy e).elim (fun k => I.ok.has _ (.inl k)) fun k => I.ok.has _ (.inr k)
  refine comprehension_at (use := none) rfl hs (closure_ok hfree) ok.kind (fun y hy e => by rw [ok.uniq y hy, e]) (thn (hi.run pins s σ H _ I h) fun xv s1 hx => thn hx fun itv s2 ⟨it, fp, tn, J, H2, e, I2, T, st2, f2, q⟩ => ?_)
  subst e
  refine wpAny_newObj_type (newEnv_comp ?_) (by show 0 ≤ sizeLine; decide)
  generalize hD : s2.heap.objs.size = D
  obtain ⟨W, ⟨m0, w0⟩, turn⟩ := q D (I2.hok.fresh (Nat.le_of_eq hD))
  generalize hs3 : ({ s2 with heap := s2.heap.push { cls := .type "list", data := .seq ([] : List Value).toArray } } : Shared) = s3
  have I3 : Inv X pins σ (upd H2 D (.lst [])) s3 := by
    rw [← hs3]
    refine I2.laid (t' := s2.toks) (fun b o e => Heap.get?_push_of_some _ e) (Nat.le_of_eq hD) ⟨Nat.zero_le _, [], 0, .nil, ?_⟩
    rw [← hD]
    exact Heap.get?_push_size _ rfl
  have h3 : s3.heap = s2.heap.push { cls := .type "list", data := .seq ([] : List Value).toArray } := by rw [← hs3]
  have f3 : ∀ b ∈ fp, FpOk X pins (upd H2 D (.lst [])) b ∧ b < s3.heap.objs.size := fun b hb => by
    obtain ⟨o, e, _⟩ := T.obj _ _ st2 b hb
    have hlt := Heap.lt_size e
    refine ⟨⟨?_, (f2 b hb).2⟩, by rw [h3, Heap.size_push]; exact Nat.lt_succ_of_lt hlt⟩
    rw [upd_ne (by rw [← hD]; exact Nat.ne_of_lt hlt)]
    exact (f2 b hb).1
  have st3 : tn 0 s3.heap := T.keep _ _ _ st2 fun b _ o e => by rw [h3]; exact Heap.get?_push_of_some _ e
  have I4 := block_start I3 ok hN f3
  have pg := fun xe => hg s3 (upd H2 D (.lst [])) s3.heap.objs.size (cellsFrom (s3.heap.objs.size + 1) scope.names (cloFrom X.env.cells scope.names [])) fp xe
  have pt := fun xe => ht s3 (upd H2 D (.lst [])) s3.heap.objs.size (cellsFrom (s3.heap.objs.size + 1) scope.names (cloFrom X.env.cells scope.names [])) fp xe
  have pe := fun xe => he s3 (upd H2 D (.lst [])) s3.heap.objs.size (cellsFrom (s3.heap.objs.size + 1) scope.names (cloFrom X.env.cells scope.names [])) fp xe
  show codeAny _ _ (.compStart (.ListComp elt [⟨tg, iter, ifs, 0⟩] scope pos) 0 (.ref it) (.ref D) (compEnvC scope (cellsFrom (s3.heap.objs.size + 1) scope.names (cloFrom X.env.cells scope.names [])) s3.heap.objs.size X.env)) (compEnds (model X.prog X.w) X.A X.xe none (fun v s' => EP X pins σ Q v s') (.ref D) (compEnvC scope (cellsFrom (s3.heap.objs.size + 1) scope.names (cloFrom X.env.cells scope.names [])) s3.heap.objs.size X.env)) { s3 with heap := pushCells (s3.heap.push { cls := .type "dict", data := .dict #[] }) scope.names }
  have nfp : ∀ b ∈ fp, (upd H2 D (.lst [])) b = none := fun b hb => (f3 b hb).1.1
  generalize hce : compEnvC scope (cellsFrom (s3.heap.objs.size + 1) scope.names (cloFrom X.env.cells scope.names [])) s3.heap.objs.size X.env = ce at I4 pg pt pe ⊢
  have cL : ce.locals = s3.heap.objs.size := by subst hce; rfl
  have cF : ce.frame = X.env.frame := by subst hce; rfl
  generalize hH3 : upd H2 D (.lst []) = H3 at I3 I4 pg pt pe w0 nfp f3
  generalize hs4 : ({ s3 with heap := pushCells (s3.heap.push { cls := .type "dict", data := .dict #[] }) scope.names } : Shared) = s4 at I4 ⊢
  have st4 : tn 0 s4.heap := T.keep _ _ _ st3 fun b _ o e => by rw [← hs4]; exact pushCells_keeps _ _ _ _ (Heap.get?_push_of_some _ e)
  generalize hxe : notedBy (model X.prog X.w) X.A ce (fun e s' => CompFails (model X.prog X.w) X.A X.xe ce e s') = xe
  have back : ∀ {pins' : List (Addr × Obj)} {σ' : L2.St} {H' : Hp} {s' : Shared}, Inv (blkX X s3 H3 scope ce fp xe) pins' σ' H' s' → Inv X pins σ H' s' := fun {pins' σ' H' s'} I' => I3.call' (ch := fp) I'.os I'.base I'.hok I'.bare fun b hb => ⟨(f3 b hb).1.2.2.2.1, (f3 b hb).1.2.1, (f3 b hb).1.2.2.2.2.1, (f3 b hb).1.2.2.2.2.2⟩
  have freeC : ∀ {pins' : List (Addr × Obj)} {σ' : L2.St} {H' : Hp} {s' : Shared}, Inv (blkX X s3 H3 scope ce fp xe) pins' σ' H' s' → H' ce.locals = none := fun I' => I'.free
  have pass : PassB X E (blkX X s3 H3 scope ce fp xe) := fun pins' σ' H' s5 u s' I' c => by
    have nC := freeC I'
    have I7 := back I'
    have nC' : H' s3.heap.objs.size = none := by rw [← cL]; exact nC
    obtain ⟨f0, f1, f2', f3', f4', f5'⟩ := I3.fpOk (Nat.le_refl _) nC'
    have fC : ce.locals ∉ frs X.stack := by
      rw [cL, hst]
      intro z
      obtain ⟨en, hen, hz⟩ := List.mem_filterMap.mp z
      rcases List.mem_cons.mp hen with rfl | hen
      · rw [hf] at hz
        exact f1 (Option.some.inj hz).symm
      · exact f2' (List.mem_filterMap.mpr ⟨en, hen, hz⟩)
    obtain ⟨mm, hn, _⟩ := I'.loc
    have hn : s5.heap.Ns ce.locals mm := hn
    obtain ⟨oC, es, ep, hoC, rest⟩ := id hn
    obtain ⟨hO, r1, r2⟩ := restrict s5.heap fun b => decide (b ≠ ce.locals)
    have kO : ∀ b o, hO.get? b = some o → s5.heap.get? b = some o := fun b o e => by
      by_cases z : b = ce.locals
      · rw [r2 b (by simp [z])] at e; cases e
      · rw [r1 b (by simp [z])] at e; exact e
    have IO : Inv X pins σ H' { s5 with heap := hO, toks := s5.toks } := by
      refine I7.turned (it := s3.heap.objs.size) (t' := s5.toks) (fun b o hb e => ?_) f0 f1 f3' f4' f5'
      rw [r1 b (by rw [cL]; simp [hb])]
      exact e
    have fly : FlyC X (fun cls d _ H => E cls d H) ce.locals u s' := fly_of (s := s5) (sO := { s5 with heap := hO, toks := s5.toks }) (oC := oC) IO (r2 _ (by simp)) kO rfl hoC nC fC (fun _ _ _ z => z) c
    have hn' : s'.heap.Ns ce.locals mm := ns_keeps hn fun o ho => by
      obtain ⟨a, B, H6, cls, d, _, fl, _, ub, _⟩ := c
      exact fl.1 _ _ (ub.keep _ _ ho nC fC)
    rw [← hxe]
    exact noted hst hf cF tk fly hn'
  have stat : ∀ {σ' : L2.St} {H' : Hp} {s' : Shared}, Inv (blkX X s3 H3 scope ce fp xe) [] σ' H' s' → (∀ b ∈ fp, H' b = none) → ∀ b ∈ fp, FpOk (blkX X s3 H3 scope ce fp xe) [] H' b := fun {σ' H' s'} I' hn b hb =>
    ⟨hn b hb, (I'.ok.exf b hb).1, I'.ok.exfs b hb, .inl hb, fun x c e => (I'.ok.exf b hb).2 x c e, fun p hp => absurd (show p ∈ ([] : List (Addr × Obj)) ++ [] from hp) (by simp)⟩
  have loop : codeAny (model X.prog X.w) X.A (.compLoop (.ListComp elt [⟨tg, iter, ifs, 0⟩] scope pos) 0 (.ref it) (.ref D) ce) (compEnds (model X.prog X.w) X.A X.xe none (fun v s' => EP X pins σ Q v s') (.ref D) ce) s4 := by
    refine compLoop_any (fun n s' => ∃ i H', Inv (blkX X s3 H3 scope ce fp xe) [] (wipe σ (own.map (·.2))) H' s' ∧ tn i s'.heap ∧ (∀ b ∈ fp, H' b = none) ∧ W i n H') ?_ m0 ⟨0, H3, inv_blkX I4, st4, nfp, w0⟩
    rintro n s5 ⟨i, H5, I5, st5, n5, w5⟩
    have err : ∀ {α : Type} {t : Sem α} {R R' : α → Shared → Prop} {sx : Shared}, wpAny (model X.prog X.w) X.A t R xe sx → (∀ a s', R a s' → R' a s') → wpAny (model X.prog X.w) X.A t R' (notedBy (model X.prog X.w) X.A ce fun e s' => compEnds (model X.prog X.w) X.A X.xe none (fun v s' => EP X pins σ Q v s') (.ref D) ce (.error e) s') sx := fun hw hR => by
      refine wpAny_mono hw hR fun e s' he => ?_
      rw [← hxe] at he
      exact he
    rcases turn i n H5 w5 with ⟨stop, qq⟩ | ⟨go, Nx, hNx, step⟩
    · refine thnF (T.done (blkX X s3 H3 scope ce fp xe) rfl rfl rfl hc i [] s5 _ H5 (fun _ _ => False) I5 (stat I5 n5) st5 stop) fun r s6 ⟨hr, I6⟩ => ?_
      subst hr
      have nC : H5 s3.heap.objs.size = none := by rw [← cL]; exact freeC I6
      obtain ⟨m, hn, _⟩ := I6.loc
      have hn : s6.heap.Ns ce.locals m := hn
      refine ⟨m, hn, fun h'' sb => ?_⟩
      obtain ⟨f0, f1, f2, f3, f4, f5⟩ := I3.fpOk (Nat.le_refl _) nC
      exact ⟨.ref D, H5, (back I6).turned (t' := s6.toks) (fun b o hb e => (sb.2 b (by rw [cL]; exact hb)).trans e) f0 f1 f3 f4 f5, rfl, qq⟩
    · refine thnF (T.item (blkX X s3 H3 scope ce fp xe) rfl rfl rfl hc i [] s5 _ H5 (fun _ _ => False) I5 (stat I5 n5) st5 go) fun r s6 ⟨u, hr, h6⟩ => ?_
      subst hr
      refine thnF h6 fun _ s7 ⟨x, H7, I7, r7, y7, st7, n7⟩ => ?_
      have I7' := I7.pinned (stat I7 n7) (T.obj _ _ st7)
      refine err ((pg xe pass).run _ s7 _ H7 x u _ I7' r7 (step x H7 y7)) fun _ s8 ⟨σ8, H8, I8, hw8, q8⟩ => ?_
      refine err ((pt xe pass).run _ s8 σ8 H8 _ I8 q8) fun b s9 ⟨H9, I9, q9⟩ => ?_
      have fin : ∀ {s' : Shared} {H' : Hp}, Inv (blkX X s3 H3 scope ce fp xe) ([] ++ pinsAt fp s7.heap) σ8 H' s' → Nx H' → ∃ m, m < n ∧ ∃ i H', Inv (blkX X s3 H3 scope ce fp xe) [] (wipe σ (own.map (·.2))) H' s' ∧ tn i s'.heap ∧ (∀ b ∈ fp, H' b = none) ∧ W i m H' := fun {s' H'} I' nx => by
        obtain ⟨m', hm, w'⟩ := hNx H' nx
        have pin' : ∀ b ∈ fp, ∀ o, s7.heap.get? b = some o → s'.heap.get? b = some o ∧ H' b = none := fun b hb o e =>
          let z := I'.pin (b, o) (List.mem_append_right _ (List.mem_append_right _ (mem_pinsAt hb e)))
          ⟨z.1, z.2.1⟩
        refine ⟨m', hm, i + 1, H', (I'.unpinned (pins := [])).weak (by rw [← hw8, wipe_length]) (fun j v e => (wipe_some (by rw [hw8]; exact e)).1), T.keep _ _ _ st7 fun b hb o e => (pin' b hb o e).1, fun b hb => ?_, w'⟩
        obtain ⟨o, e, _⟩ := T.obj _ _ st7 b hb
        exact (pin' b hb o e).2
      cases b with
      | false =>
        simp only [Bool.false_eq_true, if_false] at q9 ⊢
        exact fin I9 q9
      | true =>
        simp only [if_true] at q9 ⊢
        refine err ((pe xe pass).run _ s9 σ8 H9 _ I9 q9) fun z s10 ⟨yv, H10, I10, r10, acc, hD10, hz10, nx⟩ => ?_
        exact app_ok (X := blkX X s3 H3 scope ce fp xe) I10 hD10 hz10 r10 fun s11 I11 => fin I11 nx
  exact codeAny_compStart_list loop (T.self X.A 0 _ _ _ st4 loop)
end
end RC
set_option Elab.async false
set_option linter.all false
set_option maxRecDepth 100000
set_option maxHeartbeats 2000000
namespace RC
open PySem PySem.Spec PyProof.Rows L2
section
variable {X : Cx} {pins : List (Addr × Obj)} {σ : L2.St} {H : Hp} {s : Shared}
theorem inv_drop {ch : List Addr} {hO : Heap} (I : Inv X pins σ H s) (k : ∀ b o, b ∉ ch → s.heap.get? b = some o → hO.get? b = some o) (hn : ∀ b ∈ ch, H b = none) (hb : ∀ b ∈ ch, X.s_0.heap.get? b = none) (hL : ∀ b ∈ ch, b ≠ X.env.locals) (hf : ∀ b ∈ ch, ∃ o vs, s.heap.get? b = some o ∧ o.data = .fields vs) (hp : ∀ p ∈ X.pn ++ pins, p.1 ∉ ch) : Inv X pins σ H { s with heap := hO } := by
  have s0 : ∀ {b : Addr} {o : Obj}, X.s_0.heap.get? b = some o → b ∉ ch := fun {b o} e hc => by rw [hb b hc] at e; cases e
  have cl : ∀ {c : Addr} {v : Option Value}, s.heap.IsCell c v → hO.IsCell c v := fun {c v} ⟨o, ho, hd⟩ => ⟨o, k c o (fun hc => by
    obtain ⟨o', vs, e', hd'⟩ := hf c hc
    rw [ho] at e'
    cases e'
    rw [hd] at hd'; cases hd') ho, hd⟩
  refine ⟨I.ok, I.os, I.bare, ⟨fun b o e n h1 h2 => k b o (s0 e) (I.base.keep b o e n h1 h2), fun b o e n h1 h2 => ?_, I.base.free, fun b o e h1 => ?_, I.base.tups, I.base.frzs, I.base.tbls⟩, ?_, fun x c e => ?_, I.free, I.freeC, fun p q => ?_, fun b u q => ?_, I.len⟩
  · obtain ⟨sl, z⟩ := I.base.slot b o e n h1 h2
    exact ⟨sl, k b _ (s0 e) z⟩
  · obtain ⟨o', z⟩ := I.base.there b o e h1
    exact ⟨o', k b _ (s0 e) z⟩
  · obtain ⟨m, hns, hl⟩ := I.loc
    refine ⟨m, ns_keeps hns fun o ho => k _ o (fun hc => hL _ hc rfl) ho, fun i x v e1 e2 e3 => ?_⟩
    obtain ⟨u, r, q⟩ := hl i x v e1 e2 e3
    refine ⟨u, r, ?_⟩
    rcases q with q | ⟨q1, c, q2, q3⟩
    · exact .inl q
    · exact .inr ⟨q1, c, q2, cl q3⟩
  · obtain ⟨v, z⟩ := I.cell x c e
    exact ⟨v, cl z⟩
  · obtain ⟨z1, z2⟩ := I.pin p q
    exact ⟨k _ _ (hp p q) z1, z2⟩
  · exact (I.hok b u q).stay (fun c v hc r => k c v (fun hch => by
      have z := hn c hch
      rcases hc with hc | hc
      · rw [hc, q] at z; cases z
      · rw [hc] at z; cases z) r) (fun _ r => r) fun _ _ r => r
end
def wAgain (K : PySem.W.Frag) (c : Value) (ts : TS) (Wout : WX) : WX := fun cls d σ H =>
  ∃ b, PySem.W.exmOne K cls c = some b ∧ (b = true → ts { nx := fun σ' H' => Wout cls d σ' H', rt := fun _ _ => False, bk := fun _ _ => False, ct := fun _ _ => False } σ H) ∧ (b = false → Wout cls d σ H)
section
variable {X : Cx} {x : Str} {c : Value} {body : List Stmt} {b₀ : Stmt} {np pos pos' pr : Pos} {tb : WX → TS} {ts : TS} {Wout : WX}
theorem ps_try_again (hs : X.stack = X.env :: X.outer) (hf : X.env.frame = some X.env.locals) (hex : X.ex = []) (hc : Names X x c) (hpa : ∀ hd : Option Value, PassesOwnAt (model X.prog X.w) (X.A.mark hd) X.A X.env X.xe) (tk : Takes X Wout)
    (hb : ∀ (W : WX) (pn : List (Addr × Obj)) (xe : Value → Shared → Prop), Takes (X.tr pn xe) W → PassesOwn (model X.prog X.w) X.A X.env xe → PSs (X.tr pn xe) body (tb W))
    (hsu : ∀ (a : Addr) (pn : List (Addr × Obj)), PS (X.suite a pn) b₀ ts) :
    PS X (.Try body [.ExceptHandler (some (.Name x np)) none [b₀, .Raise none none pr] pos'] [] [] pos) (fun D σ H => tb (wAgain X.K c ts Wout) D σ H) := by
  refine ⟨fun pins s σ H D I h => ?_⟩
  have ok := I.ok
  have hfr : X.A.frames = some (X.env :: X.outer) := by rw [ok.frames, hs]
  refine wpAny_Try_except ?_
  refine wpAny_mono ((hb (wAgain X.K c ts Wout) (X.pn ++ pins) (fun e s₁ => wpAny (model X.prog X.w) X.A (noteFrame e X.env) (fun _ s₂ => wpAny (model X.prog X.w) X.A (setFlight e none) (fun _ s₃ =>
    wpAny (model X.prog X.w) X.A (handleBy e X.env [.ExceptHandler (some (.Name x np)) none [b₀, .Raise none none pr] pos']) (SP X pins D) X.xe s₃) X.xe s₂) X.xe s₁) (fun u s' xx => ?_) PassesOwn.looking).run [] s σ H D (I.toTry _) h) (fun f s1 hsp => ?_) (fun e s1 he => he)
  · obtain ⟨a, B, sI, pins', σ', H', cls, d, rfl, J', nb, up, sky, na, os, ag, b, hb1, hyes, hno⟩ := xx
    have J : Inv X pins σ' H' sI := J'.ofTry ok
    have sky' : Sky B (X.env :: X.outer) a (Zc cls d) X.env.locals s'.heap := by rw [← hs]; exact sky
    show wpAny (model X.prog X.w) X.A (noteFrame (.ref a) X.env) _ _ _
    refine Sky.land Zc.steady hfr hf sky' fun h3 fl3 up3 => ?_
    have J3 : Inv X pins σ' H' { s' with heap := h3 } := J.landed nb fl3.1 (up.trans up3) os ag
    obtain ⟨oe3, vs3, he3, hz3, hd3⟩ := fl3.there
    have notFr : ∀ {h : Heap} {a : Addr} {o : Obj} {vs : Array Value}, h.FunFrames B (X.env :: X.outer) → h.get? a = some o → o.data = .fields vs → a ∉ frs (X.env :: X.outer) := fun {h a o vs} ff e dd hm => by
      obtain ⟨_, o', e', hnf⟩ := ff.mem hm
      rw [e] at e'; cases e'
      exact hnf _ dd
    have nLF : ∀ {b : Addr}, b ∉ frs (X.env :: X.outer) → b ≠ X.env.locals ∧ b ∉ X.fs := fun {b} nfr => ⟨fun z => nfr (List.mem_filterMap.mpr ⟨X.env, List.mem_cons_self, by rw [hf, z]⟩), fun hm => by
      obtain ⟨e, he, q⟩ := List.mem_filterMap.mp hm
      exact nfr (List.mem_filterMap.mpr ⟨e, List.mem_cons_of_mem _ he, q⟩)⟩
    have nfr := notFr fl3.2.2.1 he3 hd3
    obtain ⟨nL, nF⟩ := nLF nfr
    have S3 := J3.suite he3 hd3 na nL nF
    refine wpAny_handleBy_cons (codeAny_handlers_test ?_) (by intro q; cases q)
    have LT : PySem.W.Looks (model X.prog X.w) h3 (typeOf (.ref a)) cls := fun A Q E s k q => wpAny_typeOf_ref (k _ _ he3) (by rw [hz3.1]; exact q)
    have LM := PySem.W.exm_one (M := model X.prog X.w) (J3.kIn) LT hb1
    have test : ∀ {Q : Value → Shared → Prop} {E : Value → Shared → Prop}, Q c { s' with heap := h3 } → wpAny (model X.prog X.w) (X.A.mark (some (.ref a))) (eval (.Name x np) X.env) Q E { s' with heap := h3 } := fun {Q E} q => by
      obtain ⟨hg, hdbg, hm | ⟨hm, hv, hnn⟩⟩ := hc
      · exact ld_glob (X := X.suite a ((a, oe3) :: (X.pn ++ pins))) S3 hg hm q hdbg
      · exact ld_blt (X := X.suite a ((a, oe3) :: (X.pn ++ pins))) S3 hg hm hv q hnn hdbg
    refine test (LM.here ?_)
    have old : ∀ {b : Addr}, B.get? b = none → b ∉ frs (X.env :: X.outer) → X.s_0.heap.get? b = none ∧ ∀ p ∈ X.pn ++ pins, p.1 ≠ b := fun {b} e nf => by
      have e1 : sI.heap.get? b = none := by
        cases q : sI.heap.get? b with
        | none => rfl
        | some o =>
          have := nb b o q (by rw [hs]; exact nf)
          rw [e] at this; cases this
      refine ⟨?_, fun p hp z => ?_⟩
      · cases q : X.s_0.heap.get? b with
        | none => rfl
        | some o =>
          obtain ⟨o', r⟩ := J.base.there b o q (by rw [hex]; simp)
          rw [e1] at r; cases r
      · have := (J.pin p hp).1
        rw [z, e1] at this; cases this
    cases b with
    | true =>
      refine codeAny_handlers_suite ?_
      refine HandSPX.lands_againZ fl3 fun h4 fl4 up4 => ?_
      have J4 : Inv X pins σ' H' { s' with heap := h4 } := J.landed nb fl4.1 ((up.trans up3).trans up4) os ag
      obtain ⟨k1, k2, k3, oe4, vs4, T, oT, ts4, he4, hz4, hd4, h14, hnT, hTe, hT, hdT, h34⟩ := id fl4
      have nfT := notFr k3 hT hdT
      obtain ⟨nLT, nFT⟩ := nLF nfT
      have nT : H' T = none := (J.inGround nb).gone hnT
      have S4 : Inv (X.suite a ((a, oe4) :: (X.pn ++ pins))) [(T, oT)] σ' H' { s' with heap := h4 } := (J4.suite he4 hd4 na nL nF).pins_of fun p hp => by
        rw [List.mem_singleton.mp hp]
        exact ⟨hT, nT, nLT, nFT, fun v z => by rw [show oT.data = .cell v from z] at hdT; cases hdT⟩
      refine wpAny_execs_cons (wpAny_mono ((hsu a ((a, oe4) :: (X.pn ++ pins))).run [(T, oT)] _ _ H' _ S4 (hyes rfl)) (fun f s6 hsp => ?_) (fun _ _ z => False.elim z))
      cases f with
      | brk =>
        obtain ⟨_, _, _, q6⟩ := hsp
        exact False.elim q6
      | cont =>
        obtain ⟨_, _, _, q6⟩ := hsp
        exact False.elim q6
      | ret u =>
        obtain ⟨_, _, _, _, _, q6⟩ := hsp
        exact False.elim q6
      | next =>
        obtain ⟨σ6, H6, S6, q6⟩ := hsp
        obtain ⟨pa, na6, _⟩ := S6.pin (a, oe4) (List.mem_append_left _ List.mem_cons_self)
        obtain ⟨pT, nT6, _⟩ := S6.pin (T, oT) (List.mem_append_right _ (List.mem_singleton.mpr rfl))
        have J6 : Inv X pins σ6 H6 s6 := S6.unsuite ok
        obtain ⟨hO, r1, r2⟩ := restrict s6.heap fun b => decide (b ∉ [a, T])
        have kO : ∀ b o, hO.get? b = some o → s6.heap.get? b = some o ∧ b ∉ [a, T] := fun b o e => by
          by_cases z : b ∈ [a, T]
          · rw [r2 b (decide_eq_false fun h => h z)] at e; cases e
          · rw [r1 b (decide_eq_true z)] at e; exact ⟨e, z⟩
        have kI : ∀ b o, b ∉ [a, T] → s6.heap.get? b = some o → hO.get? b = some o := fun b o z e => by rw [r1 b (decide_eq_true z)]; exact e
        obtain ⟨oa0, oa1⟩ := old k2 nfr
        obtain ⟨oT0, oT1⟩ := old hnT nfT
        have two : ∀ {R : Addr → Prop}, R a → R T → ∀ b ∈ [a, T], R b := fun ha hT b hb => by
          rcases List.mem_cons.mp hb with e | hb
          · rw [e]; exact ha
          · rw [List.mem_singleton.mp hb]; exact hT
        have IO : Inv X pins σ6 H6 { s6 with heap := hO } := inv_drop J6 kI (two na6 nT6) (two oa0 oT0) (two nL nLT) (two ⟨_, _, pa, hd4⟩ ⟨_, _, pT, hdT⟩) fun p hp hm => by
          rcases List.mem_cons.mp hm with e | hm
          · exact oa1 p hp e
          · exact oT1 p hp (List.mem_singleton.mp hm)
        obtain ⟨B6, hB6⟩ : ∃ B6, B6 = PySem.W.hideAll hO (frs X.stack) := ⟨_, rfl⟩
        have hB : ∀ b o, B6.get? b = some o → hO.get? b = some o := fun b o e => by rw [hB6] at e; exact PySem.W.of_hideAll _ e
        have gB : ∀ b o, hO.get? b = some o → b ∉ frs X.stack → B6.get? b = some o := fun b o e hb => by rw [hB6]; exact PySem.W.hideAll_get _ e hb
        have nB : ∀ b ∈ frs X.stack, B6.get? b = none := fun b hb => by rw [hB6]; exact PySem.W.hideAll_none _ hb
        clear hB6
        have bN : ∀ {b : Addr}, b ∈ [a, T] → B6.get? b = none := fun {b} hb => by
          cases q : B6.get? b with
          | none => rfl
          | some o => exact absurd hb (kO b o (hB b o q)).2
        have ff : s6.heap.FunFrames B6 X.stack := Heap.FunFrames.of_keeps (fun b o e _ => ⟨o, (kO b o e).1, rfl⟩) (funFrames_none IO.stack nB)
        have fl6 : HandSPX.FlyingZ B6 (X.env :: X.outer) a (Zc cls d) s6.heap :=
          ⟨fun b o e => (kO b o (hB b o e)).1, bN List.mem_cons_self, by rw [← hs]; exact ff, oe4, vs4, T, oT, ts4, pa, hz4, hd4, h14, bN (List.mem_cons_of_mem _ (List.mem_singleton.mpr rfl)), hTe, pT, hdT, h34⟩
        refine wpAny_execs_cons (wpAny_mono (Q := fun _ _ => False) (E := X.xe) ?_ (fun _ _ z => z.elim) (fun e s z => hpa _ e s z))
        refine wpAny_Raise_bare ?_
        unfold raiseBare raiseStmt
        dsimp only
        refine wpAny_bind (wpAny_handled ?_)
        show wpAny (model X.prog X.w) (X.A.mark (some (.ref a))) _ _ _ _
        rw [show (X.A.mark (some (.ref a))).handled = some (.ref a) from rfl]
        dsimp only
        refine wpAny_bind (wpAny_rule ?_)
        refine wpAny_bind (wpAny_field pa hd4 h14 ?_)
        rw [if_neg (show ¬ ((Value.ref T == Value.none) = true) from by simp)]
        rw [hf]
        have last : ∀ {α : Type}, wpAny (model X.prog X.w) (X.A.mark (some (.ref a))) (setFlight (.ref a) (some X.env.locals)) (fun _ s7 => wpAny (model X.prog X.w) (X.A.mark (some (.ref a))) (throw (.ref a) : Sem α) (fun _ _ => False) X.xe s7) X.xe s6 := fun {α} =>
          HandSPX.setFlight_upZ fl6 fun h7 hh7 up7 => wpAny_throw (tk _ _ ⟨a, _, { s6 with heap := hO }, pins, σ6, H6, cls, d, rfl, IO, gB, (Heap.UpToSlots.of_keeps fun b o e => (kO b o e).1).trans up7, .inr (.inr (by rw [hs]; exact hh7)), na6, rfl, S6.bare, q6⟩)
        first
          | exact wpAny_bind last
          | exact wpAny_bind (wpAny_pure (wpAny_bind last))
    | false =>
      show wpAny _ X.A (handleBy (.ref a) X.env []) _ _ _
      refine wpAny_handleBy_nil ?_
      obtain ⟨k1, k2, k3, oe, vs, T, oT, ts', he, hz, hd, h1, hr⟩ := id fl3
      unfold PySem.passOn
      refine wpAny_bind (wpAny_field he hd h1 ?_)
      rw [if_neg (show ¬ ((Value.ref T == Value.none) = true) from by simp)]
      have fin : wpAny (model X.prog X.w) X.A (setFlight (.ref a) X.env.frame) (fun _ s4 => wpAny (model X.prog X.w) X.A (throw (.ref a) : Sem Flow) (SP X pins D) X.xe s4) X.xe { s' with heap := h3 } := by
        rw [hf]
        refine HandSPX.setFlight_upZ fl3 fun h4 hh4 up4 => wpAny_throw (tk _ _ ?_)
        exact ⟨a, B, sI, pins, σ', H', cls, d, rfl, J, nb, (up.trans up3).trans up4, .inr (.inr (by rw [hs]; exact hh4)), na, os, ag, hno rfl⟩
      first
        | exact wpAny_bind (wpAny_pure (wpAny_bind fin))
        | exact wpAny_bind fin
  · cases f with
    | next =>
      obtain ⟨σ', H', J', q⟩ := hsp
      exact wpAny_execs_nil ⟨σ', H', J'.ofTry ok, q⟩
    | brk =>
      obtain ⟨σ', H', J', q⟩ := hsp
      exact ⟨σ', H', J'.ofTry ok, q⟩
    | cont =>
      obtain ⟨σ', H', J', q⟩ := hsp
      exact ⟨σ', H', J'.ofTry ok, q⟩
    | ret u =>
      obtain ⟨v, σ', H', J', r, q⟩ := hsp
      exact ⟨v, σ', H', J'.ofTry ok, r, q⟩
end
end RC
set_option Elab.async false
set_option linter.all false
set_option maxRecDepth 100000
set_option maxHeartbeats 4000000
namespace KO1
open PySem PySem.Spec PyProof.Rows L2 KB KC KS KN1 LamX K7
abbrev sBM (j : Nat) : Stmt := inClass sReader j
abbrev bF (p : Addr) (i : Nat) : List (Str × V) := [("data", .ref p), ("place", .int i)]
def RdA (CB r p : Addr) (dat : List Int) (i : Nat) (H : Hp) : Prop := (∃ dx, H r = some (.ins CB dx (bF p i))) ∧ H p = some (.tup (dat.map V.int)) ∧ i ≤ dat.length
theorem RdA.ex {CB r p : Addr} {dat : List Int} {i : Nat} {H H' : Hp} (x : RdA CB r p dat i H) (e : KS.Ex H H') : RdA CB r p dat i H' := by
  obtain ⟨⟨dx, h1⟩, h2, h3⟩ := x
  exact ⟨⟨dx, e _ _ h1⟩, e _ _ h2, h3⟩
structure TxtB (K : PySem.W.Frag) (mg : Str → Option Value) (CB : Addr) : Prop where
  cl : Cls K CB
  d : NoAttr K CB "data"
  p : NoAttr K CB "place"
  g : mg "ByteReader" = some (.ref CB)
@[irreducible] def spP {α : Type} (CB CR : Addr) (f : List Int → Option (α × List Int)) (R : Hp → V → α → Prop) : Sp := fun vs H Q E => ∃ (r p : Addr) (dat : List Int) (i : Nat), vs = [.ref r] ∧ RdA CB r p dat i H ∧ Bytes dat ∧ dat.length ≤ 1000 ∧
  (f (dat.drop i) = none → ∀ H' j, ExD r H H' → RdA CB r p dat j H' → E (.ref CR) none H') ∧
  (∀ a rest, f (dat.drop i) = some (a, rest) → ∀ H' j v, ExD r H H' → RdA CB r p dat j H' → dat.drop j = rest → R H' v a → Q v H')
theorem readP {α : Type} {CB CR r p : Addr} {f : List Int → Option (α × List Int)} {R : Hp → V → α → Prop} {dat : List Int} {i : Nat} {H : Hp} {Q : VK} {E : XK} (x : RdA CB r p dat i H) (hb : Bytes dat) (hl : dat.length ≤ 1000) (bad : f (dat.drop i) = none → ∀ H' j, ExD r H H' → RdA CB r p dat j H' → E (.ref CR) none H')
    (good : ∀ a rest, f (dat.drop i) = some (a, rest) → ∀ H' j v, ExD r H H' → RdA CB r p dat j H' → dat.drop j = rest → R H' v a → Q v H') : spP CB CR f R [.ref r] H Q E := by
  unfold spP
  exact ⟨r, p, dat, i, rfl, x, hb, hl, bad, good⟩
def RI : Hp → V → Int → Prop := fun _ v a => v = .int a
def RN : Hp → V → Nat → Prop := fun _ v a => v = .int (a : Int)
def pB : List Int → Option (Int × List Int)
  | [] => none
  | b :: r => some (b, r)
theorem bF_m {p : Addr} {i : Nat} {x : Str} (h1 : (x == ("data" : Str)) = false) (h2 : (x == ("place" : Str)) = false) : (bF p i).lookup x = none := by
  simp only [List.lookup, h1, h2]
section
variable {P : Program} {w : World} {K : PySem.W.Frag} {mg : Str → Option Value} {base : Heap} {f CB CR : Addr} {fd : FuncData}
theorem scBy : FnScope ["self", "found"] ["self"] (defScope (sBM 1)) := ⟨rfl, rfl, rfl, by decide +kernel, rfl, by decide +kernel, by decide +kernel⟩
theorem ok_byte (F : FnP K "byte" "ByteReader.byte" (sBM 1) [] f fd) (B : TxtB K mg CB) (T : TxtL mg) (J : TxtX K mg CR) : FnOk P w K mg base (L2.CX P w) 1 f fd ["self"] (spP CB CR pB RI) := by
  refine F.ok scBy (fun vs H Q E h => ?_) (fun cdv A outer s H vs Q E hr h => ?_)
  · unfold spP at h
    obtain ⟨_, _, _, _, rfl, _⟩ := h; rfl
  · unfold spP at h
    obtain ⟨r, p, dat, i, rfl, x, hb, hl, bad, good⟩ := h
    refine ⟨_, pss_cons (ps_if (pt_cmpR op_ge (pf 0) (pe_callB call_len_seq (by rfl) T.len (by decide +kernel) (pa_cons (pf 0) pa_nil)) (nomark _))
        (pss_one (ps_raise rfl (takes_of rfl rfl rfl rfl) (pmk_own PySem.F.excBase_ValueError J.x J.g J.k (raises_own J.b J.t) rfl))) pss_nil)
      (PSs.nox <| pss_cons (ps_set (i := 1) scBy.nd rfl (Or.inl rfl) (pe_ix ix_tupD (pf 0) (pf 0) (fun _ _ => rfl))) (pss_cons (ps_fldaug (pv 0) pe_int in_add) (pss_one (ps_ret (pv 1))))), ?_⟩
    obtain ⟨⟨dx, h1⟩, h2, h3⟩ := id x
    refine ⟨_, rfl, r, CB, dx, _, _, rfl, h1, B.cl, B.p, rfl, _, rfl, r, CB, dx, _, _, rfl, h1, B.cl, B.d, rfl, p, _, rfl, .inr (SqT.of h2), _, _, rfl, rfl, _, rfl, ?_⟩
    rw [List.length_map]
    by_cases c : dat.length ≤ i
    · refine ifT (decide_eq_true (by omega)) ?_
      have e0 : dat.drop i = [] := List.drop_eq_nil_of_le c
      exact bad (by rw [e0]; rfl) H i (fun _ _ _ h => h) x
    · refine ifF (by simp; omega) ?_
      have hi : i < dat.length := by omega
      have e0 : dat.drop i = dat[i] :: dat.drop (i + 1) := List.drop_eq_getElem_cons hi
      refine ⟨_, rfl, r, CB, dx, _, _, rfl, h1, B.cl, B.d, rfl, _, rfl, r, CB, dx, _, _, rfl, h1, B.cl, B.p, rfl, p, _, _, .int dat[i], rfl, rfl, h2, atI_nat (by rw [List.getElem?_map, List.getElem?_eq_getElem hi]; rfl), ?_⟩
      refine ⟨_, rfl, r, CB, dx, _, _, rfl, h1, B.cl, B.p, rfl, _, _, rfl, rfl, dx, _, h1, (by show 2 < 1000; decide), ?_⟩
      show ∃ v, _
      refine ⟨_, rfl, ?_⟩
      refine good dat[i] _ (by rw [e0]; rfl) (upd H r (.ins CB dx (bF p (i + 1)))) (i + 1) _ (fun b o n h => by rw [L2.upd_ne n]; exact h) ⟨⟨dx, upd_same⟩, ?_, hi⟩ rfl rfl
      rw [L2.upd_ne (fun z => by rw [z, h1] at h2; cases h2)]
      exact h2
theorem pN_stop {b : Int} {r : List Int} (h : ¬ 128 ≤ b) : pN (b :: r) = some (b.toNat, r) := if_neg h
theorem scNa : FnScope ["self", "number", "worth", "byte"] ["self"] (defScope (sBM 4)) := ⟨rfl, rfl, rfl, by decide +kernel, rfl, by decide +kernel, by decide +kernel⟩
theorem byte_step {r p : Addr} {dat : List Int} {i : Nat} {H : Hp} {Q : VK} {E : XK} (x : RdA CB r p dat i H) (hb : Bytes dat) (hl : dat.length ≤ 1000) (bad : dat.drop i = [] → ∀ H' j, ExD r H H' → RdA CB r p dat j H' → E (.ref CR) none H')
    (good : ∀ b rest, dat.drop i = b :: rest → ∀ H' j, ExD r H H' → RdA CB r p dat j H' → dat.drop j = rest → 0 ≤ b → b < 256 → Q (.int b) H') : spP CB CR pB RI [.ref r] H Q E := by
  refine readP x hb hl (fun h => bad ?_) (fun a rest h H' j v e x' hj hv => ?_)
  · cases q : dat.drop i with
    | nil => rfl
    | cons b r => rw [q] at h; cases h
  · cases q : dat.drop i with
    | nil => rw [q] at h; cases h
    | cons b r0 =>
      rw [q] at h
      have h : some (b, r0) = some (a, rest) := h
      injection h with h
      injection h with h1 h2
      subst h1 h2
      have hv : v = .int b := hv
      rw [hv]
      have hm : b ∈ dat := List.mem_of_mem_drop (by rw [q]; exact List.mem_cons_self)
      exact good b r0 q H' j e x' hj (hb b hm).1 (hb b hm).2
end
end KO1
set_option Elab.async false
set_option linter.all false
set_option maxRecDepth 100000
set_option maxHeartbeats 4000000
namespace KO1
open PySem PySem.Spec PyProof.Rows L2 KB KC KS KN1 LamX K7
def pG (k : Nat) (l : List Int) : Option (Nat × List Int) := if k = 0 then pN l else pN1 l
theorem pG_go {k : Nat} {b : Int} {r : List Int} (h : 128 ≤ b) : pG k (b :: r) = (pN1 r).map fun q => ((b - 128).toNat + 128 * q.1, q.2) := by
  unfold pG
  split
  · exact if_pos h
  · exact if_pos h
theorem pG_stop0 {b : Int} {r : List Int} (h : ¬ 128 ≤ b) : pG 0 (b :: r) = some (b.toNat, r) := if_neg h
theorem pG_zero {k : Nat} {r : List Int} (hk : k ≠ 0) : pG k (0 :: r) = none := by
  unfold pG
  rw [if_neg hk]
  exact (if_neg (by decide)).trans (if_pos rfl)
theorem pG_stop {k : Nat} {b : Int} {r : List Int} (hk : k ≠ 0) (h : ¬ 128 ≤ b) (h0 : b ≠ 0) : pG k (b :: r) = some (b.toNat, r) := by
  unfold pG
  rw [if_neg hk]
  exact (if_neg h).trans (if_neg h0)
section
variable {P : Program} {w : World} {K : PySem.W.Frag} {mg : Str → Option Value} {base : Heap} {f fB CB CR : Addr} {fd fdB : FuncData}
theorem ok_natural (F : FnP K "natural" "ByteReader.natural" (sBM 4) [] f fd) (B : TxtB K mg CB) (T : TxtL mg) (J : TxtX K mg CR)
    (mB : Meth K CB "byte" fB) (GB : FnOk P w K mg base (L2.CX P w) 1 fB fdB ["self"] (spP CB CR pB RI)) (bB : Binds K fdB ["self"] []) : FnOk P w K mg base (L2.CX P w) 2 f fd ["self"] (spP CB CR pN RN) := by
  refine F.ok scNa (fun vs H Q E h => ?_) (fun cdv A outer s H vs Q E hr h => ?_)
  · unfold spP at h
    obtain ⟨_, _, _, _, rfl, _⟩ := h; rfl
  · unfold spP at h
    obtain ⟨r, p, dat, i, rfl, x, hb, hl, bad, good⟩ := h
    refine ⟨_, pss_cons (ps_set (i := 1) scNa.nd rfl (Or.inl rfl) pe_int) (pss_cons (ps_set (i := 2) scNa.nd rfl (Or.inl rfl) pe_int)
      (pss_cons (ps_set (i := 3) scNa.nd rfl (Or.inl rfl) (pe_meth0 (pv 0) B.cl mB GB hr bB .nil (passes_call (takes_of rfl rfl rfl rfl) (fun _ _ _ _ h => h))))
      (pss_cons (ps_while (passes_of rfl) (pt_cmpR op_ge (pv 3) pe_int (nomark _))
        (pss_cons (ps_aug (i := 1) scNa.nd rfl (Or.inl rfl) (pe_op op_mul (pe_op op_sub (pv 3) pe_int) (pv 2)) ip_add)
          (pss_cons (ps_set (i := 2) scNa.nd rfl (Or.inl rfl) (pe_op op_mul (pv 2) pe_int))
          (pss_one (ps_set (i := 3) scNa.nd rfl (Or.inl rfl) (pe_meth0 (pv 0) B.cl mB GB hr bB .nil (passes_call (takes_of rfl rfl rfl rfl) (fun _ _ _ _ h => h))))))))
      (pss_cons (ps_if (PW.pt (pw_and (pt_cmpR op_eq (pv 3) pe_int (nomark _)) (pw_and1 (pt_cmpR op_gt (pv 2) pe_int (nomark _)))))
        (pss_one (ps_raise rfl (takes_of rfl rfl rfl rfl) (pmk_own PySem.F.excBase_ValueError J.x J.g J.k (raises_own J.b J.t) rfl))) pss_nil)
      (pss_one (ps_ret (pe_op op_add (pv 1) (pe_op op_mul (pv 3) (pv 2)))))))))  , ?_⟩
    obtain ⟨⟨dx, h1⟩, h2, h3⟩ := id x
    refine ⟨_, rfl, r, dx, _, rfl, h1, bF_m (by decide +kernel) (by decide +kernel), byte_step x hb hl (fun h0 H' j e x' => bad (by rw [h0]; rfl) H' j e x') fun b0 l0 h0 H1 j1 e1 x1 hj1 b01 b02 => ?_⟩
    refine while_by (fun σ H2 => ∃ (n : Int) (k : Nat) (b : Int) (l : List Int) (j : Nat), σ = [some (.ref r), some (.int n), some (.int (128 ^ k : Nat)), some (.int b)] ∧ ExD r H H2 ∧ RdA CB r p dat j H2 ∧ dat.drop j = l ∧ 0 ≤ b ∧ b < 256 ∧ k ≤ j ∧ 0 ≤ n ∧ pN (dat.drop i) = (pG k (b :: l)).map (fun q => (n.toNat + 128 ^ k * q.1, q.2)))
      (fun σ _ => match σ with | [_, _, some (.int v), _] => 128 ^ (dat.length + 1) - v.toNat | _ => 0)
      ⟨0, 0, b0, l0, j1, rfl, e1, x1, hj1, b01, b02, Nat.zero_le _, Int.le_refl _, ?_⟩ ?_ ?_
    · rw [h0]
      unfold pG
      rw [if_pos rfl]
      cases pN (b0 :: l0) with
      | none => rfl
      | some q => simp
    · rintro σ H2 ⟨n, k, b, l, j, rfl, e2, x2, hj, b1, b2, hk, n0, hp⟩
      obtain ⟨⟨dx2, g1⟩, g2, g3⟩ := id x2
      refine ⟨_, rfl, _, _, rfl, rfl, _, rfl, ?_⟩
      by_cases c : 128 ≤ b
      · refine ifT (decide_eq_true c) ?_
        refine ⟨_, rfl, _, rfl, _, _, rfl, rfl, _, rfl, _, _, rfl, rfl, .inl ⟨by omega, by omega⟩, _, _, rfl, rfl, ?_⟩
        refine ⟨_, rfl, _, _, rfl, rfl, .inr ⟨by decide, by decide⟩, ?_⟩
        refine ⟨_, rfl, r, dx2, _, rfl, g1, bF_m (by decide +kernel) (by decide +kernel), byte_step x2 hb hl (fun h0 H' j' e x' => ?_) fun b' l' h0 H3 j3 e3 x3 hj3 b1' b2' => ?_⟩
        · refine bad ?_ H' j' (fun b o nb h => e b o nb (e2 b o nb h)) x'
          rw [hp, pG_go c]
          rw [hj] at h0
          rw [h0]
          rfl
        · have ew : V.int ((128 ^ k : Nat) * 128 : Int) = V.int (128 ^ (k + 1) : Nat) := by
            rw [Nat.pow_succ, Int.natCast_mul]; rfl
          refine ⟨⟨n + (b - 128) * (128 ^ k : Nat), k + 1, b', l', j3, by rw [← ew]; rfl, fun b o nb h => e3 b o nb (e2 b o nb h), x3, hj3, b1', b2', ?_, ?_, ?_⟩, ?_⟩
          · have l1 : (dat.drop j).length = (dat.drop j3).length + 1 := by rw [h0, hj3]; rfl
            rw [List.length_drop, List.length_drop] at l1
            have := x3.2.2
            omega
          · have : 0 ≤ (b - 128) * (128 ^ k : Nat) := Int.mul_nonneg (by omega) (Int.natCast_nonneg _)
            omega
          · rw [hp, pG_go c]
            rw [hj] at h0
            rw [h0]
            unfold pG
            rw [if_neg (Nat.succ_ne_zero k)]
            cases pN1 (b' :: l') with
            | none => rfl
            | some q =>
              show some _ = some _
              congr 2
              have e1 : (n + (b - 128) * (128 ^ k : Nat)).toNat = n.toNat + (b - 128).toNat * 128 ^ k := by
                have h1 : ((b - 128).toNat : Int) = b - 128 := Int.toNat_of_nonneg (by omega)
                have h2 : (n.toNat : Int) = n := Int.toNat_of_nonneg n0
                have h3 : ((n.toNat + (b - 128).toNat * 128 ^ k : Nat) : Int) = n + (b - 128) * (128 ^ k : Nat) := by
                  rw [Int.natCast_add, Int.natCast_mul, h1, h2]
                rw [← h3, Int.toNat_natCast]
              rw [e1, Nat.pow_succ]
              simp only [Nat.mul_add, Nat.add_mul, Nat.mul_assoc, Nat.mul_comm, Nat.mul_left_comm, Nat.add_assoc]
          · show 128 ^ (dat.length + 1) - (((128 ^ k : Nat) : Int) * 128).toNat < 128 ^ (dat.length + 1) - ((128 ^ k : Nat) : Int).toNat
            have hk2 : 128 ^ (k + 1) ≤ 128 ^ (dat.length + 1) := Nat.pow_le_pow_right (by decide) (by omega)
            have hk3 : 0 < 128 ^ k := Nat.pow_pos (by decide)
            rw [Nat.pow_succ] at hk2
            have : (((128 ^ k : Nat) : Int) * 128).toNat = 128 ^ k * 128 := by omega
            rw [this, Int.toNat_natCast]
            omega
      · refine ifF (by simp; omega) ?_
        refine ⟨_, rfl, rfl, _, rfl, ?_⟩
        have eb : decide (V.int b = V.int 0) = decide (b = 0) := by
          rw [decide_eq_decide]
          exact ⟨fun z => by injection z, fun z => by rw [z]⟩
        rw [eb]
        have ret : pG k (b :: l) = some (b.toNat, l) → Q (.int (n + b * (128 ^ k : Nat))) H2 := fun hg => by
          refine good (n.toNat + 128 ^ k * b.toNat) l (by rw [hp, hg]; rfl) H2 j _ e2 x2 hj ?_
          show V.int _ = V.int _
          congr 1
          have h1 : (b.toNat : Int) = b := Int.toNat_of_nonneg b1
          have h2 : (n.toNat : Int) = n := Int.toNat_of_nonneg n0
          rw [Int.natCast_add, Int.natCast_mul, h1, h2, Int.mul_comm]
        by_cases cz : b = 0
        · refine ifT (decide_eq_true cz) ⟨_, rfl, _, _, rfl, rfl, _, rfl, ?_⟩
          by_cases k0 : k = 0
          · subst k0
            refine ifF (by decide) ?_
            exact ⟨_, rfl, _, rfl, _, rfl, _, _, rfl, rfl, .inl ⟨by omega, by omega⟩, _, _, rfl, rfl, ret (pG_stop0 c)⟩
          · have hk1 : 128 ^ 1 ≤ 128 ^ k := Nat.pow_le_pow_right (by decide) (by omega)
            refine ifT (decide_eq_true (by omega)) ?_
            exact bad (by rw [hp, cz, pG_zero k0]; rfl) H2 j e2 x2
        · refine ifF (by simp [cz]) (ifF (by decide) ?_)
          refine ⟨_, rfl, _, rfl, _, rfl, _, _, rfl, rfl, .inl ⟨by omega, by omega⟩, _, _, rfl, rfl, ret ?_⟩
          by_cases k0 : k = 0
          · rw [k0]; exact pG_stop0 c
          · exact pG_stop k0 c cz
    · rintro σ H Q Q' imp ⟨x, hx, i, j, e1, e2, c, e3, q⟩
      exact ⟨x, hx, i, j, e1, e2, c, e3, imp _ _ q⟩
end
end KO1
set_option Elab.async false
set_option linter.all false
set_option maxRecDepth 100000
set_option maxHeartbeats 4000000
namespace KO1
open PySem PySem.Spec PyProof.Rows L2 KB KC KS KN1 LamX K7
def pL : List Int → Option (Nat × List Int)
  | [] => none
  | b :: r => (tabL[b.toNat]?).map fun c => (c, r)
def gL (c : Nat) : V := .str ⟨#[c]⟩
def RV {α : Type} (g : α → V) : Hp → V → α → Prop := fun _ v a => v = g a
def pM {α : Type} (f : List Int → Option (α × List Int)) : Nat → List Int → Option (List α × List Int)
  | 0, l => some ([], l)
  | n + 1, l => match f l with
    | none => none
    | some q => (pM f n q.2).map fun z : List α × List Int => (q.1 :: z.1, z.2)
theorem pM_snoc {α : Type} {f : List Int → Option (α × List Int)} {a : α} {r l' : List Int} : ∀ {i : Nat} {l : List Int} {cs : List α}, pM f i l = some (cs, l') → f l' = some (a, r) → pM f (i + 1) l = some (cs ++ [a], r)
  | 0, l, cs, h, hf => by
    obtain ⟨rfl, rfl⟩ := Prod.mk.inj (Option.some.inj h)
    show (match f l with | none => none | some q => (pM f 0 q.2).map fun z : List α × List Int => (q.1 :: z.1, z.2)) = _
    rw [hf]; rfl
  | i + 1, l, cs, h, hf => by
    have h : (match f l with | none => none | some q => (pM f i q.2).map fun z : List α × List Int => (q.1 :: z.1, z.2)) = some (cs, l') := h
    show (match f l with | none => none | some q => (pM f (i + 1) q.2).map fun z : List α × List Int => (q.1 :: z.1, z.2)) = _
    cases hq : f l with
    | none => rw [hq] at h; cases h
    | some q =>
      rw [hq] at h
      obtain ⟨z, hz, ez⟩ := Option.map_eq_some_iff.mp h
      obtain ⟨z1, z2⟩ := z
      obtain ⟨e1, e2⟩ := Prod.mk.inj ez
      have e1 : q.1 :: z1 = cs := e1
      have e2 : z2 = l' := e2
      subst e1 e2
      show (pM f (i + 1) q.2).map _ = _
      rw [pM_snoc hz hf]; rfl
theorem pM_stop {α : Type} {f : List Int → Option (α × List Int)} {l' : List Int} : ∀ {i n : Nat} {l : List Int} {cs : List α}, pM f i l = some (cs, l') → f l' = none → i < n → pM f n l = none
  | _, 0, _, _, _, _, h => absurd h (Nat.not_lt_zero _)
  | 0, n + 1, l, cs, h, hf, _ => by
    obtain ⟨rfl, rfl⟩ := Prod.mk.inj (Option.some.inj h)
    show (match f l with | none => none | some q => (pM f n q.2).map fun z : List α × List Int => (q.1 :: z.1, z.2)) = _
    rw [hf]
  | i + 1, n + 1, l, cs, h, hf, lt => by
    have h : (match f l with | none => none | some q => (pM f i q.2).map fun z : List α × List Int => (q.1 :: z.1, z.2)) = some (cs, l') := h
    show (match f l with | none => none | some q => (pM f n q.2).map fun z : List α × List Int => (q.1 :: z.1, z.2)) = _
    cases hq : f l with
    | none => rfl
    | some q =>
      rw [hq] at h
      obtain ⟨z, hz, ez⟩ := Option.map_eq_some_iff.mp h
      obtain ⟨z1, z2⟩ := z
      obtain ⟨e1, e2⟩ := Prod.mk.inj ez
      have e2 : z2 = l' := e2
      subst e2
      show (pM f n q.2).map _ = _
      rw [pM_stop hz hf (Nat.lt_of_succ_lt_succ lt)]; rfl
theorem pM_len {α : Type} {f : List Int → Option (α × List Int)} : ∀ {n : Nat} {l l' : List Int} {cs : List α}, pM f n l = some (cs, l') → cs.length = n
  | 0, l, l', cs, h => by
    obtain ⟨rfl, rfl⟩ := Prod.mk.inj (Option.some.inj h); rfl
  | n + 1, l, l', cs, h => by
    have h : (match f l with | none => none | some q => (pM f n q.2).map fun z : List α × List Int => (q.1 :: z.1, z.2)) = some (cs, l') := h
    cases hq : f l with
    | none => rw [hq] at h; cases h
    | some q =>
      rw [hq] at h
      obtain ⟨z, hz, ez⟩ := Option.map_eq_some_iff.mp h
      obtain ⟨e1, e2⟩ := Prod.mk.inj ez
      rw [← e1, List.length_cons, pM_len hz]
theorem pT_pM : ∀ (n : Nat) (l : List Int), pT tabL n l = pM pL n l
  | 0, _ => rfl
  | n + 1, [] => rfl
  | n + 1, b :: r => by
    rw [pT, pM, pL]
    cases tabL[b.toNat]? with
    | none => rfl
    | some c =>
      show (pT tabL n r).map _ = Option.map _ (pM pL n r)
      rw [pT_pM n r]
theorem pVs_pM : ∀ (n : Nat) (l : List Int), pVs tabL n l = pM (pV tabL) n l
  | 0, _ => rfl
  | n + 1, l => by
    rw [pVs, pM]
    cases pV tabL l with
    | none => rfl
    | some q =>
      show (pVs tabL n q.2).map _ = (pM (pV tabL) n q.2).map _
      rw [pVs_pM n q.2]
theorem tabL_len : tabL.length = 95 := by decide +kernel
theorem ltrs_size : ltrs.length = 95 := by decide +kernel
section
variable {P : Program} {w : World} {K : PySem.W.Frag} {mg : Str → Option Value} {base : Heap} {f fB fL fN CB CR : Addr} {fd fdB fdL fdN : FuncData}
theorem scLe : FnScope ["self", "byte"] ["self"] (defScope (sBM 7)) := ⟨rfl, rfl, rfl, by decide +kernel, rfl, by decide +kernel, by decide +kernel⟩
theorem ok_letter (F : FnP K "letter" "ByteReader.letter" (sBM 7) [] f fd) (B : TxtB K mg CB) (T : TxtL mg) (TK : TxtK mg) (J : TxtX K mg CR)
    (mB : Meth K CB "byte" fB) (GB : FnOk P w K mg base (L2.CX P w) 1 fB fdB ["self"] (spP CB CR pB RI)) (bB : Binds K fdB ["self"] []) : FnOk P w K mg base (L2.CX P w) 2 f fd ["self"] (spP CB CR pL (RV gL)) := by
  obtain ⟨tk, hL⟩ := TK.l
  refine F.ok scLe (fun vs H Q E h => ?_) (fun cdv A outer s H vs Q E hr h => ?_)
  · unfold spP at h
    obtain ⟨_, _, _, _, rfl, _⟩ := h; rfl
  · unfold spP at h
    obtain ⟨r, p, dat, i, rfl, x, hb, hl, bad, good⟩ := h
    refine ⟨_, pss_cons (ps_set (i := 1) scLe.nd rfl (Or.inl rfl) (pe_meth0 (pv 0) B.cl mB GB hr bB .nil (passes_call (takes_of rfl rfl rfl rfl) (fun _ _ _ _ h => h))))
      (pss_cons (ps_if (pt_cmpR op_ge (pv 1) (pe_callB call_len_str (by rfl) T.len (by decide +kernel) (pa_cons (pe_glob (v := .str ltrs) (by rfl) hL ⟨_, rfl⟩) pa_nil)) (nomark _))
        (pss_one (ps_raise rfl (takes_of rfl rfl rfl rfl) (pmk_own PySem.F.excBase_ValueError J.x J.g J.k (raises_own J.b J.t) rfl))) pss_nil)
      (pss_one (ps_ret (pe_ix ix_str (pe_glob (v := .str ltrs) (by rfl) hL ⟨_, rfl⟩) (pv 1) (fun _ _ => rfl))))), ?_⟩
    obtain ⟨⟨dx, h1⟩, h2, h3⟩ := id x
    refine ⟨_, rfl, r, dx, _, rfl, h1, bF_m (by decide +kernel) (by decide +kernel), byte_step x hb hl (fun h0 H' j e x' => bad (by rw [h0]; rfl) H' j e x') fun b rest h0 H1 j1 e1 x1 hj1 b1 b2 => ?_⟩
    refine ⟨_, rfl, ltrs, rfl, by rw [ltrs_size]; decide, _, _, rfl, rfl, ?_⟩
    rw [ltrs_size]
    refine ⟨_, rfl, ?_⟩
    by_cases c : (95 : Int) ≤ b
    · refine ifT (decide_eq_true c) ?_
      refine bad ?_ H1 j1 e1 x1
      rw [h0]
      show (tabL[b.toNat]?).map _ = none
      rw [List.getElem?_eq_none (by rw [tabL_len]; omega)]; rfl
    · refine ifF (by simpa using c) ?_
      have hlt : b.toNat < tabL.length := by rw [tabL_len]; omega
      obtain ⟨c0, hc0⟩ : ∃ c0, tabL[b.toNat]? = some c0 := ⟨_, List.getElem?_eq_getElem hlt⟩
      have ha : atI ltrs.cps.toList ((b.toNat : Nat) : Int) = some c0 := atI_nat hc0
      rw [Int.toNat_of_nonneg b1] at ha
      refine ⟨_, rfl, ltrs, b, c0, rfl, rfl, by rw [ltrs_size]; decide, ha, ?_⟩
      refine good c0 rest ?_ H1 j1 _ e1 x1 hj1 rfl
      rw [h0]
      show (tabL[b.toNat]?).map _ = _
      rw [hc0]; rfl
theorem many_lc {α : Type} {m : Str} {f : List Int → Option (α × List Int)} {g : α → V} {r p : Addr} {dat : List Int} {i n : Nat} {u1 u2 : Option V} {H : Hp} {D : Addr} {Qd : Hp → Prop} {E : XK} (x : RdA CB r p dat i H) (hb : Bytes dat) (hl : dat.length ≤ 1000) (hD : H D = none) (hn : n ≤ 1000) (hm1 : (m == ("data" : Str)) = false) (hm2 : (m == ("place" : Str)) = false)
    (bad : pM f n (dat.drop i) = none → ∀ H' j, ExD r H H' → RdA CB r p dat j H' → E (.ref CR) none H')
    (good : ∀ as rest, pM f n (dat.drop i) = some (as, rest) → ∀ H' j, ExD r H H' → RdA CB r p dat j H' → dat.drop j = rest → H' D = some (.lst (as.map g)) → Qd H') :
    ∃ W : Nat → Nat → Hp → Prop, (∃ m', W 0 m' (upd H D (.lst []))) ∧ ∀ (i' m' : Nat) (H' : Hp), W i' m' H' → (Itr 0 n).stop i' H' ∧ Qd H' ∨ (Itr 0 n).go i' H' ∧ ∃ Nx : Hp → Prop, (∀ H2, Nx H2 → ∃ m'', m'' < m' ∧ W (i' + 1) m'' H2) ∧ ∀ (x : V) (H2 : Hp), (Itr 0 n).yld i' H' x H2 → gName 2 x (wipe [some (.ref r), u1, u2] [2]) H2 fun σ2 H3 => wipe σ2 [2] = wipe [some (.ref r), u1, u2] [2] ∧ tYes σ2 H3 fun b H4 => if b = true then tMeth CB m (spP CB CR f (RV g)) [] E (tVar 0) tNil σ2 H4 fun y H5 => ∃ acc, H5 D = some (.lst acc) ∧ acc.length < sizeLine ∧ Nx (upd H5 D (.lst (acc ++ [y]))) else Nx H4 := by
  refine lc_range (fun q H2 => ∃ cs j, pM f q (dat.drop i) = some (cs, dat.drop j) ∧ RdA CB r p dat j H2 ∧ ExD r H H2 ∧ H2 D = some (.lst (cs.map g))) ⟨[], i, rfl, x.ex (Ex.upd hD), fun b o _ h => Ex.upd hD b o h, upd_same⟩ (fun q H2 hq ⟨cs, j, h1, x2, e2, hD2⟩ => ?_) (fun H2 ⟨cs, j, h1, x2, e2, hD2⟩ => good cs _ h1 H2 j e2 x2 rfl hD2)
  obtain ⟨⟨dx, g1⟩, g2, g3⟩ := id x2
  have nr : D ≠ r := fun z => by rw [z, g1] at hD2; cases hD2
  have np : D ≠ p := fun z => by rw [z, g2] at hD2; cases hD2
  refine ⟨rfl, _, rfl, r, dx, _, rfl, g1, bF_m hm1 hm2, readP x2 hb hl (fun h H' j' e' x' => bad (pM_stop h1 h hq) H' j' (fun b o nb hb => e' b o nb (e2 b o nb hb)) x') fun a rest h H' j' v e' x' hj hv => ?_⟩
  have hv : v = g a := hv
  have lc := pM_len h1
  have hz : sizeLine = 16777216 := rfl
  have hD' := e' _ _ nr hD2
  refine ⟨_, hD', by rw [List.length_map]; omega, cs ++ [a], j', by rw [hj]; exact pM_snoc h1 h, ?_, fun b o nb hb' => ?_, ?_⟩
  · obtain ⟨⟨dx', k1⟩, k2, k3⟩ := x'
    exact ⟨⟨dx', by rw [L2.upd_ne nr.symm]; exact k1⟩, by rw [L2.upd_ne np.symm]; exact k2, k3⟩
  · rw [L2.upd_ne fun z => by rw [z, hD] at hb'; cases hb']
    exact e' b o nb (e2 b o nb hb')
  · rw [upd_same, List.map_append, hv]; rfl
end
end KO1
set_option Elab.async false
set_option linter.all false
set_option maxRecDepth 100000
set_option maxHeartbeats 4000000
namespace KO1
open PySem PySem.Spec PyProof.Rows L2 KB KC KS KN1 LamX K7
def pTx (l : List Int) : Option (List Nat × List Int) := match pN l with
  | none => none
  | some q => if q.2.length < q.1 then none else pM pL q.1 q.2
def gT (cs : List Nat) : V := .str ⟨cs.toArray⟩
def nTx : List Str := ["self", "many", "_"]
theorem join_signs : ∀ (cs : List Nat), Txt.join "" (cs.map fun c => (⟨#[c]⟩ : Str)) = ⟨cs.toArray⟩ := by
  intro cs
  have go : ∀ (cs : List Nat) (a : Array Nat), List.foldl (fun acc (p : Str) => acc ++ ("" : Str).cps ++ p.cps) a (cs.map fun c => (⟨#[c]⟩ : Str)) = a ++ cs.toArray := by
    intro cs
    induction cs with
    | nil => intro a; simp
    | cons c cs ih =>
      intro a
      rw [List.map_cons, List.foldl_cons, ih]
      have e0 : ("" : Str).cps = #[] := rfl
      rw [e0]
      simp
  cases cs with
  | nil => rfl
  | cons c cs =>
    show (⟨_⟩ : Str) = ⟨_⟩
    congr 1
    show List.foldl (fun acc (p : Str) => acc ++ ("" : Str).cps ++ p.cps) #[c] (cs.map fun c => (⟨#[c]⟩ : Str)) = _
    rw [go]
    simp
theorem sum_ones (cs : List Nat) : ((cs.map fun c => (⟨#[c]⟩ : Str)).map fun x => x.length).sum = cs.length := by
  induction cs with
  | nil => rfl
  | cons c cs ih =>
    rw [List.map_cons, List.map_cons, List.sum_cons, ih, List.length_cons]
    show 1 + cs.length = _
    omega
section
variable {P : Program} {w : World} {K : PySem.W.Frag} {mg : Str → Option Value} {base : Heap} {f fB fL fN CB CR : Addr} {fd fdB fdL fdN : FuncData}
theorem scTx : FnScope nTx ["self"] (defScope (sBM 6)) := ⟨rfl, rfl, rfl, by decide +kernel, rfl, by decide +kernel, by decide +kernel⟩
theorem ok_text (F : FnP K "text" "ByteReader.text" (sBM 6) [] f fd) (B : TxtB K mg CB) (T : TxtL mg) (J : TxtX K mg CR)
    (mN : Meth K CB "natural" fN) (GN : FnOk P w K mg base (L2.CX P w) 2 fN fdN ["self"] (spP CB CR pN RN)) (bN : Binds K fdN ["self"] [])
    (mL : Meth K CB "letter" fL) (GL : FnOk P w K mg base (L2.CX P w) 2 fL fdL ["self"] (spP CB CR pL (RV gL))) (bL : Binds K fdL ["self"] []) : FnOk P w K mg base (L2.CX P w) 3 f fd ["self"] (spP CB CR pTx (RV gT)) := by
  refine F.ok scTx (fun vs H Q E h => ?_) (fun cdv A outer s H vs Q E hr h => ?_)
  · unfold spP at h
    obtain ⟨_, _, _, _, rfl, _⟩ := h; rfl
  · unfold spP at h
    obtain ⟨r, p, dat, i, rfl, x, hb, hl, bad, good⟩ := h
    refine ⟨_, pss_cons (ps_set (i := 1) scTx.nd rfl (Or.inl rfl) (pe_meth0 (pv 0) B.cl mN GN hr bN .nil (passes_call (takes_of rfl rfl rfl rfl) (fun _ _ _ _ h => h))))
      (pss_cons (ps_if (pt_cmpR op_gt (pv 1) (pe_op op_sub (pe_callB call_len_seq (by rfl) T.len (by decide +kernel) (pa_cons (pf 0) pa_nil)) (pf 0)) (nomark _))
        (pss_one (ps_raise rfl (takes_of rfl rfl rfl rfl) (pmk_own PySem.F.excBase_ValueError J.x J.g J.k (raises_own J.b J.t) rfl))) pss_nil)
      (pss_one (ps_ret (pe_bm PySem.F.plainAttrs_str PySem.F.slot_str_join PySem.F.type_str_join mt_join pe_str (pa_cons
        (RC.pe_lcX (own := [("_", 2)]) (g := gName 2) (tt := tYes) (te := tMeth CB "letter" (spP CB CR pL (RV gL)) [] E (tVar 0) tNil) (E := E) rfl scTx.nd rfl rfl (takes_of rfl rfl rfl rfl) (pi_range1 (by rfl) T.range (pa_cons (pv 1) pa_nil)) (blkOk_by (N := nTx) (sc := defScope (sBM 6)) (by decide +kernel))
          (fun _ _ _ _ _ _ _ => pg_name (i := 2) scTx.nd rfl (Or.inl rfl)) (fun _ _ _ _ _ _ _ => pts_nil)
          (fun _ _ _ _ _ _ hp => pe_meth0 (pv 0) B.cl mL GL hr bL .nil hp)) pa_nil))))), ?_⟩
    obtain ⟨⟨dx, h1⟩, h2, h3⟩ := id x
    refine ⟨_, rfl, r, dx, _, rfl, h1, bF_m (by decide +kernel) (by decide +kernel), readP x hb hl (fun h0 H' j e x' => bad (by unfold pTx; rw [h0]) H' j e x') fun n rest h0 H1 j1 v e1 x1 hj1 hv => ?_⟩
    have hv : v = .int (n : Int) := hv
    subst hv
    obtain ⟨⟨dx1, g1⟩, g2, g3⟩ := id x1
    have hrl : rest.length = dat.length - j1 := by rw [← hj1, List.length_drop]
    refine ⟨_, rfl, _, rfl, r, CB, dx1, _, _, rfl, g1, B.cl, B.d, rfl, p, _, rfl, .inr (SqT.of g2), _, rfl, r, CB, dx1, _, _, rfl, g1, B.cl, B.p, rfl, _, _, rfl, rfl, _, _, rfl, rfl, _, rfl, ?_⟩
    rw [List.length_map]
    by_cases c : rest.length < n
    · refine ifT (decide_eq_true (by omega)) ?_
      exact bad (by unfold pTx; rw [h0]; exact if_pos c) H1 j1 e1 x1
    · refine ifF (by simp; omega) ?_
      have ep : pTx (dat.drop i) = pM pL n (dat.drop j1) := by
        unfold pTx; rw [h0, hj1]; exact if_neg c
      refine ⟨rfl, _, rfl, _, rfl, by omega, by omega, fun D hD => ?_⟩
      refine many_lc (m := "letter") (g := gL) x1 hb hl hD (by omega) (by decide +kernel) (by decide +kernel) (fun h H' j' e' x' => bad (ep.trans h) H' j' (fun b o nb hb' => e' b o nb (e1 b o nb hb')) x') (fun cs rs h H2 j2 e2 x2 hj2 hD2 => ?_)
      have lc := pM_len h
      refine ⟨"", D, cs.map fun c => (⟨#[c]⟩ : Str), rfl, rfl, .inl (SqL.of (by rw [hD2, List.map_map]; rfl)), ?_, ?_⟩
      · rw [sum_ones, List.length_map]
        show cs.length + cs.length * 0 ≤ _
        omega
      · rw [join_signs]
        exact good cs rs (ep.trans h) H2 j2 _ (fun b o nb hb' => e2 b o nb (e1 b o nb hb')) x2 hj2 rfl
end
end KO1
set_option Elab.async false
set_option linter.all false
set_option maxRecDepth 100000
set_option maxHeartbeats 4000000
namespace KO1
open PySem PySem.Spec PyProof.Rows L2 KB KC KS KN1 LamX K7
theorem pV_two (r : List Int) : pV tabL (2 :: r) = (pTx r).map fun z : List Nat × List Int => ((.inr (⟨z.1.toArray⟩ : Str) : Key), z.2) := by
  show (match pN r with | none => none | some q => if q.2.length < q.1 then none else (pT tabL q.1 q.2).map fun z : List Nat × List Int => ((.inr ⟨z.1.toArray⟩ : Key), z.2)) = _
  unfold pTx
  cases pN r with
  | none => rfl
  | some q =>
    show (if q.2.length < q.1 then none else (pT tabL q.1 q.2).map fun z : List Nat × List Int => ((.inr ⟨z.1.toArray⟩ : Key), z.2)) = Option.map _ (if q.2.length < q.1 then none else pM pL q.1 q.2)
    by_cases c : q.2.length < q.1
    · rw [if_pos c, if_pos c]; rfl
    · rw [if_neg c, if_neg c, pT_pM]
theorem pV_no {m : Int} (r : List Int) (h0 : m ≠ 0) (h1 : m ≠ 1) (h2 : m ≠ 2) : pV tabL (m :: r) = none := by
  show (if m = 0 then _ else if m = 1 then _ else if m = 2 then _ else none) = none
  rw [if_neg h0, if_neg h1, if_neg h2]
section
variable {P : Program} {w : World} {K : PySem.W.Frag} {mg : Str → Option Value} {base : Heap} {f fB fT fN CB CR : Addr} {fd fdB fdT fdN : FuncData}
theorem scVa : FnScope ["self", "mark"] ["self"] (defScope (sBM 5)) := ⟨rfl, rfl, rfl, by decide +kernel, rfl, by decide +kernel, by decide +kernel⟩
theorem eqI (a b : Int) : decide (V.int a = V.int b) = decide (a = b) := by
  rw [decide_eq_decide]
  exact ⟨fun z => by injection z, fun z => by rw [z]⟩
theorem ok_value (F : FnP K "value" "ByteReader.value" (sBM 5) [] f fd) (B : TxtB K mg CB) (T : TxtL mg) (J : TxtX K mg CR)
    (mB : Meth K CB "byte" fB) (GB : FnOk P w K mg base (L2.CX P w) 1 fB fdB ["self"] (spP CB CR pB RI)) (bB : Binds K fdB ["self"] [])
    (mN : Meth K CB "natural" fN) (GN : FnOk P w K mg base (L2.CX P w) 2 fN fdN ["self"] (spP CB CR pN RN)) (bN : Binds K fdN ["self"] [])
    (mT : Meth K CB "text" fT) (GT : FnOk P w K mg base (L2.CX P w) 3 fT fdT ["self"] (spP CB CR pTx (RV gT))) (bT : Binds K fdT ["self"] []) : FnOk P w K mg base (L2.CX P w) 4 f fd ["self"] (spP CB CR (pV tabL) (RV kV)) := by
  refine F.ok scVa (fun vs H Q E h => ?_) (fun cdv A outer s H vs Q E hr h => ?_)
  · unfold spP at h
    obtain ⟨_, _, _, _, rfl, _⟩ := h; rfl
  · unfold spP at h
    obtain ⟨r, p, dat, i, rfl, x, hb, hl, bad, good⟩ := h
    refine ⟨_, pss_cons (ps_set (i := 1) scVa.nd rfl (Or.inl rfl) (pe_meth0 (pv 0) B.cl mB GB (hr.mono (by decide)) bB .nil (passes_call (takes_of rfl rfl rfl rfl) (fun _ _ _ _ h => h))))
      (pss_cons (ps_if (pt_cmpR op_eq (pv 1) pe_int (nomark _))
        (pss_one (ps_ret (pe_meth0 (pv 0) B.cl mN GN (hr.mono (by decide)) bN .nil (passes_call (takes_of rfl rfl rfl rfl) (fun _ _ _ _ h => h))))) pss_nil)
      (pss_cons (ps_if (pt_cmpR op_eq (pv 1) pe_int (nomark _))
        (pss_one (ps_ret (pe_op op_sub (pe_un un_neg (pe_meth0 (pv 0) B.cl mN GN (hr.mono (by decide)) bN .nil (passes_call (takes_of rfl rfl rfl rfl) (fun _ _ _ _ h => h)))) pe_int))) pss_nil)
      (pss_cons (ps_if (pt_cmpR op_eq (pv 1) pe_int (nomark _))
        (pss_one (ps_ret (pe_meth0 (pv 0) B.cl mT GT hr bT .nil (passes_call (takes_of rfl rfl rfl rfl) (fun _ _ _ _ h => h))))) pss_nil)
      (pss_one (ps_raise rfl (takes_of rfl rfl rfl rfl) (pmk_own PySem.F.excBase_ValueError J.x J.g J.k (raises_own J.b J.t) rfl)))))), ?_⟩
    obtain ⟨⟨dx, h1⟩, h2, h3⟩ := id x
    refine ⟨_, rfl, r, dx, _, rfl, h1, bF_m (by decide +kernel) (by decide +kernel), byte_step x hb hl (fun h0 H' j e x' => bad (by rw [h0]; rfl) H' j e x') fun b rest h0 H1 j1 e1 x1 hj1 b1 b2 => ?_⟩
    obtain ⟨⟨dx1, g1⟩, g2, g3⟩ := id x1
    have tr : ∀ {H2 : Hp}, ExD r H1 H2 → ExD r H H2 := fun e b o nb hb' => e b o nb (e1 b o nb hb')
    refine ⟨_, rfl, rfl, _, rfl, ?_⟩
    rw [eqI]
    by_cases c0 : b = 0
    · refine ifT (decide_eq_true c0) ?_
      subst c0
      have ep : pV tabL (dat.drop i) = (pN (dat.drop j1)).map fun q : Nat × List Int => ((.inl (q.1 : Int) : Key), q.2) := by rw [h0, hj1]; rfl
      refine ⟨_, rfl, r, dx1, _, rfl, g1, bF_m (by decide +kernel) (by decide +kernel), readP x1 hb hl (fun hn H' j e x' => bad (by rw [ep, hn]; rfl) H' j (tr e) x') fun n rs hn H2 j2 v e2 x2 hj2 hv => ?_⟩
      exact good (.inl (n : Int)) rs (by rw [ep, hn]; rfl) H2 j2 v (tr e2) x2 hj2 hv
    refine ifF (by simpa using c0) ⟨_, rfl, rfl, _, rfl, ?_⟩
    rw [eqI]
    by_cases c1 : b = 1
    · refine ifT (decide_eq_true c1) ?_
      subst c1
      have ep : pV tabL (dat.drop i) = (pN (dat.drop j1)).map fun q : Nat × List Int => ((.inl (-(q.1 : Int) - 1) : Key), q.2) := by rw [h0, hj1]; rfl
      refine ⟨_, rfl, r, dx1, _, rfl, g1, bF_m (by decide +kernel) (by decide +kernel), readP x1 hb hl (fun hn H' j e x' => bad (by rw [ep, hn]; rfl) H' j (tr e) x') fun n rs hn H2 j2 v e2 x2 hj2 hv => ?_⟩
      have hv : v = .int (n : Int) := hv
      subst hv
      refine ⟨_, rfl, _, _, rfl, rfl, ?_⟩
      exact good (.inl (-(n : Int) - 1)) rs (by rw [ep, hn]; rfl) H2 j2 _ (tr e2) x2 hj2 rfl
    refine ifF (by simpa using c1) ⟨_, rfl, rfl, _, rfl, ?_⟩
    rw [eqI]
    by_cases c2 : b = 2
    · refine ifT (decide_eq_true c2) ?_
      subst c2
      have ep : pV tabL (dat.drop i) = (pTx (dat.drop j1)).map fun z : List Nat × List Int => ((.inr (⟨z.1.toArray⟩ : Str) : Key), z.2) := by rw [h0, hj1]; exact pV_two _
      refine ⟨_, rfl, r, dx1, _, rfl, g1, bF_m (by decide +kernel) (by decide +kernel), readP x1 hb hl (fun hn H' j e x' => bad (by rw [ep, hn]; rfl) H' j (tr e) x') fun cs rs hn H2 j2 v e2 x2 hj2 hv => ?_⟩
      exact good (.inr ⟨cs.toArray⟩) rs (by rw [ep, hn]; rfl) H2 j2 v (tr e2) x2 hj2 hv
    refine ifF (by simpa using c2) ?_
    exact bad (by rw [h0]; exact pV_no _ c0 c1 c2) H1 j1 e1 x1
end
end KO1
set_option Elab.async false
set_option linter.all false
set_option maxRecDepth 100000
set_option maxHeartbeats 4000000
namespace KO1
open PySem PySem.Spec PyProof.Rows L2 KB KC KS KN1 LamX K7
def RR : Hp → V → List Key → Prop := fun H v k => ∃ p, v = .ref p ∧ H p = some (.tup (k.map kV))
section
variable {P : Program} {w : World} {K : PySem.W.Frag} {mg : Str → Option Value} {base : Heap} {f fV fN CB CR : Addr} {fd fdV fdN : FuncData}
theorem scWh : FnScope nTx ["self"] (defScope (sBM 3)) := ⟨rfl, rfl, rfl, by decide +kernel, rfl, by decide +kernel, by decide +kernel⟩
theorem ok_whole (F : FnP K "whole_row" "ByteReader.whole_row" (sBM 3) [] f fd) (B : TxtB K mg CB) (T : TxtL mg) (J : TxtX K mg CR) (hM : ∃ tk, mg "MOST_COLUMNS" = some (.int 20 tk))
    (mN : Meth K CB "natural" fN) (GN : FnOk P w K mg base (L2.CX P w) 2 fN fdN ["self"] (spP CB CR pN RN)) (bN : Binds K fdN ["self"] [])
    (mV : Meth K CB "value" fV) (GV : FnOk P w K mg base (L2.CX P w) 4 fV fdV ["self"] (spP CB CR (pV tabL) (RV kV))) (bV : Binds K fdV ["self"] []) : FnOk P w K mg base (L2.CX P w) 5 f fd ["self"] (spP CB CR (pRow tabL) RR) := by
  obtain ⟨tk, hM⟩ := hM
  refine F.ok scWh (fun vs H Q E h => ?_) (fun cdv A outer s H vs Q E hr h => ?_)
  · unfold spP at h
    obtain ⟨_, _, _, _, rfl, _⟩ := h; rfl
  · unfold spP at h
    obtain ⟨r, p, dat, i, rfl, x, hb, hl, bad, good⟩ := h
    refine ⟨_, pss_cons (ps_set (i := 1) scWh.nd rfl (Or.inl rfl) (pe_meth0 (pv 0) B.cl mN GN (hr.mono (by decide)) bN .nil (passes_call (takes_of rfl rfl rfl rfl) (fun _ _ _ _ h => h))))
      (pss_cons (ps_if (pt_cmpR op_gt (pv 1) (pe_glob (v := .int 20) (by rfl) hM ⟨_, rfl⟩) (nomark _))
        (pss_one (ps_raise rfl (takes_of rfl rfl rfl rfl) (pmk_own PySem.F.excBase_ValueError J.x J.g J.k (raises_own J.b J.t) rfl))) pss_nil)
      (pss_one (ps_ret (pe_callTy call_tuple_of (by rfl) T.tuple (by decide +kernel) (pa_cons
        (RC.pe_lcX (own := [("_", 2)]) (g := gName 2) (tt := tYes) (te := tMeth CB "value" (spP CB CR (pV tabL) (RV kV)) [] E (tVar 0) tNil) (E := E) rfl scWh.nd rfl rfl (takes_of rfl rfl rfl rfl) (pi_range1 (by rfl) T.range (pa_cons (pv 1) pa_nil)) (blkOk_by (N := nTx) (sc := defScope (sBM 3)) (by decide +kernel))
          (fun _ _ _ _ _ _ _ => pg_name (i := 2) scWh.nd rfl (Or.inl rfl)) (fun _ _ _ _ _ _ _ => pts_nil)
          (fun _ _ _ _ _ _ hp => pe_meth0 (pv 0) B.cl mV GV hr bV .nil hp)) pa_nil))))), ?_⟩
    obtain ⟨⟨dx, h1⟩, h2, h3⟩ := id x
    refine ⟨_, rfl, r, dx, _, rfl, h1, bF_m (by decide +kernel) (by decide +kernel), readP x hb hl (fun h0 H' j e x' => bad (by unfold pRow; rw [h0]) H' j e x') fun n rest h0 H1 j1 v e1 x1 hj1 hv => ?_⟩
    have hv : v = .int (n : Int) := hv
    subst hv
    refine ⟨_, rfl, _, _, rfl, rfl, _, rfl, ?_⟩
    by_cases c : 20 < n
    · refine ifT (decide_eq_true (by omega)) ?_
      exact bad (by unfold pRow; rw [h0]; exact if_pos c) H1 j1 e1 x1
    · refine ifF (by simp; omega) ?_
      have ep : pRow tabL (dat.drop i) = pM (pV tabL) n (dat.drop j1) := by
        unfold pRow; rw [h0, hj1]
        show (if 20 < n then none else pVs tabL n rest) = _
        rw [if_neg c, pVs_pM]
      refine ⟨_, rfl, _, rfl, by omega, by omega, fun D hD => ?_⟩
      refine many_lc (m := "value") (g := kV) x1 hb hl hD (by omega) (by decide +kernel) (by decide +kernel) (fun h H' j' e' x' => bad (ep.trans h) H' j' (fun b o nb hb' => e' b o nb (e1 b o nb hb')) x') (fun ks rs h H2 j2 e2 x2 hj2 hD2 => ?_)
      refine ⟨D, _, rfl, .inl ⟨SqL.of hD2, fun l hl' => ?_⟩⟩
      have e3 : ExD r H2 (upd H2 l (.tup (ks.map kV))) := fun b o _ h => Ex.upd hl' b o h
      exact good ks rs (ep.trans h) _ j2 _ (fun b o nb hb' => e3 b o nb (e2 b o nb (e1 b o nb hb'))) (x2.ex (Ex.upd hl')) hj2 ⟨l, rfl, upd_same⟩
end
end KO1
set_option Elab.async false
set_option linter.all false
set_option maxRecDepth 100000
set_option maxHeartbeats 2000000
namespace RC
open PySem PySem.Spec PyProof.Rows L2
theorem run_fnS {X : Cx} {CX : CXT} {k : Nat} {f : Addr} {fd : FuncData} {ps : List Str} {sp : Sp} {dvs : List V} {ds : List Value} {E : XK} {pins : List (Addr × Obj)} {σ : L2.St} {H : Hp} {s : Shared} {Q : VK} {us : List Value} {vs : List V}
    (F : FnOk X.prog X.w X.K X.mg X.base CX k f fd ps sp) (hr : Room k X.A) (hb : L2.Binds X.K fd ps ds) (hd : Vals dvs ds) (I : Inv X pins σ H s) (hx : ∀ e s', CX X.stack H s E e s' → X.xe e s') (r : Vals vs us) (h : sp (vs ++ dvs) H Q E) :
    wpAny (model X.prog X.w) X.A (call (.ref f) us) (EP X pins σ Q) X.xe s := by
  have r2 := Vals.append r hd
  have hl : (us ++ ds).length = ps.length := by
    rw [← Vals.length r2]
    exact F.len (vs ++ dvs) H Q E h
  refine wpAny_call (codeAny_mono (F.run X.A X.stack s H { pos := us } (us ++ ds) (vs ++ dvs) Q E hr (Inv.env0 I) (hb s us (Inv.kIn I) hl) r2 h) fun r s' hq => ?_)
  cases r with
  | error e => exact hx e s' hq
  | ok fl =>
    cases fl with
    | ret u => exact Inv.after I hq
    | next => exact False.elim hq
    | brk => exact False.elim hq
    | cont => exact False.elim hq
def tMethS (C : Addr) (m : Str) (sp : Sp) (W : WX) (ta : TE) : TE := fun σ H Q => ta σ H fun x H1 => ∃ a dx fs, x = .ref a ∧ H1 a = some (.ins C dx fs) ∧ List.lookup m fs = none ∧ sp [x] H1 Q (fun cls d H' => W cls d σ H')
theorem pe_methS {X : Cx} {k : Nat} {f C : Addr} {fd : FuncData} {ps : List Str} {sp : Sp} {W : WX} {m : Str} {pos apos : Pos} {o : Expr} {ta : TE} {pl : Sem Bool} (ho : PE X o ta) (hC : Cls X.K C) (hm : Meth X.K C m f) (F : FnOk X.prog X.w X.K X.mg X.base (L2.CX X.prog X.w) k f fd ps sp) (hr : Room k X.A) (hb : L2.Binds X.K fd ps []) (tk : Takes X W)
    (hsh : eval ((o.Attribute m apos).Call [] [] pos) X.env = (do
      let ov ← eval o X.env
      standAt apos.atName
      let (f, first) ← holding [ov] (getMethod ov m pl)
      callWith pos f first (backTo pos (starEach [] X.env)) (backToKw pos (keywordEach [] X.env))) := by first | rfl | (simp only [eval]; rfl)) :
    PE X ((o.Attribute m apos).Call [] [] pos) (tMethS C m sp W ta) := by
  refine ⟨fun pins s σ H Q I h => ?_⟩
  refine PySem.W.methodCall_KW (pl := pl) (thn (ho.run pins s σ H _ I h) fun ov s1 ⟨v, H1, I1, r1, q1⟩ => ?_) hsh
  obtain ⟨a, dx, fs, rfl, hH, hl, h2⟩ := q1
  cases r1
  refine getmeth_ok I1 hH hC hm hl ?_
  refine PySem.W.callWith_K0 I1.kIn hm.kp ?_
  exact run_fnS (vs := [.ref a]) (dvs := []) F hr hb .nil I1 (fun e s' hx => tk e s' (XE.of_call I1 (fun cls d H' h => h) hx)) (.cons rfl .nil) h2
end RC
set_option Elab.async false
set_option linter.all false
set_option maxRecDepth 100000
set_option maxHeartbeats 4000000
namespace KO1
open PySem PySem.Spec PyProof.Rows L2 KB KC KS KN1 LamX K7
@[irreducible] def spRd (CB CR : Addr) : Sp := fun vs H Q E => ∃ (r p : Addr) (dat : List Int) (i : Nat), vs = [.ref r] ∧ RdA CB r p dat i H ∧ Bytes dat ∧ dat.length ≤ 1000 ∧
  (pRow tabL (dat.drop i) = none → ∀ H', ExD r H H' → RdA CB r p dat i H' → E (.ref CR) none H') ∧
  (∀ a rest, pRow tabL (dat.drop i) = some (a, rest) → ∀ H' j q, ExD r H H' → RdA CB r p dat j H' → dat.drop j = rest → H' q = some (.tup (a.map kV)) → Q (.ref q) H')
theorem rd_step {CB CR r p : Addr} {dat : List Int} {i : Nat} {H : Hp} {Q : VK} {E : XK} (x : RdA CB r p dat i H) (hb : Bytes dat) (hl : dat.length ≤ 1000) (bad : pRow tabL (dat.drop i) = none → ∀ H', ExD r H H' → RdA CB r p dat i H' → E (.ref CR) none H')
    (good : ∀ a rest, pRow tabL (dat.drop i) = some (a, rest) → ∀ H' j q, ExD r H H' → RdA CB r p dat j H' → dat.drop j = rest → H' q = some (.tup (a.map kV)) → Q (.ref q) H') : spRd CB CR [.ref r] H Q E := by
  unfold spRd
  exact ⟨r, p, dat, i, rfl, x, hb, hl, bad, good⟩
section
variable {P : Program} {w : World} {K : PySem.W.Frag} {mg : Str → Option Value} {base : Heap} {f fW CB CR : Addr} {fd fdW : FuncData}
theorem scRo : FnScope ["self", "begin"] ["self"] (defScope (sBM 2)) := ⟨rfl, rfl, rfl, by decide +kernel, rfl, by decide +kernel, by decide +kernel⟩
theorem ok_rdrow (F : FnP K "row" "ByteReader.row" (sBM 2) [] f fd) (B : TxtB K mg CB) (J : TxtX K mg CR)
    (mW : Meth K CB "whole_row" fW) (GW : FnOk P w K mg base (L2.CX P w) 5 fW fdW ["self"] (spP CB CR (pRow tabL) RR)) (bW : Binds K fdW ["self"] []) : FnOk P w K mg base (L2.CX P w) 6 f fd ["self"] (spRd CB CR) := by
  refine F.ok scRo (fun vs H Q E h => ?_) (fun cdv A outer s H vs Q E hr h => ?_)
  · unfold spRd at h
    obtain ⟨_, _, _, _, rfl, _⟩ := h; rfl
  · unfold spRd at h
    obtain ⟨r, p, dat, i, rfl, x, hb, hl, bad, good⟩ := h
    refine ⟨_, pss_cons (ps_set (i := 1) scRo.nd rfl (Or.inl rfl) (pf 0))
      (pss_one (RC.ps_try_again (tb := fun W => tRet (RC.tMethS CB "whole_row" (spP CB CR (pRow tabL) RR) W (tVar 0))) (ts := sFld K (tVar 0) (tVar 1) "place") (c := .ref CR) (Wout := fun cls d _ H => E cls d H) rfl rfl rfl ⟨by rfl, by rfl, .inl J.g⟩ (L2H.passesAt_of rfl) (takes_of rfl rfl rfl rfl)
        (fun W pn xe tk hpo => pss_one (ps_ret (RC.pe_methS (pv 0) B.cl mW GW hr bW tk)))
        (fun a pn => ?hsu))), ?_⟩
    case hsu => exact ps_fld (pv 0) (pv 1) (by rfl)
    obtain ⟨⟨dx, h1⟩, h2, h3⟩ := id x
    refine ⟨_, rfl, r, CB, dx, _, _, rfl, h1, B.cl, B.p, rfl, ?_⟩
    refine ⟨_, rfl, r, dx, _, rfl, h1, bF_m (by decide +kernel) (by decide +kernel), readP x hb hl (fun hn H' j e x' => ?_) fun k rest hn H' j v e x' hj hv => ?_⟩
    · obtain ⟨⟨dx', g1⟩, g2, g3⟩ := x'
      refine ⟨true, J.e, fun _ => ⟨_, rfl, _, rfl, r, CB, dx', _, rfl, g1, B.cl, B.p, (by show 2 < 1000; decide), ?_⟩, fun z => nomatch z⟩
      refine bad hn (upd H' r (.ins CB dx' (bF p i))) (fun b o nb hb' => by rw [L2.upd_ne nb]; exact e b o nb hb') ⟨⟨dx', upd_same⟩, ?_, h3⟩
      rw [L2.upd_ne (fun z => by rw [z, g1] at g2; cases g2)]
      exact g2
    · obtain ⟨q, rfl, hq⟩ := hv
      exact good k rest hn H' j q e x' hj hq
end
end KO1
set_option Elab.async false
set_option linter.all false
set_option maxRecDepth 100000
set_option maxHeartbeats 4000000
namespace KO1
open PySem PySem.Spec PyProof.Rows L2 KB KC KS KN1 LamX K7
@[irreducible] def spBInit (CB : Addr) : Sp := fun vs H Q _ => ∃ (r dx p : Addr) (dat : List Int), vs = [.ref r, .ref p] ∧ H r = some (.ins CB dx []) ∧ H p = some (.tup (dat.map V.int)) ∧ ∀ H', (∀ b o, b ≠ r → H b = some o → H' b = some o) → RdA CB r p dat 0 H' → Q .non H'
theorem binit_step {CB r dx p : Addr} {dat : List Int} {H : Hp} {Q : VK} {E : XK} (h1 : H r = some (.ins CB dx [])) (h2 : H p = some (.tup (dat.map V.int))) (fin : ∀ H', ExD r H H' → RdA CB r p dat 0 H' → Q .non H') : spBInit CB [.ref r, .ref p] H Q E := by
  unfold spBInit
  exact ⟨r, dx, p, dat, rfl, h1, h2, fin⟩
def allRow (dat : List Int) : Option (List Key) := match pRow tabL dat with
  | some (k, []) => some k
  | _ => none
theorem allRow_none {dat : List Int} (h : pRow tabL dat = none) : allRow dat = none := by unfold allRow; rw [h]
theorem allRow_more {dat rest : List Int} {k : List Key} (h : pRow tabL dat = some (k, rest)) (hr : rest ≠ []) : allRow dat = none := by
  unfold allRow; rw [h]
  cases rest with
  | nil => exact absurd rfl hr
  | cons b r => rfl
theorem allRow_some {dat : List Int} {k : List Key} (h : pRow tabL dat = some (k, [])) : allRow dat = some k := by unfold allRow; rw [h]
@[irreducible] def spRead (CR : Addr) : Sp := fun vs H Q E => ∃ (p : Addr) (dat : List Int), vs = [.ref p] ∧ H p = some (.tup (dat.map V.int)) ∧ Bytes dat ∧ dat.length ≤ 1000 ∧
  (allRow dat = none → ∀ H', KS.Ex H H' → E (.ref CR) none H') ∧ (∀ k, allRow dat = some k → ∀ H' q, KS.Ex H H' → H' q = some (.tup (k.map kV)) → Q (.ref q) H')
theorem read_step {CR p : Addr} {dat : List Int} {H : Hp} {Q : VK} {E : XK} (h2 : H p = some (.tup (dat.map V.int))) (hb : Bytes dat) (hl : dat.length ≤ 1000) (bad : allRow dat = none → ∀ H', KS.Ex H H' → E (.ref CR) none H') (good : ∀ k, allRow dat = some k → ∀ H' q, KS.Ex H H' → H' q = some (.tup (k.map kV)) → Q (.ref q) H') : spRead CR [.ref p] H Q E := by
  unfold spRead
  exact ⟨p, dat, rfl, h2, hb, hl, bad, good⟩
section
variable {P : Program} {w : World} {K : PySem.W.Frag} {mg : Str → Option Value} {base : Heap} {f fI fR CB CR : Addr} {fd fdI fdR : FuncData}
theorem scBI : FnScope ["self", "data"] ["self", "data"] (defScope (sBM 0)) := ⟨rfl, rfl, rfl, by decide +kernel, rfl, by decide +kernel, by decide +kernel⟩
theorem ok_binit (F : FnP K "__init__" "ByteReader.__init__" (sBM 0) [] f fd) (B : TxtB K mg CB) : FnOk P w K mg base CX0 1 f fd ["self", "data"] (spBInit CB) := by
  refine F.ok scBI (fun vs H Q E h => ?_) (fun cdv A outer s H vs Q E hr h => ?_)
  · unfold spBInit at h
    obtain ⟨_, _, _, _, rfl, _⟩ := h; rfl
  · unfold spBInit at h
    obtain ⟨r, dx, p, dat, rfl, h1, h2, fin⟩ := h
    refine ⟨_, PSs.nox <| pss_cons (ps_fld (pv 0) (pv 1) rfl) (pss_one (ps_fld (pv 0) pe_int rfl)), ?_⟩
    refine ⟨_, rfl, _, rfl, r, CB, dx, _, rfl, h1, B.cl, B.d, (by show 0 < 1000; decide), ?_⟩
    refine ⟨_, rfl, r, CB, dx, _, rfl, upd_same, B.cl, B.p, (by show 1 < 1000; decide), ?_⟩
    rw [upd2]
    have np : p ≠ r := fun z => by rw [z, h1] at h2; cases h2
    exact fin _ (fun b o nb h => by rw [L2.upd_ne nb]; exact h) ⟨⟨dx, upd_same⟩, by rw [L2.upd_ne np]; exact h2, Nat.zero_le _⟩
theorem scRead : FnScope ["data", "reader", "row"] ["data"] (defScope sRead) := ⟨rfl, rfl, rfl, by decide +kernel, rfl, by decide +kernel, by decide +kernel⟩
theorem ok_read (F : FnP K "read_row" "read_row" sRead [] f fd) (B : TxtB K mg CB) (T : TxtL mg) (J : TxtX K mg CR)
    (M : Mk K CB fI) (GI : FnOk P w K mg base CX0 1 fI fdI ["self", "data"] (spBInit CB)) (bI : Binds K fdI ["self", "data"] [])
    (mR : Meth K CB "row" fR) (GR : FnOk P w K mg base (L2.CX P w) 6 fR fdR ["self"] (spRd CB CR)) (bR : Binds K fdR ["self"] []) : FnOk P w K mg base (L2.CX P w) 7 f fd ["data"] (spRead CR) := by
  refine F.ok scRead (fun vs H Q E h => ?_) (fun cdv A outer s H vs Q E hr h => ?_)
  · unfold spRead at h
    obtain ⟨_, _, rfl, _⟩ := h; rfl
  · unfold spRead at h
    obtain ⟨p, dat, rfl, h2, hb, hl, bad, good⟩ := h
    refine ⟨_, pss_cons (ps_set (i := 1) scRead.nd rfl (Or.inl rfl) (pe_make M GI (hr.mono (by decide)) (by rfl) B.g bI .nil pass0 (pa_cons (pv 0) pa_nil)))
      (pss_cons (ps_set (i := 2) scRead.nd rfl (Or.inl rfl) (pe_meth0 (pv 1) B.cl mR GR hr bR .nil (passes_call (takes_of rfl rfl rfl rfl) (fun _ _ _ _ h => h))))
      (pss_cons (ps_if (pt_cmpR op_ne (pf 1) (pe_callB call_len_seq (by rfl) T.len (by decide +kernel) (pa_cons (pf 1) pa_nil)) (nomark _))
        (pss_one (ps_raise rfl (takes_of rfl rfl rfl rfl) (pmk_own PySem.F.excBase_ValueError J.x J.g J.k (raises_own J.b J.t) rfl))) pss_nil)
      (pss_one (ps_ret (pv 2))))), ?_⟩
    refine ⟨_, rfl, fun r dx hr0 hdx nr => ?_⟩
    have e1 : KS.Ex H (upd (upd H dx (.own r)) r (.ins CB dx [])) := (Ex.upd hdx).trans (Ex.upd (by rw [L2.upd_ne nr.symm]; exact hr0))
    have hr1 : (upd (upd H dx (.own r)) r (.ins CB dx [])) r = some (.ins CB dx []) := upd_same
    show spBInit CB [.ref r, .ref p] _ _ _
    generalize upd (upd H dx (.own r)) r (.ins CB dx []) = H1 at e1 hr1
    refine binit_step hr1 (e1 _ _ h2) fun H2 e2 x2 => ⟨rfl, ?_⟩
    obtain ⟨⟨dx2, g1⟩, g2, g3⟩ := id x2
    have ex : ∀ {H' : Hp}, ExD r H2 H' → KS.Ex H H' := fun e b o h => e b o (ne_of_none h hr0) (e2 b o (ne_of_none h hr0) (e1 b o h))
    refine ⟨_, rfl, r, dx2, _, rfl, g1, bF_m (by decide +kernel) (by decide +kernel), rd_step x2 hb hl (fun hn H' e x' => bad (allRow_none hn) H' (ex e)) fun k rest hn H3 j q e3 x3 hj hq => ?_⟩
    have hn : pRow tabL dat = some (k, rest) := hn
    obtain ⟨⟨dx3, k1⟩, k2, k3⟩ := id x3
    refine ⟨_, rfl, r, CB, dx3, _, _, rfl, k1, B.cl, B.p, rfl, _, rfl, r, CB, dx3, _, _, rfl, k1, B.cl, B.d, rfl, p, _, rfl, .inr (SqT.of k2), rfl, _, rfl, ?_⟩
    rw [eqI, List.length_map]
    have hrl : rest.length = dat.length - j := by rw [← hj, List.length_drop]
    by_cases c : rest = []
    · subst c
      have hrl : 0 = dat.length - j := hrl
      refine ifF (by simp; omega) ?_
      exact ⟨_, rfl, good k (allRow_some hn) H3 q (ex e3) hq⟩
    · have : 0 < rest.length := List.length_pos_iff.mpr c
      refine ifT (by simp; omega) ?_
      exact bad (allRow_more hn c) H3 (ex e3)
end
end KO1
set_option Elab.async false
set_option linter.all false
set_option maxRecDepth 100000
set_option maxHeartbeats 4000000
namespace KO1
open PySem PySem.Spec PyProof.Rows L2 KB KC KS KN1 LamX K7
abbrev sSM (j : Nat) : Stmt := inClass sShape j
abbrev Co := List (Str × Str)
def placeIn (cols : Co) (n : Str) : Option Nat := cols.findIdx? fun p => decide (p.1 = n)
theorem paired_mono {α β : Type} {F G : α → β → Prop} (h : ∀ a b, F a b → G a b) : ∀ {xs : List α} {ys : List β}, Paired F xs ys → Paired G xs ys
  | _, _, .nil => .nil
  | _, _, .cons q r => .cons (h _ _ q) (paired_mono h r)
def Cols (H : Hp) : List Addr → Co → Prop := Paired fun t (x : Str × Str) => H t = some (.tup [.str x.1, .str x.2])
theorem Cols.ex {H H' : Hp} {ts : List Addr} {cs : Co} (h : Cols H ts cs) (e : KS.Ex H H') : Cols H' ts cs := paired_mono (fun t x q => e _ _ q) h
theorem take_snoc {α : Type} {l : List α} {i : Nat} {x : α} (h : l[i]? = some x) : l.take (i + 1) = l.take i ++ [x] := by rw [List.take_add_one, h]; rfl
def sF (t d : Addr) : List (Str × V) := [("columns", .ref t), ("places", .ref d)]
def ShA (CS c : Addr) (cols : Co) (H : Hp) : Prop := ∃ (dx t d : Addr) (ts : List Addr) (kvs : List (Key × V)), H c = some (.ins CS dx (sF t d)) ∧ H t = some (.tup (ts.map V.ref)) ∧ Cols H ts cols ∧ H d = some (.dK kvs) ∧ ∀ n : Str, valV kvs (Sum.inr n) = (placeIn cols n).map fun i => V.int ((i : Nat) : Int)
theorem ShA.ex {CS c : Addr} {cols : Co} {H H' : Hp} (h : ShA CS c cols H) (e : KS.Ex H H') : ShA CS c cols H' := by
  obtain ⟨dx, t, d, ts, kvs, h1, h2, h3, h4, h5⟩ := h
  exact ⟨dx, t, d, ts, kvs, e _ _ h1, e _ _ h2, h3.ex e, e _ _ h4, h5⟩
structure TxtS (K : PySem.W.Frag) (mg : Str → Option Value) (CS : Addr) : Prop where
  cl : Cls K CS
  c : NoAttr K CS "columns"
  p : NoAttr K CS "places"
  g : mg "Shape" = some (.ref CS)
@[irreducible] def spPlace (CS CR : Addr) : Sp := fun vs H Q E => ∃ (c : Addr) (cols : Co) (n : Str), vs = [.ref c, .str n] ∧ ShA CS c cols H ∧ n.length ≤ 900 ∧ (placeIn cols n = none → E (.ref CR) none H) ∧ (∀ i, placeIn cols n = some i → Q (.int (i : Nat)) H)
@[irreducible] def spKinds (CS : Addr) : Sp := fun vs H Q _ => ∃ (c : Addr) (cols : Co), vs = [.ref c] ∧ ShA CS c cols H ∧ cols.length ≤ 20 ∧ ∀ H' q, KS.Ex H H' → H' q = some (.tup (cols.map fun x => V.str x.2)) → Q (.ref q) H'
theorem kinds_step {CS c : Addr} {cols : Co} {H : Hp} {Q : VK} {E : XK} (x : ShA CS c cols H) (hl : cols.length ≤ 20) (fin : ∀ H' q, KS.Ex H H' → H' q = some (.tup (cols.map fun x => V.str x.2)) → Q (.ref q) H') : spKinds CS [.ref c] H Q E := by
  unfold spKinds
  exact ⟨c, cols, rfl, x, hl, fin⟩
theorem place_step {CS CR c : Addr} {cols : Co} {n : Str} {H : Hp} {Q : VK} {E : XK} (x : ShA CS c cols H) (hn : n.length ≤ 900) (bad : placeIn cols n = none → E (.ref CR) none H) (good : ∀ i, placeIn cols n = some i → Q (.int (i : Nat)) H) : spPlace CS CR [.ref c, .str n] H Q E := by
  unfold spPlace
  exact ⟨c, cols, n, rfl, x, hn, bad, good⟩
section
variable {P : Program} {w : World} {K : PySem.W.Frag} {mg : Str → Option Value} {base : Heap} {f CS CR : Addr} {fd : FuncData}
theorem scPl : FnScope ["self", "name"] ["self", "name"] (defScope (sSM 1)) := ⟨rfl, rfl, rfl, by decide +kernel, rfl, by decide +kernel, by decide +kernel⟩
theorem ok_place (F : FnP K "place_of" "Shape.place_of" (sSM 1) [] f fd) (B : TxtS K mg CS) (J : TxtX K mg CR) : FnOk P w K mg base (L2.CX P w) 1 f fd ["self", "name"] (spPlace CS CR) := by
  refine F.ok scPl (fun vs H Q E h => ?_) (fun cdv A outer s H vs Q E hr h => ?_)
  · unfold spPlace at h
    obtain ⟨_, _, _, rfl, _⟩ := h; rfl
  · unfold spPlace at h
    obtain ⟨c, cols, n, rfl, ⟨dx, t, d, ts, kvs, h1, h2, h3, h4, h5⟩, hn, bad, good⟩ := h
    have hu := hr.units
    have hu1 := Nat.lt_trans (Nat.add_lt_add_left (by decide : 1 < 64) _) hu
    refine ⟨_, pss_cons (ps_if (pt_cmp (pc_dnotin hu1 (pv 1) (pf 0))) (pss_one (ps_raise rfl (takes_of rfl rfl rfl rfl) (SkE.pmk_own1 PySem.F.excBase_ValueError J.x J.g J.k (raises_own J.b J.t) rfl (pe_joined (.cons pe_str (.cons (pe_fmt (pv 1)) .nil)))))) pss_nil)
      (pss_one (ps_ret (pe_dget hu1 (pf 0) (pv 1) (fun _ _ => rfl)))), ?_⟩
    refine ⟨_, rfl, _, rfl, c, CS, dx, _, _, rfl, h1, B.cl, B.p, rfl, d, _, rfl, DGet.k (k := Sum.inr n) h4, _, rfl, ?_⟩
    rw [h5]
    cases e : placeIn cols n with
    | none =>
      refine ifT rfl ?_
      have h1 : n.length ≤ sizeLine := Nat.le_trans hn (by decide)
      refine ⟨_, rfl, by decide +kernel, _, rfl, .inl ⟨n, rfl, h1, n, rfl, ?_, bad e⟩⟩
      have e : (Str.empty ++ Str.ofString "no column " ++ n).length = 10 + n.length := by
        show (Str.empty.cps ++ _ ++ n.cps).size = _
        rw [Array.size_append]
        rfl
      rw [e]
      have : sizeLine = 16777216 := rfl
      omega
    | some i =>
      refine ifF (by simp) ?_
      refine ⟨_, rfl, c, CS, dx, _, _, rfl, h1, B.cl, B.p, rfl, _, rfl, d, _, rfl, ?_, good i e⟩
      have q := DGet.k (k := Sum.inr n) h4
      rw [h5, e] at q
      exact q
def nKi : List Str := ["self", "name", "kind"]
theorem scKi : FnScope nKi ["self"] (defScope (sSM 2)) := ⟨rfl, rfl, rfl, by decide +kernel, rfl, by decide +kernel, by decide +kernel⟩
theorem ok_kinds (F : FnP K "kinds" "Shape.kinds" (sSM 2) [] f fd) (B : TxtS K mg CS) (T : TxtL mg) : FnOk P w K mg base CX0 1 f fd ["self"] (spKinds CS) := by
  refine F.ok scKi (fun vs H Q E h => ?_) (fun cdv A outer s H vs Q E hr h => ?_)
  · unfold spKinds at h
    obtain ⟨_, _, rfl, _⟩ := h; rfl
  · unfold spKinds at h
    obtain ⟨c, cols, rfl, ⟨dx, t, d, ts, kvs, h1, h2, h3, h4, h5⟩, hl, fin⟩ := h
    refine ⟨_, PSs.nox <| pss_one (ps_ret (pe_callTy call_tuple_of (by rfl) T.tuple (by decide +kernel) (pa_cons (pe_lc (own := [("name", 1), ("kind", 2)]) (g := gTup K 2 (gCons (gName 1) (gCons (gName 2) gNil))) (tt := tYes) (te := tVar 2) rfl scKi.nd (pi_tup (pf 0)) (blkOk_by (N := nKi) (sc := defScope (sSM 2)) (by decide +kernel))
        (fun _ _ _ _ _ => pg_tup rfl (pgs_cons (pg_name (i := 1) scKi.nd rfl (Or.inl rfl)) (pgs_cons (pg_name (i := 2) scKi.nd rfl (Or.inl rfl)) pgs_nil))) (fun _ _ _ _ _ => pts_nil) (fun _ _ _ _ _ => pv 2)) pa_nil))), ?_⟩
    refine ⟨_, rfl, c, CS, dx, _, _, rfl, h1, B.cl, B.c, rfl, t, rfl, ⟨_, SqT.of h2⟩, fun D hD => ?_⟩
    refine lc_tup (xs := ts.map V.ref) (fun i H2 => KS.Ex H H2 ∧ H2 D = some (.lst ((cols.take i).map fun x => V.str x.2))) ⟨Ex.upd hD, upd_same⟩ (fun i H2 _ ⟨e2, _⟩ => SqT.of (e2 _ _ h2)) (fun i x H2 hx ⟨e2, k2⟩ => ?_) (fun H2 ⟨e2, k2⟩ => ?_)
    · rw [List.getElem?_map] at hx
      obtain ⟨b, hb, rfl⟩ := Option.map_eq_some_iff.mp hx
      obtain ⟨y, hy, ht⟩ := paired_get h3 hb
      have lt : i < cols.length := (List.getElem?_eq_some_iff.mp hy).1
      refine ⟨b, _, rfl, SqT.of (e2 _ _ ht), rfl, _, _, rfl, _, _, rfl, rfl, rfl, _, rfl, _, k2, ?_, Ex.on e2 hD, ?_⟩
      · rw [List.length_map, List.length_take]
        have : sizeLine = 16777216 := rfl
        omega
      · rw [upd_same, take_snoc hy, List.map_append]; rfl
    · refine ⟨D, _, rfl, .inl ⟨SqL.of k2, fun l hl' => ?_⟩⟩
      refine fin _ l (e2.trans (Ex.upd hl')) ?_
      rw [upd_same, List.length_map, paired_len h3, List.take_length]
end
end KO1
set_option Elab.async false
set_option linter.all false
set_option maxRecDepth 100000
set_option maxHeartbeats 4000000
namespace KO1
open PySem PySem.Spec PyProof.Rows L2 KB KC KS KN1 LamX K7
theorem Tb.keep {Ps : Addr} {H H' : Hp} (tab : TabS H Ps qK) (t : Tb Ps H H') {b : Addr} {o : HO} (h : H b = some o) (no : ∀ ps, o ≠ .tbl ps) : H' b = some o := by
  refine t.2 b o (fun z => ?_) h
  obtain ⟨ps, hp, _⟩ := tab
  rw [z, hp] at h
  exact no ps (Option.some.inj h).symm
theorem ShA.tb {CS c Ps : Addr} {cols : Co} {H H' : Hp} (x : ShA CS c cols H) (tab : TabS H Ps qK) (e : Tb Ps H H') : ShA CS c cols H' := by
  obtain ⟨dx, t, d, ts, kvs, h1, h2, h3, h4, h5⟩ := x
  exact ⟨dx, t, d, ts, kvs, e.keep tab h1 (by intro _ z; cases z), e.keep tab h2 (by intro _ z; cases z), paired_mono (fun _ _ q => e.keep tab q (by intro _ z; cases z)) h3, e.keep tab h4 (by intro _ z; cases z), h5⟩
def kd : V → Option Str
  | .int _ => some "int"
  | .str a => if badT a = true then none else some "text"
  | _ => none
def Rowy : V → Prop
  | .int _ => True
  | .str _ => True
  | .bl _ => True
  | _ => False
theorem kd_step {CR Ps : Addr} {H : Hp} {Q : VK} {E : XK} {v : V} (ry : Rowy v) (tab : TabS H Ps qK) (bad : kd v = none → ∀ H', Tb Ps H H' → E (.ref CR) none H') (good : ∀ k, kd v = some k → ∀ H', Tb Ps H H' → Q (.str k) H') : spKind CR Ps [v] H Q E := by
  refine kind_step ?_
  cases v with
  | int n => exact good _ rfl H (.refl tab)
  | bl b => exact bad rfl H (.refl tab)
  | str a =>
    refine ⟨tab, fun H' t => ?_⟩
    by_cases c : badT a = true
    · rw [if_pos c]; exact bad (if_pos c) H' t
    · rw [if_neg c]; exact good _ (if_neg c) H' t
  | _ => exact False.elim ry
def kindsOf (cols : Co) : List (Option Str) := cols.map fun x => some x.2
@[irreducible] def spCheck (CS CR Ps : Addr) : Sp := fun vs H Q E => ∃ (c r : Addr) (cols : Co), vs = [.ref c, .ref r] ∧ ShA CS c cols H ∧ cols.length ≤ 20 ∧ (∀ x ∈ cols, x.2 = "int" ∨ x.2 = "text") ∧ TabS H Ps qK ∧
  (((∃ xs, H r = some (.lst xs)) ∧ E (.ref CR) none H) ∨ ∃ xs, H r = some (.tup xs) ∧ (∀ v ∈ xs, Rowy v) ∧ xs.length ≤ 1000 ∧ (xs.map kd ≠ kindsOf cols → ∀ H', Tb Ps H H' → E (.ref CR) none H') ∧ (xs.map kd = kindsOf cols → ∀ H', Tb Ps H H' → Q (.ref r) H'))
theorem dp_strs {K : PySem.W.Frag} {H : Hp} : ∀ ns : List Str, DpAll K H (ns.map V.str) (ns.map PyData.str)
  | [] => .nil
  | n :: ns => .cons (.str _) (dp_strs ns)
theorem eqv_strsT (a b : List Str) : PyData.eqv (.tuple (a.map PyData.str)) (.tuple (b.map PyData.str)) = decide (a = b) := by
  show PyData.eqvAll _ _ = _
  induction a generalizing b with
  | nil => cases b <;> simp [PyData.eqvAll]
  | cons x r ih =>
    cases b with
    | nil => simp [PyData.eqvAll]
    | cons y q =>
      rw [List.map_cons, List.map_cons]
      unfold PyData.eqvAll
      rw [ih q]
      have e1 : PyData.eqv (.str x) (.str y) = decide (x = y) := by
        show (x == y) = _
        rw [Bool.eq_iff_iff, decide_eq_true_eq, beq_iff_eq]
      rw [e1, Bool.eq_iff_iff]
      simp
theorem lay_kinds : ∀ {ks : List Str}, (∀ k ∈ ks, k = "int" ∨ k = "text") → PyData.canLayAll0 (ks.map PyData.str) = true ∧ PyData.depthAll (ks.map PyData.str) ≤ 3
  | [], _ => ⟨rfl, by decide⟩
  | k :: ks, h => by
    obtain ⟨h1, h2⟩ := lay_kinds fun q hq => h q (List.mem_cons_of_mem _ hq)
    have a : PyData.canLay0 (.str k) = true := by
      rcases h k List.mem_cons_self with rfl | rfl
      · decide +kernel
      · decide +kernel
    constructor
    · show (PyData.canLay0 (.str k) && PyData.canLayAll0 (ks.map PyData.str)) = true
      rw [a, h1]; rfl
    · show max (PyData.depth (.str k)) (PyData.depthAll (ks.map PyData.str)) ≤ 3
      have : PyData.depth (.str k) ≤ 3 := by show 0 ≤ 3; decide
      omega
theorem shaped_kinds {ks : List Str} (h : ∀ k ∈ ks, k = "int" ∨ k = "text") : SeqAt.shaped (.tuple (ks.map PyData.str)) = true := by
  obtain ⟨h1, h2⟩ := lay_kinds h
  show (PyData.canLayAll0 (ks.map PyData.str) && decide (PyData.depthAll (ks.map PyData.str) + 1 ≤ 64)) = true
  rw [h1, decide_eq_true (by omega)]; rfl
theorem kd_kind {v : V} {k : Str} (h : kd v = some k) : k = "int" ∨ k = "text" := by
  cases v with
  | int n => left; exact (Option.some.inj h).symm
  | str a =>
    have h : (if badT a = true then none else some ("text" : Str)) = some k := h
    by_cases c : badT a = true
    · rw [if_pos c] at h; cases h
    · rw [if_neg c] at h; right; exact (Option.some.inj h).symm
  | _ => cases h
section
variable {P : Program} {w : World} {K : PySem.W.Frag} {mg : Str → Option Value} {base : Heap} {f fK fQ CS CR Ps : Addr} {fd fdK fdQ : FuncData}
def nCh : List Str := ["self", "row", "value"]
theorem scCh : FnScope nCh ["self", "row"] (defScope (sSM 3)) := ⟨rfl, rfl, rfl, by decide +kernel, rfl, by decide +kernel, by decide +kernel⟩
theorem ok_check (F : FnP K "check_row" "Shape.check_row" (sSM 3) [] f fd) (B : TxtS K mg CS) (T : TxtL mg) (J : TxtX K mg CR)
    (GK : FnOk P w K mg base (L2.CX P w) 1 fK fdK ["value"] (spKind CR Ps)) (gK : mg "kind_of" = some (.ref fK)) (kK : PySem.W.keepIn K (.ref fK) = true) (bK : Binds K fdK ["value"] [])
    (mQ : Meth K CS "kinds" fQ) (GQ : FnOk P w K mg base CX0 1 fQ fdQ ["self"] (spKinds CS)) (bQ : Binds K fdQ ["self"] []) : FnOk P w K mg base (L2.CX P w) 2 f fd ["self", "row"] (spCheck CS CR Ps) := by
  refine F.ok scCh (fun vs H Q E h => ?_) (fun cdv A outer s H vs Q E hr h => ?_)
  · unfold spCheck at h
    obtain ⟨_, _, _, rfl, _⟩ := h; rfl
  · unfold spCheck at h
    obtain ⟨c, r, cols, rfl, x, hl, hk, tab, hh⟩ := h
    have hu := hr.units
    refine ⟨_, pss_cons (ps_if (PW.pt (pw_or (pt_not (pt_val (pe_callB call_isiB (by rfl) T.isi PyProof.Rows.boot_isinstance (pa_cons (pv 1) (pa_cons (pe_bltn (v := .ty "tuple") (u := .type "tuple") (by rfl) T.tuple (by decide +kernel) rfl) pa_nil)))))
        (pw_or1 (pt_cmpR (op_neD hu) (pe_callTy call_tuple_of (by rfl) T.tuple (by decide +kernel) (pa_cons
          (RC.pe_lcX (own := [("value", 2)]) (g := gName 2) (tt := tYes) (te := tCall (spKind CR Ps) [] E (tCons (tVar 2) tNil)) (E := E) rfl scCh.nd rfl rfl (takes_of rfl rfl rfl rfl) (pi_tup (pv 1)) (blkOk_by (N := nCh) (sc := defScope (sSM 3)) (by decide +kernel))
            (fun _ _ _ _ _ _ _ => pg_name (i := 2) scCh.nd rfl (Or.inl rfl)) (fun _ _ _ _ _ _ _ => pts_nil)
            (fun _ _ _ _ _ _ hp => pe_call GK (hr.mono (by decide)) (by rfl) gK kK bK .nil hp (pa_cons (pv 2) pa_nil))) pa_nil))
          (pe_meth0 (pv 0) B.cl mQ GQ (hr.mono (by decide)) bQ .nil pass0) (nomark _)))))
        (pss_one (ps_raise rfl (takes_of rfl rfl rfl rfl) (pmk_own PySem.F.excBase_ValueError J.x J.g J.k (raises_own J.b J.t) rfl))) pss_nil)
      (pss_one (ps_ret (pv 1))), ?_⟩
    rcases hh with ⟨⟨xs, hr'⟩, e⟩ | ⟨xs, hr', ry, hx, bad, good⟩
    · refine ⟨_, rfl, ?_⟩
      show rIsiB K [_, .ty "tuple"] H _
      refine isi_ty (r := false) (.lst hr') (by decide +kernel) ⟨_, rfl, ?_⟩
      exact ifT rfl (ifT rfl e)
    · refine ⟨_, rfl, ?_⟩
      show rIsiB K [_, .ty "tuple"] H _
      refine isi_ty (r := true) (.tup hr') (by decide +kernel) ⟨_, rfl, ?_⟩
      refine ifF (by decide) ?_
      refine ⟨_, rfl, r, rfl, ⟨_, SqT.of hr'⟩, fun D hD => ?_⟩
      have nDr : D ≠ r := fun z => by rw [z, hr'] at hD; cases hD
      have nDP : D ≠ Ps := fun z => by
        obtain ⟨ps, hp, _⟩ := tab
        rw [z, hp] at hD; cases hD
      refine lc_tup (xs := xs) (fun i H2 => Tb Ps H H2 ∧ ∃ ks : List Str, H2 D = some (.lst (ks.map V.str)) ∧ (xs.take i).map kd = ks.map some) ⟨(Tb.refl tab).ex (Ex.upd hD), [], upd_same, rfl⟩ (fun i H2 _ ⟨t2, _⟩ => SqT.of (t2.keep tab hr' (by intro _ z; cases z))) (fun i v H2 hv ⟨t2, ks, k1, k2⟩ => ?_) (fun H2 ⟨t2, ks, k1, k2⟩ => ?_)
      · refine ⟨rfl, _, rfl, kd_step (ry v (List.mem_of_getElem? hv)) t2.1 (fun hn H' t' => bad (fun z => ?_) H' (t2.trans t')) fun k hk' H' t' => ?_⟩
        · have z1 := congrArg (fun l => l[i]?) z
          simp only [List.getElem?_map, hv, Option.map_some, hn, kindsOf] at z1
          cases q : cols[i]? with
          | none => rw [q] at z1; cases z1
          | some y => rw [q] at z1; cases z1
        · have lks : ks.length ≤ xs.length := by
            have := congrArg List.length k2
            rw [List.length_map, List.length_map, List.length_take] at this
            omega
          have k1' : H' D = some (.lst (ks.map V.str)) := t'.2 _ _ nDP k1
          have hz : sizeLine = 16777216 := rfl
          refine ⟨_, k1', by rw [List.length_map]; omega, ⟨?_, fun b o nb hb => ?_⟩, ks ++ [k], ?_, ?_⟩
          · exact tabS_lst t'.1 k1'
          · rw [L2.upd_ne fun z => by rw [z, hD] at hb; cases hb]
            exact (t2.trans t').2 b o nb hb
          · rw [upd_same, List.map_append]; rfl
          · rw [take_snoc hv, List.map_append, k2, List.map_append]
            show _ ++ [kd v] = _
            rw [hk']; rfl
      · rw [List.take_length] at k2
        refine ⟨D, _, rfl, .inl ⟨SqL.of k1, fun l hl' => ?_⟩⟩
        have x3 : ShA CS c cols (upd H2 l (.tup (ks.map V.str))) := (x.tb tab t2).ex (Ex.upd hl')
        obtain ⟨dx, t, d, ts, kvs, g1, _⟩ := id x3
        refine ⟨_, rfl, c, dx, _, rfl, g1, rfl, kinds_step x3 hl fun H4 q e4 hq => ?_⟩
        have hl4 : H4 l = some (.tup (ks.map V.str)) := e4 _ _ upd_same
        have t4 : Tb Ps H H4 := t2.ex ((Ex.upd hl').trans e4)
        have hkk : ∀ k ∈ ks, k = "int" ∨ k = "text" := fun k hk' => by
          have : some k ∈ xs.map kd := by rw [k2]; exact List.mem_map.mpr ⟨k, hk', rfl⟩
          obtain ⟨v, _, hv⟩ := List.mem_map.mp this
          exact kd_kind hv
        have hcc : ∀ k ∈ (cols.map (fun y : Str × Str => y.2) : List Str), k = ("int" : Str) ∨ k = ("text" : Str) := fun k hk' => by
          obtain ⟨y, hy, rfl⟩ := List.mem_map.mp hk'
          exact hk y hy
        have hq' : H4 q = some (.tup ((cols.map (fun y : Str × Str => y.2)).map V.str)) := by rw [List.map_map]; exact hq
        refine ⟨_, _, .tup (SqT.of hl4) (dp_strs ks), .tup (SqT.of hq') (dp_strs _), shaped_kinds hkk, shaped_kinds hcc, _, rfl, ?_⟩
        rw [eqv_strsT]
        have ek : xs.map kd = kindsOf cols ↔ ks = cols.map (fun y : Str × Str => y.2) := by
          rw [k2]
          have e2 : kindsOf cols = (cols.map (fun y : Str × Str => y.2)).map some := by rw [List.map_map]; rfl
          rw [e2]
          exact List.map_inj_right fun a b => Option.some.inj
        by_cases z : ks = cols.map (fun y : Str × Str => y.2)
        · refine ifF (by simp [z]) ?_
          exact ⟨_, rfl, good (ek.mpr z) H4 t4⟩
        · refine ifT (by simp [z]) ?_
          exact bad (fun y => z (ek.mp y)) H4 t4
end
end KO1
set_option Elab.async false
set_option linter.all false
set_option maxRecDepth 100000
set_option maxHeartbeats 4000000
namespace GT
open PySem PySem.Spec PyProof.Rows PySem.Calls L2 KB GxR
structure GenT (env : PySem.Env) (scope : Scope) (xa xb : Str) : Prop where
  kind : scope.kind = .function
  co : scope.isCoroutine = false
  cell : ∀ y ∈ scope.names, y.2 ≠ .cell
  dot : scope.names.lookup (".0" : Str) = some NameKind.local
  la : scope.names.lookup xa = some NameKind.local
  lb : scope.names.lookup xb = some NameKind.local
  ne : xa ≠ xb
  free : ∀ y ∈ scope.names, y.2 = .free → ∃ c, env.cells.lookup y.1 = some c
def TabbedS (P : Addr) (q : Str) (H H' : Hp) : Prop := LamX.TabS H' P q ∧ ∀ b o, b ≠ P → H b = some o → H' b = some o
def ReadyG (X : Cx) (pins : List (Addr × Obj)) (σ : L2.St) (H1 : Hp) (P : Addr) (q : Str) (n : Nat) (tr : Nat → Bool) (g : Addr) (s5 : Shared) : Prop :=
  ∃ (fp wr : List Addr) (G : Array GenState → Array GenState → Prop) (F : Nat → Value → Prop) (St : Nat → Shared → Prop),
    WalksS X.prog X.w X.A.in1 g fp wr G n F St ∧ St 0 s5 ∧ TruthOf X.prog X.w X.A.in1 F tr ∧ ∀ s', Moved wr G s5 s' → ∃ H2, TabbedS P q H1 H2 ∧ Inv X pins σ H2 s'
def EltC (X : Cx) (s1 : Shared) (P : Addr) (scope : Scope) (xa xb : Str) (elt : Expr) (Pv : Nat → Array Value → Prop) (tr : Nat → Bool) : Prop :=
  ∀ (cenv : PySem.Env) (A' : Around) (E' : Value → Shared → Prop) (i : Nat) (va vb : Value) (s₂ : Shared) (m₂ : Str → Option Value), cenv.scope = scope → cenv.cells = cloFrom X.env.cells scope.names [] → A'.handled = none → (∀ b u, b ≠ P → s1.heap.get? b = some u → s₂.heap.get? b = some u) → cenv.globals = mainGlobals → s₂.heap.Ns mainGlobals X.mg → X.K.In s₂.heap → Pv i #[va, vb] → s₂.heap.Ns cenv.locals m₂ → m₂ xa = some va → m₂ xb = some vb →
    wpAny (model X.prog X.w) A' (eval elt cenv) (fun y s₃ => y = .bool (tr i) ∧ Keeps s₂ s₃) E' s₂
structure Src (X : Cx) (pins : List (Addr × Obj)) (σ : L2.St) (P : Addr) (q : Str) (xa xb : Str) (elt : Expr) (scope : Scope) (Q' : Value → Shared → Prop) (it : Value) (sb : Shared) (s1 : Shared) (H1 : Hp) (J : Addr) (fp wr : List Addr) (n : Nat) (Pv : Nat → Array Value → Prop) (St : Nat → Heap → Prop) (Mid : Nat → Addr → Heap → Prop) (tr : Nat → Bool) : Prop where
  it : it = .ref J
  inv : Inv X pins σ H1 s1
  same : sb = { s1 with heap := sb.heap, toks := sb.toks }
  keep : ∀ b u, s1.heap.get? b = some u → sb.heap.get? b = some u
  size : s1.heap.objs.size ≤ sb.heap.objs.size
  walk : ∀ A' : Around, A'.handled = none → WalksU X.prog X.w A' J fp wr n Pv St Mid
  two : ∀ i vals, Pv i vals → ∃ va vb, vals = #[va, vb]
  st : St 0 sb.heap
  fps : ∀ b ∈ fp, b < sb.heap.objs.size ∧ b ≠ P
  wrs : ∀ b ∈ wr, s1.heap.objs.size ≤ b
  tab : LamX.TabS H1 P q
  elt : EltC X s1 P scope xa xb elt Pv tr
  next : ∀ g s5, ReadyG X pins σ H1 P q n tr g s5 → Q' (.ref g) s5
theorem lt_or {a b c d : Nat} (h1 : a ≤ b) (h2 : b ≤ c) (h3 : d < a) (e : d = c) : False := by omega
section
variable {X : Cx} {pins : List (Addr × Obj)} {σ : L2.St} {s : Shared}
theorem gen_C {c P : Addr} {q : Str} {elt iter : Expr} {xa xb : Str} {pa pb pt gpos : Pos} {kt : Nat} {scope : Scope} {k : Nat} {Q' : Value → Shared → Prop} (hq : X.env.qual ++ Str.ofString "<genexpr>" = q) (hr : Room k X.A) (TB : GxR.TabB X.base X.mg c P) (hcode : X.env.code = .ref c) (S : GenT X.env scope xa xb)
    (hs : ∀ v, genFold iter X.env v = pure v)
    (src : wpAny (model X.prog X.w) X.A (eval iter X.env) (fun xv sa => wpAny (model X.prog X.w) X.A (pyIter xv) (fun it sb => ∃ s1 H1 J fp wr n Pv St Mid tr, Src X pins σ P q xa xb elt scope Q' it sb s1 H1 J fp wr n Pv St Mid tr) X.xe sa) X.xe s) :
    wpAny (model X.prog X.w) X.A (eval (.GeneratorExp elt [⟨.Tuple [.Name xa pa, .Name xb pb] kt pt, iter, [], 0⟩] scope gpos) X.env) Q' X.xe s := by
  refine wpAny_GeneratorExp_walksQT hr.hd S.co (closure_ok S.free) S.cell S.dot S.la S.lb S.ne S.kind (by have := hr.dp; omega) (wpAny_mono src (fun xv sa h1 => wpAny_mono h1 (fun it sb h2 => ?_) fun _ _ e => e) fun _ _ e => e) hs
  obtain ⟨s1, H1, J, fp, wr, n, Pv, St, Mid, tr, Z⟩ := h2
  obtain ⟨ps, hP, ht, ha⟩ := Z.tab
  obtain ⟨hb, gb, db, kb, ob⟩ := sb
  have sm := Z.same
  have I1 := Z.inv
  have hPs : s1.heap.get? P = some { cls := .none, data := .fields ps } := I1.hok P _ hP
  have hPlt : P < s1.heap.objs.size := Heap.lt_size hPs
  have hP2 : hb.get? P = some { cls := .none, data := .fields ps } := Z.keep _ _ hPs
  have cd : PySem.W.CodeHd hb c P := TB.code.keeps fun b u e => Z.keep b u (I1.bk b u e)
  have lim2 : hb.NoLimit := I1.nolimit.keeps Z.keep
  rw [sm]
  refine ⟨lim2, ?_⟩
  have hsz2 : s1.heap.objs.size ≤ hb.objs.size := Z.size
  have cst : cStatics < s1.heap.objs.size := let ⟨_, hns, _⟩ := I1.nolimit; hns.lt
  have goOn : ∀ (code : Value) (h3 : Heap) (tk : Nat) (more : Array Value), Heap.ExtBut P hb h3 → hb.objs.size ≤ h3.objs.size → h3.get? P = some { cls := .none, data := .fields (ps ++ more) } → TriplesOk (ps ++ more).toList →
      ∀ co : Option Addr, (∀ p' cv, codeAmong p' (ps ++ more).toList = some cv → codeAmong p' ps.toList = some cv ∨ ∃ c', co = some c' ∧ cv = .ref c') → (∀ c', co = some c' → hb.objs.size ≤ c' ∧ c' < h3.objs.size ∧ h3.CodeRec (.ref c') q) →
      wpAny (model X.prog X.w) X.A (builtinsFor X.env.globals X.env.builtins) (fun bi s₄ => ∃ I fp wr n₀ Pt St₀ Mid pz F, it = .ref I ∧ (∀ A' : Around, A'.handled = none → WalksU X.prog X.w A' I fp wr n₀ Pt St₀ Mid) ∧ (∀ i vals, Pt i vals → ∃ va vb, vals = #[va, vb]) ∧ St₀ 0 s₄.heap ∧ (∀ b ∈ fp, b < s₄.heap.objs.size) ∧ s₄.heap.NoLimit ∧ cStatics ∉ wr ∧
          (∀ href : Heap, (∀ b o, s₄.heap.get? b = some o → href.get? b = some o) → QuietGenT X.prog X.w (genEnv scope (cloFrom X.env.cells scope.names []) s₄.heap.objs.size code bi X.env) xa xb [] elt (List.range s₄.heap.objs.size) wr Pt pz F href) ∧
          (∀ a h₅ tk gs, gs.bare = true → s₄.heap.objs.size < a → h₅.objs.size = a + 1 → (∀ b o, s₄.heap.get? b = some o → h₅.get? b = some o) →
            WalksS X.prog X.w X.A.in4 a (a :: s₄.heap.objs.size :: List.range s₄.heap.objs.size) (s₄.heap.objs.size :: wr) (GenOnlyQ s₄.gens.size) (passing pz n₀ 0).length
              (fun j y => ∃ i, (passing pz n₀ 0)[j]? = some i ∧ F i y) (GenAt X.prog X.w X.A.in4 a s₄.gens.size s₄.heap.objs.size (List.range s₄.heap.objs.size) wr pz n₀ F) →
            GenAt X.prog X.w X.A.in4 a s₄.gens.size s₄.heap.objs.size (List.range s₄.heap.objs.size) wr pz n₀ F 0 { s₄ with gens := s₄.gens.push gs, toks := tk, heap := h₅ } →
            Q' (.ref a) { s₄ with gens := s₄.gens.push gs, toks := tk, heap := h₅ })) X.xe { s1 with heap := h3, toks := tk } := by
    intro code h3 tk more hx3 hsz hP3 ht3 co hnew hco
    obtain ⟨bm, bo, e1, e2, e3, e4, e5, e6, e7, e8⟩ := TB.bm
    have hcP : cStatics ≠ P := fun e => by
      obtain ⟨_, hns, _⟩ := I1.nolimit
      obtain ⟨o', es', ep', ho', hd', _⟩ := hns
      rw [e, hPs] at ho'
      cases ho'
      cases hd'
    have keep3 : ∀ b u, b ≠ P → s1.heap.get? b = some u → h3.get? b = some u := fun b u n e => hx3 b u n (Z.keep b u e)
    have kin3 : X.K.In h3 := (inv_tab (more := more) (h' := h3) (g' := s1.gens) (d' := s1.drawn) (t' := s1.toks) I1 hP (fun b u n e => keep3 b u n e) hP3 I1.bare).kIn
    have nsG : h3.Ns mainGlobals X.mg := ((I1.mod.glob.keeps I1.bk).keeps Z.keep).extBut hx3 TB.gP
    have glt : mainGlobals < s1.heap.objs.size := (I1.mod.glob.keeps I1.bk).lt
    refine wpAny_builtinsFor (m := X.mg) (by rw [I1.ok.glob]; exact (((I1.mod.glob.keeps I1.bk).keeps Z.keep)).extBut hx3 TB.gP) e1 e2 (keep3 _ _ e4 (I1.bk _ _ e5)) e6 e7 e8 ?_
    refine ⟨J, fp, wr, n, Pv, St, Mid, (fun _ => true), (fun i y => y = .bool (tr i)), Z.it, Z.walk, Z.two, (Z.walk X.A hr.hd).frame _ _ _ Z.st fun b hbf u e => hx3 b u (Z.fps b hbf).2 e, fun b hbf => Nat.lt_of_lt_of_le (Z.fps b hbf).1 hsz, lim2.extBut hx3 hcP, fun z => Nat.lt_irrefl _ (Nat.lt_of_lt_of_le cst (Z.wrs _ z)), fun href hhr => ⟨fun A' E' i va vb s₂ m₂ _ _ _ _ _ _ => ?_, fun A' E' i va vb s₂ m₂ hA hPv _ hn hma hmb hk => Z.elt _ A' E' i va vb s₂ m₂ rfl rfl hA (fun b u nb e => hk _ (List.mem_range.mpr (Heap.lt_size (keep3 b u nb e))) (fun z => Nat.lt_irrefl _ (Nat.lt_of_lt_of_le (Heap.lt_size e) (Z.wrs _ z))) _ (hhr _ _ (keep3 b u nb e))) I1.ok.glob (nsG.at fun o e => hk _ (List.mem_range.mpr (Heap.lt_size e)) (fun z => Nat.lt_irrefl _ (Nat.lt_of_lt_of_le glt (Z.wrs _ z))) _ (hhr _ _ e)) (fun b u e => hk _ (List.mem_range.mpr (Heap.lt_size (kin3 b u e))) (fun z => Nat.lt_irrefl _ (Nat.lt_of_lt_of_le (Heap.lt_size (I1.kIn b u e)) (Z.wrs _ z))) _ (hhr _ _ (kin3 b u e))) hPv hn hma hmb⟩, ?_⟩
    · simp only [List.forIn_nil]
      exact wpAny_pure ⟨rfl, keeps_refl _⟩
    · intro g h5 tk5 gs hgb hag hsz5 hk5 W5 hat
      simp only [GxR.passing_true, List.length_range] at W5
      refine Z.next g _ ⟨_, _, _, _, _, W5.in4_1, hat, fun j y sj Qj Ej hy hQj => ?_, fun s' hmv => ?_⟩
      · obtain ⟨i, hij, hF⟩ := hy
        obtain ⟨hj, ej⟩ := List.getElem?_eq_some_iff.mp hij
        rw [List.getElem_range] at ej
        have hF' : y = .bool (tr i) := hF
        rw [hF', ← ej]
        exact wpAny_truthy_bool hQj
      · have apart : ∀ b u, s1.heap.get? b = some u → b ∉ h3.objs.size :: wr := fun b u e z => by
          have hl := Heap.lt_size e
          rcases List.mem_cons.mp z with z | z
          · exact lt_or hsz2 hsz hl z
          · exact Nat.lt_irrefl _ (Nat.lt_of_lt_of_le hl (Z.wrs _ z))
        have JJ := inv_tab (more := more) (h' := s'.heap) (g' := s'.gens) (d' := s'.drawn) (t' := s'.toks) I1 hP (fun b u n e => hmv.heap b u (apart b u e) (hk5 b u (keep3 b u n e)))
          (hmv.heap P _ (apart P _ hPs) (hk5 P _ hP3)) (AllBare.movedS (I1.bare.push hgb) hmv)
        rw [sh_eta s1 s' hmv.os] at JJ
        cases co with
        | none =>
          refine ⟨_, ⟨⟨ps ++ more, upd_same, ht3, fun p' cv hcv => ?_⟩, fun b o n e => by rw [upd_ne n]; exact e⟩, JJ⟩
          rcases hnew p' cv hcv with z | ⟨c', z, _⟩
          · obtain ⟨c0, y1, y2⟩ := ha p' cv z
            exact ⟨c0, y1, by rw [upd_ne (fun z => by rw [z, hP] at y2; cases y2)]; exact y2⟩
          · cases z
        | some c' =>
          obtain ⟨hge, hlt, cr⟩ := hco c' rfl
          obtain ⟨c2, oc, vs, t, y0, hoc, hd2, hv2⟩ := id cr
          cases y0
          have nC : H1 c' = none := I1.hok.fresh (Nat.le_trans hsz2 hge)
          have nPc : P ≠ c' := ne_of_none hP nC
          have nw : c' ∉ h3.objs.size :: wr := fun z => by
            rcases List.mem_cons.mp z with z | z
            · exact Nat.lt_irrefl _ (z ▸ hlt)
            · exact Nat.lt_irrefl _ (Nat.lt_of_lt_of_le (Z.fps c' ((Z.walk X.A hr.hd).sub c' z)).1 hge)
          have ho' : s'.heap.get? c' = some oc := hmv.heap c' _ nw (hk5 c' _ hoc)
          have nC2 : upd H1 P (.tbl (ps ++ more)) c' = none := by rw [upd_ne nPc.symm]; exact nC
          have J2 := JJ.take (h' := s'.heap) (t' := s'.toks) (o := LamX.CodeO c' q) (fun b ob _ e => e) (I1.fpOk (Nat.le_trans hsz2 hge) nC2)
            (show ObjOk X.prog X.w _ s'.heap c' (LamX.CodeO c' q) from ⟨⟨oc, vs, t, ho', hd2, hv2⟩, ⟨_, ho'⟩, fun k1 k2 ⟨o1, v1, t1, z1, z2, z3⟩ kk => ⟨o1, v1, t1, kk _ z1, z2, z3⟩⟩)
          refine ⟨_, ⟨⟨ps ++ more, by rw [upd_ne nPc, upd_same], ht3, fun p' cv hcv => ?_⟩, fun b o n e => by rw [upd_ne (ne_of_none e nC), upd_ne n]; exact e⟩, J2⟩
          rcases hnew p' cv hcv with z | ⟨c3, z, e3'⟩
          · obtain ⟨c0, y1, y2⟩ := ha p' cv z
            exact ⟨c0, y1, by rw [upd_ne (ne_of_none y2 nC), upd_ne (fun z => by rw [z, hP] at y2; cases y2)]; exact y2⟩
          · cases z
            exact ⟨c', e3', upd_same⟩
  cases hf : codeAmong gpos ps.toList with
  | none =>
    refine wpAny_genexprCodeX hcode (cd.code hP2 ht) (cd.tab hP2) hf fun c' h' tk hx3 hge hlt hco' hrec' htab' _ => ?_
    obtain ⟨o1, vs, f1, tf, fl, tg, inF, tx, tt, op, _, _, _, _, _, _, _, _, _, htr, _⟩ := hco'
    refine goOn _ h' tk _ hx3 (Nat.le_trans hge (Nat.le_of_lt hlt)) htab'.2 htr (some c') (fun p' cv hcv => ?_) fun c3 e => by cases e; exact ⟨hge, hlt, hq ▸ hrec'⟩
    have eL : (ps ++ #[rawInt gpos.line, rawInt gpos.col, .ref c']).toList = ps.toList ++ [rawInt gpos.line, rawInt gpos.col, .ref c'] := by simp
    rw [eL] at hcv
    exact (LamX.among_app _ ht hcv).elim .inl fun z => .inr ⟨c', rfl, z⟩
  | some cv =>
    refine wpAny_genexprCode_hit hcode (cd.code hP2 ht) hf ?_
    have e0 : ps ++ #[] = ps := by simp
    exact goOn cv hb kb #[] (Heap.ExtBut.refl _ _) (Nat.le_refl _) (by rw [e0]; exact hP2) (by rw [e0]; exact ht) none (fun p' v z => by rw [e0] at z; exact .inl z) (fun _ e => nomatch e)
end
end GT
set_option Elab.async false
set_option linter.all false
set_option maxRecDepth 100000
set_option maxHeartbeats 4000000
namespace GT
open PySem PySem.Spec PyProof.Rows PySem.Calls L2 KB GxR
def trG {α : Type} (l : List α) (f : α → Bool) (d : α) (i : Nat) : Bool := f (l.getD i d)
theorem any_rangeG {α : Type} (f : α → Bool) (d : α) (l : List α) : ((List.range l.length).any (trG l f d)) = l.any f := by
  rw [Bool.eq_iff_iff, List.any_eq_true, List.any_eq_true]
  constructor
  · rintro ⟨i, hi, h⟩
    have hlt := List.mem_range.mp hi
    unfold trG at h
    rw [List.getD_eq_getElem?_getD, List.getElem?_eq_getElem hlt] at h
    exact ⟨l[i], List.getElem_mem hlt, h⟩
  · rintro ⟨x, hx, h⟩
    obtain ⟨i, hi, rfl⟩ := List.getElem_of_mem hx
    refine ⟨i, List.mem_range.mpr hi, ?_⟩
    unfold trG
    rw [List.getD_eq_getElem?_getD, List.getElem?_eq_getElem hi]
    exact h
def EltP2 (X : Cx) (scope : Scope) (xa xb : Str) (elt : Expr) (pb : Str → Str → Bool) : Prop :=
  ∀ (cenv : PySem.Env) (A' : Around) (E' : Value → Shared → Prop) (n k : Str) (ta tb : Tok) (s₂ : Shared) (m₂ : Str → Option Value), cenv.scope = scope → cenv.globals = mainGlobals → A'.handled = none → s₂.heap.Ns mainGlobals X.mg → X.K.In s₂.heap → s₂.heap.Ns cenv.locals m₂ → m₂ xa = some (.str n ta) → m₂ xb = some (.str k tb) →
    wpAny (model X.prog X.w) A' (eval elt cenv) (fun y s₃ => y = .bool (pb n k) ∧ Keeps s₂ s₃) E' s₂
def PairsS (H : Hp) : List Addr → List (Str × Str) → Prop := Paired fun t (x : Str × Str) => H t = some (.tup [.str x.1, .str x.2])
def tAnyL (P : Addr) (q : Str) (pb : Str → Str → Bool) (te : TE) : TE := fun σ H Q => te σ H fun v H1 => ∃ (a : Addr) (ts : List Addr) (cols : List (Str × Str)), v = .ref a ∧ H1 a = some (.lst (ts.map V.ref)) ∧ PairsS H1 ts cols ∧ LamX.TabS H1 P q ∧ ∀ H2, TabbedS P q H1 H2 → Q (.bl (cols.any fun x => pb x.1 x.2)) H2
theorem pairs_len {H : Hp} {ts : List Addr} {cols : List (Str × Str)} (h : PairsS H ts cols) : ts.length = cols.length := K7.paired_len h
theorem vals_refs : ∀ {ts : List Addr} {its : List Value}, Vals (ts.map V.ref) its → its = ts.map Value.ref
  | [], [], _ => rfl
  | t :: ts, i :: its, h => by
    cases h with
    | cons h1 h2 =>
      cases h1
      rw [vals_refs h2]; rfl
theorem tup_at {X : Cx} {pins : List (Addr × Obj)} {σ : L2.St} {H : Hp} {s : Shared} {P : Addr} {q : Str} (I : Inv X pins σ H s) (tab : LamX.TabS H P q) {ts : List Addr} {cols : List (Str × Str)} (hcs : PairsS H ts cols) (j : Nat) :
    ∃ vals : Array Value, (∃ ta tb, vals = #[.str (cols.getD j ("", "")).1 ta, .str (cols.getD j ("", "")).2 tb]) ∧ (∀ x, cols[j]? = some x → s.heap.IsTuple (ts.getD j 0) vals ∧ ts.getD j 0 ≠ P) := by
  rw [List.getD_eq_getElem?_getD (l := cols)]
  cases hj : cols[j]? with
  | none => exact ⟨#[.str "" 0, .str "" 0], ⟨0, 0, rfl⟩, fun x hx => by cases hx⟩
  | some x =>
    obtain ⟨t, ht, hH⟩ : ∃ t, ts[j]? = some t ∧ H t = some (.tup [.str x.1, .str x.2]) := by
      have hlt : j < ts.length := by rw [pairs_len hcs]; exact (List.getElem?_eq_some_iff.mp hj).1
      obtain ⟨b, hb, hF⟩ := paired_get hcs (List.getElem?_eq_getElem hlt)
      rw [hj] at hb
      cases hb
      exact ⟨_, List.getElem?_eq_getElem hlt, hF⟩
    have eg : ts.getD j 0 = t := by rw [List.getD_eq_getElem?_getD, ht]; rfl
    obtain ⟨its2, rv2, hl, _⟩ := I.tuple (SqT.of hH)
    cases rv2 with
    | cons r1 r2 =>
      cases r2 with
      | cons r2 r3 =>
        cases r3
        obtain ⟨ta, rfl⟩ := id r1
        obtain ⟨tb, rfl⟩ := id r2
        refine ⟨#[.str x.1 ta, .str x.2 tb], ⟨ta, tb, rfl⟩, fun y hy => ?_⟩
        cases hy
        rw [eg]
        refine ⟨hl, fun z => ?_⟩
        obtain ⟨ps, hP, _⟩ := tab
        rw [z, hP] at hH
        cases hH
section
variable {X : Cx}
theorem pe_anyL {c P : Addr} {q : Str} {elt iter : Expr} {xa xb : Str} {pa pb' pt p pos gpos : Pos} {kt : Nat} {scope : Scope} {pb : Str → Str → Bool} {te : TE} {k : Nat}
    (hq : X.env.qual ++ Str.ofString "<genexpr>" = q) (hr : Room k X.A) (hg : Gl X "any") (hm : X.mg "any" = none) (TB : TabB X.base X.mg c P) (hcode : X.env.code = .ref c) (S : GenT X.env scope xa xb) (hi : PE X iter te) (hel : EltP2 X scope xa xb elt pb)
    (hs : ∀ v, genFold iter X.env v = pure v)
    (he : starEach [.GeneratorExp elt [⟨.Tuple [.Name xa pa, .Name xb pb'] kt pt, iter, [], 0⟩] scope gpos] X.env = (false, eval (.GeneratorExp elt [⟨.Tuple [.Name xa pa, .Name xb pb'] kt pt, iter, [], 0⟩] scope gpos) X.env) :: starEach [] X.env := by rfl) :
    PE X (.Call (.Name "any" p) [.GeneratorExp elt [⟨.Tuple [.Name xa pa, .Name xb pb'] kt pt, iter, [], 0⟩] scope gpos] [] pos) (tAnyL P q pb te) := by
  refine ⟨fun pins s σ H Q I h => ?_⟩
  refine wpAny_Call_Name_kw (ld_blt I hg hm boot_any ?_)
  refine PyProof.Rows.callWith_builtin1 ?_ he (by rfl)
  rw [he]
  refine Calls.spliced_cons (gen_C (pins := pins) (σ := σ) hq hr TB hcode S hs (thn (hi.run pins s σ H _ I h) fun xv s1 ⟨v, H1, I1, r1, q1⟩ => ?_))
  obtain ⟨a, ts, cols, rfl, ha, hcs, tab, q1⟩ := q1
  cases r1
  obtain ⟨hz, its, nn, rv, hlen, hraw⟩ := I1.lstM ha
  have hisl : s1.heap.IsList a its.toArray := ⟨_, hraw, rfl, nn, rfl⟩
  refine wpAny_pyIter_list hisl ?_
  have hPo : s1.heap.get? P = some { cls := .none, data := .fields tab.choose } := I1.hok P _ tab.choose_spec.1
  have hPlt : P < s1.heap.objs.size := Heap.lt_size hPo
  have halt : a < s1.heap.objs.size := Heap.lt_size hraw
  have naP : a ≠ P := fun z => by
    rw [z, hPo] at hraw
    cases hraw
  have hlc := pairs_len hcs
  have hit := vals_refs rv
  have hsz : its.toArray.size = cols.length := by rw [hit, List.size_toArray, List.length_map, hlc]
  obtain ⟨vals, tv⟩ : ∃ vals : Nat → Array Value, ∀ j, (∃ ta tb, vals j = #[.str (cols.getD j ("", "")).1 ta, .str (cols.getD j ("", "")).2 tb]) ∧ (∀ x, cols[j]? = some x → s1.heap.IsTuple (ts.getD j 0) (vals j) ∧ ts.getD j 0 ≠ P) := ⟨fun j => (tup_at I1 tab hcs j).choose, fun j => (tup_at I1 tab hcs j).choose_spec⟩
  have at_ : ∀ j, j < its.toArray.size → ∃ x, cols[j]? = some x := fun j hj => ⟨_, List.getElem?_eq_getElem (by omega)⟩
  have tlt : ∀ j, j < its.toArray.size → ts.getD j 0 < s1.heap.objs.size := fun j hj => by
    obtain ⟨x, hx⟩ := at_ j hj
    obtain ⟨o, ho, _⟩ := ((tv j).2 x hx).1
    exact Heap.lt_size ho
  refine ⟨s1, H1, s1.heap.objs.size, _, [s1.heap.objs.size], its.toArray.size, _, _, _, trG cols (fun x => pb x.1 x.2) ("", ""), rfl, I1, rfl, fun b u e => Heap.get?_push_of_some _ e, Nat.le_of_lt (by rw [Heap.size_push]; exact Nat.lt_succ_self _),
    fun A' hA => WalksU.listOfTuples hA s1.heap.objs.size a (Nat.ne_of_lt halt) its.toArray (fun j => ts.getD j 0) vals (fun j hj => ?_) (fun j hj => Nat.ne_of_lt (tlt j hj)), fun i vs e => by
      obtain ⟨ta, tb, z⟩ := (tv i).1
      exact ⟨_, _, e.trans z⟩, ⟨⟨_, Heap.get?_push_size _ rfl, rfl, rfl⟩, hisl.at fun o e => Heap.get?_push_of_some _ e, fun k hk => ?_⟩, fun b hb => ?_, fun b hb => ?_, tab, ?_, fun g s5 hG => ?_⟩
  · have hlt : j < ts.length := by rw [hlc, ← hsz]; exact hj
    rw [hit, List.getElem?_toArray, List.getElem?_map, List.getD_eq_getElem?_getD, List.getElem?_eq_getElem hlt]; rfl
  · obtain ⟨x, hx⟩ := at_ k hk
    exact ((tv k).2 x hx).1.push _
  · have sp : (s1.heap.push { cls := .type "list_iterator", data := .fields #[.ref a, .int 0 0] } : Heap).objs.size = s1.heap.objs.size + 1 := Heap.size_push _ _
    rcases List.mem_cons.mp hb with z | hb
    · rw [z]
      exact ⟨by show _ < (s1.heap.push _).objs.size; rw [sp]; exact Nat.lt_succ_self _, fun z => Nat.lt_irrefl _ (z ▸ hPlt)⟩
    rcases List.mem_cons.mp hb with z | hb
    · rw [z]
      exact ⟨by show _ < (s1.heap.push _).objs.size; rw [sp]; exact Nat.lt_succ_of_lt halt, naP⟩
    obtain ⟨j, hj, rfl⟩ := List.mem_map.mp hb
    have hj := List.mem_range.mp hj
    obtain ⟨x, hx⟩ := at_ j hj
    exact ⟨by show _ < (s1.heap.push _).objs.size; rw [sp]; exact Nat.lt_succ_of_lt (tlt j hj), ((tv j).2 x hx).2⟩
  · rw [List.mem_singleton.mp hb]
    exact Nat.le_refl _
  · intro cenv A' E' i va vb s₂ m₂ hsc _ hA _ hgl nsG kin hPv hn hma hmb
    obtain ⟨ta, tb, z⟩ := (tv i).1
    have e : #[va, vb] = (#[.str (cols.getD i ("", "")).1 ta, .str (cols.getD i ("", "")).2 tb] : Array Value) := Eq.trans hPv z
    have e2 := congrArg Array.toList e
    injection e2 with e3 e4
    injection e4 with e5 _
    exact hel cenv A' E' _ _ ta tb s₂ m₂ hsc hgl hA nsG kin hn (by rw [hma, e3]) (by rw [hmb, e5])
  · obtain ⟨fp, wr, G, F, St, W, hst, htr, hI⟩ := hG
    refine Calls.spliced_nil ?_
    refine call_any_walkS (W.self 0 _ _ _ hst ⟨g, fp, wr, G, _, F, St, _, rfl, W, hst, htr, fun s' hmv => ?_⟩)
    obtain ⟨H2, hT, J⟩ := hI s' hmv
    refine ⟨.bl _, H2, J, rfl, ?_⟩
    rw [hsz, any_rangeG]
    exact q1 H2 hT
end
end GT
set_option Elab.async false
set_option linter.all false
set_option maxRecDepth 100000
set_option maxHeartbeats 4000000
namespace GT
open PySem PySem.Spec PyProof.Rows PySem.Calls L2 KB GxR
def TupG (K : PySem.W.Frag) (mg : Str → Option Value) (g : Str) (ys : List Str) : Prop := ∃ aK o its n, mg g = some (.ref aK) ∧ K.lookup aK = some o ∧ o.cls = .type "tuple" ∧ o.data = .seq its n ∧ PyProof.Rows.StrsAre its.toList ys
theorem elt_kind {X : Cx} {scope : Scope} {xa xb g : Str} {ys : List Str} {j : Nat} {p1 p2 p3 p4 p5 p6 p7 : Pos} (hk : scope.kind = .function) (ha : scope.names.lookup xa = some .local) (hb : scope.names.lookup xb = some .local) (hg : scope.names.lookup g = some .globalImplicit) (hm : TupG X.K X.mg g ys)
    (d1 : (xa == ("__debug__" : Str)) = false := by decide +kernel) (d2 : (xb == ("__debug__" : Str)) = false := by decide +kernel) (d3 : (g == ("__debug__" : Str)) = false := by decide +kernel) :
    EltP2 X scope xa xb (.BoolOp .Or [.Compare (.Name xa p1) [.Eq] [.Constant (.str "") j p2] p3, .Compare (.Name xb p4) [.NotIn] [.Name g p5] p6] p7) (fun n k => (n == ("" : Str)) || !(ys.any fun y => y == k)) := by
  intro cenv A' E' n k ta tb s₂ m₂ hsc hgl hA nsG kin hn hma hmb
  obtain ⟨aK, o, its, nn, hmg, hl, hc, hd, hs⟩ := hm
  have kf : cenv.scope.kind = .function := by rw [hsc]; exact hk
  have keep1 : ∀ (k : Nat), Keeps s₂ { s₂ with toks := k } := fun k => keeps_tok _ _
  refine BoolOp_or (wpAny_Compare1 ?_)
  refine wpAny_Name (wpAny_loadName_local kf (show cenv.scope.names.lookup xa = some .local by rw [hsc]; exact ha) hn hma ?_) d1
  refine wpAny_Constant_str (PyProof.Rows.eq_str (wpAny_truthy_bool ?_))
  by_cases c : (n == ("" : Str)) = true
  · rw [if_pos c]
    refine ⟨congrArg Value.bool (by show (n == ("" : Str)) = ((n == ("" : Str)) || _); rw [c]; rfl), keep1 _⟩
  · rw [if_neg c]
    refine BoolOp_one (wpAny_Compare1 ?_)
    refine wpAny_Name (wpAny_loadName_local kf (show cenv.scope.names.lookup xb = some .local by rw [hsc]; exact hb) hn hmb ?_) d2
    refine Calls.Name_function_global kf (show cenv.scope.names.lookup g = some .globalImplicit by rw [hsc]; exact hg) (Calls.loadGlobal_global (by rw [hgl]; exact nsG) hmg ?_) d3
    refine PyProof.Rows.notin_tuple_strs ⟨o, kin _ _ hl, hc, nn, hd⟩ hs ⟨?_, keep1 _⟩
    have cf : (n == ("" : Str)) = false := by simpa using c
    show _ = Value.bool ((n == ("" : Str)) || _)
    rw [cf]; rfl
end GT
set_option Elab.async false
set_option linter.all false
set_option maxRecDepth 100000
set_option maxHeartbeats 4000000
namespace KO1
open PySem PySem.Spec PyProof.Rows L2 KB KC KS KN1 LamX K7
abbrev qSh : Str := "Shape.__init__.<locals>.<genexpr>"
def badCol (n k : Str) : Bool := (n == ("" : Str)) || !((["int", "text"] : List Str).any fun y => y == k)
def goodS (cols : Co) : Prop := cols.length ≤ 20 ∧ (cols.map fun y : Str × Str => y.1).Nodup ∧ (cols.any fun x => badCol x.1 x.2) = false
def ExB (c P : Addr) (H H' : Hp) : Prop := ∀ b o, b ≠ c → b ≠ P → H b = some o → H' b = some o
@[irreducible] def spSInit (CS CR Pi : Addr) : Sp := fun vs H Q E => ∃ (c dx a : Addr) (ts : List Addr) (cols : Co), vs = [.ref c, .ref a] ∧ H c = some (.ins CS dx []) ∧ H a = some (.lst (ts.map V.ref)) ∧ Cols H ts cols ∧ cols.length ≤ 1000 ∧ TabS H Pi qSh ∧
  (¬ goodS cols → ∀ H', ExB c Pi H H' → TabS H' Pi qSh → E (.ref CR) none H') ∧ (goodS cols → ∀ H', ExB c Pi H H' → TabS H' Pi qSh → ShA CS c cols H' → Q .non H')
theorem foldA_short {α : Type} : ∀ (es acc : List (Key × α)), (acc.map (·.1)).Nodup → ¬ ((acc ++ es).map (·.1)).Nodup → (es.foldl (fun acc e => putA acc e.1 e.2) acc).length < acc.length + es.length
  | [], acc, h, n => absurd (by simpa using h) n
  | e :: es, acc, h, n => by
    rw [List.foldl_cons, List.length_cons]
    by_cases c : (acc.any fun x => decide (x.1 = e.1)) = true
    · have l1 : (putA acc e.1 e.2).length = acc.length := by unfold putA; rw [if_pos c, List.length_map]
      have := foldA_len_go es (putA acc e.1 e.2)
      omega
    · have ep : putA acc e.1 e.2 = acc ++ [e] := by unfold putA; rw [if_neg c]
      rw [ep]
      have nd : ((acc ++ [e]).map (·.1)).Nodup := by
        rw [List.map_append, List.nodup_append]
        refine ⟨h, by simp, fun x hx y hy z => c ?_⟩
        obtain ⟨p, hp, rfl⟩ := List.mem_map.mp hx
        have hy : y = e.1 := by simpa using hy
        rw [List.any_eq_true]
        exact ⟨p, hp, decide_eq_true (z.trans hy)⟩
      have := foldA_short es (acc ++ [e]) nd (by simpa using n)
      rw [List.length_append] at this
      simp at this
      omega
theorem nodup_inr' {l : List Str} : (l.map fun n => (Sum.inr n : Key)).Nodup ↔ l.Nodup := by
  constructor
  · intro h
    induction l with
    | nil => exact List.nodup_nil
    | cons a l ih =>
      rw [List.map_cons, List.nodup_cons] at h
      rw [List.nodup_cons]
      exact ⟨fun hm => h.1 (List.mem_map.mpr ⟨a, hm, rfl⟩), ih h.2⟩
  · intro h
    induction l with
    | nil => exact List.nodup_nil
    | cons a l ih =>
      rw [List.nodup_cons] at h
      rw [List.map_cons, List.nodup_cons]
      refine ⟨fun hm => ?_, ih h.2⟩
      obtain ⟨b, hb, e⟩ := List.mem_map.mp hm
      cases e
      exact h.1 hb
theorem fold_names (l : List Str) : ((foldA (l.map fun n => ((Sum.inr n : Key), ()))).length = l.length) ↔ l.Nodup := by
  have e : ((l.map fun n => ((Sum.inr n : Key), ())).map (·.1)) = l.map fun n => (Sum.inr n : Key) := by rw [List.map_map]; rfl
  constructor
  · intro h
    refine Decidable.byContradiction fun n => ?_
    have := foldA_short (l.map fun n => ((Sum.inr n : Key), ())) [] List.nodup_nil (by rw [List.nil_append, e, nodup_inr']; exact n)
    rw [List.length_map] at this
    have h : (List.foldl (fun acc (e : Key × Unit) => putA acc e.1 e.2) [] (l.map fun n => ((Sum.inr n : Key), ()))).length = l.length := h
    simp at this
    omega
  · intro h
    rw [foldA_self (by rw [e, nodup_inr']; exact h), List.length_map]
theorem val_place : ∀ (cols : Co) (n : Str) (k : Nat), valV (((cols.map fun y : Str × Str => y.1).zipIdx k).map fun e => ((Sum.inr e.1 : Key), V.int ((e.2 : Nat) : Int))) (Sum.inr n) = (placeIn cols n).map fun i => V.int ((i + k : Nat) : Int)
  | [], n, k => rfl
  | x :: cols, n, k => by
    have ih := val_place cols n (k + 1)
    unfold placeIn at ih ⊢
    rw [List.findIdx?_cons]
    rw [List.map_cons, List.zipIdx_cons, List.map_cons]
    unfold valV at ih ⊢
    rw [List.find?_cons]
    by_cases c : x.1 = n
    · have e1 : decide ((Sum.inr x.1 : Key) = Sum.inr n) = true := decide_eq_true (by rw [c])
      rw [e1, if_pos (decide_eq_true c)]
      simp
    · have e1 : decide ((Sum.inr x.1 : Key) = Sum.inr n) = false := decide_eq_false fun z => c (Sum.inr.inj z)
      rw [e1, if_neg (by simpa using c)]
      rw [ih, Option.map_map]
      congr 1
      funext i
      show V.int _ = V.int _
      congr 1
      show ((i + (k + 1) : Nat) : Int) = (((i + 1) + k : Nat) : Int)
      congr 1
      omega
theorem paired_app {α β : Type} {F : α → β → Prop} : ∀ {xs xs' : List α} {ys ys' : List β}, Paired F xs ys → Paired F xs' ys' → Paired F (xs ++ xs') (ys ++ ys')
  | [], _, _, _, .nil, q => q
  | _ :: _, _, _, _, .cons h r, q => .cons h (paired_app r q)
theorem kvs_int {H : Hp} : ∀ {kvs : List (Key × V)} {es : List (Key × Int)}, KvR (fun _ v (i : Int) => v = .int i) H kvs es → kvs = es.map fun e => (e.1, V.int e.2)
  | [], _, .nil => rfl
  | p :: kvs, e :: es, .cons h r => by
    obtain ⟨h1, h2⟩ := h
    have h2 : p.2 = V.int e.2 := h2
    rw [List.map_cons, ← kvs_int (H := H) r, ← h1, ← h2]
theorem tabS_ins {H : Hp} {P c C dx : Addr} {q : Str} {fs : List (Str × V)} {o : HO} (t : TabS H P q) (h : H c = some (.ins C dx fs)) : TabS (upd H c o) P q := by
  obtain ⟨ps, hP, ht, ha⟩ := t
  refine ⟨ps, by rw [L2.upd_ne (fun z => by rw [z, h] at hP; cases hP)]; exact hP, ht, fun pos cv hcv => ?_⟩
  obtain ⟨c0, e, hc0⟩ := ha pos cv hcv
  refine ⟨c0, e, ?_⟩
  rw [L2.upd_ne (fun z => by rw [z, h] at hc0; cases hc0)]
  exact hc0
section
variable {P : Program} {w : World} {K : PySem.W.Frag} {mg : Str → Option Value} {base : Heap} {f cI Pi CS CR : Addr} {fd : FuncData}
def nSI : List Str := ["self", "columns", "names", "name", "kind", "place"]
theorem scSI : FnScope nSI ["self", "columns"] (defScope (sSM 0)) := ⟨rfl, rfl, rfl, by decide +kernel, rfl, by decide +kernel, by decide +kernel⟩
theorem ok_sinit (F : FnP K "__init__" "Shape.__init__" (sSM 0) [] f fd) (hc : fd.code = .ref cI) (TB : GxR.TabB base mg cI Pi) (B : TxtS K mg CS) (T : TxtL mg) (TK : TxtK mg) (J : TxtX K mg CR) (hM : ∃ tk, mg "MOST_COLUMNS" = some (.int 20 tk)) (hE : mg "enumerate" = none) (hKi : GT.TupG K mg "KINDS" ["int", "text"]) :
    FnOk P w K mg base (L2.CX P w) 1 f fd ["self", "columns"] (spSInit CS CR Pi) := by
  obtain ⟨tk, hM⟩ := hM
  refine okC F hc scSI (fun vs H Q E h => ?_) (fun A outer s H vs Q E hr h => ?_)
  · unfold spSInit at h
    obtain ⟨_, _, _, _, _, rfl, _⟩ := h; rfl
  · unfold spSInit at h
    obtain ⟨c, dx, a, ts, cols, rfl, h1, h2, h3, hl, tab, bad, good⟩ := h
    have pair : ∀ (X : Cx), X.N = nSI → True := fun _ _ => trivial
    refine ⟨_, pss_cons (ps_setLc (i := 2) (own := [("name", 3), ("kind", 4)]) (g := gTup K 2 (gCons (gName 3) (gCons (gName 4) gNil))) (tt := tYes) (te := tVar 3) rfl scSI.nd rfl rfl (sw_true rfl rfl rfl (by decide +kernel)) (pi_list (pv 1)) (blkOk_by (N := nSI) (sc := defScope (sSM 0)) (by decide +kernel))
        (fun _ _ _ _ _ => pg_tup rfl (pgs_cons (pg_name (i := 3) scSI.nd rfl (Or.inl rfl)) (pgs_cons (pg_name (i := 4) scSI.nd rfl (Or.inl rfl)) pgs_nil))) (fun _ _ _ _ _ => pts_nil) (fun _ _ _ _ _ => pv 3))
      (pss_cons (ps_if (PW.pt (pw_or (pt_cmpR op_gt (pe_callB call_len_seq (by rfl) T.len (by decide +kernel) (pa_cons (pv 1) pa_nil)) (pe_glob (v := .int 20) (by rfl) hM ⟨_, rfl⟩) (nomark _))
          (pw_or1 (pt_cmpR op_ne (pe_callB call_lenD (by rfl) T.len PySem.boot_len (pa_cons (pe_dc (own := [("name", 3)]) (g := gName 3) (tt := tYes) (tk := tVar 3) (tv := tC (.bl true)) rfl scSI.nd (pi_list (pv 2)) (blkOk_by (N := nSI) (sc := defScope (sSM 0)) (by decide +kernel))
            (fun _ _ _ _ _ => pg_name (i := 3) scSI.nd rfl (Or.inl rfl)) (fun _ _ _ _ _ => pts_nil) (fun _ _ _ _ _ => pv 3) (fun _ _ _ _ _ => pe_bl)) pa_nil)) (pe_callB call_len_seq (by rfl) T.len PySem.boot_len (pa_cons (pv 2) pa_nil)) (nomark _)))))
        (pss_one (ps_raise rfl (takes_of rfl rfl rfl rfl) (pmk_own PySem.F.excBase_ValueError J.x J.g J.k (raises_own J.b J.t) rfl))) pss_nil)
      (pss_cons (ps_if (pt_val (GT.pe_anyL (c := cI) (P := Pi) (q := qSh) (pb := badCol) (xa := "name") (xb := "kind") (show (Str.ofString "Shape.__init__" ++ Str.ofString ".<locals>.") ++ Str.ofString "<genexpr>" = qSh by decide +kernel) hr (by rfl) TK.any TB rfl
          ⟨rfl, rfl, by decide +kernel, rfl, rfl, rfl, by decide +kernel, fun y hy e => by
            rcases List.mem_cons.mp hy with rfl | hy
            · cases e
            · rcases List.mem_cons.mp hy with rfl | hy
              · cases e
              · rcases List.mem_cons.mp hy with rfl | hy
                · cases e
                · rcases List.mem_cons.mp hy with rfl | hy
                  · cases e
                  · cases hy⟩ (pv 1) (GT.elt_kind rfl rfl rfl rfl hKi) (fun _ => rfl)))
        (pss_one (ps_raise rfl (takes_of rfl rfl rfl rfl) (pmk_own PySem.F.excBase_ValueError J.x J.g J.k (raises_own J.b J.t) rfl))) pss_nil)
      (PSs.nox <| pss_cons (ps_fld (pv 0) (pe_callTy call_tuple_of (by rfl) T.tuple (by decide +kernel) (pa_cons (pe_lc (own := [("name", 3), ("kind", 4)]) (g := gTup K 2 (gCons (gName 3) (gCons (gName 4) gNil))) (tt := tYes) (te := tTup (tCons (tVar 3) (tCons (tVar 4) tNil))) rfl scSI.nd (pi_list (pv 1)) (blkOk_by (N := nSI) (sc := defScope (sSM 0)) (by decide +kernel))
        (fun _ _ _ _ _ => pg_tup rfl (pgs_cons (pg_name (i := 3) scSI.nd rfl (Or.inl rfl)) (pgs_cons (pg_name (i := 4) scSI.nd rfl (Or.inl rfl)) pgs_nil))) (fun _ _ _ _ _ => pts_nil) (fun _ _ _ _ _ => pe_tup (pa_cons (pv 3) (pa_cons (pv 4) pa_nil)))) pa_nil)) (by rfl))
      (pss_one (ps_fld (pv 0) (pe_dc (own := [("name", 3), ("place", 5)]) (g := gTup K 2 (gCons (gName 5) (gCons (gName 3) gNil))) (tt := tYes) (tk := tVar 3) (tv := tVar 5) rfl scSI.nd (pi_enum (by rfl) hE (pa_cons (pv 2) pa_nil)) (blkOk_by (N := nSI) (sc := defScope (sSM 0)) (by decide +kernel))
        (fun _ _ _ _ _ => pg_tup rfl (pgs_cons (pg_name (i := 5) scSI.nd rfl (Or.inl rfl)) (pgs_cons (pg_name (i := 3) scSI.nd rfl (Or.inl rfl)) pgs_nil))) (fun _ _ _ _ _ => pts_nil) (fun _ _ _ _ _ => pv 3) (fun _ _ _ _ _ => pv 5)) (by rfl)))))), ?_⟩
    have hz : sizeLine = 16777216 := rfl
    have hlt : ts.length = cols.length := paired_len h3
    have exb : ∀ {H' : Hp}, KS.Ex H H' → ExB c Pi H H' := fun e b o _ _ h => e b o h
    have tabx : ∀ {H' : Hp}, KS.Ex H H' → TabS H' Pi qSh := fun e => tab.ext e
    refine ⟨_, rfl, a, rfl, ⟨_, SqL.of h2⟩, fun D hD => ?_⟩
    refine lc_list (xs := ts.map V.ref) (fun i H2 => KS.Ex H H2 ∧ H2 D = some (.lst ((cols.take i).map fun x => V.str x.1))) ⟨Ex.upd hD, upd_same⟩ (fun i H2 _ ⟨e2, _⟩ => SqL.of (e2 _ _ h2)) (fun i x H2 hx ⟨e2, k2⟩ => ?_) (fun H2 ⟨e2, k2⟩ => ?_)
    · rw [List.getElem?_map] at hx
      obtain ⟨b, hb, rfl⟩ := Option.map_eq_some_iff.mp hx
      obtain ⟨y, hy, ht⟩ := paired_get h3 hb
      refine ⟨b, _, rfl, SqT.of (e2 _ _ ht), rfl, _, _, rfl, _, _, rfl, rfl, rfl, _, rfl, _, k2, ?_, Ex.on e2 hD, ?_⟩
      · rw [List.length_map, List.length_take]
        omega
      · rw [upd_same, take_snoc hy, List.map_append]; rfl
    · rw [List.length_map, hlt, List.take_length] at k2
      have k2 : H2 D = some (.lst ((cols.map fun y : Str × Str => y.1).map V.str)) := by rw [List.map_map]; exact k2
      generalize hnm : (cols.map fun y : Str × Str => y.1) = names at *
      have lnm : names.length = cols.length := by rw [← hnm, List.length_map]
      refine ⟨_, rfl, a, _, rfl, .inl (SqL.of (e2 _ _ h2)), _, _, rfl, rfl, _, rfl, ?_⟩
      rw [List.length_map, hlt]
      by_cases c1 : 20 < cols.length
      · exact ifT (decide_eq_true (by omega)) (ifT rfl (bad (fun g => by have := g.1; omega) H2 (exb e2) (tabx e2)))
      refine ifF (by simp; omega) ?_
      refine ⟨_, rfl, D, rfl, ⟨_, SqL.of k2⟩, fun D2 hD2 => ?_⟩
      refine dcG (walk_list (K := K) (a := D) (xs := names.map V.str)) (fun _ v (_ : Unit) => v = .bl true) (fun j => names[j]?.bind fun n => some (Sum.inr n, ())) (fun _ _ _ _ _ h => h) hD2 (by rw [List.length_map]; omega) (fun H3 e3 => SqL.of (e3 _ _ k2)) (fun i H3 x H4 _ _ h => by obtain ⟨rfl, _⟩ := h; exact Ex.refl _) (fun j v H3 H4 R0 N0 hj e3 hy hno hsm => ?_) (fun H3 kvs e3 hx3 hps => ?_)
      · obtain ⟨rfl, hy⟩ := hy
        rw [List.getElem?_map] at hy
        obtain ⟨n, hn, rfl⟩ := Option.map_eq_some_iff.mp hy
        exact ⟨rfl, _, rfl, hsm (Sum.inr n) () (by rw [hn]; rfl) _ _ (Ex.refl _) rfl⟩
      · rw [List.length_map, range_fm, List.filterMap_eq_map'] at hps
        have lk : kvs.length = (foldA (names.map fun n => ((Sum.inr n : Key), ()))).length := paired_len hps
        have e03 : KS.Ex H H3 := e2.trans e3
        refine ⟨D2, _, rfl, hx3, _, rfl, D, _, rfl, .inl (SqL.of (e3 _ _ k2)), rfl, _, rfl, ?_⟩
        rw [List.length_map, eqI]
        by_cases nd : names.Nodup
        · have l2 := (fold_names names).mpr nd
          refine ifF (by simp; omega) ?_
          refine ⟨_, rfl, a, ts, cols, rfl, e03 _ _ h2, h3.ex e03, tabx e03, fun H5 t5 => ⟨_, rfl, ?_⟩⟩
          have x5 : ExB c Pi H H5 := fun b o _ nP h => t5.2 b o nP (e03 b o h)
          by_cases cb : (cols.any fun x => badCol x.1 x.2) = true
          · exact ifT cb (bad (fun g => by rw [g.2.2] at cb; cases cb) H5 x5 t5.1)
          refine ifF cb ?_
          have gd : goodS cols := ⟨by omega, by rw [hnm]; exact nd, by simpa using cb⟩
          have k3 := e3 _ _ k2
          have nb : ∀ {b : Addr} {o : HO}, H3 b = some o → (∀ ps, o ≠ .tbl ps) → H5 b = some o := fun {b o} h no => t5.2 b o (fun z => by
            obtain ⟨ps, hp, _⟩ := tabx e03
            rw [z, hp] at h
            exact no ps (Option.some.inj h).symm) h
          have k5 := nb k3 (by intro _ z; cases z)
          have a5 := nb (e03 _ _ h2) (by intro _ z; cases z)
          have cl5 : Cols H5 ts cols := paired_mono (fun _ _ q => nb q (by intro _ z; cases z)) (h3.ex e03)
          have c5 := nb (e03 _ _ h1) (by intro _ z; cases z)
          refine ⟨_, rfl, a, rfl, ⟨_, SqL.of a5⟩, fun D3 hD3 => ?_⟩
          refine lc_list (xs := ts.map V.ref) (fun i H6 => KS.Ex H5 H6 ∧ ∃ us : List Addr, H6 D3 = some (.lst (us.map V.ref)) ∧ Cols H6 us (cols.take i)) ⟨Ex.upd hD3, [], upd_same, .nil⟩ (fun i H6 _ ⟨e6, _⟩ => SqL.of (e6 _ _ a5)) (fun i x H6 hx ⟨e6, us, k6, cu⟩ => ?_) (fun H6 ⟨e6, us, k6, cu⟩ => ?_)
          · rw [List.getElem?_map] at hx
            obtain ⟨b, hb, rfl⟩ := Option.map_eq_some_iff.mp hx
            obtain ⟨y, hy, ht⟩ := paired_get cl5 hb
            refine ⟨b, _, rfl, SqT.of (e6 _ _ ht), rfl, _, _, rfl, _, _, rfl, rfl, rfl, _, rfl, _, rfl, (by show 2 ≤ sizeLine; decide), fun u hu => ?_⟩
            have nu : D3 ≠ u := fun z => by rw [z, hu] at k6; cases k6
            have lus := paired_len cu
            rw [List.length_take] at lus
            refine ⟨_, by rw [L2.upd_ne nu]; exact k6, by rw [List.length_map]; omega, ?_, us ++ [u], ?_, ?_⟩
            · exact Ex.on (e6.trans (Ex.upd hu)) hD3
            · rw [upd_same, List.map_append]; rfl
            · rw [take_snoc hy]
              refine paired_app (paired_mono (fun t x q => ?_) cu) (.cons ?_ .nil)
              · rw [L2.upd_ne (fun z => by rw [z, k6] at q; cases q), L2.upd_ne (fun z => by rw [z, hu] at q; cases q)]
                exact q
              · rw [L2.upd_ne nu.symm]; exact upd_same
          · rw [List.length_map, hlt, List.take_length] at cu
            refine ⟨D3, _, rfl, .inl ⟨SqL.of k6, fun l hl' => ?_⟩⟩
            have e57 := e6.trans (Ex.upd (o := .tup (us.map V.ref)) hl')
            have l7 : (upd H6 l (.tup (us.map V.ref))) l = some (.tup (us.map V.ref)) := upd_same
            have cu7 : Cols (upd H6 l (.tup (us.map V.ref))) us cols := cu.ex (Ex.upd hl')
            generalize upd H6 l (.tup (us.map V.ref)) = H7 at e57 l7 cu7
            refine ⟨_, rfl, c, CS, dx, _, rfl, e57 _ _ c5, B.cl, B.c, (by show 0 < 1000; decide), ?_⟩
            have c7 := e57 _ _ c5
            have keep8 : ∀ {b : Addr} {o : HO} (o' : HO), H7 b = some o → (∀ C' dx' fs', o ≠ .ins C' dx' fs') → (upd H7 c o') b = some o := fun {b o} o' h no => by
              rw [L2.upd_ne (fun z => by
                rw [z, c7] at h
                exact no _ _ _ (Option.some.inj h).symm)]
              exact h
            have k8 := keep8 (.ins CS dx (putF "columns" (.ref l) [])) (e57 _ _ k5) (by intro _ _ _ z; cases z)
            have l8 := keep8 (.ins CS dx (putF "columns" (.ref l) [])) l7 (by intro _ _ _ z; cases z)
            have cu8 : Cols (upd H7 c (.ins CS dx (putF "columns" (.ref l) []))) us cols := paired_mono (fun _ _ q => keep8 _ q (by intro _ _ _ z; cases z)) cu7
            have x8 : ExB c Pi H (upd H7 c (.ins CS dx (putF "columns" (.ref l) []))) := fun b o nc nP h => by
              rw [L2.upd_ne nc]
              exact e57 _ _ (x5 b o nc nP h)
            have t8 : TabS (upd H7 c (.ins CS dx (putF "columns" (.ref l) []))) Pi qSh := tabS_ins (t5.1.ext e57) c7
            have c8 : (upd H7 c (.ins CS dx (putF "columns" (.ref l) []))) c = some (.ins CS dx (putF "columns" (.ref l) [])) := upd_same
            generalize upd H7 c (.ins CS dx (putF "columns" (.ref l) [])) = H8 at k8 l8 cu8 x8 t8 c8
            refine ⟨_, rfl, D, _, rfl, SqL.of k8, fun D4 hD4 => ?_⟩
            refine dcG (walk_enum (K := K) (a := D) (xs := names.map V.str)) (fun _ v (i : Int) => v = .int i) (fun j => names.zipIdx[j]?.bind fun e => some ((Sum.inr e.1 : Key), ((e.2 : Nat) : Int))) (fun _ _ _ _ _ h => h) hD4 (by rw [List.length_map]; omega) (fun H9 e9 => SqL.of (e9 _ _ k8)) (fun i H9 x H10 _ _ h => by obtain ⟨T, x, y, _, hT, rfl, _⟩ := h; exact Ex.upd hT) (fun j v H9 H10 R0 N0 hj e9 hy hno hsm => ?_) (fun H9 kvs e9 hx9 hps => ?_)
            · obtain ⟨T1, x1, y1, rfl, hT, rfl, hx, hy⟩ := hy
              obtain rfl := Option.some.inj hx
              have hy : (names.map V.str)[j]? = some y1 := hy
              rw [List.getElem?_map] at hy
              obtain ⟨n, hn, rfl⟩ := Option.map_eq_some_iff.mp hy
              refine ⟨T1, _, rfl, SqT.of upd_same, rfl, _, _, rfl, _, _, rfl, rfl, rfl, _, rfl, _, rfl, ?_⟩
              exact hsm (Sum.inr n) (j : Int) (by rw [List.getElem?_zipIdx, hn]; simp) _ _ (Ex.refl _) rfl
            · have eo : (List.range (names.map V.str).length).filterMap (fun j => names.zipIdx[j]?.bind fun e => some ((Sum.inr e.1 : Key), ((e.2 : Nat) : Int))) = names.zipIdx.map fun e => ((Sum.inr e.1 : Key), ((e.2 : Nat) : Int)) := by
                have el : (names.map V.str).length = names.zipIdx.length := by rw [List.length_map, List.length_zipIdx]
                rw [el, range_fm, List.filterMap_eq_map']
              have ek : (names.zipIdx.map fun e => ((Sum.inr e.1 : Key), ((e.2 : Nat) : Int))).map (·.1) = names.map fun n => (Sum.inr n : Key) := by
                rw [List.map_map]
                have := congrArg (List.map fun n : Str => (Sum.inr n : Key)) (List.zipIdx_map_fst 0 names)
                rw [List.map_map] at this
                exact this
              rw [eo, foldA_self (by rw [ek, nodup_inr']; exact nd)] at hps
              have ev : kvs = names.zipIdx.map fun e => ((Sum.inr e.1 : Key), V.int ((e.2 : Nat) : Int)) := by
                rw [kvs_int hps, List.map_map]; rfl
              refine ⟨_, rfl, c, CS, dx, _, rfl, e9 _ _ c8, B.cl, B.p, (by show 1 < 1000; decide), ?_⟩
              have c9 := e9 _ _ c8
              have keep9 : ∀ {b : Addr} {o : HO} (o' : HO), H9 b = some o → (∀ C' dx' fs', o ≠ .ins C' dx' fs') → (upd H9 c o') b = some o := fun {b o} o' h no => by
                rw [L2.upd_ne (fun z => by
                  rw [z, c9] at h
                  exact no _ _ _ (Option.some.inj h).symm)]
                exact h
              refine good gd (upd H9 c (.ins CS dx (sF l D4))) (fun b o nc nP h => ?_) (tabS_ins (t8.ext e9) c9) ⟨dx, l, D4, us, kvs, upd_same, keep9 _ (e9 _ _ l8) (by intro _ _ _ z; cases z), paired_mono (fun _ _ q => keep9 _ q (by intro _ _ _ z; cases z)) (cu8.ex e9), keep9 _ hx9 (by intro _ _ _ z; cases z), fun n => ?_⟩
              · rw [L2.upd_ne nc]
                exact e9 _ _ (x8 b o nc nP h)
              · have := val_place cols n 0
                rw [hnm] at this
                rw [ev]
                simpa using this
        · have l2 : ¬ (foldA (names.map fun n => ((Sum.inr n : Key), ()))).length = names.length := fun z => nd ((fold_names names).mp z)
          exact ifT (by simp; omega) (bad (fun g => nd (by have := g.2.1; rw [hnm] at this; exact this)) H3 (exb e03) (tabx e03))
end
end KO1
set_option Elab.async false
set_option linter.all false
set_option maxRecDepth 100000
set_option maxHeartbeats 4000000
namespace KO1
open PySem PySem.Spec PyProof.Rows L2 KB KC KS KN1 LamX K7
theorem ExD.trans {d : Addr} {H H1 H2 : Hp} (a : ExD d H H1) (b : ExD d H1 H2) : ExD d H H2 := fun x o n h => b x o n (a x o n h)
theorem ExD.of {d : Addr} {H H' : Hp} (e : KS.Ex H H') : ExD d H H' := fun b o _ h => e b o h
theorem roll_step {d : Addr} {m : Int} {H : Hp} {Q : VK} {E : XK} (hd : IsDice H d) (h0 : 0 < m) (h1 : m ≤ 100000000) (fin : ∀ r H', 0 ≤ r → r < m → ExD d H H' → IsDice H' d → Q (.int r) H') : spRoll [.ref d, .int m] H Q E := by
  unfold spRoll
  exact ⟨d, m, rfl, hd, h0, h1, fun r a b k r0 r1 => fin r _ r0 r1 (fun b o n h => by rw [L2.upd_ne n]; exact h) ⟨a, b, k, upd_same⟩⟩
theorem IsDice.ex {H H' : Hp} {d : Addr} (h : IsDice H d) (e : KS.Ex H H') : IsDice H' d := by
  obtain ⟨a, b, k, q⟩ := h
  exact ⟨a, b, k, e _ _ q⟩
def OkW : Key → Prop
  | .inl v => -(2 ^ 71) < v ∧ v < 2 ^ 71
  | .inr s => badT s = false ∧ s.cps.toList.length ≤ 5
@[irreducible] def spDrawn : Sp := fun vs H Q _ => ∃ d, vs = [.ref d] ∧ IsDice H d ∧ ∀ H' k, ExD d H H' → IsDice H' d → OkW k → Q (kV k) H'
theorem drawn_step {d : Addr} {H : Hp} {Q : VK} {E : XK} (hd : IsDice H d) (fin : ∀ H' k, ExD d H H' → IsDice H' d → OkW k → Q (kV k) H') : spDrawn [.ref d] H Q E := by
  unfold spDrawn
  exact ⟨d, rfl, hd, fin⟩
section
variable {P : Program} {w : World} {K : PySem.W.Frag} {mg : Str → Option Value} {base : Heap} {f fR : Addr} {fd fdR : FuncData}
theorem scDr : FnScope ["dice", "sort", "k"] ["dice"] (defScope sDrawn) := ⟨rfl, rfl, rfl, by decide +kernel, rfl, by decide +kernel, by decide +kernel⟩
theorem ok_drawn (F : FnP K "_law_drawn" "_law_drawn" sDrawn [] f fd) (T : TxtL mg) (TK : TxtK mg)
    (G1 : ∃ k1, k1 ≤ 7 ∧ FnOk P w K mg base CX0 k1 fR fdR ["dice", "many"] spRoll) (g1 : mg "_law_roll" = some (.ref fR)) (kp1 : PySem.W.keepIn K (.ref fR) = true) (b1 : Binds K fdR ["dice", "many"] []) : FnOk P w K mg base CX0 8 f fd ["dice"] spDrawn := by
  obtain ⟨tk, hL⟩ := TK.l
  obtain ⟨k1, hk1, G1⟩ := G1
  refine F.ok scDr (fun vs H Q E h => ?_) (fun cdv A outer s H vs Q E hr h => ?_)
  · unfold spDrawn at h
    obtain ⟨_, rfl, _⟩ := h; rfl
  · unfold spDrawn at h
    obtain ⟨d, rfl, hd, fin⟩ := h
    have hr1 := hr.mono hk1
    refine ⟨_, PSs.nox <| pss_cons (ps_set (i := 1) scDr.nd rfl (Or.inl rfl) (pe_call G1 hr1 (by rfl) g1 kp1 b1 .nil pass0 (pa_cons (pv 0) (pa_cons pe_int pa_nil))))
      (pss_cons (ps_if (pt_cmpR op_lt (pv 1) pe_int (nomark _)) (pss_one (ps_ret (pe_op op_sub (pe_call G1 hr1 (by rfl) g1 kp1 b1 .nil pass0 (pa_cons (pv 0) (pa_cons (pe_ix ix_listD (pe_lst (pa_cons pe_int (pa_cons pe_int pa_nil))) (pv 1) (fun _ _ => rfl)) pa_nil))) (pe_op op_mul pe_int (pv 1))))) pss_nil)
      (pss_cons (ps_if (pt_cmpR op_eq (pv 1) pe_int (nomark _)) (pss_one (ps_ret (pe_ix ix_listD (pe_lst (pa_cons (pe_op op_pow pe_int pe_int) (pa_cons (pe_un un_neg pe_int) (pa_cons pe_int (pa_cons pe_int (pa_cons pe_int (pa_cons (pe_un un_neg pe_int) (pa_cons (pe_op op_mul (pe_op op_pow pe_int pe_int) pe_int) pa_nil)))))))) (pe_call G1 hr1 (by rfl) g1 kp1 b1 .nil pass0 (pa_cons (pv 0) (pa_cons pe_int pa_nil))) (fun _ _ => rfl)))) pss_nil)
      (pss_one (ps_ret (pe_bm PySem.F.plainAttrs_str PySem.F.slot_str_join PySem.F.type_str_join mt_join pe_str (pa_cons
        (pe_lc (own := [("k", 2)]) (g := gName 2) (tt := tYes) rfl scDr.nd (pi_range1 (by rfl) T.range (pa_cons (pe_call G1 hr1 (by rfl) g1 kp1 b1 .nil pass0 (pa_cons (pv 0) (pa_cons pe_int pa_nil))) pa_nil)) (blkOk_by (N := ["dice", "sort", "k"]) (sc := defScope sDrawn) (by decide +kernel))
          (fun _ _ _ _ _ => pg_name (i := 2) scDr.nd rfl (Or.inl rfl)) (fun _ _ _ _ _ => pts_nil)
          (fun _ _ _ _ _ => pe_ix ix_str (pe_glob (v := .str ltrs) (by rfl) hL ⟨_, rfl⟩) (pe_call G1 hr1 (by rfl) g1 kp1 b1 .nil pass0 (pa_cons (pv 0) (pa_cons (pe_callB call_len_str (by rfl) T.len (by decide +kernel) (pa_cons (pe_glob (v := .str ltrs) (by rfl) hL ⟨_, rfl⟩) pa_nil)) pa_nil))) (fun _ _ => rfl))) pa_nil)))))), ?_⟩
    refine ⟨_, rfl, roll_step hd (by decide) (by decide) fun sort H1 s0 s1 e1 i1 => ?_⟩
    refine ⟨_, rfl, _, _, rfl, rfl, _, rfl, ?_⟩
    have one : ([V.int 5, V.int 300] : List V).length ≤ sizeLine := by decide
    by_cases c1 : sort < 2
    · refine ifT (decide_eq_true c1) ?_
      refine ⟨_, rfl, by decide, fun l hl => ?_⟩
      have nl : l ≠ d := fun z => by
        obtain ⟨x, y, k, q⟩ := i1
        rw [z, q] at hl; cases hl
      have il := i1.ex (Ex.upd (o := .lst [.int 5, .int 300]) hl)
      have el : ExD d H (upd H1 l (.lst [.int 5, .int 300])) := e1.trans (ExD.of (Ex.upd hl))
      rcases (by omega : sort = 0 ∨ sort = 1) with rfl | rfl
      · refine ⟨_, rfl, l, _, _, _, rfl, rfl, upd_same, rfl, roll_step il (by decide) (by decide) fun r H2 r0 r1 e2 i2 => ?_⟩
        refine ⟨_, rfl, _, _, rfl, rfl, .inl ⟨by decide, by decide⟩, _, _, rfl, rfl, ?_⟩
        exact fin H2 (.inl (r - 2 * 0)) (el.trans e2) i2 ⟨by omega, by omega⟩
      · refine ⟨_, rfl, l, _, _, _, rfl, rfl, upd_same, rfl, roll_step il (by decide) (by decide) fun r H2 r0 r1 e2 i2 => ?_⟩
        refine ⟨_, rfl, _, _, rfl, rfl, .inl ⟨by decide, by decide⟩, _, _, rfl, rfl, ?_⟩
        exact fin H2 (.inl (r - 2 * 1)) (el.trans e2) i2 ⟨by omega, by omega⟩
    refine ifF (by simpa using c1) ⟨_, rfl, rfl, _, rfl, ?_⟩
    rw [eqI]
    by_cases c2 : sort = 2
    · refine ifT (decide_eq_true c2) ?_
      have hp : CPow 10 18 := by unfold CPow; decide
      have hp2 : CPow 2 62 := by unfold CPow; decide
      refine ⟨_, _, rfl, rfl, hp, _, rfl, _, rfl, _, _, rfl, rfl, hp2, _, _, rfl, rfl, .inr ⟨by decide, by decide⟩, by decide, fun l hl => ?_⟩
      have nl : l ≠ d := fun z => by
        obtain ⟨x, y, k, q⟩ := i1
        rw [z, q] at hl; cases hl
      refine ⟨_, rfl, roll_step (i1.ex (Ex.upd hl)) (by decide) (by decide) fun r H2 r0 r1 e2 i2 => ?_⟩
      have hl2 := e2 _ _ nl upd_same
      have el := (e1.trans (ExD.of (Ex.upd hl))).trans e2
      rcases (by omega : r = 0 ∨ r = 1 ∨ r = 2 ∨ r = 3 ∨ r = 4 ∨ r = 5 ∨ r = 6) with rfl | rfl | rfl | rfl | rfl | rfl | rfl
      all_goals exact ⟨l, _, _, _, rfl, rfl, hl2, rfl, fin H2 (.inl _) el i2 ⟨by decide +kernel, by decide +kernel⟩⟩
    refine ifF (by simpa using c2) ?_
    refine ⟨rfl, _, rfl, roll_step i1 (by decide) (by decide) fun n H2 n0 n1 e2 i2 => ⟨n, rfl, by omega, by omega, fun D hD => ?_⟩⟩
    have nD : D ≠ d := fun z => by
      obtain ⟨x, y, k, q⟩ := i2
      rw [z, q] at hD; cases hD
    refine lc_range (fun q H3 => ExD d H H3 ∧ IsDice H3 d ∧ ∃ cs : List Nat, cs.length = q ∧ (∀ c ∈ cs, c ∈ tabL) ∧ H3 D = some (.lst (cs.map gL))) ⟨(e1.trans e2).trans (ExD.of (Ex.upd hD)), i2.ex (Ex.upd hD), [], rfl, (fun c hc => by cases hc), upd_same⟩ (fun q H3 hq ⟨e3, i3, cs, lc, hcs, hD3⟩ => ?_) (fun H3 ⟨e3, i3, cs, lc, hcs, hD3⟩ => ?_)
    · refine ⟨rfl, _, rfl, ltrs, rfl, by rw [ltrs_size]; decide, roll_step i3 (by rw [ltrs_size]; decide) (by rw [ltrs_size]; decide) fun r H4 r0 r1 e4 i4 => ?_⟩
      rw [ltrs_size] at r1
      have hlt : r.toNat < tabL.length := by rw [tabL_len]; omega
      obtain ⟨c0, hc0⟩ : ∃ c0, tabL[r.toNat]? = some c0 := ⟨_, List.getElem?_eq_getElem hlt⟩
      have ha : atI ltrs.cps.toList ((r.toNat : Nat) : Int) = some c0 := atI_nat hc0
      rw [Int.toNat_of_nonneg r0] at ha
      have hD4 := e4 _ _ nD hD3
      have hz : sizeLine = 16777216 := rfl
      refine ⟨ltrs, r, c0, rfl, rfl, by rw [ltrs_size]; decide, ha, _, hD4, by rw [List.length_map]; omega, ?_, ?_, cs ++ [c0], by rw [List.length_append, lc]; rfl, fun c hc => ?_, ?_⟩
      · exact fun b o nb h => by
          rw [L2.upd_ne (fun z => ?_)]
          · exact e4 b o nb (e3 b o nb h)
          · have q := (e1.trans e2) b o nb h
            rw [z, hD] at q
            cases q
      · obtain ⟨x, y, k, q⟩ := i4
        exact ⟨x, y, k, by rw [L2.upd_ne nD.symm]; exact q⟩
      · rcases List.mem_append.mp hc with z | z
        · exact hcs c z
        · rw [List.mem_singleton.mp z]; exact List.mem_of_getElem? hc0
      · rw [upd_same, List.map_append]; rfl
    · refine ⟨"", D, cs.map fun c => (⟨#[c]⟩ : Str), rfl, rfl, .inl (SqL.of (by rw [hD3, List.map_map]; rfl)), ?_, ?_⟩
      · rw [sum_ones, List.length_map]
        show cs.length + cs.length * 0 ≤ _
        omega
      · rw [join_signs]
        refine fin H3 (.inr ⟨cs.toArray⟩) e3 i3 ⟨?_, by show cs.toArray.toList.length ≤ 5; simp; omega⟩
        unfold badT
        rw [Bool.eq_false_iff]
        intro z
        rw [List.any_eq_true] at z
        obtain ⟨c, hc, hn⟩ := z
        have hc : c ∈ cs := by simpa using hc
        simp [hcs c hc] at hn
end
end KO1
set_option Elab.async false
set_option linter.all false
set_option maxRecDepth 100000
set_option maxHeartbeats 2000000
namespace RC
open PySem PySem.Spec PyProof.Rows L2
def Back (X : Cx) (pins : List (Addr × Obj)) (σ : L2.St) (Y : Cx) : Prop := ∀ (pins' : List (Addr × Obj)) (σ' : L2.St) (H' : Hp) (s' : Shared), Inv Y pins' σ' H' s' → Inv X pins σ H' s'
section
variable {X : Cx}
theorem pe_lcB {elt tg iter : Expr} {ifs : List Expr} {scope : Scope} {own : List (Str × Nat)} {pos : Pos} {wi : TI} {g : TG} {tt : L2.St → TT} {te : TE} {E : XK} (hc : X.calm = true) (hN : X.N.Nodup) (hst : X.stack = X.env :: X.outer) (hf : X.env.frame = some X.env.locals) (tk : Takes X (fun cls d _ H => E cls d H)) (hi : PI X tg iter wi) (ok : BlkOk X.N X.env.scope scope own)
    (hg : ∀ (s : Shared) (H : Hp) (C : Addr) (cl : List (Str × Addr)) (fp : List Addr) (xe : Value → Shared → Prop), PassB X E (blkX X s H scope (compEnvC scope cl C X.env) fp xe) → PG (blkX X s H scope (compEnvC scope cl C X.env) fp xe) tg g)
    (ht : ∀ (pins : List (Addr × Obj)) (σ : L2.St) (s : Shared) (H : Hp) (C : Addr) (cl : List (Str × Addr)) (fp : List Addr) (xe : Value → Shared → Prop), Back X pins σ (blkX X s H scope (compEnvC scope cl C X.env) fp xe) → PassB X E (blkX X s H scope (compEnvC scope cl C X.env) fp xe) → PTs (blkX X s H scope (compEnvC scope cl C X.env) fp xe) ifs (tt σ))
    (he : ∀ (s : Shared) (H : Hp) (C : Addr) (cl : List (Str × Addr)) (fp : List Addr) (xe : Value → Shared → Prop), PassB X E (blkX X s H scope (compEnvC scope cl C X.env) fp xe) → PE (blkX X s H scope (compEnvC scope cl C X.env) fp xe) elt te) (hs : ∀ x, foldedSetIterable iter X.env x = pure x := by intro _; rfl) :
    PE X (.ListComp elt [⟨tg, iter, ifs, 0⟩] scope pos) (fun σ H Q => tLc wi g (tt σ) te (own.map (·.2)) σ H Q) := by
  refine ⟨fun pins s σ H Q I h => ?_⟩
  rw [eval_ListComp]
  have hfree : ∀ y ∈ scope.names, y.2 = .free → ∃ c, X.env.cells.lookup y.1 = some c := fun y hy e => (ok.free y hy e).elim (fun k => I.ok.has _ (.inl k)) fun k => I.ok.has _ (.inr k)
  refine comprehension_at (use := none) rfl hs (closure_ok hfree) ok.kind (fun y hy e => by rw [ok.uniq y hy, e]) (thn (hi.run pins s σ H _ I h) fun xv s1 hx => thn hx fun itv s2 ⟨it, fp, tn, J, H2, e, I2, T, st2, f2, q⟩ => ?_)
  subst e
  refine wpAny_newObj_type (newEnv_comp ?_) (by show 0 ≤ sizeLine; decide)
  generalize hD : s2.heap.objs.size = D
  obtain ⟨W, ⟨m0, w0⟩, turn⟩ := q D (I2.hok.fresh (Nat.le_of_eq hD))
  generalize hs3 : ({ s2 with heap := s2.heap.push { cls := .type "list", data := .seq ([] : List Value).toArray } } : Shared) = s3
  have I3 : Inv X pins σ (upd H2 D (.lst [])) s3 := by
    rw [← hs3]
    refine I2.laid (t' := s2.toks) (fun b o e => Heap.get?_push_of_some _ e) (Nat.le_of_eq hD) ⟨Nat.zero_le _, [], 0, .nil, ?_⟩
    rw [← hD]
    exact Heap.get?_push_size _ rfl
  have h3 : s3.heap = s2.heap.push { cls := .type "list", data := .seq ([] : List Value).toArray } := by rw [← hs3]
  have f3 : ∀ b ∈ fp, FpOk X pins (upd H2 D (.lst [])) b ∧ b < s3.heap.objs.size := fun b hb => by
    obtain ⟨o, e, _⟩ := T.obj _ _ st2 b hb
    have hlt := Heap.lt_size e
    refine ⟨⟨?_, (f2 b hb).2⟩, by rw [h3, Heap.size_push]; exact Nat.lt_succ_of_lt hlt⟩
    rw [upd_ne (by rw [← hD]; exact Nat.ne_of_lt hlt)]
    exact (f2 b hb).1
  have st3 : tn 0 s3.heap := T.keep _ _ _ st2 fun b _ o e => by rw [h3]; exact Heap.get?_push_of_some _ e
  have I4 := block_start I3 ok hN f3
  have pg := fun xe => hg s3 (upd H2 D (.lst [])) s3.heap.objs.size (cellsFrom (s3.heap.objs.size + 1) scope.names (cloFrom X.env.cells scope.names [])) fp xe
  have pt := fun xe => ht pins σ s3 (upd H2 D (.lst [])) s3.heap.objs.size (cellsFrom (s3.heap.objs.size + 1) scope.names (cloFrom X.env.cells scope.names [])) fp xe
  have pe := fun xe => he s3 (upd H2 D (.lst [])) s3.heap.objs.size (cellsFrom (s3.heap.objs.size + 1) scope.names (cloFrom X.env.cells scope.names [])) fp xe
  show codeAny _ _ (.compStart (.ListComp elt [⟨tg, iter, ifs, 0⟩] scope pos) 0 (.ref it) (.ref D) (compEnvC scope (cellsFrom (s3.heap.objs.size + 1) scope.names (cloFrom X.env.cells scope.names [])) s3.heap.objs.size X.env)) (compEnds (model X.prog X.w) X.A X.xe none (fun v s' => EP X pins σ Q v s') (.ref D) (compEnvC scope (cellsFrom (s3.heap.objs.size + 1) scope.names (cloFrom X.env.cells scope.names [])) s3.heap.objs.size X.env)) { s3 with heap := pushCells (s3.heap.push { cls := .type "dict", data := .dict #[] }) scope.names }
  have nfp : ∀ b ∈ fp, (upd H2 D (.lst [])) b = none := fun b hb => (f3 b hb).1.1
  generalize hce : compEnvC scope (cellsFrom (s3.heap.objs.size + 1) scope.names (cloFrom X.env.cells scope.names [])) s3.heap.objs.size X.env = ce at I4 pg pt pe ⊢
  have cL : ce.locals = s3.heap.objs.size := by subst hce; rfl
  have cF : ce.frame = X.env.frame := by subst hce; rfl
  generalize hH3 : upd H2 D (.lst []) = H3 at I3 I4 pg pt pe w0 nfp f3
  generalize hs4 : ({ s3 with heap := pushCells (s3.heap.push { cls := .type "dict", data := .dict #[] }) scope.names } : Shared) = s4 at I4 ⊢
  have st4 : tn 0 s4.heap := T.keep _ _ _ st3 fun b _ o e => by rw [← hs4]; exact pushCells_keeps _ _ _ _ (Heap.get?_push_of_some _ e)
  generalize hxe : notedBy (model X.prog X.w) X.A ce (fun e s' => CompFails (model X.prog X.w) X.A X.xe ce e s') = xe
  have back : ∀ {pins' : List (Addr × Obj)} {σ' : L2.St} {H' : Hp} {s' : Shared}, Inv (blkX X s3 H3 scope ce fp xe) pins' σ' H' s' → Inv X pins σ H' s' := fun {pins' σ' H' s'} I' => I3.call' (ch := fp) I'.os I'.base I'.hok I'.bare fun b hb => ⟨(f3 b hb).1.2.2.2.1, (f3 b hb).1.2.1, (f3 b hb).1.2.2.2.2.1, (f3 b hb).1.2.2.2.2.2⟩
  have bk : Back X pins σ (blkX X s3 H3 scope ce fp xe) := fun _ _ _ _ I' => back I'
  have freeC : ∀ {pins' : List (Addr × Obj)} {σ' : L2.St} {H' : Hp} {s' : Shared}, Inv (blkX X s3 H3 scope ce fp xe) pins' σ' H' s' → H' ce.locals = none := fun I' => I'.free
  have pass : PassB X E (blkX X s3 H3 scope ce fp xe) := fun pins' σ' H' s5 u s' I' c => by
    have nC := freeC I'
    have I7 := back I'
    have nC' : H' s3.heap.objs.size = none := by rw [← cL]; exact nC
    obtain ⟨f0, f1, f2', f3', f4', f5'⟩ := I3.fpOk (Nat.le_refl _) nC'
    have fC : ce.locals ∉ frs X.stack := by
      rw [cL, hst]
      intro z
      obtain ⟨en, hen, hz⟩ := List.mem_filterMap.mp z
      rcases List.mem_cons.mp hen with rfl | hen
      · rw [hf] at hz
        exact f1 (Option.some.inj hz).symm
      · exact f2' (List.mem_filterMap.mpr ⟨en, hen, hz⟩)
    obtain ⟨mm, hn, _⟩ := I'.loc
    have hn : s5.heap.Ns ce.locals mm := hn
    obtain ⟨oC, es, ep, hoC, rest⟩ := id hn
    obtain ⟨hO, r1, r2⟩ := restrict s5.heap fun b => decide (b ≠ ce.locals)
    have kO : ∀ b o, hO.get? b = some o → s5.heap.get? b = some o := fun b o e => by
      by_cases z : b = ce.locals
      · rw [r2 b (by simp [z])] at e; cases e
      · rw [r1 b (by simp [z])] at e; exact e
    have IO : Inv X pins σ H' { s5 with heap := hO, toks := s5.toks } := by
      refine I7.turned (it := s3.heap.objs.size) (t' := s5.toks) (fun b o hb e => ?_) f0 f1 f3' f4' f5'
      rw [r1 b (by rw [cL]; simp [hb])]
      exact e
    have fly : FlyC X (fun cls d _ H => E cls d H) ce.locals u s' := fly_of (s := s5) (sO := { s5 with heap := hO, toks := s5.toks }) (oC := oC) IO (r2 _ (by simp)) kO rfl hoC nC fC (fun _ _ _ z => z) c
    have hn' : s'.heap.Ns ce.locals mm := ns_keeps hn fun o ho => by
      obtain ⟨a, B, H6, cls, d, _, fl, _, ub, _⟩ := c
      exact fl.1 _ _ (ub.keep _ _ ho nC fC)
    rw [← hxe]
    exact noted hst hf cF tk fly hn'
  have stat : ∀ {σ' : L2.St} {H' : Hp} {s' : Shared}, Inv (blkX X s3 H3 scope ce fp xe) [] σ' H' s' → (∀ b ∈ fp, H' b = none) → ∀ b ∈ fp, FpOk (blkX X s3 H3 scope ce fp xe) [] H' b := fun {σ' H' s'} I' hn b hb =>
    ⟨hn b hb, (I'.ok.exf b hb).1, I'.ok.exfs b hb, .inl hb, fun x c e => (I'.ok.exf b hb).2 x c e, fun p hp => absurd (show p ∈ ([] : List (Addr × Obj)) ++ [] from hp) (by simp)⟩
  have loop : codeAny (model X.prog X.w) X.A (.compLoop (.ListComp elt [⟨tg, iter, ifs, 0⟩] scope pos) 0 (.ref it) (.ref D) ce) (compEnds (model X.prog X.w) X.A X.xe none (fun v s' => EP X pins σ Q v s') (.ref D) ce) s4 := by
    refine compLoop_any (fun n s' => ∃ i H', Inv (blkX X s3 H3 scope ce fp xe) [] (wipe σ (own.map (·.2))) H' s' ∧ tn i s'.heap ∧ (∀ b ∈ fp, H' b = none) ∧ W i n H') ?_ m0 ⟨0, H3, inv_blkX I4, st4, nfp, w0⟩
    rintro n s5 ⟨i, H5, I5, st5, n5, w5⟩
    have err : ∀ {α : Type} {t : Sem α} {R R' : α → Shared → Prop} {sx : Shared}, wpAny (model X.prog X.w) X.A t R xe sx → (∀ a s', R a s' → R' a s') → wpAny (model X.prog X.w) X.A t R' (notedBy (model X.prog X.w) X.A ce fun e s' => compEnds (model X.prog X.w) X.A X.xe none (fun v s' => EP X pins σ Q v s') (.ref D) ce (.error e) s') sx := fun hw hR => by
      refine wpAny_mono hw hR fun e s' he => ?_
      rw [← hxe] at he
      exact he
    rcases turn i n H5 w5 with ⟨stop, qq⟩ | ⟨go, Nx, hNx, step⟩
    · refine thnF (T.done (blkX X s3 H3 scope ce fp xe) rfl rfl rfl hc i [] s5 _ H5 (fun _ _ => False) I5 (stat I5 n5) st5 stop) fun r s6 ⟨hr, I6⟩ => ?_
      subst hr
      have nC : H5 s3.heap.objs.size = none := by rw [← cL]; exact freeC I6
      obtain ⟨m, hn, _⟩ := I6.loc
      have hn : s6.heap.Ns ce.locals m := hn
      refine ⟨m, hn, fun h'' sb => ?_⟩
      obtain ⟨f0, f1, f2, f3, f4, f5⟩ := I3.fpOk (Nat.le_refl _) nC
      exact ⟨.ref D, H5, (back I6).turned (t' := s6.toks) (fun b o hb e => (sb.2 b (by rw [cL]; exact hb)).trans e) f0 f1 f3 f4 f5, rfl, qq⟩
    · refine thnF (T.item (blkX X s3 H3 scope ce fp xe) rfl rfl rfl hc i [] s5 _ H5 (fun _ _ => False) I5 (stat I5 n5) st5 go) fun r s6 ⟨u, hr, h6⟩ => ?_
      subst hr
      refine thnF h6 fun _ s7 ⟨x, H7, I7, r7, y7, st7, n7⟩ => ?_
      have I7' := I7.pinned (stat I7 n7) (T.obj _ _ st7)
      refine err ((pg xe pass).run _ s7 _ H7 x u _ I7' r7 (step x H7 y7)) fun _ s8 ⟨σ8, H8, I8, hw8, q8⟩ => ?_
      refine err ((pt xe bk pass).run _ s8 σ8 H8 _ I8 q8) fun b s9 ⟨H9, I9, q9⟩ => ?_
      have fin : ∀ {s' : Shared} {H' : Hp}, Inv (blkX X s3 H3 scope ce fp xe) ([] ++ pinsAt fp s7.heap) σ8 H' s' → Nx H' → ∃ m, m < n ∧ ∃ i H', Inv (blkX X s3 H3 scope ce fp xe) [] (wipe σ (own.map (·.2))) H' s' ∧ tn i s'.heap ∧ (∀ b ∈ fp, H' b = none) ∧ W i m H' := fun {s' H'} I' nx => by
        obtain ⟨m', hm, w'⟩ := hNx H' nx
        have pin' : ∀ b ∈ fp, ∀ o, s7.heap.get? b = some o → s'.heap.get? b = some o ∧ H' b = none := fun b hb o e =>
          let z := I'.pin (b, o) (List.mem_append_right _ (List.mem_append_right _ (mem_pinsAt hb e)))
          ⟨z.1, z.2.1⟩
        refine ⟨m', hm, i + 1, H', (I'.unpinned (pins := [])).weak (by rw [← hw8, wipe_length]) (fun j v e => (wipe_some (by rw [hw8]; exact e)).1), T.keep _ _ _ st7 fun b hb o e => (pin' b hb o e).1, fun b hb => ?_, w'⟩
        obtain ⟨o, e, _⟩ := T.obj _ _ st7 b hb
        exact (pin' b hb o e).2
      cases b with
      | false =>
        simp only [Bool.false_eq_true, if_false] at q9 ⊢
        exact fin I9 q9
      | true =>
        simp only [if_true] at q9 ⊢
        refine err ((pe xe pass).run _ s9 σ8 H9 _ I9 q9) fun z s10 ⟨yv, H10, I10, r10, acc, hD10, hz10, nx⟩ => ?_
        exact app_ok (X := blkX X s3 H3 scope ce fp xe) I10 hD10 hz10 r10 fun s11 I11 => fin I11 nx
  exact codeAny_compStart_list loop (T.self X.A 0 _ _ _ st4 loop)
end
end RC
set_option Elab.async false
set_option linter.all false
set_option maxRecDepth 100000
set_option maxHeartbeats 2000000
namespace CL
open PySem PySem.Spec PyProof.Rows L2 KB KC KD LamX CP RC
def Held (X : Cx) (params : Arguments) (body : Expr) (scope : Scope) (f c' : Addr) (H : Hp) : Prop :=
  H f = some (CloO f (X.env.qual ++ "<lambda>") params body scope (cloFrom X.env.cells scope.names []) c') ∧ H c' = some (CodeO c' (X.env.qual ++ "<lambda>"))
def GivesH (X : Cx) (Ng : List Str) (x : Str) (sg : Scope) (g : Addr) (cdg : Value) (bg : List Stmt) (a : Str) (TT : (XK → Hp → VK → Prop) → Hp → VK → Prop) : Prop :=
  ∀ (f : Addr) (Hd : Hp → Prop) (s : Shared) (H : Hp) (Q : VK) (tl : XK → Hp → VK → Prop),
    (∀ (W : WX) (pn : List (Addr × Obj)) (xe : Value → Shared → Prop) (E : XK) (p1 p2 : Pos), Takes ((cxOf C8.CX0 X.prog X.w X.K X.mg X.base Ng x sg g cdg X.A X.stack s H C8.E0).tr pn xe) W → (∀ cls d σ' H', E cls d H' → W cls d σ' H') →
      PE ((cxOf C8.CX0 X.prog X.w X.K X.mg X.base Ng x sg g cdg X.A X.stack s H C8.E0).tr pn xe) (.Call (.Name a p1) [] [] p2) (fun σZ HZ Q => σZ[0]? = some (some (.ref f)) ∧ Hd HZ ∧ tl E HZ Q)) →
    Hd H → TT tl H Q →
    ∃ t, PSs (cxOf C8.CX0 X.prog X.w X.K X.mg X.base Ng x sg g cdg X.A X.stack s H C8.E0).nox bg t ∧ t { nx := fun _ H' => Q .non H', rt := Q } (L2.start Ng [.ref f]) H
section
variable {X : Cx} {pins : List (Addr × Obj)} {σ : L2.St} {H : Hp} {s : Shared}
theorem pe_actH {CXg : CXT} {Eg : XK} {Ng : List Str} {qg : Str} {sg : Scope} {g f c' : Addr} {cdg : Value} {params : Arguments} {body : Expr} {scope : Scope} {k i : Nat} {a : Str} {pn : List (Addr × Obj)} {xe : Value → Shared → Prop} {W : WX} {E : XK} {tb : TE} {p1 p2 : Pos}
    (I : Inv X pins σ H s) (L : LamS X.env.scope scope)
    (hbind : ∀ pm ctv : Value, bindArgs (PySem.W.kla_fn "<lambda>" (X.env.qual ++ "<lambda>") params body scope (cloFrom X.env.cells scope.names []) pm (.ref c') ctv) ⟨[], []⟩ = pure [])
    (tk : Takes ((cxOf CXg X.prog X.w X.K X.mg X.base Ng qg sg g cdg X.A X.stack s H Eg).tr pn xe) W) (hW : ∀ cls d σ' H', E cls d H' → W cls d σ' H') (hr : Room (k + 1) (X.A.deeper (envOfC qg sg s.heap.objs.size g cdg)))
    (hbody : ∀ (A : Around) (outer : List Env) (s : Shared) (H : Hp), Room k (A.deeper (lamEnv X scope s.heap.objs.size f c')) → PE (lamCx X A outer s H E scope f c') body tb)
    (hN : Ng[i]? = some a) (hv : Vis sg a) (hd : (a == ("__debug__" : Str)) = false := by decide) (hcd : (a == ("__classdict__" : Str)) = false := by decide) :
    PE ((cxOf CXg X.prog X.w X.K X.mg X.base Ng qg sg g cdg X.A X.stack s H Eg).tr pn xe) (.Call (.Name a p1) [] [] p2)
      (fun σZ HZ Q => σZ[i]? = some (some (.ref f)) ∧ Held X params body scope f c' HZ ∧ tb σ HZ Q) := by
  refine ⟨fun pinsZ sZ σZ HZ Q IZ h => ?_⟩
  obtain ⟨hs, ⟨hf, hc⟩, ht⟩ := h
  have nm := (pe_var (pos := p1) (i := i) hN hv hd hcd).run pinsZ sZ σZ HZ (fun v H1 => v = .ref f ∧ H1 = HZ) IZ ⟨.ref f, hs, rfl, rfl⟩
  refine wpAny_Call_Name_kw (thn nm fun u s1 hu => ?_)
  obtain ⟨v, H1, I1, r1, ev, eH⟩ := hu
  subst ev
  rw [eH] at I1
  have eu : u = Value.ref f := r1
  subst eu
  obtain ⟨⟨pm, ctv, of1⟩, _, _⟩ := I1.hok f _ hf
  obtain ⟨⟨oc, vsc, tc, hoc, hdc, hvc⟩, _, _⟩ := I1.hok c' _ hc
  refine PySem.W.callWith_F0 ⟨_, _, _, _, of1⟩ ?_
  have un : Un (frs X.stack) [] H HZ s.heap s1.heap := I1.base
  have run : codeAny (model X.prog X.w) (X.A.deeper (envOfC qg sg s.heap.objs.size g cdg)) (.call (.ref f) ⟨[], []⟩) (CR (L2.CX X.prog X.w) (envOfC qg sg s.heap.objs.size g cdg :: X.stack) X.prog X.w HZ s1 Q E) s1 := by
    refine PySem.W.kla_callFunE hr.depth of1 rfl L.co L.gen rfl ⟨c', oc, vsc, tc, rfl, hoc, hdc, hvc⟩ ?_
    rw [hbind pm ctv]
    refine wpAny_pure (wpAny_newFunctionEnv (fun y hy => (L.own y hy).2) (fun y hy => absurd hy (by simp)) (fun h₁ hns hsb => ⟨I1.nolimit.fresh _ hsb, ?_⟩) L.kind)
    have kp : ∀ b o, s1.heap.get? b = some o → h₁.get? b = some o := fun b o e => hsb.extBut b o (Nat.ne_of_lt (Heap.lt_size e)) (Heap.get?_push_of_some _ e)
    have J := lam_start2 (E := E) (f := f) (c' := c') (tk := s1.toks + ([] : List (Str × Value)).length) I L I1.env0 hr.hd un hns kp
    exact PySem.W.kla_codeExpr (wpAny_mono ((hbody _ _ s1 HZ (hr.deeper _)).run [] _ _ HZ Q J ht) (fun v s' ⟨w', H', J', rv, q⟩ => ⟨w', H', J'.os, J'.bare, J'.base, J'.hok, rv, q⟩) fun e s' hq => hq)
  have hx : Passes (L2.CX X.prog X.w) ((cxOf CXg X.prog X.w X.K X.mg X.base Ng qg sg g cdg X.A X.stack s H Eg).tr pn xe) E := passes_call tk hW
  refine wpAny_call (codeAny_mono run fun r s' hq => ?_)
  match r, hq with
  | .error e, hq => exact hx pinsZ σZ HZ s1 e s' I1 hq
  | .ok (.ret u), hq => exact I1.after hq
  | .ok .next, hq => exact False.elim hq
  | .ok .brk, hq => exact False.elim hq
  | .ok .cont, hq => exact False.elim hq
def CloAt (X : Cx) (k : Nat) (σ : L2.St) (f : Addr) (H : Hp) (R : (XK → Hp → VK → Prop) → Prop) : Prop :=
  ∃ (c' : Addr) (params : Arguments) (body : Expr) (scope : Scope) (t : XK → TE), Held X params body scope f c' H ∧ LamS X.env.scope scope ∧
    (∀ (q : Str) (cl : List (Str × Addr)) (pm cv ctv : Value), bindArgs (PySem.W.kla_fn "<lambda>" q params body scope cl pm cv ctv) ⟨[], []⟩ = pure []) ∧
    (∀ (A : Around) (outer : List Env) (s : Shared) (H : Hp) (E : XK), Room k (A.deeper (lamEnv X scope s.heap.objs.size f c')) → PE (lamCx X A outer s H E scope f c') body (t E)) ∧ R (fun E H' Q' => t E σ H' Q')
end
section
variable {X : Cx} {pins : List (Addr × Obj)} {σ : L2.St} {s0 : Shared} {H0 : Hp} {sc : Scope} {ce : Env} {fp : List Addr} {xe0 : Value → Shared → Prop}
theorem pe_clocall {TT : (XK → Hp → VK → Prop) → Hp → VK → Prop} {x a : Str} {g : Addr} {k : Nat} {pg : Arguments} {bg : List Stmt} {sg : Scope} {dV kV doc pm cdv ct oc : Value} {an od : Option Addr} {osl : Array (Option Value)} {Ng : List Str} {ea : Expr} {p pos : Pos}
    (bk : Back X pins σ (blkX X s0 H0 sc ce fp xe0)) (hg : Gl (blkX X s0 H0 sc ce fp xe0) x) (hm : X.mg x = some (.ref g)) (hk : PySem.W.keepIn X.K (.ref g) = true)
    (lk : X.K.lookup g = some ⟨oc, od, .func (PySem.W.fnOf x x pg bg sg dV kV doc pm an cdv ct), osl⟩) (hcg : PySem.W.codeIn X.K cdv x = true) (hb : L2.Binds X.K (PySem.W.fnOf x x pg bg sg dV kV doc pm an cdv ct) [a] []) (Sg : FnScope Ng [a] sg) (hNg : Ng[0]? = some a) (hva : Vis sg a)
    (hG : GivesH X Ng x sg g cdv bg a TT) (hr : Room (k + 2) X.A) {ta : TA} (ha : PA (blkX X s0 H0 sc ce fp xe0) [ea] ta)
    (hdb : (x == ("__debug__" : Str)) = false := by decide) (hd : (a == ("__debug__" : Str)) = false := by decide) (hcd : (a == ("__classdict__" : Str)) = false := by decide)
    (he : starEach [ea] (blkX X s0 H0 sc ce fp xe0).env = (false, eval ea (blkX X s0 H0 sc ce fp xe0).env) :: starEach [] (blkX X s0 H0 sc ce fp xe0).env := by rfl) (hpl : (backTo pos (starEach [] (blkX X s0 H0 sc ce fp xe0).env)).any (·.1) = false := by rfl) :
    PE (blkX X s0 H0 sc ce fp xe0) (.Call (.Name x p) [ea] [] pos) (fun σ' H Q => ta σ' H fun vs H1 => ∃ f, vs = [.ref f] ∧ CloAt X k σ f H1 fun tl => TT tl H1 Q) := by
  refine ⟨fun pins' s σ' H Q I h => ?_⟩
  refine wpAny_Call_Name_kw (ld_glob I hg hm ?_ hdb)
  refine PySem.W.callWith_K (h₀ := X.base) I.ok.mod.kin hk (thn (ha.run pos pins' s σ' H _ I h) fun us s1 ⟨vs, H1, I1, r, f, ev, ca⟩ => ⟨I1.kIn, ?_⟩) he hpl
  subst ev
  obtain rfl : us = [.ref f] := by
    cases r with
    | cons r1 rs =>
      cases rs
      have z : _ = Value.ref f := r1
      rw [z]
  obtain ⟨c', params, body, scope, t, hd', L, hb', hbody, q⟩ := ca
  have IX : Inv X pins σ H1 s1 := bk _ _ _ _ I1
  have run : codeAny (model X.prog X.w) X.A (.call (.ref g) ⟨[.ref f], []⟩) (CR C8.CX0 X.stack X.prog X.w H1 s1 Q C8.E0) s1 := by
    refine run_ofS (N := Ng) (ps := [a]) (us := [.ref f]) (vs := [.ref f]) lk hcg Sg hr IX.env0 (hb s1 [.ref f] IX.kIn rfl) (.cons rfl .nil) rfl fun hr' => ?_
    obtain ⟨t', ht', hq'⟩ := hG f (Held X params body scope f c') s1 H1 Q _ (fun W pn xe E p1 p2 tk hW => pe_actH (i := 0) (tb := t E) IX L (fun _ _ => hb' _ _ _ _ _) tk hW hr' (fun A outer s H hr2 => hbody A outer s H E hr2) hNg hva hd hcd) hd' q
    exact ⟨t', ht'.nox, hq'⟩
  refine wpAny_call (codeAny_mono run fun r s2 hq => ?_)
  match r, hq with
  | .error e, hq => exact (show False from hq).elim
  | .ok (.ret u), hq => exact I1.after hq
  | .ok .next, hq => exact False.elim hq
  | .ok .brk, hq => exact False.elim hq
  | .ok .cont, hq => exact False.elim hq
theorem told_givesH {X : Cx} {Ng : List Str} {x a e ret : Str} {sg : Scope} {g CS : Addr} {cdg : Value} {j : Nat} {p1 p2 p3 p4 p5 p6 p7 p8 : Pos} (hge : sg.names.lookup e = some .globalImplicit) (hme : X.mg e = some (.ref CS)) (hde : (e == ("__debug__" : Str)) = false) (h0 : ∀ f : Addr, (L2.start Ng [V.ref f])[0]? = some (some (V.ref f))) :
    GivesH X Ng x sg g cdg [.Try [.Return (some (.Call (.Name a p1) [] [] p2)) p3] [.ExceptHandler (some (.Name e p4)) none [.Return (some (.Constant (.str ret) j p5)) p6] p7] [] [] p8] a (TTold X.K CS ret) := by
  intro f Hd s H Q tl act hd h
  have hgl : Gl (cxOf C8.CX0 X.prog X.w X.K X.mg X.base Ng x sg g cdg X.A X.stack s H C8.E0).nox e := hge
  refine ⟨_, pss_one (ps_try_only (X := (cxOf C8.CX0 X.prog X.w X.K X.mg X.base Ng x sg g cdg X.A X.stack s H C8.E0).nox) (c := .ref CS) (tb := fun W D σ H => ∃ E' : XK, (∀ cls d σ' H', E' cls d H' → W cls d σ' H') ∧ σ[0]? = some (some (.ref f)) ∧ Hd H ∧ tl E' H D.rt)
      rfl rfl ⟨hgl, hde, .inl hme⟩ L2.takes0 (fun W pn xe tk _ => ⟨fun pins s' σ H' D I ⟨E', hW, w1, w2, w3⟩ => (pss_one (ps_ret (pos := p3) (act W pn xe E' p1 p2 tk hW))).run pins s' σ H' D I ⟨w1, w2, w3⟩⟩) (fun _ _ _ _ _ _ _ => pss_one (ps_ret pe_str))), ?_⟩
  exact ⟨_, fun cls d σ' H' ⟨b, e1, e2, e3⟩ => ⟨b, e1, fun hb _ _ => e2 hb, fun hb => e3 hb⟩, h0 f, hd, h⟩
end
end CL
set_option Elab.async false
set_option linter.all false
set_option maxRecDepth 100000
set_option maxHeartbeats 4000000
namespace KO1
open PySem PySem.Spec PyProof.Rows L2 KB KC KS KN1 LamX K7
abbrev qL : Str := "law.<locals>.<lambda>"
abbrev TT (Ps Pi Pl : Addr) : List (Addr × Str) := [(Ps, qK), (Pi, qSh), (Pl, qL)]
structure Apt (Ps Pi Pl : Addr) : Prop where
  si : Ps ≠ Pi
  sl : Ps ≠ Pl
  il : Pi ≠ Pl
def Cal (P : Program) (w : World) (K : PySem.W.Frag) (mg : Str → Option Value) (base : Heap) (CX : CXT) (k : Nat) (x : Str) (ps : List Str) (sp : Sp) : Prop :=
  ∃ f fd, FnOk P w K mg base CX k f fd ps sp ∧ mg x = some (.ref f) ∧ PySem.W.keepIn K (.ref f) = true ∧ Binds K fd ps []
def CalM (P : Program) (w : World) (K : PySem.W.Frag) (mg : Str → Option Value) (base : Heap) (C : Addr) (CX : CXT) (k : Nat) (m : Str) (ps : List Str) (sp : Sp) : Prop :=
  ∃ f fd, FnOk P w K mg base CX k f fd ps sp ∧ Meth K C m f ∧ Binds K fd ps []
def CalI (P : Program) (w : World) (K : PySem.W.Frag) (mg : Str → Option Value) (base : Heap) (C : Addr) (CX : CXT) (k : Nat) (ps : List Str) (sp : Sp) : Prop :=
  ∃ f fd, FnOk P w K mg base CX k f fd ps sp ∧ Mk K C f ∧ Binds K fd ps []
structure LawE (P : Program) (w : World) (K : PySem.W.Frag) (mg : Str → Option Value) (base : Heap) (CB CS CR Ps Pi Pl cL fTo : Addr) (fdTo : FuncData) : Prop where
  T : TxtL mg
  TK : TxtK mg
  J : TxtX K mg CR
  B : TxtB K mg CB
  S : TxtS K mg CS
  TBl : LamX.TabB base mg cL Pl
  ap : Apt Ps Pi Pl
  en : mg "enumerate" = none
  rounds : Cal P w K mg base CX0 2 "_law_rounds" ["script", "most"] (spRounds K)
  roll : ∃ k, k ≤ 7 ∧ Cal P w K mg base CX0 k "_law_roll" ["dice", "many"] spRoll
  drawn : Cal P w K mg base CX0 8 "_law_drawn" ["dice"] spDrawn
  lnat : Cal P w K mg base CX0 1 "_law_natural" ["number"] spNat
  lbytes : Cal P w K mg base CX0 2 "_law_bytes" ["row"] (spLBytes K)
  nat : Cal P w K mg base CX0 1 "natural_bytes" ["number"] spNat
  kind : Cal P w K mg base (L2.CX P w) 1 "kind_of" ["value"] (spKind CR Ps)
  row : Cal P w K mg base (L2.CX P w) 3 "row_bytes" ["row"] (spRow CR Ps)
  hash : Cal P w K mg base (L2.CX P w) 4 "hash_of" ["row"] (spHash Ps)
  read : Cal P w K mg base (L2.CX P w) 7 "read_row" ["data"] (spRead CR)
  binit : CalI P w K mg base CB CX0 1 ["self", "data"] (spBInit CB)
  byte : CalM P w K mg base CB (L2.CX P w) 1 "byte" ["self"] (spP CB CR pB RI)
  rrow : CalM P w K mg base CB (L2.CX P w) 6 "row" ["self"] (spRd CB CR)
  sinit : CalI P w K mg base CS (L2.CX P w) 1 ["self", "columns"] (spSInit CS CR Pi)
  place : CalM P w K mg base CS (L2.CX P w) 1 "place_of" ["self", "name"] (spPlace CS CR)
  kinds : CalM P w K mg base CS CX0 1 "kinds" ["self"] (spKinds CS)
  check : CalM P w K mg base CS (L2.CX P w) 2 "check_row" ["self", "row"] (spCheck CS CR Ps)
  told : FnP K "_law_told" "_law_told" sTold [] fTo fdTo
  gTold : mg "_law_told" = some (.ref fTo)
abbrev nLaw : List Str := ["script", "dice", "turn", "row", "data", "number", "byte", "place", "read", "kinds", "bad", "bent", "other", "reader", "shape", "two", "k", "one", "value", "kind", "f"]
theorem scLaw : FnScope nLaw ["script"] (defScope sLaw) := ⟨rfl, rfl, rfl, by decide +kernel, rfl, by decide +kernel, by decide +kernel⟩
abbrev pS : Stmt := .Pass ⟨0, 0, 0, 0⟩
def forBody : Stmt → List Stmt
  | .For _ _ b _ _ => b
  | _ => []
abbrev law0 : List Stmt := forBody ((defBody sLaw).getD 0 pS)
abbrev mBody : List Stmt := forBody (law0.getD 0 pS)
abbrev mS (i : Nat) : Stmt := mBody.getD i pS
theorem mLen : mBody.length = 15 := rfl
theorem lLen : (defBody sLaw).length = 9 := rfl
abbrev xLaw (P : Program) (w : World) (K : PySem.W.Frag) (mg : Str → Option Value) (base : Heap) (fL cL : Addr) (A : Around) (outer : List PySem.Env) (s : Shared) (H0 : Hp) (E0' : XK) : Cx := (cxOf CX0 P w K mg base nLaw "law" (defScope sLaw) fL (.ref cL) A outer s H0 E0').nox
theorem tabS_keep {H H' : Hp} {P : Addr} {q : Str} (t : TabS H P q) (h : ∀ b o, H b = some o → (∀ c d ns, o ≠ .ins c d ns) → (∀ xs, o ≠ .lst xs) → (b = P ∨ ∀ ps, o ≠ .tbl ps) → H' b = some o) : TabS H' P q := by
  obtain ⟨ps, hP, ht, ha⟩ := t
  refine ⟨ps, h _ _ hP (fun _ _ _ z => nomatch z) (fun _ z => nomatch z) (.inl rfl), ht, fun pos cv hcv => ?_⟩
  obtain ⟨c0, e, hc0⟩ := ha pos cv hcv
  refine ⟨c0, e, h _ _ hc0 (fun _ _ _ z => ?_) (fun _ z => ?_) (.inr codeO_ne)⟩
  all_goals
    unfold CodeO at z
    cases z
structure St (Ps Pi Pl d p : Addr) (H : Hp) : Prop where
  ts : TabS H Ps qK
  ti : TabS H Pi qSh
  tl : TabS H Pl qL
  dice : IsDice H d
  hp : H p = some (.lst [.ref d])
def Kp (d : Addr) (H H' : Hp) : Prop := ∀ b o, b ≠ d → H b = some o → (∀ ps, o ≠ .tbl ps) → H' b = some o
theorem Kp.trans {d : Addr} {H H1 H2 : Hp} (a : Kp d H H1) (b : Kp d H1 H2) : Kp d H H2 := fun x o n h t => b x o n (a x o n h t) t
theorem Kp.of {d : Addr} {H H' : Hp} (e : KS.Ex H H') : Kp d H H' := fun b o _ h _ => e b o h
theorem Kp.refl (d : Addr) (H : Hp) : Kp d H H := Kp.of (Ex.refl H)
theorem Kp.exD {d : Addr} {H H' : Hp} (e : ExD d H H') : Kp d H H' := fun b o n h _ => e b o n h
theorem Kp.tb {d Ps : Addr} {H H' : Hp} (t : TabS H Ps qK) (e : Tb Ps H H') : Kp d H H' := fun b o _ h n => e.keep t h n
theorem Kp.exN {d : Addr} {H H' : Hp} (e : ExtN H H') : Kp d H H' := fun b o _ h n => e b o h n
section
variable {Ps Pi Pl d p : Addr} {H H' : Hp}
theorem St.tabs (s : St Ps Pi Pl d p H) : Tabs (TT Ps Pi Pl) H := fun x hx => by
  rcases List.mem_cons.mp hx with rfl | hx
  · exact s.ts
  rcases List.mem_cons.mp hx with rfl | hx
  · exact s.ti
  rcases List.mem_cons.mp hx with rfl | hx
  · exact s.tl
  cases hx
theorem tabs_mk (a : TabS H Ps qK) (b : TabS H Pi qSh) (c : TabS H Pl qL) : Tabs (TT Ps Pi Pl) H := fun x hx => by
  rcases List.mem_cons.mp hx with rfl | hx
  · exact a
  rcases List.mem_cons.mp hx with rfl | hx
  · exact b
  rcases List.mem_cons.mp hx with rfl | hx
  · exact c
  cases hx
theorem St.dne (s : St Ps Pi Pl d p H) {b : Addr} {o : HO} (h : H b = some o) (n : ∀ xs, o ≠ .lst xs) : b ≠ d := fun z => by
  obtain ⟨x, y, k, q⟩ := s.dice
  rw [z, q] at h
  exact n _ (Option.some.inj h).symm
theorem St.pne (s : St Ps Pi Pl d p H) : p ≠ d := fun z => by
  obtain ⟨x, y, k, q⟩ := s.dice
  have h := s.hp
  rw [z, q] at h
  cases h
theorem St.ex (s : St Ps Pi Pl d p H) (e : KS.Ex H H') : St Ps Pi Pl d p H' := ⟨s.ts.ext e, s.ti.ext e, s.tl.ext e, s.dice.ex e, e _ _ s.hp⟩
theorem St.exD (s : St Ps Pi Pl d p H) (e : ExD d H H') (i : IsDice H' d) : St Ps Pi Pl d p H' :=
  have go : ∀ {P : Addr} {q : Str}, TabS H P q → TabS H' P q := fun t => tabS_keep t fun b o h _ nl _ => e b o (s.dne h nl) h
  ⟨go s.ts, go s.ti, go s.tl, i, e _ _ s.pne s.hp⟩
theorem St.tb (s : St Ps Pi Pl d p H) (ap : Apt Ps Pi Pl) (e : Tb Ps H H') : St Ps Pi Pl d p H' := by
  obtain ⟨ps, hP, _⟩ := id s.ts
  have go : ∀ {P : Addr} {q : Str}, P ≠ Ps → TabS H P q → TabS H' P q := fun n t => tabS_keep t fun b o h _ _ nt => e.2 b o (fun z => by
    rcases nt with rfl | nt
    · exact n z
    · rw [z, hP] at h
      exact nt ps (Option.some.inj h).symm) h
  obtain ⟨x, y, k, q⟩ := s.dice
  exact ⟨e.1, go ap.si.symm s.ti, go ap.sl.symm s.tl, ⟨x, y, k, e.keep s.ts q (fun _ z => nomatch z)⟩, e.keep s.ts s.hp (fun _ z => nomatch z)⟩
theorem St.exN (s : St Ps Pi Pl d p H) (e : ExtN H H') (t : Tabs (TT Ps Pi Pl) H') : St Ps Pi Pl d p H' := by
  obtain ⟨x, y, k, q⟩ := s.dice
  exact ⟨t _ (List.mem_cons_self ..), t _ (List.mem_cons_of_mem _ (List.mem_cons_self ..)), t _ (List.mem_cons_of_mem _ (List.mem_cons_of_mem _ (List.mem_cons_self ..))), ⟨x, y, k, e _ _ q (fun _ z => nomatch z)⟩, e _ _ s.hp (fun _ z => nomatch z)⟩
theorem St.exI (s : St Ps Pi Pl d p H) {r C dx : Addr} {fs : List (Str × V)} (h : H r = some (.ins C dx fs)) (e : ExD r H H') : St Ps Pi Pl d p H' := by
  have ne : ∀ {b o}, H b = some o → (∀ c d ns, o ≠ .ins c d ns) → b ≠ r := fun {b o} hb n z => by
    rw [z, h] at hb
    exact n _ _ _ (Option.some.inj hb).symm
  have go : ∀ {P : Addr} {q : Str}, TabS H P q → TabS H' P q := fun t => tabS_keep t fun b o hb ni _ _ => e b o (ne hb ni) hb
  obtain ⟨x, y, k, q⟩ := s.dice
  exact ⟨go s.ts, go s.ti, go s.tl, ⟨x, y, k, e _ _ (ne q (fun _ _ _ z => nomatch z)) q⟩, e _ _ (ne s.hp (fun _ _ _ z => nomatch z)) s.hp⟩
theorem St.exB (s : St Ps Pi Pl d p H) (ap : Apt Ps Pi Pl) {c C dx : Addr} {fs : List (Str × V)} (h : H c = some (.ins C dx fs)) (e : ExB c Pi H H') (t : TabS H' Pi qSh) : St Ps Pi Pl d p H' := by
  obtain ⟨ps, hP, _⟩ := id s.ti
  have ne : ∀ {b o}, H b = some o → (∀ c d ns, o ≠ .ins c d ns) → b ≠ c := fun {b o} hb n z => by
    rw [z, h] at hb
    exact n _ _ _ (Option.some.inj hb).symm
  have np : ∀ {b o}, H b = some o → (∀ ps, o ≠ .tbl ps) → b ≠ Pi := fun {b o} hb n z => by
    rw [z, hP] at hb
    exact n _ (Option.some.inj hb).symm
  have go : ∀ {P : Addr} {q : Str}, P ≠ Pi → TabS H P q → TabS H' P q := fun n t => tabS_keep t fun b o hb ni _ nt => e b o (ne hb ni) (nt.elim (fun z => z ▸ n) fun z => np hb z) hb
  obtain ⟨x, y, k, q⟩ := s.dice
  exact ⟨go ap.si s.ts, t, go ap.il.symm s.tl, ⟨x, y, k, e _ _ (ne q (fun _ _ _ z => nomatch z)) (np q (fun _ z => nomatch z)) q⟩, e _ _ (ne s.hp (fun _ _ _ z => nomatch z)) (np s.hp (fun _ z => nomatch z)) s.hp⟩
theorem Kp.tup {d : Addr} (k : Kp d H H') (i : IsDice H d) : KT' H H' := fun b xs h => k b _ (fun z => by
  obtain ⟨x, y, k, q⟩ := i
  rw [z, q] at h; cases h) h (fun _ z => nomatch z)
end
def dK : Key → PyData
  | .inl i => .int i
  | .inr s => .str s
theorem dp_kV (K : PySem.W.Frag) (H : Hp) (x : Key) : Dp K H (kV x) (dK x) := by
  cases x with
  | inl i => exact .int i
  | inr s => exact .str s
theorem eqv_int (a b : Int) : PyData.eqv (.int a) (.int b) = decide (a = b) := by
  show (a == b) = _
  rw [Bool.eq_iff_iff, decide_eq_true_eq, beq_iff_eq]
theorem eqv_str (a b : Str) : PyData.eqv (.str a) (.str b) = decide (a = b) := by
  show (a == b) = _
  rw [Bool.eq_iff_iff, decide_eq_true_eq, beq_iff_eq]
def rD (k : List Key) : PyData := .tuple (k.map dK)
theorem dp_r (K : PySem.W.Frag) {H : Hp} {q : Addr} {k : List Key} (h : H q = some (.tup (k.map kV))) : Dp K H (.ref q) (rD k) := by
  refine .tup (SqT.of h) ?_
  have go : ∀ r : List Key, DpAll K H (r.map kV) (r.map dK) := fun r => by
    induction r with
    | nil => exact .nil
    | cons y r ih => exact .cons (dp_kV K H y) ih
  exact go k
theorem eqv_dK (x y : Key) : PyData.eqv (dK x) (dK y) = decide (x = y) := by
  cases x with
  | inl i =>
    cases y with
    | inl j =>
      show PyData.eqv (.int i) (.int j) = _
      rw [eqv_int, Bool.eq_iff_iff]; simp
    | inr s => rw [decide_eq_false (by simp)]; rfl
  | inr s =>
    cases y with
    | inl j => rw [decide_eq_false (by simp)]; rfl
    | inr u =>
      show PyData.eqv (.str s) (.str u) = _
      rw [eqv_str, Bool.eq_iff_iff]; simp
theorem eqv_rD : ∀ a b : List Key, PyData.eqvAll (a.map dK) (b.map dK) = decide (a = b)
  | [], [] => rfl
  | [], b :: bs => by rw [decide_eq_false (by simp)]; rfl
  | a :: as, [] => by rw [decide_eq_false (by simp)]; rfl
  | a :: as, b :: bs => by
    show (PyData.eqv (dK a) (dK b) && PyData.eqvAll (as.map dK) (bs.map dK)) = _
    rw [eqv_dK, eqv_rD as bs, Bool.eq_iff_iff]; simp
def okT : Key → Bool
  | .inl _ => true
  | .inr s => PyData.strOk s
theorem okT_of {k : Key} (h : InTab tabL k) : okT k = true := by
  cases k with
  | inl _ => rfl
  | inr s =>
    show PyData.strOk s = true
    unfold PyData.strOk
    rw [Array.all_eq_true_iff_forall_mem]
    intro c hc
    have h : ∀ c ∈ s.cps.toList, c ∈ tabL := h
    have a : ∀ c ∈ tabL, decide (c < 0x110000) = true := by decide +kernel
    exact a c (h c (Array.mem_toList_iff.mpr hc))
theorem lay_r : ∀ {k : List Key}, k.all okT = true → PyData.canLayAll0 (k.map dK) = true
  | [], _ => rfl
  | x :: r, h => by
    rw [List.all_cons, Bool.and_eq_true] at h
    show (PyData.canLay0 (dK x) && PyData.canLayAll0 (r.map dK)) = true
    rw [lay_r h.2, Bool.and_true]
    cases x with
    | inl i => rfl
    | inr s =>
      have h1 : PyData.strOk s = true := h.1
      simp [dK, PyData.canLay0, h1]
theorem depth_r : ∀ k : List Key, PyData.depthAll (k.map dK) ≤ 1
  | [] => Nat.zero_le _
  | x :: r => by
    show max (PyData.depth (dK x)) (PyData.depthAll (r.map dK)) ≤ 1
    have h := depth_r r
    have h2 : PyData.depth (dK x) ≤ 1 := by cases x <;> exact Nat.zero_le _
    omega
theorem shaped_r {k : List Key} (h : ∀ x ∈ k, InTab tabL x) : SeqAt.shaped (rD k) = true := by
  show (PyData.canLayAll0 (k.map dK) && decide (PyData.depthAll (k.map dK) + 1 ≤ 64)) = true
  have := depth_r k
  rw [lay_r (List.all_eq_true.mpr fun x hx => okT_of (h x hx)), decide_eq_true (by omega)]
  rfl
theorem eqv_r (a b : List Key) : PyData.eqv (rD a) (rD b) = decide (a = b) := eqv_rD a b
def iD (l : List Int) : PyData := .tuple (l.map PyData.int)
theorem dp_i {K : PySem.W.Frag} {H : Hp} {q : Addr} {l : List Int} (h : H q = some (.tup (l.map V.int))) : Dp K H (.ref q) (iD l) := by
  refine .tup (SqT.of h) ?_
  clear h
  induction l with
  | nil => exact .nil
  | cons n l ih => exact .cons (.int n) ih
theorem shaped_i (l : List Int) : SeqAt.shaped (iD l) = true := by
  have a : PyData.canLayAll0 (l.map PyData.int) = true := by
    induction l with
    | nil => rfl
    | cons n l ih =>
      show (PyData.canLay0 (.int n) && PyData.canLayAll0 (l.map PyData.int)) = true
      rw [ih]; rfl
  have b : PyData.depthAll (l.map PyData.int) ≤ 1 := by
    induction l with
    | nil => exact Nat.zero_le _
    | cons n l ih =>
      show max (PyData.depth (.int n)) (PyData.depthAll (l.map PyData.int)) ≤ 1
      have h2 : PyData.depth (.int n) ≤ 1 := Nat.zero_le _
      have := ih (by
        have z : (PyData.canLay0 (.int n) && PyData.canLayAll0 (l.map PyData.int)) = true := a
        rw [Bool.and_eq_true] at z
        exact z.2)
      omega
  show (PyData.canLayAll0 (l.map PyData.int) && decide (PyData.depthAll (l.map PyData.int) + 1 ≤ 64)) = true
  rw [a, decide_eq_true (by omega)]
  rfl
theorem eqv_i (a b : List Int) : PyData.eqv (iD a) (iD b) = decide (a = b) := by
  show PyData.eqvAll (a.map PyData.int) (b.map PyData.int) = _
  induction a generalizing b with
  | nil => cases b <;> first | rfl | (rw [decide_eq_false (by simp)]; rfl)
  | cons x r ih =>
    cases b with
    | nil => rw [decide_eq_false (by simp)]; rfl
    | cons y q =>
      show (PyData.eqv (.int x) (.int y) && PyData.eqvAll (r.map PyData.int) (q.map PyData.int)) = _
      rw [ih q, eqv_int, Bool.eq_iff_iff]; simp
end KO1
set_option Elab.async false
set_option linter.all false
set_option maxRecDepth 100000
set_option maxHeartbeats 4000000
namespace KO1
open PySem PySem.Spec PyProof.Rows L2 KB KC KS KN1 LamX K7
theorem okW_V {k : Key} (h : OkW k) : OkV k := by
  cases k with
  | inl v =>
    obtain ⟨h1, h2⟩ := h
    have a : (2 : Int) ^ 71 < 2 ^ 1990 := by decide +kernel
    exact ⟨by omega, by omega⟩
  | inr s =>
    obtain ⟨h1, h2⟩ := h
    exact ⟨h1, by show s.cps.toList.length ≤ _; omega⟩
theorem okV_T {k : Key} (h : OkV k) : InTab tabL k := by
  cases k with
  | inl v => trivial
  | inr s => exact fun c hc => okT_mem h.1 hc
theorem lbytes_step {K : PySem.W.Frag} {H : Hp} {Q : VK} {E : XK} {r : Addr} {k : List Key} (hR : H r = some (.tup (k.map kV))) (ok : ∀ x ∈ k, OkV x) (hk : k.length ≤ 25) (fin : ∀ H' p, Ex H H' → H' p = some (.tup ((rowL tabL k).map V.int)) → Q (.ref p) H') : spLBytes K [.ref r] H Q E := by
  unfold spLBytes
  exact ⟨r, k, rfl, hR, ok, hk, fin⟩
theorem hash_step {Ps : Addr} {H : Hp} {Q : VK} {E : XK} {r : Addr} {k : List Key} (hR : H r = some (.tup (k.map kV))) (ok : ∀ x ∈ k, OkV x) (hk : k.length ≤ 25) (t : TabS H Ps qK) (fin : ∀ H', Tb Ps H H' → Q (.int (hashL (rowL tabL k))) H') : spHash Ps [.ref r] H Q E := by
  unfold spHash
  exact ⟨r, k, rfl, hR, ok, hk, t, fin⟩
theorem natW {n m : Nat} (h : n < 128 ^ (m + 1)) : (natL n).length ≤ m + 1 := natL_len m n h
theorem valW {k : Key} (h : OkW k) : (valL tabL k).length ≤ 12 := by
  cases k with
  | inl v =>
    obtain ⟨h1, h2⟩ := h
    have p : (2 : Int) ^ 71 = 2361183241434822606848 := by decide +kernel
    have p2 : (128 : Nat) ^ (10 + 1) = 151115727451828646838272 := by decide +kernel
    by_cases c : v < 0
    · rw [valL_neg tabL c, List.length_cons]
      have := natW (m := 10) (n := (-v - 1).toNat) (by omega)
      omega
    · rw [valL_pos tabL c, List.length_cons]
      have := natW (m := 10) (n := v.toNat) (by omega)
      omega
  | inr s =>
    obtain ⟨h1, h2⟩ := h
    show (2 :: (natL s.cps.toList.length ++ s.cps.toList.map fun c => ((idx tabL c : Nat) : Int))).length ≤ 12
    have := natW (m := 0) (n := s.cps.toList.length) (by show _ < 128; omega)
    rw [List.length_cons, List.length_append, List.length_map]
    omega
theorem rowW {k : List Key} (h : ∀ x ∈ k, OkW x) (h5 : k.length ≤ 5) : (rowL tabL k).length ≤ 61 := by
  unfold rowL
  have a := natW (m := 0) (n := k.length) (by show _ < 128; omega)
  have b : ∀ l : List Key, (∀ x ∈ l, OkW x) → (l.flatMap (valL tabL)).length ≤ l.length * 12 := fun l => by
    induction l with
    | nil => intro _; exact Nat.zero_le _
    | cons x l ih =>
      intro hl
      rw [List.flatMap_cons, List.length_append, List.length_cons]
      have := valW (hl x (List.mem_cons_self ..))
      have := ih fun y hy => hl y (List.mem_cons_of_mem _ hy)
      omega
  have := b k h
  rw [List.length_append]
  omega
theorem idx_lt {c : Nat} (h : c ∈ tabL) : idx tabL c < 95 := by
  have := List.findIdx_lt_length_of_exists (p := fun d => decide (d = c)) (xs := tabL) ⟨c, h, decide_eq_true rfl⟩
  rw [tabL_len] at this
  exact this
theorem bytes_app {a b : List Int} (ha : Bytes a) (hb : Bytes b) : Bytes (a ++ b) := fun x hx => (List.mem_append.mp hx).elim (ha x) (hb x)
theorem valB {k : Key} (h : InTab tabL k) : Bytes (valL tabL k) := by
  have one : ∀ {n : Int} {l : List Int}, 0 ≤ n → n < 256 → Bytes l → Bytes (n :: l) := fun h0 h1 hl x hx => by
    rcases List.mem_cons.mp hx with rfl | hx
    · exact ⟨h0, h1⟩
    · exact hl x hx
  cases k with
  | inl v =>
    by_cases c : v < 0
    · rw [valL_neg tabL c]; exact one (by decide) (by decide) (natL_bytes _)
    · rw [valL_pos tabL c]; exact one (by decide) (by decide) (natL_bytes _)
  | inr s =>
    show Bytes (2 :: (natL s.cps.toList.length ++ s.cps.toList.map fun c => ((idx tabL c : Nat) : Int)))
    refine one (by decide) (by decide) (bytes_app (natL_bytes _) fun x hx => ?_)
    obtain ⟨c, hc, rfl⟩ := List.mem_map.mp hx
    have := idx_lt (h c hc)
    omega
theorem rowB {k : List Key} (h : ∀ x ∈ k, InTab tabL x) : Bytes (rowL tabL k) := by
  unfold rowL
  refine bytes_app (natL_bytes _) fun x hx => ?_
  obtain ⟨y, hy, hx⟩ := List.mem_flatMap.mp hx
  exact valB (h y hy) x hx
theorem nodup_tab : tabL.Nodup := by decide +kernel
theorem allRow_enc {k : List Key} (h : ∀ x ∈ k, InTab tabL x) (hl : k.length ≤ 20) : allRow (rowL tabL k) = some k := by
  have := pRow_enc tabL [] h hl
  rw [List.append_nil] at this
  exact allRow_some this
structure Row (k : List Key) (rw dt : Addr) (H : Hp) : Prop where
  h5 : k.length ≤ 5
  ok : ∀ x ∈ k, OkW x
  row : H rw = some (.tup (k.map kV))
  dat : H dt = some (.tup ((rowL tabL k).map V.int))
theorem Row.kt {k : List Key} {rw dt : Addr} {H H' : Hp} (r : Row k rw dt H) (e : KT' H H') : Row k rw dt H' := ⟨r.h5, r.ok, e _ _ r.row, e _ _ r.dat⟩
def Sd (d : Addr) (σ : L2.St) : Prop := ∃ a0 a2 a3 a4 a5 a6 a7 a8 a9 a10 a11 a12 a13 a14 a15 a16 a17 a18 a19 a20 : Option V, σ = [a0, some (.ref d), a2, a3, a4, a5, a6, a7, a8, a9, a10, a11, a12, a13, a14, a15, a16, a17, a18, a19, a20]
def Sn (d rw dt : Addr) (n : Int) (σ : L2.St) : Prop := ∃ a0 a2 a6 a7 a8 a9 a10 a11 a12 a13 a14 a15 a16 a17 a18 a19 a20 : Option V, σ = [a0, some (.ref d), a2, some (.ref rw), some (.ref dt), some (.int n), a6, a7, a8, a9, a10, a11, a12, a13, a14, a15, a16, a17, a18, a19, a20]
def Sr (d rw dt : Addr) (σ : L2.St) : Prop := ∃ a0 a2 a5 a6 a7 a8 a9 a10 a11 a12 a13 a14 a15 a16 a17 a18 a19 a20 : Option V, σ = [a0, some (.ref d), a2, some (.ref rw), some (.ref dt), a5, a6, a7, a8, a9, a10, a11, a12, a13, a14, a15, a16, a17, a18, a19, a20]
theorem Sn.r {d rw dt : Addr} {n : Int} {σ : L2.St} (h : Sn d rw dt n σ) : Sr d rw dt σ := by
  obtain ⟨_, _, _, _, _, _, _, _, _, _, _, _, _, _, _, _, _, rfl⟩ := h
  exact ⟨_, _, _, _, _, _, _, _, _, _, _, _, _, _, _, _, _, _, rfl⟩
theorem Sr.d {d rw dt : Addr} {σ : L2.St} (h : Sr d rw dt σ) : Sd d σ := by
  obtain ⟨_, _, _, _, _, _, _, _, _, _, _, _, _, _, _, _, _, _, rfl⟩ := h
  exact ⟨_, _, _, _, _, _, _, _, _, _, _, _, _, _, _, _, _, _, _, _, rfl⟩
section
variable {P : Program} {w : World} {K : PySem.W.Frag} {mg : Str → Option Value} {base : Heap} {CB CS CR Ps Pi Pl cL fTo fL : Addr} {fdTo : FuncData} {A : Around} {outer : List PySem.Env} {s : Shared} {H0 : Hp} {E0' : XK}
theorem g_row (ve : LawE P w K mg base CB CS CR Ps Pi Pl cL fTo fdTo) (hr : Room 12 (xLaw P w K mg base fL cL A outer s H0 E0').A) :
    ∃ t0 t1 t2, PS (xLaw P w K mg base fL cL A outer s H0 E0') (mS 0) t0 ∧ PS (xLaw P w K mg base fL cL A outer s H0 E0') (mS 1) t1 ∧ PS (xLaw P w K mg base fL cL A outer s H0 E0') (mS 2) t2 ∧ ∀ (D : Ends) (σ : L2.St) (H : Hp) (d p : Addr) (tr : TS), Sd d σ → St Ps Pi Pl d p H →
      (∀ (σ' : L2.St) (H' : Hp) (rw dt : Addr) (k : List Key), Sn d rw dt 7 σ' → St Ps Pi Pl d p H' → Row k rw dt H' → tr D σ' H') → tSeq t0 (tSeq t1 (tSeq t2 tr)) D σ H := by
  have hu := hr.units
  obtain ⟨kR, hkR, fR, fdR, GR, gR, kpR, bR⟩ := ve.roll
  obtain ⟨fD, fdD, GD, gD, kpD, bD⟩ := ve.drawn
  obtain ⟨fO, fdO, GO, gO, kpO, bO⟩ := ve.row
  obtain ⟨fB, fdB, GB, gB, kpB, bB⟩ := ve.lbytes
  obtain ⟨fE, fdE, GE, gE, kpE, bE⟩ := ve.read
  refine ⟨_, _, _, ps_set (i := 3) scLaw.nd rfl (Or.inr rfl) (pe_callTy call_tuple_of (by rfl) ve.T.tuple (by decide +kernel) (pa_cons
      (pe_lc (own := [("k", 16)]) (g := gName 16) (tt := tYes) (te := tCall spDrawn [] E0 (tCons (tVar 1) tNil)) rfl scLaw.nd (pi_range1 (by rfl) ve.T.range (pa_cons (pe_call GR (hr.mono (by omega)) (by rfl) gR kpR bR .nil pass0 (pa_cons (pv 1) (pa_cons pe_int pa_nil))) pa_nil)) (blkOk_by (N := nLaw) (sc := defScope sLaw) (by decide +kernel))
        (fun _ _ _ _ _ => pg_name (i := 16) scLaw.nd rfl (Or.inl rfl)) (fun _ _ _ _ _ => pts_nil) (fun _ _ _ _ _ => pe_call GD (hr.mono (by decide)) (by rfl) gD kpD bD .nil pass0 (pa_cons (pv 1) pa_nil))) pa_nil)),
    ps_par (i := 4) (j := 5) rfl scLaw.nd rfl rfl (by decide) rfl rfl (pa_cons (pe_call GO (hr.mono (by decide)) (by rfl) gO kpO bO (E := fun _ _ _ => False) .nil (passes_call L2.takes0 (fun _ _ _ _ h => h)) (pa_cons (pv 3) pa_nil)) (pa_cons pe_int pa_nil)) (by rfl),
    ps_if (PW.pt (pw_or (pt_cmpR (op_neD hu) (pv 4) (pe_call GB (hr.mono (by decide)) (by rfl) gB kpB bB .nil pass0 (pa_cons (pv 3) pa_nil)) (nomark _))
        (pw_or1 (pt_cmpR (op_neD hu) (pe_call GE (hr.mono (by decide)) (by rfl) gE kpE bE (E := fun _ _ _ => False) .nil (passes_call L2.takes0 (fun _ _ _ _ h => h)) (pa_cons (pv 4) pa_nil)) (pv 3) (nomark _))))) (pss_one (ps_ret pe_bl)) pss_nil, ?_⟩
  rintro D σ H d p tr ⟨a0, a2, a3, a4, a5, a6, a7, a8, a9, a10, a11, a12, a13, a14, a15, a16, a17, a18, a19, a20, rfl⟩ st fin
  refine ⟨_, rfl, roll_step st.dice (by decide) (by decide) fun n H1 n0 n1 e1 i1 => ⟨n, rfl, by omega, by omega, fun L hL => ?_⟩⟩
  have s1 := st.exD e1 i1
  have nL : L ≠ d := fun z => by
    obtain ⟨x, y, k, q⟩ := i1
    rw [z, q] at hL; cases hL
  refine lc_range (fun q H3 => St Ps Pi Pl d p H3 ∧ ∃ ks : List Key, ks.length = q ∧ (∀ x ∈ ks, OkW x) ∧ H3 L = some (.lst (ks.map kV))) ⟨s1.ex (Ex.upd hL), [], rfl, (fun c hc => by cases hc), upd_same⟩ (fun q H3 hq ⟨s3, ks, lk, hks, hL3⟩ => ?_) (fun H3 ⟨s3, ks, lk, hks, hL3⟩ => ?_)
  · refine ⟨rfl, _, rfl, drawn_step s3.dice fun H4 k e4 i4 hk => ?_⟩
    have hL4 := e4 _ _ nL hL3
    have hz : sizeLine = 16777216 := rfl
    have s4 := s3.exD e4 i4
    refine ⟨_, hL4, by rw [List.length_map]; omega, ?_, ks ++ [k], by rw [List.length_append, lk]; rfl, fun x hx => ?_, by rw [upd_same, List.map_append]; rfl⟩
    · have np : L ≠ p := fun z => by
        rw [z, s1.hp] at hL; cases hL
      obtain ⟨x, y, k', q'⟩ := s4.dice
      exact ⟨tabS_lst s4.ts hL4, tabS_lst s4.ti hL4, tabS_lst s4.tl hL4, ⟨x, y, k', by rw [L2.upd_ne nL.symm]; exact q'⟩, by rw [L2.upd_ne np.symm]; exact s4.hp⟩
    · rcases List.mem_append.mp hx with z | z
      · exact hks x z
      · rw [List.mem_singleton.mp z]; exact hk
  · refine ⟨L, _, rfl, .inl ⟨SqL.of hL3, fun r hr3 => ?_⟩⟩
    have e4 : KS.Ex H3 (upd H3 r (.tup (ks.map kV))) := Ex.upd hr3
    have s4 := s3.ex e4
    have hr4 : (upd H3 r (.tup (ks.map kV))) r = some (.tup (ks.map kV)) := upd_same
    generalize upd H3 r (.tup (ks.map kV)) = H4 at s4 hr4
    have okV : ∀ x ∈ ks, OkV x := fun x hx => okW_V (hks x hx)
    have inT : ∀ x ∈ ks, InTab tabL x := fun x hx => okV_T (okV x hx)
    have h5 : ks.length ≤ 5 := by omega
    refine ⟨_, rfl, row_step hr4 okV (by omega) s4.ts fun H6 dt t5 hd6 => ⟨_, _, rfl, ?_⟩⟩
    have s6 := s4.tb ve.ap t5
    have hr6 := t5.keep s4.ts hr4 (fun _ z => nomatch z)
    refine ⟨_, rfl, _, rfl, lbytes_step hr6 okV (by omega) fun H7 b e7 hb => ⟨_, _, dp_i (e7 _ _ hd6), dp_i hb, shaped_i _, shaped_i _, _, rfl, ?_⟩⟩
    rw [eqv_i]
    refine ifF (by simp) ?_
    have hd7 := e7 _ _ hd6
    have hl := rowW hks h5
    refine ⟨_, rfl, read_step hd7 (rowB inT) (by omega) (fun hn => by rw [allRow_enc inT (by omega)] at hn; cases hn) fun k' hk' H8 q e8 hq => ?_⟩
    rw [allRow_enc inT (by omega)] at hk'
    cases hk'
    refine ⟨_, rfl, _, _, dp_r K hq, dp_r K (e8 _ _ (e7 _ _ hr6)), shaped_r inT, shaped_r inT, _, rfl, ?_⟩
    rw [eqv_r]
    refine ifF (by simp) ?_
    exact fin _ H8 r dt ks ⟨_, _, _, _, _, _, _, _, _, _, _, _, _, _, _, _, _, rfl⟩ (s6.ex (e7.trans e8)) ⟨h5, hks, (e7.trans e8) _ _ hr6, e8 _ _ hd7⟩
end
end KO1
set_option Elab.async false
set_option linter.all false
set_option maxRecDepth 100000
set_option maxHeartbeats 4000000
namespace KO1
open PySem PySem.Spec PyProof.Rows L2 KB KC KS KN1 LamX K7
theorem kt_of {H H' : Hp} (e : KS.Ex H H') : KT' H H' := fun b xs h => e b _ h
theorem hash_bd : ∀ (l : List Int), 0 ≤ hashL l ∧ hashL l < 2147483647 := fun l => by
  have go : ∀ (l : List Int) (a : Int), 0 ≤ a → a < 2147483647 → 0 ≤ l.foldl hashStep a ∧ l.foldl hashStep a < 2147483647 := fun l => by
    induction l with
    | nil => exact fun a h1 h2 => ⟨h1, h2⟩
    | cons b l ih => exact fun a h1 h2 => ih _ (Int.emod_nonneg _ (by decide)) (Int.emod_lt_of_pos _ (by decide))
  exact go l 7 (by decide) (by decide)
section
variable {P : Program} {w : World} {K : PySem.W.Frag} {mg : Str → Option Value} {base : Heap} {CB CS CR Ps Pi Pl cL fTo fL : Addr} {fdTo : FuncData} {A : Around} {outer : List PySem.Env} {s : Shared} {H0 : Hp} {E0' : XK}
theorem g_hash (ve : LawE P w K mg base CB CS CR Ps Pi Pl cL fTo fdTo) (hr : Room 12 (xLaw P w K mg base fL cL A outer s H0 E0').A) :
    ∃ t0 t1, PS (xLaw P w K mg base fL cL A outer s H0 E0') (mS 3) t0 ∧ PS (xLaw P w K mg base fL cL A outer s H0 E0') (mS 4) t1 ∧ ∀ (D : Ends) (σ : L2.St) (H : Hp) (d p rw dt : Addr) (k : List Key) (tr : TS), Sn d rw dt 7 σ → St Ps Pi Pl d p H → Row k rw dt H →
      (∀ (σ' : L2.St) (H' : Hp), Sr d rw dt σ' → St Ps Pi Pl d p H' → Row k rw dt H' → tr D σ' H') → tSeq t0 (tSeq t1 tr) D σ H := by
  have hu := hr.units
  obtain ⟨fH, fdH, GH, gH, kpH, bH⟩ := ve.hash
  obtain ⟨fN, fdN, GN, gN, kpN, bN⟩ := ve.nat
  obtain ⟨fM, fdM, GM, gM, kpM, bM⟩ := ve.lnat
  refine ⟨_, _, ps_for PassesOwn.never rfl (pi_tup (pv 4)) (pg_name (i := 6) scLaw.nd rfl (Or.inl rfl)) (pss_one (ps_set (i := 5) scLaw.nd rfl (Or.inl rfl) (pe_op op_mod (pe_op op_add (pe_op op_add (pe_op op_mul (pv 5) pe_int) (pv 6)) pe_int) pe_int))),
    ps_if (PW.pt (pw_or (pt_cmpR op_ne (pe_call GH (hr.mono (by decide)) (by rfl) gH kpH bH (E := fun _ _ _ => False) .nil (passes_call L2.takes0 (fun _ _ _ _ h => h)) (pa_cons (pv 3) pa_nil)) (pv 5) (nomark _))
        (pw_or1 (pt_cmpR (op_neD hu) (pe_call GN (hr.mono (by decide)) (by rfl) gN kpN bN .nil pass0 (pa_cons (pv 5) pa_nil)) (pe_call GM (hr.mono (by decide)) (by rfl) gM kpM bM .nil pass0 (pa_cons (pv 5) pa_nil)) (nomark _))))) (pss_one (ps_ret pe_bl)) pss_nil, ?_⟩
  rintro D σ H d p rw dt k tr ⟨a0, a2, a6, a7, a8, a9, a10, a11, a12, a13, a14, a15, a16, a17, a18, a19, a20, rfl⟩ st ro fin
  refine ⟨_, rfl, dt, rfl, ⟨_, SqT.of ro.dat⟩, for_tup (xs := (rowL tabL k).map V.int) (fun i σ H' => H' = H ∧ Sn d rw dt (hashL ((rowL tabL k).take i)) σ) ⟨rfl, _, _, _, _, _, _, _, _, _, _, _, _, _, _, _, _, _, rfl⟩ ?_ ?_ ?_⟩
  · rintro i σ H' _ ⟨rfl, _⟩
    exact SqT.of ro.dat
  · rintro i x σ H' hx ⟨rfl, b0, b2, b6, b7, b8, b9, b10, b11, b12, b13, b14, b15, b16, b17, b18, b19, b20, rfl⟩
    rw [List.getElem?_map] at hx
    cases hi : (rowL tabL k)[i]? with
    | none => rw [hi] at hx; cases hx
    | some b =>
      rw [hi] at hx
      cases hx
      refine ⟨_, rfl, _, _, rfl, rfl, .inr ⟨by decide, by decide⟩, _, rfl, _, _, rfl, rfl, _, _, rfl, rfl, _, _, rfl, rfl, by show (0 : Int) < 2147483647; decide, rfl, ?_⟩
      have e : hashL ((rowL tabL k).take (i + 1)) = hashStep (hashL ((rowL tabL k).take i)) b := by
        rw [List.take_add_one, hi]
        unfold hashL
        rw [List.foldl_append]
        rfl
      rw [e]
      unfold hashStep
      rw [Int.mul_comm 31]
      exact ⟨_, _, _, _, _, _, _, _, _, _, _, _, _, _, _, _, _, rfl⟩
  · rintro σ H' ⟨rfl, b0, b2, b6, b7, b8, b9, b10, b11, b12, b13, b14, b15, b16, b17, b18, b19, b20, rfl⟩
    rw [List.length_map, List.take_length]
    have okV : ∀ x ∈ k, OkV x := fun x hx => okW_V (ro.ok x hx)
    have h5 := ro.h5
    obtain ⟨n0, n1⟩ := hash_bd (rowL tabL k)
    have nb : hashL (rowL tabL k) < 2 ^ 2000 := by
      have : (2147483647 : Int) < 2 ^ 2000 := by decide +kernel
      omega
    refine ⟨_, rfl, hash_step ro.row okV (by omega) st.ts fun H1 t1 => ⟨_, rfl, rfl, _, rfl, ?_⟩⟩
    have s1 := st.tb ve.ap t1
    have r1 := ro.kt ((Kp.tb st.ts t1).tup st.dice)
    refine ifF (by simp) ?_
    refine ⟨_, rfl, nat_step n0 nb fun H2 q2 e2 h2 => ⟨_, rfl, nat_step n0 nb fun H3 q3 e3 h3 => ⟨_, _, dp_i (e3 _ _ h2), dp_i h3, shaped_i _, shaped_i _, _, rfl, ?_⟩⟩⟩
    rw [eqv_i]
    refine ifF (by simp) ?_
    exact fin _ H3 ⟨_, _, _, _, _, _, _, _, _, _, _, _, _, _, _, _, _, _, rfl⟩ (s1.ex (e2.trans e3)) (r1.kt (kt_of (e2.trans e3)))
end
end KO1
set_option Elab.async false
set_option linter.all false
set_option maxRecDepth 100000
set_option maxHeartbeats 4000000
namespace KO1
open PySem PySem.Spec PyProof.Rows L2 KB KC KS KN1 LamX K7
theorem sl_take {K : PySem.W.Frag} {H : Hp} {Q : VK} {t : Addr} {dat : List Int} {i : Nat} (h : H t = some (.tup (dat.map V.int))) (hi : i < dat.length) (q : ∀ H' p, KS.Ex H H' → H' p = some (.tup ((dat.take i).map V.int)) → Q (.ref p) H') : rSlA K (.ref t) none (some (i : Int)) H Q := by
  refine ⟨t, _, rfl, SqT.of h, fun ⟨_, z⟩ => ?_, fun _ p hp => q _ p (Ex.upd hp) ?_⟩
  · rw [HT.sIx_nat, List.length_map] at z
    omega
  · rw [upd_same]
    unfold cutV
    rw [HT.sIx_nat, HT.sIx_none, List.drop_zero, List.length_map, Nat.min_eq_left (by omega), Nat.sub_zero, List.map_take]
theorem sl_drop {K : PySem.W.Frag} {H : Hp} {Q : VK} {t : Addr} {dat : List Int} {i : Nat} (h : H t = some (.tup (dat.map V.int))) (h1 : 0 < i) (hi : i ≤ dat.length) (q : ∀ H' p, KS.Ex H H' → H' p = some (.tup ((dat.drop i).map V.int)) → Q (.ref p) H') : rSlA K (.ref t) (some (i : Int)) none H Q := by
  refine ⟨t, _, rfl, SqT.of h, fun ⟨z, _⟩ => ?_, fun _ p hp => q _ p (Ex.upd hp) ?_⟩
  · rw [HT.sIx_nat, List.length_map] at z
    omega
  · rw [upd_same]
    unfold cutV
    rw [HT.sIx_nat, HT.sIx_none, List.length_map, Nat.min_eq_left (by omega), List.take_of_length_le (by rw [List.length_drop, List.length_map]; omega), List.map_drop]
theorem natL_lt (n : Nat) : n < 128 ^ (natL n).length := by
  induction n using Nat.strongRecOn with
  | ind n ih =>
    by_cases c : n < 128
    · rw [natL_small c]; exact c
    · rw [natL_big c, List.length_cons, Nat.pow_succ]
      have := ih (n / 128) (by omega)
      omega
theorem pow_small {m : Nat} (h : m ≤ 61) : 128 ^ m ≤ 128 ^ 61 := Nat.pow_le_pow_right (by decide) h
theorem okV_of {k : Key} (h : InTab tabL k) (hl : (valL tabL k).length ≤ 61) : OkV k := by
  have big : ((128 ^ 61 : Nat) : Int) < 2 ^ 1990 := by decide +kernel
  cases k with
  | inl v =>
    by_cases c : v < 0
    · rw [valL_neg tabL c, List.length_cons] at hl
      have a := natL_lt (-v - 1).toNat
      have b := pow_small (m := (natL (-v - 1).toNat).length) (by omega)
      exact ⟨by omega, by omega⟩
    · rw [valL_pos tabL c, List.length_cons] at hl
      have a := natL_lt v.toNat
      have b := pow_small (m := (natL v.toNat).length) (by omega)
      exact ⟨by omega, by omega⟩
  | inr s =>
    have hl : (2 :: (natL s.cps.toList.length ++ s.cps.toList.map fun c => ((idx tabL c : Nat) : Int))).length ≤ 61 := hl
    rw [List.length_cons, List.length_append, List.length_map] at hl
    refine ⟨?_, by omega⟩
    unfold badT
    rw [Bool.eq_false_iff]
    intro z
    rw [List.any_eq_true] at z
    obtain ⟨c, hc, hn⟩ := z
    have : c ∈ ltrs.cps.toList := h c hc
    simp [this] at hn
theorem val_in {x : Key} : ∀ {k : List Key}, x ∈ k → (valL tabL x).length ≤ (rowL tabL k).length := fun {k} hx => by
  unfold rowL
  rw [List.length_append]
  have : (valL tabL x).length ≤ (k.flatMap (valL tabL)).length := by
    induction k with
    | nil => cases hx
    | cons y k ih =>
      rw [List.flatMap_cons, List.length_append]
      rcases List.mem_cons.mp hx with rfl | hx
      · omega
      · have := ih hx
        omega
  omega
theorem allRow_pRow {dat : List Int} {k : List Key} (h : allRow dat = some k) : pRow tabL dat = some (k, []) := by
  unfold allRow at h
  cases e : pRow tabL dat with
  | none => rw [e] at h; cases h
  | some q =>
    obtain ⟨k', rest⟩ := q
    rw [e] at h
    cases rest with
    | nil => injection h with h; rw [h]
    | cons b r => cases h
theorem read_back {dat : List Int} {k : List Key} (hb : Bytes dat) (hl : dat.length ≤ 61) (h : allRow dat = some k) : k.length ≤ 20 ∧ (∀ x ∈ k, InTab tabL x) ∧ (∀ x ∈ k, OkV x) ∧ dat = rowL tabL k := by
  obtain ⟨h1, h2, h3⟩ := enc_pRow tabL nodup_tab hb (allRow_pRow h)
  rw [List.append_nil] at h3
  exact ⟨h1, h2, fun x hx => okV_of (h2 x hx) (by have := val_in hx; rw [← h3] at this; omega), h3⟩
theorem cut_row {k : List Key} (h : ∀ x ∈ k, InTab tabL x) (hl : k.length ≤ 20) {i : Nat} (hi : i < (rowL tabL k).length) : allRow ((rowL tabL k).take i) = none := by
  cases e : allRow ((rowL tabL k).take i) with
  | none => rfl
  | some k' =>
    refine absurd (allRow_pRow e) (cut_none tabL nodup_tab h hl (b := (rowL tabL k).drop i) (List.take_append_drop i _).symm ?_ fun x hx => rowB h x (List.mem_of_mem_take hx))
    intro z
    have := congrArg List.length z
    rw [List.length_drop] at this
    have z2 : (rowL tabL k).length - i = 0 := this
    omega
theorem long_row {k : List Key} (h : ∀ x ∈ k, InTab tabL x) (hl : k.length ≤ 20) (x : Int) : allRow (rowL tabL k ++ [x]) = none := allRow_more (pRow_enc tabL [x] h hl) (by simp)
theorem rowL_pos (k : List Key) : 0 < (rowL tabL k).length := by
  unfold rowL
  rw [List.length_append, natL]
  split <;> simp <;> omega
abbrev tRead (CR Ps Pi Pl : Addr) (K : PySem.W.Frag) (j : Nat) : TE := tLam (TT Ps Pi Pl) (TTold K CR "RowError") fun E => tCall (spRead CR) [] E (tCons (tVar j) tNil)
theorem told_read {CR Ps Pi Pl d p : Addr} {K : PySem.W.Frag} {mg : Str → Option Value} {σ : L2.St} {H : Hp} {Q : VK} {j : Nat} {q : Addr} {dat : List Int} (J : TxtX K mg CR) (st : St Ps Pi Pl d p H) (hj : σ[j]? = some (some (.ref q))) (hq : H q = some (.tup (dat.map V.int))) (hb : Bytes dat) (hl : dat.length ≤ 1000)
    (bad : allRow dat = none → ∀ H', St Ps Pi Pl d p H' → ExtN H H' → Q (.str "RowError") H') (good : ∀ k, allRow dat = some k → ∀ H' q', St Ps Pi Pl d p H' → ExtN H H' → H' q' = some (.tup (k.map kV)) → Q (.ref q') H') : tRead CR Ps Pi Pl K j σ H Q := by
  refine ⟨st.tabs, fun H1 e1 t1 => ?_⟩
  have s1 := st.exN e1 t1
  refine ⟨.ref q, hj, read_step (e1 _ _ hq (fun _ z => nomatch z)) hb hl (fun hn H2 e2 => ⟨true, J.e, fun _ => bad hn H2 (s1.ex e2) (e1.trans (ExtN.of e2)), fun z => nomatch z⟩) fun k hk H2 q' e2 hq' => ?_⟩
  exact good k hk H2 q' (s1.ex e2) (e1.trans (ExtN.of e2)) hq'
section
variable {CB CS CR Ps Pi Pl cL fTo : Addr} {fdTo : FuncData}
theorem lam_told {X : Cx} (ve : LawE X.prog X.w X.K X.mg X.base CB CS CR Ps Pi Pl cL fTo fdTo) (hr : Room 12 X.A) (hq : X.env.qual ++ "<lambda>" = qL) (hcode : X.env.code = .ref cL) (hg : Gl X "_law_told") {params : Arguments} {body : Expr} {scope : Scope} {t : XK → TE} {p lpos pos : Pos} (L : LamS X.env.scope scope) (hdef : defaultsOf params X.env = ([], []))
    (hbind : ∀ (q : Str) (cl : List (Str × Addr)) (pm cv ctv : Value), bindArgs (PySem.W.kla_fn "<lambda>" q params body scope cl pm cv ctv) ⟨[], []⟩ = pure [])
    (hbody : ∀ (A' : Around) (outer' : List Env) (s' : Shared) (H : Hp) (E : XK) (f c' : Addr), Room 10 (A'.deeper (lamEnv X scope s'.heap.objs.size f c')) → PE (lamCx X A' outer' s' H E scope f c') body (t E)) :
    PE X (.Call (.Name "_law_told" p) [.Lambda params body scope lpos] [] pos) (tLam (TT Ps Pi Pl) (TTold X.K CR "RowError") t) := by
  obtain ⟨oc, od, dV, kV, doc, pm, an, cdv, ct, osl, rfl, lk, hcd, _, _⟩ := ve.told.ex
  have bT := ve.told.bindsN (ps := ["what"]) fun _ _ _ _ _ _ us hl => match us, hl with | [_], _ => rfl
  refine pe_lamcall (T := TT Ps Pi Pl) (P := Pl) (c := cL) (k := 10) hg ve.gTold ve.told.kp lk hcd bT (Ng := ["what"]) (sg := defScope sTold) ⟨rfl, rfl, rfl, by decide +kernel, rfl, by decide +kernel, by decide +kernel⟩ rfl (Or.inl rfl)
      (told_gives (by rfl) ve.J.g (by decide +kernel) (fun f => rfl)) ve.TBl hcode ?_ (fun x hx e => ?_) hr L hdef hbind hbody
  · rw [hq]
    exact List.mem_cons_of_mem _ (List.mem_cons_of_mem _ (List.mem_cons_self ..))
  · rw [hq]
    rcases List.mem_cons.mp hx with z | hx
    · rw [z] at e; exact absurd e ve.ap.sl
    rcases List.mem_cons.mp hx with z | hx
    · rw [z] at e; exact absurd e ve.ap.il
    rcases List.mem_cons.mp hx with z | hx
    · rw [z]
    cases hx
end
section
variable {P : Program} {w : World} {K : PySem.W.Frag} {mg : Str → Option Value} {base : Heap} {CB CS CR Ps Pi Pl cL fTo fL : Addr} {fdTo : FuncData} {A : Around} {outer : List PySem.Env} {s : Shared} {H0 : Hp} {E0' : XK}
theorem g_bent (ve : LawE P w K mg base CB CS CR Ps Pi Pl cL fTo fdTo) (hr : Room 12 (xLaw P w K mg base fL cL A outer s H0 E0').A) :
    ∃ t0 t1, PS (xLaw P w K mg base fL cL A outer s H0 E0') (mS 5) t0 ∧ PS (xLaw P w K mg base fL cL A outer s H0 E0') (mS 6) t1 ∧ ∀ (D : Ends) (σ : L2.St) (H : Hp) (d p rw dt : Addr) (k : List Key) (tr : TS), Sr d rw dt σ → St Ps Pi Pl d p H → Row k rw dt H →
      (∀ (a0 a2 a5 a6 a8 a9 a10 a12 a13 a14 a15 a16 a17 a18 a19 a20 : Option V) (H' : Hp) (i : Nat) (bt : Addr) (bent : List Int), i < (rowL tabL k).length → Bytes bent → bent.length ≤ 61 → H' bt = some (.tup (bent.map V.int)) → St Ps Pi Pl d p H' → Row k rw dt H' →
        tr D [a0, some (.ref d), a2, some (.ref rw), some (.ref dt), a5, a6, some (.int (i : Nat)), a8, a9, a10, some (.ref bt), a12, a13, a14, a15, a16, a17, a18, a19, a20] H') → tSeq t0 (tSeq t1 tr) D σ H := by
  obtain ⟨kR, hkR, fR, fdR, GR, gR, kpR, bR⟩ := ve.roll
  refine ⟨_, _, ps_set (i := 7) scLaw.nd rfl (Or.inl rfl) (pe_call GR (hr.mono (by omega)) (by rfl) gR kpR bR .nil pass0 (pa_cons (pv 1) (pa_cons (pe_callB call_len_seq (by rfl) ve.T.len (by decide +kernel) (pa_cons (pv 4) pa_nil)) pa_nil))),
    ps_set (i := 11) scLaw.nd rfl (Or.inr rfl) (pe_op op_catA (pe_op op_catA (pe_slice sl_tupA (pv 4) po_none (po_some (pv 7)))
      (pe_tup (pa_cons (pe_op op_mod (pe_op op_add (pe_op op_add (pe_ix ix_tupD (pv 4) (pv 7) (fun _ _ => rfl)) pe_int) (pe_call GR (hr.mono (by omega)) (by rfl) gR kpR bR .nil pass0 (pa_cons (pv 1) (pa_cons pe_int pa_nil)))) pe_int) pa_nil)))
      (pe_slice sl_tupA (pv 4) (po_some (pe_op op_add (pv 7) pe_int)) po_none)), ?_⟩
  rintro D σ H d p rw dt k tr ⟨a0, a2, a5, a6, a7, a8, a9, a10, a11, a12, a13, a14, a15, a16, a17, a18, a19, a20, rfl⟩ st ro fin
  have hl := rowW ro.ok ro.h5
  have hp0 := rowL_pos k
  have inT : ∀ x ∈ k, InTab tabL x := fun x hx => okV_T (okW_V (ro.ok x hx))
  have hB := rowB inT
  refine ⟨_, rfl, _, rfl, dt, _, rfl, .inr (SqT.of ro.dat), roll_step st.dice (by rw [List.length_map]; omega) (by rw [List.length_map]; omega) fun n H1 n0 n1 e1 i1 => ?_⟩
  rw [List.length_map] at n1
  have s1 := st.exD e1 i1
  have r1 := ro.kt ((Kp.exD e1).tup st.dice)
  obtain ⟨i, rfl⟩ := Int.eq_ofNat_of_zero_le n0
  have hi : i < (rowL tabL k).length := by omega
  refine ⟨_, rfl, _, rfl, _, rfl, sl_take r1.dat hi fun H2 c2 e2 h2 => ?_⟩
  have r2 := r1.kt (kt_of e2)
  have s2 := s1.ex e2
  have hx : (rowL tabL k)[i]? = some (rowL tabL k)[i] := List.getElem?_eq_getElem hi
  refine ⟨_, rfl, _, rfl, dt, _, _, _, rfl, rfl, r2.dat, atI_nat (by rw [List.getElem?_map, hx]; rfl), _, _, rfl, rfl, _, rfl, roll_step s2.dice (by decide) (by decide) fun m H3 m0 m1 e3 i3 => ?_⟩
  have s3 := s2.exD e3 i3
  have kt3 := (Kp.exD e3).tup s2.dice
  have r3 := r2.kt kt3
  have h3 := kt3 _ _ h2
  refine ⟨_, _, rfl, rfl, _, _, rfl, rfl, (by show (0 : Int) < 256; decide), (by show 1 ≤ sizeLine; decide), fun z hz => ?_⟩
  have e4 : KS.Ex H3 (upd H3 z (.tup [.int (((rowL tabL k)[i] + 1 + m) % 256)])) := Ex.upd hz
  have hz4 : (upd H3 z (.tup [.int (((rowL tabL k)[i] + 1 + m) % 256)])) z = some (.tup [.int (((rowL tabL k)[i] + 1 + m) % 256)]) := upd_same
  generalize upd H3 z (.tup [.int (((rowL tabL k)[i] + 1 + m) % 256)]) = H4 at e4 hz4
  refine cat_one (e4 _ _ h3) hz4 (by rw [List.length_take]; omega) fun H5 c5 e5 h5 => ?_
  have r5 := r3.kt (kt_of (e4.trans e5))
  refine ⟨_, rfl, _, rfl, _, _, rfl, rfl, _, rfl, ?_⟩
  have ei : ((i : Nat) : Int) + 1 = ((i + 1 : Nat) : Int) := by omega
  rw [ei]
  unfold tNoPart
  refine sl_drop (i := i + 1) r5.dat (Nat.succ_pos _) hi fun H6 c6 e6 h6 => ?_
  refine cat_two (e6 _ _ h5) h6 (by rw [List.length_append, List.length_take, List.length_drop]; show _ + 1 + _ ≤ _; omega) fun H7 c7 e7 h7 => ?_
  refine fin a0 a2 a5 a6 a8 a9 a10 a12 a13 a14 a15 a16 a17 a18 a19 a20 H7 i c7 _ hi (bytes_app (bytes_app (fun x hx => hB x (List.mem_of_mem_take hx)) fun x hx => ?_) fun x hx => hB x (List.mem_of_mem_drop hx)) ?_ h7 (s3.ex (((e4.trans e5).trans e6).trans e7)) (r5.kt (kt_of (e6.trans e7)))
  · rw [List.mem_singleton.mp hx]
    omega
  · rw [List.length_append, List.length_append, List.length_take, List.length_drop]
    show _ + 1 + _ ≤ _
    omega
end
end KO1
set_option Elab.async false
set_option linter.all false
set_option maxRecDepth 100000
set_option maxHeartbeats 4000000
namespace KO1
open PySem PySem.Spec PyProof.Rows L2 KB KC KS KN1 LamX K7
theorem qLaw : (Str.ofString "law" ++ Str.ofString ".<locals>.") ++ Str.ofString "<lambda>" = qL := by decide +kernel
theorem sh_err : SeqAt.shaped (.str "RowError") = true := by decide +kernel
theorem ne_errs {K : PySem.W.Frag} {σ : L2.St} {H : Hp} {Q : VK} (q : Q (.bl false) H) : tC (.str "RowError") σ H fun y H2 => rNeD K (.str "RowError") y H2 Q := by
  refine ⟨.str "RowError", .str "RowError", .str _, .str _, sh_err, sh_err, ?_⟩
  have e : PyData.eqv (.str "RowError") (.str "RowError") = true := by rw [eqv_str]; exact decide_eq_true rfl
  rw [e]
  exact q
theorem ne_nils {K : PySem.W.Frag} {H : Hp} {Q : VK} {a b : Addr} (ha : H a = some (.lst [])) (hb : H b = some (.lst [])) (q : Q (.bl false) H) : rNeD K (.ref a) (.ref b) H Q :=
  ⟨.list [], .list [], .lst (SqL.of ha) .nil, .lst (SqL.of hb) .nil, by decide +kernel, by decide +kernel, q⟩
section
variable {P : Program} {w : World} {K : PySem.W.Frag} {mg : Str → Option Value} {base : Heap} {CB CS CR Ps Pi Pl cL fTo fL : Addr} {fdTo : FuncData} {A : Around} {outer : List PySem.Env} {s : Shared} {H0 : Hp} {E0' : XK}
theorem g_read (ve : LawE P w K mg base CB CS CR Ps Pi Pl cL fTo fdTo) (hr : Room 12 (xLaw P w K mg base fL cL A outer s H0 E0').A) :
    ∃ t0 t1, PS (xLaw P w K mg base fL cL A outer s H0 E0') (mS 7) t0 ∧ PS (xLaw P w K mg base fL cL A outer s H0 E0') (mS 8) t1 ∧ ∀ (D : Ends) (a0 a2 a5 a6 a8 a9 a10 a12 a13 a14 a15 a16 a17 a18 a19 a20 : Option V) (H : Hp) (d p rw dt bt : Addr) (k : List Key) (i : Nat) (bent : List Int) (tr : TS),
      i < (rowL tabL k).length → Bytes bent → bent.length ≤ 61 → H bt = some (.tup (bent.map V.int)) → St Ps Pi Pl d p H → Row k rw dt H →
      (∀ (σ' : L2.St) (H' : Hp), Sr d rw dt σ' → St Ps Pi Pl d p H' → Row k rw dt H' → tr D σ' H') →
      tSeq t0 (tSeq t1 tr) D [a0, some (.ref d), a2, some (.ref rw), some (.ref dt), a5, a6, some (.int (i : Nat)), a8, a9, a10, some (.ref bt), a12, a13, a14, a15, a16, a17, a18, a19, a20] H := by
  have hu := hr.units
  obtain ⟨fE, fdE, GE, gE, kpE, bE⟩ := ve.read
  obtain ⟨fB, fdB, GB, gB, kpB, bB⟩ := ve.lbytes
  refine ⟨_, _, ps_set (i := 8) scLaw.nd rfl (Or.inl rfl) (lam_told (X := xLaw P w K mg base fL cL A outer s H0 E0') ve hr qLaw rfl (by rfl) (lamS_by (by show lamSB (defScope sLaw) _ = true; decide +kernel)) rfl (fun _ _ _ _ _ => rfl)
      (t := fun E => tCall (spRead CR) [] E (tCons (tVar 11) tNil)) (fun A' outer' s' H E f c' hr' => pe_call GE (hr'.mono (by decide)) (by rfl) gE kpE bE .nil (passes_call (takes_of rfl rfl rfl rfl) (fun _ _ _ _ h => h)) (pa_cons (pv 11) pa_nil))),
    ps_if (PW.pt (pw_or (PW.pt (pw_and (pt_cmpR (op_neD hu) (pv 8) pe_str (nomark _)) (pw_and1 (pt_cmpR (op_neD hu) (pe_call GB (hr.mono (by decide)) (by rfl) gB kpB bB .nil pass0 (pa_cons (pv 8) pa_nil)) (pv 11) (nomark _)))))
        (pw_or1 (pt_cmpR (op_neD hu) (pe_lc (own := [("one", 17)]) (g := gName 17) (tt := tTest (tOp (rNeD K) (tRead CR Ps Pi Pl K 17) (tC (.str "RowError")))) (te := tC (.int 1)) rfl scLaw.nd
            (pi_list (pe_lst (pa_cons (pe_slice sl_tupA (pv 4) po_none (po_some (pv 7))) (pa_cons (pe_op op_catA (pv 4) (pe_tup (pa_cons pe_int pa_nil))) pa_nil)))) (blkOk_by (N := nLaw) (sc := defScope sLaw) (by decide +kernel))
            (fun _ _ _ _ _ => pg_name (i := 17) scLaw.nd rfl (Or.inr rfl))
            (fun s1 H1 C cl fp => pts_one (pt_cmpR (op_neD hu) (lam_told (X := (xLaw P w K mg base fL cL A outer s H0 E0').blk s1 H1 _ (compEnvC _ cl C (xLaw P w K mg base fL cL A outer s H0 E0').env) fp) ve hr qLaw rfl (by rfl) (lamS_by (by show lamSB (relS _ (defScope sLaw)) _ = true; decide +kernel)) rfl (fun _ _ _ _ _ => rfl)
              (t := fun E => tCall (spRead CR) [] E (tCons (tVar 17) tNil)) (fun A' outer' s' H E f c' hr' => pe_call GE (hr'.mono (by decide)) (by rfl) gE kpE bE .nil (passes_call (takes_of rfl rfl rfl rfl) (fun _ _ _ _ h => h)) (pa_cons (pv 17) pa_nil))) pe_str (nomark _)))
            (fun _ _ _ _ _ => pe_int)) (pe_lst pa_nil) (nomark _))))) (pss_one (ps_ret pe_bl)) pss_nil, ?_⟩
  rintro D a0 a2 a5 a6 a8 a9 a10 a12 a13 a14 a15 a16 a17 a18 a19 a20 H d p rw dt bt k i bent tr hi hB hbl hbt st ro fin
  have inT : ∀ x ∈ k, InTab tabL x := fun x hx => okV_T (okW_V (ro.ok x hx))
  have hl := rowW ro.ok ro.h5
  have h5 := ro.h5
  have second : ∀ (v : V) (H1 : Hp) (Qb : Bool → Hp → Prop), St Ps Pi Pl d p H1 → Row k rw dt H1 → (∀ H', St Ps Pi Pl d p H' → Row k rw dt H' → Qb false H') → tTest (tOp (rNeD K) (tLc (iList K (tLst (tCons (tSl (rSlA K) (tVar 4) tNoPart (tPart (tVar 7))) (tCons (tOp (rCatA K) (tVar 4) (tTup (tCons (tC (.int 0)) tNil))) tNil)))) (gName 17) (tTest (tOp (rNeD K) (tRead CR Ps Pi Pl K 17) (tC (.str "RowError")))) (tC (.int 1)) [17]) (tLst tNil)) [a0, some (.ref d), a2, some (.ref rw), some (.ref dt), a5, a6, some (.int (i : Nat)), some v, a9, a10, some (.ref bt), a12, a13, a14, a15, a16, a17, a18, a19, a20] H1 Qb := by
    intro v H1 Qb s1 r1 q
    refine ⟨_, rfl, _, rfl, _, rfl, sl_take r1.dat hi fun H2 c2 e2 h2 => ?_⟩
    have r2 := r1.kt (kt_of e2)
    refine ⟨_, rfl, (by show 1 ≤ sizeLine; decide), fun z hz => ?_⟩
    have e3 : KS.Ex H2 (upd H2 z (.tup [.int 0])) := Ex.upd hz
    have hz3 : (upd H2 z (.tup [.int 0])) z = some (.tup [.int 0]) := upd_same
    generalize upd H2 z (.tup [.int 0]) = H3 at e3 hz3
    refine cat_one (e3 _ _ r2.dat) hz3 (by omega) fun H4 c4 e4 h4 => ⟨(by show 2 ≤ sizeLine; decide), fun l hl4 => ?_⟩
    have h24 := (e3.trans e4) _ _ h2
    have e5 : KS.Ex H4 (upd H4 l (.lst [.ref c2, .ref c4])) := Ex.upd hl4
    have hl5 : (upd H4 l (.lst [.ref c2, .ref c4])) l = some (.lst ([c2, c4].map V.ref)) := upd_same
    have e15 := ((e2.trans e3).trans e4).trans e5
    have s5 := s1.ex e15
    have r5 := r1.kt (kt_of e15)
    have h25 := e5 _ _ h24
    have h45 := e5 _ _ h4
    generalize upd H4 l (.lst [.ref c2, .ref c4]) = H5 at hl5 s5 r5 h25 h45
    refine ⟨l, rfl, ⟨_, SqL.of hl5⟩, fun L hL => ?_⟩
    have e6 : KS.Ex H5 (upd H5 L (.lst [])) := Ex.upd hL
    have bk : ∀ x ∈ rowL tabL k ++ [0], 0 ≤ x ∧ x < 256 := bytes_app (rowB inT) fun x hx => by rw [List.mem_singleton.mp hx]; decide
    refine lc_it walk_list (fun j H' => ExtN H5 H' ∧ St Ps Pi Pl d p H' ∧ H' L = some (.lst [])) ⟨ExtN.of e6, s5.ex e6, upd_same⟩ (fun j H' _ h => SqL.of (h.1 _ _ hl5 (fun _ z => nomatch z))) ?_ ?_
    · rintro j x H6 H7 hj ⟨x6, s6, h6⟩ ⟨rfl, hx⟩
      rw [List.getElem?_map] at hx
      obtain ⟨c, hc, rfl⟩ := Option.map_eq_some_iff.mp hx
      have hcb : ∃ dat : List Int, H7 c = some (.tup (dat.map V.int)) ∧ Bytes dat ∧ dat.length ≤ 1000 ∧ allRow dat = none := by
        have hc := List.mem_of_getElem? hc
        simp only [List.mem_cons, List.not_mem_nil, or_false] at hc
        rcases hc with rfl | rfl
        · exact ⟨_, x6 _ _ h25 (fun _ z => nomatch z), fun x hx => rowB inT x (List.mem_of_mem_take hx), by rw [List.length_take]; omega, cut_row inT (by omega) hi⟩
        · exact ⟨_, x6 _ _ h45 (fun _ z => nomatch z), bk, by rw [List.length_append]; show _ + 1 ≤ _; omega, long_row inT (by omega) 0⟩
      obtain ⟨dat, hd, hdb, hdl, hdn⟩ := hcb
      refine ⟨rfl, told_read ve.J s6 rfl hd hdb hdl (fun _ H8 s8 e8 => ?_) fun k' hk' => by rw [hdn] at hk'; cases hk'⟩
      refine ne_errs (K := K) ⟨_, rfl, ?_⟩
      exact ifF (by decide) ⟨x6.trans e8, s8, e8 _ _ h6 (fun _ z => nomatch z)⟩
    · rintro H6 ⟨x6, s6, h6⟩
      refine ⟨(by show 0 ≤ sizeLine; decide), fun l2 hl2 => ?_⟩
      have e7 : KS.Ex H6 (upd H6 l2 (.lst [])) := Ex.upd hl2
      refine ne_nils (e7 _ _ h6) upd_same ⟨_, rfl, ?_⟩
      exact q _ (s6.ex e7) ((r5.kt fun b xs h => x6 _ _ h (fun _ z => nomatch z)).kt (kt_of e7))
  have last : ∀ (v : V) (H1 : Hp), St Ps Pi Pl d p H1 → Row k rw dt H1 → tr D [a0, some (.ref d), a2, some (.ref rw), some (.ref dt), a5, a6, some (.int (i : Nat)), some v, a9, a10, some (.ref bt), a12, a13, a14, a15, a16, a17, a18, a19, a20] H1 := fun v H1 s1 r1 => fin _ H1 ⟨_, _, _, _, _, _, _, _, _, _, _, _, _, _, _, _, _, _, rfl⟩ s1 r1
  refine told_read ve.J st rfl hbt hB (by omega) (fun hn H1 s1 e1 => ?_) fun k' hk' H1 q' s1 e1 hq' => ?_
  · have r1 := ro.kt fun b xs h => e1 _ _ h (fun _ z => nomatch z)
    refine ⟨_, rfl, ?_⟩
    refine ne_errs (K := K) ⟨_, rfl, ?_⟩
    refine ifF (by decide) (ifF (by decide) ?_)
    refine second _ H1 _ s1 r1 fun H2 s2 r2 => ?_
    exact ifF (by decide) (last _ H2 s2 r2)
  · have r1 := ro.kt fun b xs h => e1 _ _ h (fun _ z => nomatch z)
    have hbt1 := e1 _ _ hbt (fun _ z => nomatch z)
    obtain ⟨k1, k2, k3, k4⟩ := read_back hB hbl hk'
    refine ⟨_, rfl, rD k', .str "RowError", dp_r K hq', .str _, shaped_r k2, sh_err, _, rfl, ?_⟩
    refine ifT rfl ⟨_, rfl, lbytes_step hq' k3 (by omega) fun H2 b e2 hb => ⟨_, rfl, _, _, dp_i hb, dp_i (e2 _ _ hbt1), shaped_i _, shaped_i _, _, rfl, ?_⟩⟩
    rw [eqv_i]
    refine ifF (by simp [← k4]) ?_
    refine second _ H2 _ (s1.ex e2) (r1.kt (kt_of e2)) fun H3 s3 r3 => ?_
    exact ifF (by decide) (last _ H3 s3 r3)
end
end KO1
set_option Elab.async false
set_option linter.all false
set_option maxRecDepth 100000
set_option maxHeartbeats 4000000
namespace KO1
open PySem PySem.Spec PyProof.Rows L2 KB KC KS KN1 LamX K7
theorem RdA.exN {CB r p : Addr} {dat : List Int} {i : Nat} {H H' : Hp} (x : RdA CB r p dat i H) (e : ExtN H H') : RdA CB r p dat i H' := by
  obtain ⟨⟨dx, h1⟩, h2, h3⟩ := x
  exact ⟨⟨dx, e _ _ h1 (fun _ z => nomatch z)⟩, e _ _ h2 (fun _ z => nomatch z), h3⟩
theorem RdA.kt {CB r p : Addr} {dat : List Int} {i : Nat} {H H' : Hp} (x : RdA CB r p dat i H) (e : ExD r H H') : KT' H H' := fun b xs h => e b _ (fun z => by
  obtain ⟨⟨dx, h1⟩, _⟩ := x
  rw [z, h1] at h; cases h) h
theorem ne_row {K : PySem.W.Frag} {σ : L2.St} {i : Nat} {H : Hp} {Q : VK} {a b : Addr} {k : List Key} (inT : ∀ x ∈ k, InTab tabL x) (ha : H a = some (.tup (k.map kV))) (hi : σ[i]? = some (some (.ref b))) (hb : H b = some (.tup (k.map kV))) (q : Q (.bl false) H) : tVar i σ H fun y H2 => rNeD K (.ref a) y H2 Q := by
  refine ⟨.ref b, hi, rD k, rD k, dp_r K ha, dp_r K hb, shaped_r inT, shaped_r inT, ?_⟩
  rw [eqv_r, decide_eq_true rfl]
  exact q
section
variable {P : Program} {w : World} {K : PySem.W.Frag} {mg : Str → Option Value} {base : Heap} {CB CS CR Ps Pi Pl cL fTo fL : Addr} {fdTo : FuncData} {A : Around} {outer : List PySem.Env} {s : Shared} {H0 : Hp} {E0' : XK}
theorem g_twice (ve : LawE P w K mg base CB CS CR Ps Pi Pl cL fTo fdTo) (hr : Room 12 (xLaw P w K mg base fL cL A outer s H0 E0').A) :
    ∃ t0 t1, PS (xLaw P w K mg base fL cL A outer s H0 E0') (mS 9) t0 ∧ PS (xLaw P w K mg base fL cL A outer s H0 E0') (mS 10) t1 ∧ ∀ (D : Ends) (σ : L2.St) (H : Hp) (d p rw dt : Addr) (k : List Key) (tr : TS), Sr d rw dt σ → St Ps Pi Pl d p H → Row k rw dt H →
      (∀ (σ' : L2.St) (H' : Hp), Sr d rw dt σ' → St Ps Pi Pl d p H' → Row k rw dt H' → tr D σ' H') → tSeq t0 (tSeq t1 tr) D σ H := by
  have hu := hr.units
  obtain ⟨fI, fdI, GI, MI, bI⟩ := ve.binit
  obtain ⟨fR, fdR, GR, mR, bR⟩ := ve.rrow
  obtain ⟨fY, fdY, GY, mY, bY⟩ := ve.byte
  refine ⟨_, _, ps_set (i := 13) scLaw.nd rfl (Or.inr rfl) (pe_make MI GI (hr.mono (by decide)) (by rfl) ve.B.g bI .nil pass0 (pa_cons (pe_op op_catA (pv 4) (pv 4)) pa_nil)),
    ps_if (PW.pt (pw_or (pt_cmpR (op_neD hu) (pe_meth0 (pv 13) ve.B.cl mR GR (hr.mono (by decide)) bR (E := fun _ _ _ => False) .nil (passes_call L2.takes0 (fun _ _ _ _ h => h))) (pv 3) (nomark _))
        (pw_or (pt_cmpR (op_neD hu) (pe_meth0 (pv 13) ve.B.cl mR GR (hr.mono (by decide)) bR (E := fun _ _ _ => False) .nil (passes_call L2.takes0 (fun _ _ _ _ h => h))) (pv 3) (nomark _))
        (pw_or1 (pt_cmpR (op_neD hu) (lam_told (X := xLaw P w K mg base fL cL A outer s H0 E0') ve hr qLaw rfl (by rfl) (lamS_by (by show lamSB (defScope sLaw) _ = true; decide +kernel)) rfl (fun _ _ _ _ _ => rfl)
          (t := fun E => tMeth CB "byte" (spP CB CR pB RI) [] E (tVar 13) tNil) (fun A' outer' s' H E f c' hr' => pe_meth0 (pv 13) ve.B.cl mY GY (hr'.mono (by decide)) bY .nil (passes_call (takes_of rfl rfl rfl rfl) (fun _ _ _ _ h => h)))) pe_str (nomark _)))))) (pss_one (ps_ret pe_bl)) pss_nil, ?_⟩
  rintro D σ H d p rw dt k tr ⟨a0, a2, a5, a6, a7, a8, a9, a10, a11, a12, a13, a14, a15, a16, a17, a18, a19, a20, rfl⟩ st ro fin
  have inT : ∀ x ∈ k, InTab tabL x := fun x hx => okV_T (okW_V (ro.ok x hx))
  have hl := rowW ro.ok ro.h5
  have h5 := ro.h5
  refine ⟨_, rfl, _, rfl, cat_two ro.dat ro.dat (by omega) fun H1 c1 e1 h1 => ?_⟩
  have s1 := st.ex e1
  have r1 := ro.kt (kt_of e1)
  refine fun r dx hr0 hdx nr => ?_
  have e2 : KS.Ex H1 (upd (upd H1 dx (.own r)) r (.ins CB dx [])) := (Ex.upd hdx).trans (Ex.upd (by rw [L2.upd_ne nr.symm]; exact hr0))
  have hr2 : (upd (upd H1 dx (.own r)) r (.ins CB dx [])) r = some (.ins CB dx []) := upd_same
  show spBInit CB [.ref r, .ref c1] _ _ _
  generalize upd (upd H1 dx (.own r)) r (.ins CB dx []) = H2 at e2 hr2
  have s2 := s1.ex e2
  have r2 := r1.kt (kt_of e2)
  refine binit_step hr2 (e2 _ _ h1) fun H3 e3 x3 => ⟨rfl, ?_⟩
  have s3 := s2.exI hr2 e3
  have r3 := r2.kt fun b xs h => e3 b _ (fun z => by rw [z, hr2] at h; cases h) h
  have hB : Bytes (rowL tabL k ++ rowL tabL k) := bytes_app (rowB inT) (rowB inT)
  have hln : (rowL tabL k ++ rowL tabL k).length ≤ 1000 := by rw [List.length_append]; omega
  obtain ⟨⟨dx3, g1⟩, g2, g3⟩ := id x3
  refine ⟨_, rfl, r, dx3, _, rfl, g1, bF_m (by decide +kernel) (by decide +kernel), rd_step x3 hB hln (fun hn => ?_) fun ka rest hn H4 j q e4 x4 hj hq => ?_⟩
  · rw [List.drop_zero, pRow_enc tabL _ inT (by omega)] at hn
    cases hn
  rw [List.drop_zero, pRow_enc tabL _ inT (by omega)] at hn
  cases hn
  have s4 := s3.exI g1 e4
  have r4 := r3.kt (x3.kt e4)
  refine ne_row (K := K) (i := 3) inT hq rfl r4.row ⟨_, rfl, ifF (by decide) ?_⟩
  obtain ⟨⟨dx4, k1⟩, k2, k3⟩ := id x4
  have enc := pRow_enc tabL [] inT (by omega)
  rw [List.append_nil] at enc
  refine ⟨_, rfl, r, dx4, _, rfl, k1, bF_m (by decide +kernel) (by decide +kernel), rd_step x4 hB hln (fun hn => ?_) fun ka rest hn H5 j5 q5 e5 x5 hj5 hq5 => ?_⟩
  · rw [hj, enc] at hn
    cases hn
  rw [hj, enc] at hn
  cases hn
  have s5 := s4.exI k1 e5
  have r5 := r4.kt (x4.kt e5)
  refine ne_row (K := K) (i := 3) inT hq5 rfl r5.row ⟨_, rfl, ifF (by decide) ?_⟩
  refine ⟨s5.tabs, fun H6 e6 t6 => ?_⟩
  have s6 := s5.exN e6 t6
  have x6 := x5.exN e6
  have r6 := r5.kt fun b xs h => e6 _ _ h (fun _ z => nomatch z)
  obtain ⟨⟨dx6, m1⟩, m2, m3⟩ := id x6
  refine ⟨.ref r, rfl, r, dx6, _, rfl, m1, bF_m (by decide +kernel) (by decide +kernel), byte_step x6 hB hln (fun _ H7 j7 e7 x7 => ⟨true, ve.J.e, fun _ => ?_, fun z => nomatch z⟩) fun b rest hn => by rw [hj5] at hn; cases hn⟩
  have s7 := s6.exI m1 e7
  have r7 := r6.kt (x6.kt e7)
  refine ne_errs (K := K) ⟨_, rfl, ifF (by decide) ?_⟩
  exact fin _ H7 ⟨_, _, _, _, _, _, _, _, _, _, _, _, _, _, _, _, _, _, rfl⟩ s7 r7
end
end KO1
set_option Elab.async false
set_option linter.all false
set_option maxRecDepth 100000
set_option maxHeartbeats 2000000
namespace PySem
theorem meets_enum1 {v : Value} {o : Obj} {H : Heap → Prop} (B : Begins v o H) :
    Meets (Builtin.«enumerate.__new__» ⟨[.type "enumerate", v], []⟩) (fun _ R s => H s.heap ∧
      R (.ok (.ret (.ref (s.heap.push o).objs.size))) { s with heap := (s.heap.push o).push { cls := .type "enumerate", data := .fields #[.none, .bool false, .ref s.heap.objs.size, rawInt 0, .none, .none] } }) :=
  .of_wp fun prog w A R s h => by
    obtain ⟨hp, g, d, tk, os⟩ := s; obtain ⟨hH, hR⟩ := h
    have sub := sub_enumerate
    have go : ∀ {A' : Around} {E : Value → Shared → Prop} {Q : Value → Shared → Prop}, Q (.ref hp.objs.size) ⟨hp.push o, g, d, tk, os⟩ → wpAny (model prog w) A' (pyIter v) Q E ⟨hp, g, d, tk, os⟩ :=
      fun q => B.iter prog w _ _ ⟨hp, g, d, tk, os⟩ _ hH q
    wp_walk using go
    refine wpAny_stack_any fun st => wpAny_pure ?_
    split
    · rename_i c _ _ _ _ _
      cases (c == Value.type "enumerate") <;> (wp_walk using go; exact ⟨_, rfl, hR⟩)
    · wp_walk using go
      exact ⟨_, rfl, hR⟩
section
variable {prog : Program} {w : World} {A : Around} {E : Value → Shared → Prop} {s : Shared}
theorem call_enum1 {v : Value} {o : Obj} {H : Heap → Prop} {Q : Value → Shared → Prop} (B : Begins v o H) (hH : H s.heap)
    (h : ∀ h', IsEnum h' (s.heap.objs.size + 1) s.heap.objs.size 0 .none → h'.get? s.heap.objs.size = some o → h'.objs.size = s.heap.objs.size + 2 →
      (∀ b u, s.heap.get? b = some u → h'.get? b = some u) → Q (.ref (s.heap.objs.size + 1)) { s with heap := h' }) :
    wpAny (model prog w) A (call (.type "enumerate") [v]) Q E s := by
  refine callType_new F.called_enumerate (by decide) (F.typeCall_enumerate_1 _) (F.newCall_enumerate_1 _) (fun obj => F.args_object_init_2 obj _) F.entry_enumerate_new (meets_enum1 B) ⟨hH, ?_⟩
  have hz : (s.heap.push o).objs.size = s.heap.objs.size + 1 := Heap.size_push ..
  have he := Heap.get?_push_size (s.heap.push o) (o := { cls := .type "enumerate", data := .fields #[.none, .bool false, .ref s.heap.objs.size, rawInt 0, .none, .none] }) rfl
  show _ ∧ _
  rw [hz] at he ⊢
  exact ⟨⟨_, he, rfl⟩, h _ he (Heap.get?_push_of_some _ (Heap.get?_push_size _ B.free)) (by rw [Heap.size_push, hz]) fun b u x => Heap.get?_push_of_some _ (Heap.get?_push_of_some _ x)⟩
end
end PySem
namespace EN
open PySem PySem.Spec PyProof.Rows L2
def IteT (K : PySem.W.Frag) (a : Addr) : It :=
  ⟨fun i H => ∃ (xs : List V) (x : V), SqT K H a xs ∧ xs[i]? = some x, fun i H v H' => ∃ T x, v = .ref T ∧ H T = none ∧ H' = upd H T (.tup [.int (i : Nat), x]) ∧ ∀ xs, SqT K H a xs → xs[i]? = some x, fun i H => ∃ xs : List V, SqT K H a xs ∧ xs.length = i⟩
theorem turn_enumT {P : Program} {w : World} {K : PySem.W.Frag} {elts : List Expr} {kk : Nat} {tpos : Pos} (a e it : Addr) :
    Turn P w K (.Tuple elts kk tpos) (IteT K a) [e, it] e (fun i h => (∃ old, IsEnum h e it ((i : Nat) : Int) old) ∧ h.IsTupleIter it a i ∧ e ≠ it ∧ a ≠ e ∧ a ≠ it) where
  mem := by simp
  obj := fun i h st b hb => by
    obtain ⟨⟨old, he⟩, ⟨o, ho, hc, hd⟩, _⟩ := st
    rcases (by simpa using hb : b = e ∨ b = it) with z | z
    · rw [z]; exact ⟨_, he, fun v q => nomatch q⟩
    · rw [z]; exact ⟨o, ho, fun v q => by rw [hd] at q; cases q⟩
  keep := fun i h h' ⟨⟨old, he⟩, hi, hne⟩ k => ⟨⟨old, k e (by simp) _ he⟩, hi.at fun o q => k it (by simp) o q, hne⟩
  item := by
    intro X hP hw hK hc i pins s σ H E I hf st hg
    subst hP hw hK
    obtain ⟨⟨old, he⟩, hit, n1, n2, n3⟩ := st
    obtain ⟨xs, x, hq, hx⟩ := hg
    obtain ⟨its, rv, p, hz⟩ := I.tuple hq
    obtain ⟨u, hu, ru⟩ := rv.get hx
    have hl := Heap.lt_size he
    have hl2 : it < s.heap.objs.size := by obtain ⟨_, q, _⟩ := hit; exact Heap.lt_size q
    have D := Draws.tuple (prog := X.prog) (w := X.w) (A := X.A.in1) (show X.A.in1.handled = none from I.ok.hd hc) it a n3 its.toArray
    have hlt : i < its.toArray.size := by
      obtain ⟨h1, _⟩ := List.getElem?_eq_some_iff.mp hu
      simpa using h1
    refine wpAny_pyNext_enum_itemD D he ⟨hit, p⟩ hlt n1 (by simp [n1, n2.symm]) fun x' h' tk hP ho hs' hT hsz hk => ?_
    have ex : x' = u := by
      have hP : its.toArray[i]? = some x' := hP
      rw [List.getElem?_toArray, hu] at hP
      exact (Option.some.inj hP).symm
    subst ex
    refine ⟨_, rfl, wpAny_letOwnedTupleGo_enum (s := { s with heap := h', toks := tk + 1 }) ho fun h'' he' sb => ?_⟩
    have hT2 : h''.get? s.heap.objs.size = some { cls := .type "tuple", data := .seq #[.int i tk, x'] } := (sb.2 _ (Nat.ne_of_gt hl)).trans hT
    have new : ObjOk X.prog X.w (upd H s.heap.objs.size (.tup [.int (i : Nat), x])) h'' s.heap.objs.size (.tup [.int (i : Nat), x]) :=
      ⟨by show 2 ≤ sizeLine; decide, [.int i tk, x'], .cons ⟨_, rfl⟩ (.cons ru .nil), ⟨_, hT2, rfl, _, rfl⟩⟩
    have I1 : Inv X pins σ (upd H s.heap.objs.size (.tup [.int (i : Nat), x])) { s with heap := h'', toks := tk + 1 } :=
      I.turnedNew (ch := [e, it]) (fun b ob hb q => (sb.2 b (fun z => hb (by simp [z]))).trans (hk b ob (fun z => hb (by simp [z])) (fun z => hb (by simp [z])) q)) hf (Nat.le_refl _) new
    refine ⟨.ref s.heap.objs.size, _, I1, rfl, ⟨_, x, rfl, I.hok.fresh (Nat.le_refl _), rfl, fun ys hy => ?_⟩, ⟨⟨x', ?_⟩, hs'.1.at fun o q => (sb.2 it n1.symm).trans q, n1, n2, n3⟩, fun b hb => ?_⟩
    · rw [I.tuple_inj hy hq]; exact hx
    · have e1 : ((i + 1 : Nat) : Int) = (i : Int) + 1 := by omega
      rw [e1]; exact he'
    · have hb' : b < s.heap.objs.size := by
        rcases (by simpa using hb : b = e ∨ b = it) with z | z
        · rw [z]; exact hl
        · rw [z]; exact hl2
      rw [upd_ne (Nat.ne_of_lt hb')]
      exact (hf b hb).1
  done := by
    intro X hP hw hK hc i pins s σ H E I hf st hg
    subst hP hw hK
    obtain ⟨⟨old, he⟩, hit, n1, n2, n3⟩ := st
    obtain ⟨xs, hq, hx⟩ := hg
    obtain ⟨its, rv, p, hz⟩ := I.tuple hq
    obtain ⟨f0, f1, f2, f3, f4, f5⟩ := hf it (by simp)
    have hl := rv.length
    have D := Draws.tuple (prog := X.prog) (w := X.w) (A := X.A.in1) (show X.A.in1.handled = none from I.ok.hd hc) it a n3 its.toArray
    have hi : i = its.toArray.size := by
      rw [List.size_toArray]
      omega
    subst hi
    exact wpAny_pyNext_enum_endD D he ⟨hit, p⟩ fun h' eb => ⟨rfl, I.turned (t' := s.toks) (fun b o hb q => eb b o hb q) f0 f1 f3 f4 f5⟩
  self := fun A i s Q E ⟨⟨_, he⟩, _⟩ h => wpAny_pyIter_enum he h
def iEnumT (K : PySem.W.Frag) (ta : TA) : TI := fun σ H R => ta σ H fun vs H1 => ∃ a xs, vs = [.ref a] ∧ SqT K H1 a xs ∧ R (IteT K a) H1
theorem pi_enumT {X : Cx} {e : Expr} {ta : TA} {p pos tpos : Pos} {elts : List Expr} {kk : Nat} (hg : Gl X "enumerate") (hm : X.mg "enumerate" = none) (ha : PA X [e] ta) (hs : starEach [e] X.env = [(false, eval e X.env)] := by rfl) :
    PI X (.Tuple elts kk tpos) (.Call (.Name "enumerate" p) [e] [] pos) (iEnumT X.K ta) := by
  refine ⟨fun pins s σ H R I h => ?_⟩
  refine Call_ (ld_blt I hg hm boot_enumerate (PyProof.Rows.callWith_type1 (thn (ha.run pos pins s σ H _ I h) fun us s1 ⟨vs, H1, I1, r1, a, xs, ex, hq, q⟩ => ?_) hs rfl))
  subst ex
  cases r1 with
  | cons r rr =>
    cases rr
    cases r
    obtain ⟨its, rv, p', hz⟩ := I1.tuple hq
    have hl : a < s1.heap.objs.size := by obtain ⟨o, ho, _⟩ := p'; exact Heap.lt_size ho
    refine call_enum1 (begins_tuple a its.toArray) p' fun h' he hit hsz hk => wpAny_pyIter_enum he ?_
    have I2 : Inv X pins σ H1 { s1 with heap := h' } := I1.kept (t' := s1.toks) hk
    refine ⟨s1.heap.objs.size + 1, [s1.heap.objs.size + 1, s1.heap.objs.size], _, _, H1, rfl, I2, turn_enumT a (s1.heap.objs.size + 1) s1.heap.objs.size, ⟨⟨.none, he⟩, ⟨_, hit, rfl, rfl⟩, Nat.succ_ne_self _, Nat.ne_of_lt (Nat.lt_succ_of_lt hl), Nat.ne_of_lt hl⟩, fun b hb => ?_, q⟩
    have hle : s1.heap.objs.size ≤ b := by
      rcases (by simpa using hb : b = s1.heap.objs.size + 1 ∨ b = s1.heap.objs.size) with z | z
      · rw [z]; exact Nat.le_add_right _ _
      · rw [z]; exact Nat.le_refl _
    exact I1.fpOk hle (I1.hok.fresh hle)
theorem walk_enumT {K : PySem.W.Frag} {a : Addr} {xs : List V} : Walk (IteT K a) xs.length (fun H => SqT K H a xs) (YPair (fun i => some (.int (i : Nat))) (fun i => xs[i]?)) := by
  refine ⟨fun i _ hi q => ⟨xs, xs[i], q, by simp [hi]⟩, fun _ q => ⟨xs, q, rfl⟩, fun i H v H' _ q y => ?_⟩
  obtain ⟨T, x, h1, h2, h3, h4⟩ := y
  exact ⟨T, .int (i : Nat), x, h1, h2, h3, rfl, h4 xs q⟩
end EN
set_option Elab.async false
set_option linter.all false
set_option maxRecDepth 100000
set_option maxHeartbeats 4000000
namespace KO1
open PySem PySem.Spec PyProof.Rows L2 KB KC KS KN1 LamX K7
def kS : Key → Str
  | .inl _ => "int"
  | .inr _ => "text"
def oth : Key → Key
  | .inl _ => .inr "x"
  | .inr _ => .inl 1
def cN (i : Nat) : Str := Str.ofString "c" ++ Str.ofString (toString ((i : Nat) : Int))
def colsOf (k : List Key) : Co := k.zipIdx.map fun e => (cN e.2, kS e.1)
theorem cols_len (k : List Key) : (colsOf k).length = k.length := by unfold colsOf; rw [List.length_map, List.length_zipIdx]
theorem cols_snd (k : List Key) : (colsOf k).map (fun x => x.2) = k.map kS := by
  unfold colsOf
  rw [List.map_map]
  have := congrArg (List.map kS) (List.zipIdx_map_fst 0 k)
  rw [List.map_map] at this
  exact this
theorem cols_fst (k : List Key) : (colsOf k).map (fun x => x.1) = (List.range k.length).map cN := by
  have e : (colsOf k).map (fun x => x.1) = k.zipIdx.map (cN ∘ Prod.snd) := by
    unfold colsOf
    rw [List.map_map]
    rfl
  have := congrArg (List.map cN) (List.zipIdx_map_snd 0 k)
  rw [List.map_map, List.range'_eq_map_range] at this
  rw [e, this]
  simp
theorem names_nd : ∀ n ≤ 5, ((List.range n).map cN).Nodup := by decide +kernel
theorem names_ix : ∀ n ≤ 5, ∀ i < n, ((List.range n).map cN).findIdx? (fun x => decide (x = cN i)) = some i := by decide +kernel
theorem names_len : ∀ i < 5, (cN i).length ≤ 900 := by decide +kernel
theorem names_ne : ∀ i < 5, (cN i == ("" : Str)) = false := by decide +kernel
theorem cols_place {k : List Key} (h : k.length ≤ 5) {i : Nat} (hi : i < k.length) : placeIn (colsOf k) (cN i) = some i := by
  unfold placeIn
  have := names_ix k.length h i hi
  rw [← cols_fst, List.findIdx?_map] at this
  exact this
theorem kS_kind (x : Key) : kS x = "int" ∨ kS x = "text" := by cases x <;> simp [kS]
theorem cols_kind (k : List Key) : ∀ x ∈ colsOf k, x.2 = "int" ∨ x.2 = "text" := fun x hx => by
  have : x.2 ∈ (colsOf k).map (fun x => x.2) := List.mem_map.mpr ⟨x, hx, rfl⟩
  rw [cols_snd] at this
  obtain ⟨y, _, e⟩ := List.mem_map.mp this
  rw [← e]
  exact kS_kind y
theorem cols_good {k : List Key} (h : k.length ≤ 5) : goodS (colsOf k) := by
  refine ⟨by rw [cols_len]; omega, by rw [cols_fst]; exact names_nd _ h, ?_⟩
  rw [List.any_eq_false]
  intro x hx
  have h1 : x.1 ∈ (colsOf k).map (fun x => x.1) := List.mem_map.mpr ⟨x, hx, rfl⟩
  rw [cols_fst] at h1
  obtain ⟨i, hi, e⟩ := List.mem_map.mp h1
  have hi := List.mem_range.mp hi
  unfold badCol
  rw [← e, names_ne i (by omega), Bool.false_or, Bool.not_eq_true']
  rcases cols_kind k x hx with z | z <;> rw [z] <;> decide +kernel
theorem kd_k {x : Key} (h : InTab tabL x) : kd (kV x) = some (kS x) := by
  cases x with
  | inl i => rfl
  | inr s =>
    have b : badT s = false := by
      unfold badT
      rw [Bool.eq_false_iff]
      intro z
      rw [List.any_eq_true] at z
      obtain ⟨c, hc, hn⟩ := z
      have : c ∈ ltrs.cps.toList := h c hc
      simp [this] at hn
    show (if badT s = true then none else some (Str.ofString "text")) = _
    rw [b]; rfl
theorem oth_in (x : Key) : InTab tabL (oth x) := by
  cases x with
  | inl i =>
    show ∀ c ∈ (Str.ofString "x").cps.toList, c ∈ tabL
    decide +kernel
  | inr s => trivial
theorem kS_oth (x : Key) : kS (oth x) ≠ kS x := by
  cases x
  · show (Str.ofString "text") ≠ Str.ofString "int"
    decide
  · show (Str.ofString "int") ≠ Str.ofString "text"
    decide
theorem kd_row {k : List Key} (h : ∀ x ∈ k, InTab tabL x) : (k.map kV).map kd = kindsOf (colsOf k) := by
  unfold kindsOf
  rw [show (fun x : Str × Str => some x.2) = some ∘ (fun x : Str × Str => x.2) from rfl, ← List.map_map, cols_snd, List.map_map, List.map_map]
  exact List.map_congr_left fun x hx => kd_k (h x hx)
theorem kd_oth {k : List Key} (h0 : k ≠ []) : ((k.map oth).map kV).map kd ≠ kindsOf (colsOf k) := by
  unfold kindsOf
  rw [show (fun x : Str × Str => some x.2) = some ∘ (fun x : Str × Str => x.2) from rfl, ← List.map_map, cols_snd, List.map_map, List.map_map, List.map_map]
  intro z
  cases k with
  | nil => exact h0 rfl
  | cons x r =>
    have z := (List.cons.inj z).1
    have z : kd (kV (oth x)) = some (kS x) := z
    rw [kd_k (oth_in x)] at z
    exact kS_oth x (Option.some.inj z)
theorem rowy_k (k : List Key) : ∀ v ∈ k.map kV, Rowy v := fun v hv => by
  obtain ⟨x, _, rfl⟩ := List.mem_map.mp hv
  cases x <;> trivial
theorem paired_eq {β : Type} {f : β → V} : ∀ {xs : List V} {ys : List β}, Paired (fun v b => v = f b) xs ys → xs = ys.map f
  | _, _, .nil => rfl
  | _, _, .cons h r => by rw [List.map_cons, ← paired_eq r, h]
def RCol : Hp → V → Str × Str → Prop := fun H v x => ∃ t, v = .ref t ∧ H t = some (.tup [.str x.1, .str x.2])
theorem RCol.stab : ∀ (H H' : Hp) (v : V) (x : Str × Str), KT' H H' → RCol H v x → RCol H' v x := fun H H' v x e ⟨t, h1, h2⟩ => ⟨t, h1, e _ _ h2⟩
theorem cols_of {H : Hp} : ∀ {xs : List V} {cs : Co}, Paired (RCol H) xs cs → ∃ ts : List Addr, xs = ts.map V.ref ∧ Cols H ts cs
  | _, _, .nil => ⟨[], rfl, .nil⟩
  | _, _, .cons ⟨t, h1, h2⟩ r => by
    obtain ⟨ts, e, c⟩ := cols_of r
    exact ⟨t :: ts, by rw [h1, e]; rfl, .cons h2 c⟩
theorem ShA.exN {CS c : Addr} {cols : Co} {H H' : Hp} (x : ShA CS c cols H) (e : ExtN H H') : ShA CS c cols H' := by
  obtain ⟨dx, t, d, ts, kvs, h1, h2, h3, h4, h5⟩ := x
  exact ⟨dx, t, d, ts, kvs, e _ _ h1 (by intro _ z; cases z), e _ _ h2 (by intro _ z; cases z), paired_mono (fun t x q => e _ _ q (by intro _ z; cases z)) h3, e _ _ h4 (by intro _ z; cases z), h5⟩
theorem ShA.ins {CS c : Addr} {cols : Co} {H : Hp} (x : ShA CS c cols H) : ∃ dx t d, H c = some (.ins CS dx (sF t d)) := by
  obtain ⟨dx, t, d, ts, kvs, h1, _⟩ := x
  exact ⟨dx, t, d, h1⟩
theorem sF_m {t d : Addr} {x : Str} (h1 : (x == ("columns" : Str)) = false) (h2 : (x == ("places" : Str)) = false) : (sF t d).lookup x = none := by
  simp only [sF, List.lookup, h1, h2]
theorem sinit_step {CS CR Pi c dx a : Addr} {ts : List Addr} {cols : Co} {H : Hp} {Q : VK} {E : XK} (h1 : H c = some (.ins CS dx [])) (h2 : H a = some (.lst (ts.map V.ref))) (h3 : Cols H ts cols) (hl : cols.length ≤ 1000) (t : TabS H Pi qSh)
    (bad : ¬ goodS cols → ∀ H', ExB c Pi H H' → TabS H' Pi qSh → E (.ref CR) none H') (good : goodS cols → ∀ H', ExB c Pi H H' → TabS H' Pi qSh → ShA CS c cols H' → Q .non H') : spSInit CS CR Pi [.ref c, .ref a] H Q E := by
  unfold spSInit
  exact ⟨c, dx, a, ts, cols, rfl, h1, h2, h3, hl, t, bad, good⟩
theorem check_step {CS CR Ps c r : Addr} {cols : Co} {xs : List V} {H : Hp} {Q : VK} {E : XK} (x : ShA CS c cols H) (hl : cols.length ≤ 20) (hk : ∀ x ∈ cols, x.2 = "int" ∨ x.2 = "text") (t : TabS H Ps qK) (hr : H r = some (.tup xs)) (ry : ∀ v ∈ xs, Rowy v) (hx : xs.length ≤ 1000)
    (bad : xs.map kd ≠ kindsOf cols → ∀ H', Tb Ps H H' → E (.ref CR) none H') (good : xs.map kd = kindsOf cols → ∀ H', Tb Ps H H' → Q (.ref r) H') : spCheck CS CR Ps [.ref c, .ref r] H Q E := by
  unfold spCheck
  exact ⟨c, r, cols, rfl, x, hl, hk, t, .inr ⟨xs, hr, ry, hx, bad, good⟩⟩
theorem check_lst {CS CR Ps c r : Addr} {cols : Co} {xs : List V} {H : Hp} {Q : VK} {E : XK} (x : ShA CS c cols H) (hl : cols.length ≤ 20) (hk : ∀ x ∈ cols, x.2 = "int" ∨ x.2 = "text") (t : TabS H Ps qK) (hr : H r = some (.lst xs)) (bad : E (.ref CR) none H) : spCheck CS CR Ps [.ref c, .ref r] H Q E := by
  unfold spCheck
  exact ⟨c, r, cols, rfl, x, hl, hk, t, .inl ⟨⟨xs, hr⟩, bad⟩⟩
end KO1
set_option Elab.async false
set_option linter.all false
set_option maxRecDepth 100000
set_option maxHeartbeats 4000000
namespace KO1
open PySem PySem.Spec PyProof.Rows L2 KB KC KS KN1 LamX K7
theorem names_sum : ∀ i < 5, (Str.ofString "c").length + (Str.ofString (toString ((i : Nat) : Int))).length ≤ 100 := by decide +kernel
section
variable {P : Program} {w : World} {K : PySem.W.Frag} {mg : Str → Option Value} {base : Heap} {CB CS CR Ps Pi Pl cL fTo fL : Addr} {fdTo : FuncData} {A : Around} {outer : List PySem.Env} {s : Shared} {H0 : Hp} {E0' : XK}
theorem g_shape (ve : LawE P w K mg base CB CS CR Ps Pi Pl cL fTo fdTo) (hr : Room 12 (xLaw P w K mg base fL cL A outer s H0 E0').A) :
    ∃ t0 t1 t2, PS (xLaw P w K mg base fL cL A outer s H0 E0') (mS 11) t0 ∧ PS (xLaw P w K mg base fL cL A outer s H0 E0') (mS 12) t1 ∧ PS (xLaw P w K mg base fL cL A outer s H0 E0') (mS 13) t2 ∧ ∀ (D : Ends) (σ : L2.St) (H : Hp) (d p rw dt : Addr) (k : List Key) (tr : TS), Sr d rw dt σ → St Ps Pi Pl d p H → Row k rw dt H →
      (∀ (a0 a2 a4 a5 a6 a7 a8 a10 a11 a13 a15 a16 a17 a18 a19 a20 : Option V) (H' : Hp) (kt c ot : Addr), St Ps Pi Pl d p H' → Row k rw dt H' → H' kt = some (.tup ((k.map kS).map V.str)) → ShA CS c (colsOf k) H' → H' ot = some (.tup ((k.map oth).map kV)) →
        tr D [a0, some (.ref d), a2, some (.ref rw), a4, a5, a6, a7, a8, some (.ref kt), a10, a11, some (.ref ot), a13, some (.ref c), a15, a16, a17, a18, a19, a20] H') → tSeq t0 (tSeq t1 (tSeq t2 tr)) D σ H := by
  obtain ⟨fI, fdI, GI, MI, bI⟩ := ve.sinit
  refine ⟨_, _, _, ps_set (i := 9) scLaw.nd rfl (Or.inr rfl) (pe_callTy call_tuple_of (by rfl) ve.T.tuple (by decide +kernel) (pa_cons
      (pe_lc (own := [("value", 18)]) (g := gName 18) (tt := tYes) (te := tIf (tTest (tCB (rIsiB K) (tCons (tVar 18) (tCons (tC (.ty "str")) tNil)))) (tC (.str "text")) (tC (.str "int"))) rfl scLaw.nd (pi_tup (pv 3)) (blkOk_by (N := nLaw) (sc := defScope sLaw) (by decide +kernel))
        (fun _ _ _ _ _ => pg_name (i := 18) scLaw.nd rfl (Or.inl rfl)) (fun _ _ _ _ _ => pts_nil)
        (fun _ _ _ _ _ => pe_ifExp (pt_val (pe_callB call_isiB (by rfl) ve.T.isi PyProof.Rows.boot_isinstance (pa_cons (pv 18) (pa_cons (pe_bltn (v := .ty "str") (u := .type "str") (by rfl) ve.T.str (by decide +kernel) rfl) pa_nil)))) pe_str pe_str)) pa_nil)),
    ps_set (i := 14) scLaw.nd rfl (Or.inr rfl) (pe_make MI GI (hr.mono (by decide)) (by rfl) ve.S.g bI (E := fun _ _ _ => False) .nil (passes_call L2.takes0 (fun _ _ _ _ h => h)) (pa_cons
      (pe_lc (own := [("k", 16), ("kind", 19)]) (g := gTup K 2 (gCons (gName 16) (gCons (gName 19) gNil))) (tt := tYes) rfl scLaw.nd (EN.pi_enumT (by rfl) ve.en (pa_cons (pv 9) pa_nil)) (blkOk_by (N := nLaw) (sc := defScope sLaw) (by decide +kernel))
        (fun _ _ _ _ _ => pg_tup rfl (pgs_cons (pg_name (i := 16) scLaw.nd rfl (Or.inl rfl)) (pgs_cons (pg_name (i := 19) scLaw.nd rfl (Or.inl rfl)) pgs_nil))) (fun _ _ _ _ _ => pts_nil)
        (fun _ _ _ _ _ => pe_tup (pa_cons (pe_op op_add_str pe_str (pe_callTy call_str_int (by rfl) ve.T.str (by decide +kernel) (pa_cons (pv 16) pa_nil))) (pa_cons (pv 19) pa_nil)))) pa_nil)),
    ps_set (i := 12) scLaw.nd rfl (Or.inr rfl) (pe_callTy call_tuple_of (by rfl) ve.T.tuple (by decide +kernel) (pa_cons
      (pe_lc (own := [("value", 18)]) (g := gName 18) (tt := tYes) (te := tIf (tNot (tTest (tCB (rIsiB K) (tCons (tVar 18) (tCons (tC (.ty "str")) tNil))))) (tC (.str "x")) (tC (.int 1))) rfl scLaw.nd (pi_tup (pv 3)) (blkOk_by (N := nLaw) (sc := defScope sLaw) (by decide +kernel))
        (fun _ _ _ _ _ => pg_name (i := 18) scLaw.nd rfl (Or.inl rfl)) (fun _ _ _ _ _ => pts_nil)
        (fun _ _ _ _ _ => pe_ifExp (pt_not (pt_val (pe_callB call_isiB (by rfl) ve.T.isi PyProof.Rows.boot_isinstance (pa_cons (pv 18) (pa_cons (pe_bltn (v := .ty "str") (u := .type "str") (by rfl) ve.T.str (by decide +kernel) rfl) pa_nil))))) pe_str pe_int)) pa_nil)), ?_⟩
  rintro D σ H d p rw dt k tr ⟨a0, a2, a5, a6, a7, a8, a9, a10, a11, a12, a13, a14, a15, a16, a17, a18, a19, a20, rfl⟩ st ro fin
  have h5 := ro.h5
  refine ⟨_, rfl, rw, rfl, ⟨_, SqT.of ro.row⟩, fun L hL => ?_⟩
  refine lcG walk_tup (fun _ v (s : Str) => v = .str s) (fun j => k[j]?.bind fun x => some (kS x)) (fun _ _ _ _ _ h => h) hL (by rw [List.length_map]; omega) (fun H5 e5 => SqT.of (e5 _ _ ro.row)) (fun i H5 x H6 _ _ h => yat_ex h) (fun j y H5 H6 R0 N0 hj e5 hy hno hsm => ?_) (fun H1 xs e1 hx1 hps => ?_)
  · obtain ⟨rfl, hx⟩ := hy
    rw [List.getElem?_map] at hx
    obtain ⟨x, hxk, rfl⟩ := Option.map_eq_some_iff.mp hx
    refine ⟨rfl, _, rfl, ?_⟩
    show rIsiB K [_, .ty "str"] _ _
    have fin1 := hsm (kS x) (by rw [hxk]; rfl) _ _ (Ex.refl _) rfl
    cases x with
    | inl n => exact isi_ty (r := false) (.int n) (by decide +kernel) ⟨_, rfl, ifF (by decide) fin1⟩
    | inr z => exact isi_ty (r := true) (.str z) (by decide +kernel) ⟨_, rfl, ifT rfl fin1⟩
  rw [List.length_map, range_fm, map_fm] at hps
  obtain rfl := paired_eq hps
  refine ⟨L, _, rfl, .inl ⟨SqL.of hx1, fun kt hkt => ?_⟩⟩
  have e2 : KS.Ex H1 (upd H1 kt (.tup ((k.map kS).map V.str))) := Ex.upd hkt
  have hk2 : (upd H1 kt (.tup ((k.map kS).map V.str))) kt = some (.tup ((k.map kS).map V.str)) := upd_same
  have s2 := st.ex (e1.trans e2)
  have r2 := ro.kt (kt_of (e1.trans e2))
  generalize upd H1 kt (.tup ((k.map kS).map V.str)) = H2 at s2 r2 hk2
  refine ⟨_, rfl, kt, _, rfl, SqT.of hk2, fun L2' hL2 => ?_⟩
  have lk : ((k.map kS).map V.str).length = k.length := by rw [List.length_map, List.length_map]
  refine lcG EN.walk_enumT RCol (fun j => (colsOf k)[j]?.bind fun x => some x) RCol.stab hL2 (by rw [lk]; omega) (fun H5 e5 => SqT.of (e5 _ _ hk2)) (fun i H5 x H6 _ _ h => by obtain ⟨T, x, y, _, hT, rfl, _⟩ := h; exact Ex.upd hT) (fun j v H5 H6 R0 N0 hj e5 hy hno hsm => ?_) (fun H3 xs e3 hx3 hps => ?_)
  · obtain ⟨T1, x1, y1, rfl, hT, rfl, hx, hy⟩ := hy
    obtain rfl := Option.some.inj hx
    have hy : ((k.map kS).map V.str)[j]? = some y1 := hy
    rw [List.getElem?_map, List.getElem?_map] at hy
    obtain ⟨ks, hks, rfl⟩ := Option.map_eq_some_iff.mp hy
    obtain ⟨x, hx, rfl⟩ := Option.map_eq_some_iff.mp hks
    have hj5 : j < 5 := by rw [lk] at hj; omega
    have lc := names_len j hj5
    refine ⟨T1, _, rfl, SqT.of upd_same, rfl, _, _, rfl, _, _, rfl, rfl, rfl, ?_⟩
    refine ⟨_, rfl, _, rfl, ?_, _, _, rfl, rfl, ?_, _, rfl, (by show 2 ≤ sizeLine; decide), fun q2 hq2 => ?_⟩
    · show (j : Int).natAbs.log2 < 1920
      rw [Int.natAbs_natCast]
      exact Nat.lt_of_le_of_lt (Nat.log2_le_self _) (by omega)
    · have e := names_sum j hj5
      show (Str.ofString "c").length + (Str.ofString (toString (j : Int))).length ≤ _
      have hz : sizeLine = 16777216 := rfl
      omega
    · exact hsm (cN j, kS x) (by unfold colsOf; rw [List.getElem?_map, List.getElem?_zipIdx, hx]; simp) _ _ (Ex.upd (o := .tup [.str (cN j), .str (kS x)]) hq2) ⟨q2, rfl, upd_same⟩
  have hps : Paired (RCol H3) xs ((List.range (colsOf k).length).filterMap fun j => (colsOf k)[j]?.bind fun x => some x) := by
    rw [cols_len, ← lk]; exact hps
  rw [range_fm, map_fm, List.map_id'] at hps
  obtain ⟨ts, rfl, hcols⟩ := cols_of hps
  have s3 := s2.ex e3
  have r3 := r2.kt (kt_of e3)
  have hk3 := e3 _ _ hk2
  refine fun c dx hc0 hdx nc => ?_
  have e4 : KS.Ex H3 (upd (upd H3 dx (.own c)) c (.ins CS dx [])) := (Ex.upd hdx).trans (Ex.upd (by rw [L2.upd_ne nc.symm]; exact hc0))
  have hc4 : (upd (upd H3 dx (.own c)) c (.ins CS dx [])) c = some (.ins CS dx []) := upd_same
  show spSInit CS CR Pi [.ref c, .ref L2'] _ _ _
  generalize upd (upd H3 dx (.own c)) c (.ins CS dx []) = H4 at e4 hc4
  have s4 := s3.ex e4
  have r4 := r3.kt (kt_of e4)
  refine sinit_step hc4 (e4 _ _ hx3) (hcols.ex e4) (by rw [cols_len]; omega) s4.ti (fun z => absurd (cols_good h5) z) fun _ H5 e5 t5 x5 => ⟨rfl, ?_⟩
  have s5 := s4.exB ve.ap hc4 e5 t5
  have kt5 : KT' H4 H5 := fun b xs h => e5 b _ (fun z => by rw [z, hc4] at h; cases h) (fun z => by
    obtain ⟨ps, hP, _⟩ := s4.ti
    rw [z, hP] at h; cases h) h
  have r5 := r4.kt kt5
  have hk5 := kt5 _ _ (e4 _ _ hk3)
  refine ⟨_, rfl, rw, rfl, ⟨_, SqT.of r5.row⟩, fun L3 hL3 => ?_⟩
  refine lcG walk_tup (fun _ v (x : Key) => v = kV x) (fun j => k[j]?.bind fun x => some (oth x)) (fun _ _ _ _ _ h => h) hL3 (by rw [List.length_map]; omega) (fun H6 e6 => SqT.of (e6 _ _ r5.row)) (fun i H6 x H7 _ _ h => yat_ex h) (fun j y H6 H7 R0 N0 hj e6 hy hno hsm => ?_) (fun H6 xs e6 hx6 hps => ?_)
  · obtain ⟨rfl, hx⟩ := hy
    rw [List.getElem?_map] at hx
    obtain ⟨x, hxk, rfl⟩ := Option.map_eq_some_iff.mp hx
    refine ⟨rfl, _, rfl, ?_⟩
    show rIsiB K [_, .ty "str"] _ _
    have fin1 := hsm (oth x) (by rw [hxk]; rfl) _ _ (Ex.refl _) rfl
    cases x with
    | inl n => exact isi_ty (r := false) (.int n) (by decide +kernel) ⟨_, rfl, ifT rfl fin1⟩
    | inr z => exact isi_ty (r := true) (.str z) (by decide +kernel) ⟨_, rfl, ifF (by decide) fin1⟩
  rw [List.length_map, range_fm, map_fm] at hps
  obtain rfl := paired_eq hps
  refine ⟨L3, _, rfl, .inl ⟨SqL.of hx6, fun ot hot => ?_⟩⟩
  have e7 : KS.Ex H6 (upd H6 ot (.tup ((k.map oth).map kV))) := Ex.upd hot
  have h7 : (upd H6 ot (.tup ((k.map oth).map kV))) ot = some (.tup ((k.map oth).map kV)) := upd_same
  have e57 := e6.trans e7
  exact fin _ _ _ _ _ _ _ _ _ _ _ _ _ _ _ _ _ kt c ot (s5.ex e57) (r5.kt (kt_of e57)) (e57 _ _ hk5) (x5.ex e57) h7
end
end KO1
set_option Elab.async false
set_option linter.all false
set_option maxRecDepth 100000
set_option maxHeartbeats 4000000
namespace KO1
open PySem PySem.Spec PyProof.Rows L2 KB KC KS KN1 LamX K7
theorem ne_strs {K : PySem.W.Frag} {σ : L2.St} {i : Nat} {H : Hp} {Q : VK} {a b : Addr} {l : List Str} (hl : ∀ s ∈ l, s = "int" ∨ s = "text") (ha : H a = some (.tup (l.map V.str))) (hi : σ[i]? = some (some (.ref b))) (hb : H b = some (.tup (l.map V.str))) (q : Q (.bl false) H) : tVar i σ H fun y H2 => rNeD K (.ref a) y H2 Q := by
  refine ⟨.ref b, hi, _, _, .tup (SqT.of ha) (dp_strs l), .tup (SqT.of hb) (dp_strs l), shaped_kinds hl, shaped_kinds hl, ?_⟩
  rw [eqv_strsT, decide_eq_true rfl]
  exact q
theorem eqS (a b : Str) : decide (V.str a = V.str b) = decide (a = b) := by
  rw [Bool.eq_iff_iff]; simp
section
variable {P : Program} {w : World} {K : PySem.W.Frag} {mg : Str → Option Value} {base : Heap} {CB CS CR Ps Pi Pl cL fTo fL : Addr} {fdTo : FuncData} {A : Around} {outer : List PySem.Env} {s : Shared} {H0 : Hp} {E0' : XK}
theorem g_says (ve : LawE P w K mg base CB CS CR Ps Pi Pl cL fTo fdTo) (hr : Room 12 (xLaw P w K mg base fL cL A outer s H0 E0').A) :
    ∃ t0, PS (xLaw P w K mg base fL cL A outer s H0 E0') (mS 14) t0 ∧ ∀ (D : Ends) (a0 a2 a4 a5 a6 a7 a8 a10 a11 a13 a15 a16 a17 a18 a19 a20 : Option V) (H : Hp) (d p rw dt kt c ot : Addr) (k : List Key), St Ps Pi Pl d p H → Row k rw dt H →
      H kt = some (.tup ((k.map kS).map V.str)) → ShA CS c (colsOf k) H → H ot = some (.tup ((k.map oth).map kV)) →
      (∀ (σ' : L2.St) (H' : Hp), Sd d σ' → St Ps Pi Pl d p H' → D.nx σ' H') →
      t0 D [a0, some (.ref d), a2, some (.ref rw), a4, a5, a6, a7, a8, some (.ref kt), a10, a11, some (.ref ot), a13, some (.ref c), a15, a16, a17, a18, a19, a20] H := by
  have hu := hr.units
  obtain ⟨fQ, fdQ, GQ, mQ, bQ⟩ := ve.kinds
  obtain ⟨fC, fdC, GC, mC, bC⟩ := ve.check
  obtain ⟨fP, fdP, GP, mP, bP⟩ := ve.place
  obtain ⟨fK, fdK, GK, gK, kpK, bK⟩ := ve.kind
  refine ⟨_, ps_if (PW.pt (pw_or (pt_cmpR (op_neD hu) (pe_meth0 (pv 14) ve.S.cl mQ GQ (hr.mono (by decide)) bQ .nil pass0) (pv 9) (nomark _))
      (pw_or (pt_cmpR (op_neD hu) (pe_meth (pv 14) ve.S.cl mC GC (hr.mono (by decide)) bC (E := fun _ _ _ => False) .nil (passes_call L2.takes0 (fun _ _ _ _ h => h)) (pa_cons (pv 3) pa_nil)) (pv 3) (nomark _))
      (pw_or (PW.pt (pw_and (pt_cmpR (op_neD hu) (pv 3) (pe_tup pa_nil) (nomark _)) (pw_and1 (pt_cmpR (op_neD hu) (lam_told (X := xLaw P w K mg base fL cL A outer s H0 E0') ve hr qLaw rfl (by rfl) (lamS_by (by show lamSB (defScope sLaw) _ = true; decide +kernel)) rfl (fun _ _ _ _ _ => rfl)
          (t := fun E => tMeth CS "check_row" (spCheck CS CR Ps) [] E (tVar 14) (tCons (tVar 12) tNil)) (fun A' outer' s' H E f c' hr' => pe_meth (pv 14) ve.S.cl mC GC (hr'.mono (by decide)) bC .nil (passes_call (takes_of rfl rfl rfl rfl) (fun _ _ _ _ h => h)) (pa_cons (pv 12) pa_nil))) pe_str (nomark _)))))
      (pw_or1 (pt_cmpR (op_neD hu) (pe_lc (own := [("k", 16)]) (g := gName 16) (te := tVar 16) rfl scLaw.nd (pi_range1 (by rfl) ve.T.range (pa_cons (pe_callB call_len_seq (by rfl) ve.T.len (by decide +kernel) (pa_cons (pv 3) pa_nil)) pa_nil)) (blkOk_by (N := nLaw) (sc := defScope sLaw) (by decide +kernel))
        (fun _ _ _ _ _ => pg_name (i := 16) scLaw.nd rfl (Or.inl rfl))
        (fun _ _ _ _ _ => pts_one (PW.pt (pw_or (pt_cmpR op_ne (pe_meth (pv 14) ve.S.cl mP GP (hr.mono (by decide)) bP (E := fun _ _ _ => False) .nil (passes_call L2.takes0 (fun _ _ _ _ h => h)) (pa_cons (pe_op op_add_str pe_str (pe_callTy call_str_int (by rfl) ve.T.str (by decide +kernel) (pa_cons (pv 16) pa_nil))) pa_nil)) (pv 16) (nomark _))
          (pw_or1 (pt_cmpR op_ne (pe_call GK (hr.mono (by decide)) (by rfl) gK kpK bK (E := fun _ _ _ => False) .nil (passes_call L2.takes0 (fun _ _ _ _ h => h)) (pa_cons (pe_ix ix_tupD (pv 3) (pv 16) (fun _ _ => rfl)) pa_nil)) (pe_ix ix_tupD (pv 9) (pv 16) (fun _ _ => rfl)) (nomark _))))))
        (fun _ _ _ _ _ => pv 16)) (pe_lst pa_nil) (nomark _)))))))
      (pss_one (ps_ret pe_bl)) pss_nil, ?_⟩
  rintro D a0 a2 a4 a5 a6 a7 a8 a10 a11 a13 a15 a16 a17 a18 a19 a20 H d p rw dt kt c ot k st ro hk x ho fin
  have h5 := ro.h5
  have inT : ∀ x ∈ k, InTab tabL x := fun x hx => okV_T (okW_V (ro.ok x hx))
  have lc : (colsOf k).length ≤ 20 := by rw [cols_len]; omega
  have lks : ∀ s ∈ k.map kS, s = "int" ∨ s = "text" := fun s hs => by
    obtain ⟨y, _, rfl⟩ := List.mem_map.mp hs
    exact kS_kind y
  obtain ⟨dx, t, e, g1⟩ := x.ins
  refine ⟨_, rfl, c, dx, _, rfl, g1, sF_m (by decide +kernel) (by decide +kernel), kinds_step x lc fun H1 q1 e1 h1 => ?_⟩
  have h1 : H1 q1 = some (.tup ((k.map kS).map V.str)) := by
    rw [h1, ← cols_snd, List.map_map]; rfl
  refine ne_strs (K := K) (i := 9) lks h1 rfl (e1 _ _ hk) ⟨_, rfl, ifF (by decide) ?_⟩
  have s1 := st.ex e1
  have r1 := ro.kt (kt_of e1)
  have x1 := x.ex e1
  obtain ⟨dx1, t1, e1', g2⟩ := x1.ins
  refine ⟨_, rfl, c, dx1, _, rfl, g2, sF_m (by decide +kernel) (by decide +kernel), _, rfl, check_step x1 lc (cols_kind k) s1.ts r1.row (rowy_k k) (by rw [List.length_map]; omega) (fun z => absurd (kd_row inT) z) fun _ H2 t2 => ?_⟩
  have s2 := s1.tb ve.ap t2
  have kt2 := (Kp.tb s1.ts t2).tup s1.dice
  have r2 := r1.kt kt2
  have x2 := x1.tb s1.ts t2
  refine ne_row (K := K) (i := 3) inT r2.row rfl r2.row ⟨_, rfl, ifF (by decide) ?_⟩
  have hk2 := kt2 _ _ (e1 _ _ hk)
  have ho2 := kt2 _ _ (e1 _ _ ho)
  have part : ∀ (Qb : Bool → Hp → Prop), (∀ H3, St Ps Pi Pl d p H3 → Row k rw dt H3 → ShA CS c (colsOf k) H3 → H3 kt = some (.tup ((k.map kS).map V.str)) → Qb false H3) →
      tAnd (tTest (tOp (rNeD K) (tVar 3) (tTup tNil))) (tTest (tOp (rNeD K) (tLam (TT Ps Pi Pl) (TTold K CR "RowError") fun E => tMeth CS "check_row" (spCheck CS CR Ps) [] E (tVar 14) (tCons (tVar 12) tNil)) (tC (.str "RowError")))) [a0, some (.ref d), a2, some (.ref rw), a4, a5, a6, a7, a8, some (.ref kt), a10, a11, some (.ref ot), a13, some (.ref c), a15, a16, a17, a18, a19, a20] H2 Qb := by
    intro Qb q
    refine ⟨_, rfl, (by show 0 ≤ sizeLine; decide), fun z hz => ?_⟩
    have e3 : KS.Ex H2 (upd H2 z (.tup [])) := Ex.upd hz
    have hz3 : (upd H2 z (.tup [])) z = some (.tup (([] : List Key).map kV)) := upd_same
    generalize upd H2 z (.tup []) = H3 at e3 hz3
    have s3 := s2.ex e3
    have r3 := r2.kt (kt_of e3)
    have x3 := x2.ex e3
    have hk3 := e3 _ _ hk2
    have ho3 := e3 _ _ ho2
    refine ⟨rD k, rD [], dp_r K r3.row, dp_r K hz3, shaped_r inT, shaped_r (fun _ z => nomatch z), _, rfl, ?_⟩
    rw [eqv_r]
    by_cases k0 : k = []
    · exact ifF (by simp [k0]) (q H3 s3 r3 x3 hk3)
    refine ifT (by simp [k0]) ⟨s3.tabs, fun H4 e4 t4 => ?_⟩
    have s4 := s3.exN e4 t4
    have kt4 : KT' H3 H4 := fun b xs h => e4 _ _ h (fun _ z => nomatch z)
    have x4 := x3.exN e4
    obtain ⟨dx4, t4', e4', g4⟩ := x4.ins
    refine ⟨.ref c, rfl, c, dx4, _, rfl, g4, sF_m (by decide +kernel) (by decide +kernel), _, rfl, check_step x4 lc (cols_kind k) s4.ts (kt4 _ _ ho3) (rowy_k _) (by rw [List.length_map, List.length_map]; omega) (fun _ H5 t5 => ⟨true, ve.J.e, fun _ => ?_, fun z => nomatch z⟩) fun z => absurd z (kd_oth k0)⟩
    have kt5 := (Kp.tb s4.ts t5).tup s4.dice
    refine ne_errs (K := K) ⟨_, rfl, ?_⟩
    exact q H5 (s4.tb ve.ap t5) ((r3.kt kt4).kt kt5) (x4.tb s4.ts t5) (kt5 _ _ (kt4 _ _ hk3))
  refine part _ fun H3 s3 r3 x3 hk3 => ?_
  refine ifF (by decide) ?_
  refine ⟨_, rfl, rw, _, rfl, .inr (SqT.of r3.row), k.length, by rw [List.length_map], by omega, by omega, fun L hL => ?_⟩
  have nLp : L ≠ Ps := fun z => by
    obtain ⟨ps, hP, _⟩ := s3.ts
    rw [z, hP] at hL; cases hL
  have e4 : KS.Ex H3 (upd H3 L (.lst [])) := Ex.upd hL
  refine lc_range (fun q H4 => St Ps Pi Pl d p H4 ∧ Row k rw dt H4 ∧ ShA CS c (colsOf k) H4 ∧ H4 kt = some (.tup ((k.map kS).map V.str)) ∧ H4 L = some (.lst [])) ⟨s3.ex e4, r3.kt (kt_of e4), x3.ex e4, e4 _ _ hk3, upd_same⟩ (fun q H4 hq ⟨s4, r4, x4, hk4, hL4⟩ => ?_) (fun H4 ⟨s4, r4, x4, hk4, hL4⟩ => ?_)
  · have hq5 : q < 5 := by omega
    obtain ⟨dx4, t4', e4', g4⟩ := x4.ins
    have hkq : k[q]? = some k[q] := List.getElem?_eq_getElem hq
    refine ⟨rfl, _, rfl, c, dx4, _, rfl, g4, sF_m (by decide +kernel) (by decide +kernel), _, rfl, _, rfl, ?_, _, _, rfl, rfl, ?_, ?_⟩
    · show (0 + (q : Int)).natAbs.log2 < 1920
      rw [Int.zero_add, Int.natAbs_natCast]
      exact Nat.lt_of_le_of_lt (Nat.log2_le_self _) (by omega)
    · have e := names_sum q hq5
      rw [Int.zero_add]
      show (Str.ofString "c").length + (Str.ofString (toString (q : Int))).length ≤ _
      have hz : sizeLine = 16777216 := rfl
      omega
    rw [Int.zero_add]
    refine place_step (n := cN q) x4 (names_len q hq5) (fun z => by rw [cols_place h5 hq] at z; cases z) fun i hi => ?_
    rw [cols_place h5 hq] at hi
    cases hi
    refine ⟨_, rfl, rfl, _, rfl, ifF (by simp) ?_⟩
    refine ⟨_, rfl, _, rfl, rw, _, _, _, rfl, rfl, r4.row, atI_nat (v := kV k[q]) (by rw [List.getElem?_map, hkq]; rfl), ?_⟩
    have kd0 := kd_k (inT _ (List.getElem_mem hq))
    refine kd_step (rowy_k k _ (List.mem_map.mpr ⟨_, List.getElem_mem hq, rfl⟩)) s4.ts (fun z => by rw [kd0] at z; cases z) fun k' hk' H5 t5 => ?_
    rw [kd0] at hk'
    cases hk'
    have s5 := s4.tb ve.ap t5
    have kt5 := (Kp.tb s4.ts t5).tup s4.dice
    have hL5 := t5.keep s4.ts hL4 (fun _ z => nomatch z)
    refine ⟨_, rfl, _, rfl, kt, _, _, _, rfl, rfl, kt5 _ _ hk4, atI_nat (v := V.str (kS k[q])) (by rw [List.getElem?_map, List.getElem?_map, hkq]; rfl), rfl, _, rfl, ?_⟩
    exact ifF (by simp) ⟨s5, r4.kt kt5, x4.tb s4.ts t5, kt5 _ _ hk4, hL5⟩
  · refine ⟨(by show 0 ≤ sizeLine; decide), fun l2 hl2 => ?_⟩
    have e5 : KS.Ex H4 (upd H4 l2 (.lst [])) := Ex.upd hl2
    refine ne_nils (K := K) (e5 _ _ hL4) upd_same ⟨_, rfl, ifF (by decide) ?_⟩
    exact fin _ _ ⟨_, _, _, _, _, _, _, _, _, _, _, _, _, _, _, _, _, _, _, _, rfl⟩ (s4.ex e5)
end
end KO1
set_option Elab.async false
set_option linter.all false
set_option maxRecDepth 100000
set_option maxHeartbeats 4000000
namespace KO1
open PySem PySem.Spec PyProof.Rows L2 KB KC KS KN1 LamX K7
theorem Sd.len {d : Addr} {σ : L2.St} (h : Sd d σ) : σ.length = 21 := by
  obtain ⟨_, _, _, _, _, _, _, _, _, _, _, _, _, _, _, _, _, _, _, _, rfl⟩ := h
  rfl
theorem rounds_step {K : PySem.W.Frag} {H : Hp} {s : Addr} {ns : List Int} {Q : VK} {E : XK} (h : SqL K H s (ns.map V.int)) (fin : ∀ H' p d, KS.Ex H H' → H' p = some (.lst [.ref d]) → IsDice H' d → Q (.ref p) H') : spRounds K [.ref s, .int 1] H Q E := by
  unfold spRounds
  exact ⟨s, ns, rfl, h, fin⟩
abbrev twoC : Co := [("a", "int"), ("b", "text")]
theorem two_good : goodS twoC := by
  refine ⟨by decide, by decide +kernel, by decide +kernel⟩
def S2 (t : Addr) (σ : L2.St) : Prop := ∃ a0 a1 a2 a3 a4 a5 a6 a7 a8 a9 a10 a11 a12 a13 a14 a16 a17 a18 a19 a20 : Option V, σ = [a0, a1, a2, a3, a4, a5, a6, a7, a8, a9, a10, a11, a12, a13, a14, some (.ref t), a16, a17, a18, a19, a20]
section
variable {P : Program} {w : World} {K : PySem.W.Frag} {mg : Str → Option Value} {base : Heap} {CB CS CR Ps Pi Pl cL fTo fL : Addr} {fdTo : FuncData} {A : Around} {outer : List PySem.Env} {s : Shared} {H0 : Hp} {E0' : XK}
theorem g_turn (ve : LawE P w K mg base CB CS CR Ps Pi Pl cL fTo fdTo) (hr : Room 12 (xLaw P w K mg base fL cL A outer s H0 E0').A) :
    ∃ ts, PSs (xLaw P w K mg base fL cL A outer s H0 E0') mBody ts ∧ ∀ (D : Ends) (σ : L2.St) (H : Hp) (d p : Addr), Sd d σ → St Ps Pi Pl d p H → (∀ (σ' : L2.St) (H' : Hp), Sd d σ' → St Ps Pi Pl d p H' → D.nx σ' H') → ts D σ H := by
  obtain ⟨t0, t1, t2, d0, d1, d2, q1⟩ := g_row (fL := fL) (A := A) (outer := outer) (s := s) (H0 := H0) (E0' := E0') ve hr
  obtain ⟨t3, t4, d3, d4, q2⟩ := g_hash (fL := fL) (A := A) (outer := outer) (s := s) (H0 := H0) (E0' := E0') ve hr
  obtain ⟨t5, t6, d5, d6, q3⟩ := g_bent (fL := fL) (A := A) (outer := outer) (s := s) (H0 := H0) (E0' := E0') ve hr
  obtain ⟨t7, t8, d7, d8, q4⟩ := g_read (fL := fL) (A := A) (outer := outer) (s := s) (H0 := H0) (E0' := E0') ve hr
  obtain ⟨t9, t10, d9, d10, q5⟩ := g_twice (fL := fL) (A := A) (outer := outer) (s := s) (H0 := H0) (E0' := E0') ve hr
  obtain ⟨t11, t12, t13, d11, d12, d13, q6⟩ := g_shape (fL := fL) (A := A) (outer := outer) (s := s) (H0 := H0) (E0' := E0') ve hr
  obtain ⟨t14, d14, q7⟩ := g_says (fL := fL) (A := A) (outer := outer) (s := s) (H0 := H0) (E0' := E0') ve hr
  refine ⟨_, pss_cons d0 (pss_cons d1 (pss_cons d2 (pss_cons d3 (pss_cons d4 (pss_cons d5 (pss_cons d6 (pss_cons d7 (pss_cons d8 (pss_cons d9 (pss_cons d10 (pss_cons d11 (pss_cons d12 (pss_cons d13 (pss_one d14)))))))))))))), ?_⟩
  intro D σ H d p hs st fin
  refine q1 D σ H d p _ hs st fun σ1 H1 rw dt k h1 st1 ro1 => ?_
  refine q2 D σ1 H1 d p rw dt k _ h1 st1 ro1 fun σ2 H2 h2 st2 ro2 => ?_
  refine q3 D σ2 H2 d p rw dt k _ h2 st2 ro2 fun a0 a2 a5 a6 a8 a9 a10 a12 a13 a14 a15 a16 a17 a18 a19 a20 H3 i bt bent hi hB hl hbt st3 ro3 => ?_
  refine q4 D a0 a2 a5 a6 a8 a9 a10 a12 a13 a14 a15 a16 a17 a18 a19 a20 H3 d p rw dt bt k i bent _ hi hB hl hbt st3 ro3 fun σ4 H4 h4 st4 ro4 => ?_
  refine q5 D σ4 H4 d p rw dt k _ h4 st4 ro4 fun σ5 H5 h5 st5 ro5 => ?_
  refine q6 D σ5 H5 d p rw dt k _ h5 st5 ro5 fun b0 b2 b4 b5 b6 b7 b8 b10 b11 b13 b15 b16 b17 b18 b19 b20 H6 kt c ot st6 ro6 hk x ho => ?_
  exact q7 D b0 b2 b4 b5 b6 b7 b8 b10 b11 b13 b15 b16 b17 b18 b19 b20 H6 d p rw dt kt c ot k st6 ro6 hk x ho fin
theorem g_round (ve : LawE P w K mg base CB CS CR Ps Pi Pl cL fTo fdTo) (hr : Room 12 (xLaw P w K mg base fL cL A outer s H0 E0').A) :
    ∃ ts, PSs (xLaw P w K mg base fL cL A outer s H0 E0') law0 ts ∧ ∀ (D : Ends) (σ : L2.St) (H : Hp) (d p : Addr), Sd d σ → St Ps Pi Pl d p H → (∀ (σ' : L2.St) (H' : Hp), Sd d σ' → St Ps Pi Pl d p H' → D.nx σ' H') → ts D σ H := by
  obtain ⟨t, dt, q⟩ := g_turn (fL := fL) (A := A) (outer := outer) (s := s) (H0 := H0) (E0' := E0') ve hr
  refine ⟨_, pss_one (ps_for PassesOwn.never rfl (pi_range1 (by rfl) ve.T.range (pa_cons pe_int pa_nil)) (pg_name (i := 2) scLaw.nd rfl (Or.inl rfl)) dt), ?_⟩
  intro D σ H d p hs st fin
  refine ⟨4, rfl, by decide, by decide, for_range (n := 4) (fun j σ H' => Sd d σ ∧ St Ps Pi Pl d p H') ⟨hs, st⟩ ?_ ?_⟩
  · rintro j σ H4 hj ⟨⟨a0, a2, a3, a4, a5, a6, a7, a8, a9, a10, a11, a12, a13, a14, a15, a16, a17, a18, a19, a20, rfl⟩, s4⟩
    dsimp only [gName]
    exact q _ _ H4 d p ⟨_, _, _, _, _, _, _, _, _, _, _, _, _, _, _, _, _, _, _, _, rfl⟩ s4 fun σ' H' h1 h2 => ⟨h1, h2⟩
  · exact fun σ H4 ⟨h1, h2⟩ => fin σ H4 h1 h2
theorem g_two (ve : LawE P w K mg base CB CS CR Ps Pi Pl cL fTo fdTo) (hr : Room 12 (xLaw P w K mg base fL cL A outer s H0 E0').A) :
    ∃ t, PS (xLaw P w K mg base fL cL A outer s H0 E0') ((defBody sLaw).getD 1 pS) t ∧ ∀ (D : Ends) (σ : L2.St) (H : Hp) (d p : Addr), σ.length = 21 → St Ps Pi Pl d p H → (∀ (σ' : L2.St) (H' : Hp) (t : Addr), S2 t σ' → St Ps Pi Pl d p H' → ShA CS t twoC H' → D.nx σ' H') → t D σ H := by
  obtain ⟨fI, fdI, GI, MI, bI⟩ := ve.sinit
  refine ⟨_, ps_set (i := 15) scLaw.nd rfl (Or.inr rfl) (pe_make MI GI (hr.mono (by decide)) (by rfl) ve.S.g bI (E := fun _ _ _ => False) .nil (passes_call L2.takes0 (fun _ _ _ _ h => h)) (pa_cons
      (pe_lst (pa_cons (pe_tup (pa_cons pe_str (pa_cons pe_str pa_nil))) (pa_cons (pe_tup (pa_cons pe_str (pa_cons pe_str pa_nil))) pa_nil))) pa_nil)), ?_⟩
  intro D σ H d p hσ st fin
  obtain ⟨a0, a1, a2, a3, a4, a5, a6, a7, a8, a9, a10, a11, a12, a13, a14, a15, a16, a17, a18, a19, a20, rfl⟩ : ∃ a0 a1 a2 a3 a4 a5 a6 a7 a8 a9 a10 a11 a12 a13 a14 a15 a16 a17 a18 a19 a20 : Option V, σ = [a0, a1, a2, a3, a4, a5, a6, a7, a8, a9, a10, a11, a12, a13, a14, a15, a16, a17, a18, a19, a20] :=
    match σ, hσ with
    | [a0, a1, a2, a3, a4, a5, a6, a7, a8, a9, a10, a11, a12, a13, a14, a15, a16, a17, a18, a19, a20], _ => ⟨_, _, _, _, _, _, _, _, _, _, _, _, _, _, _, _, _, _, _, _, _, rfl⟩
  refine ⟨(by show 2 ≤ sizeLine; decide), fun t1 ht1 => ⟨(by show 2 ≤ sizeLine; decide), fun t2 ht2 => ⟨(by show 2 ≤ sizeLine; decide), fun l hl => ?_⟩⟩⟩
  have e1 : KS.Ex H (upd H t1 (.tup [.str "a", .str "int"])) := Ex.upd ht1
  have h1 : (upd H t1 (.tup [.str "a", .str "int"])) t1 = some (.tup [.str "a", .str "int"]) := upd_same
  generalize upd H t1 (.tup [.str "a", .str "int"]) = H1 at e1 h1 ht2 hl
  have e2 : KS.Ex H1 (upd H1 t2 (.tup [.str "b", .str "text"])) := Ex.upd ht2
  have h2 : (upd H1 t2 (.tup [.str "b", .str "text"])) t2 = some (.tup [.str "b", .str "text"]) := upd_same
  generalize upd H1 t2 (.tup [.str "b", .str "text"]) = H2 at e2 h2 hl
  have e3 : KS.Ex H2 (upd H2 l (.lst [.ref t1, .ref t2])) := Ex.upd hl
  have h3 : (upd H2 l (.lst [.ref t1, .ref t2])) l = some (.lst ([t1, t2].map V.ref)) := upd_same
  generalize upd H2 l (.lst [.ref t1, .ref t2]) = H3 at e3 h3
  have s3 := st.ex ((e1.trans e2).trans e3)
  have c3 : Cols H3 [t1, t2] twoC := .cons ((e2.trans e3) _ _ h1) (.cons (e3 _ _ h2) .nil)
  refine fun c dx hc0 hdx nc => ?_
  have e4 : KS.Ex H3 (upd (upd H3 dx (.own c)) c (.ins CS dx [])) := (Ex.upd hdx).trans (Ex.upd (by rw [L2.upd_ne nc.symm]; exact hc0))
  have hc4 : (upd (upd H3 dx (.own c)) c (.ins CS dx [])) c = some (.ins CS dx []) := upd_same
  show spSInit CS CR Pi [.ref c, .ref l] _ _ _
  generalize upd (upd H3 dx (.own c)) c (.ins CS dx []) = H4 at e4 hc4
  have s4 := s3.ex e4
  refine sinit_step hc4 (e4 _ _ h3) (c3.ex e4) (by decide) s4.ti (fun z => absurd two_good z) fun _ H5 e5 t5 x5 => ⟨rfl, ?_⟩
  exact fin _ H5 c ⟨_, _, _, _, _, _, _, _, _, _, _, _, _, _, _, _, _, _, _, _, rfl⟩ (s4.exB ve.ap hc4 e5 t5) x5
end
end KO1
set_option Elab.async false
set_option linter.all false
set_option maxRecDepth 100000
set_option maxHeartbeats 4000000
namespace KO1
open PySem PySem.Spec PyProof.Rows L2 KB KC KS KN1 LamX K7 CL
def lamsOf : Stmt → List Expr
  | .Assign _ (.List es _) _ => es
  | .Assign _ (.BinOp _ _ (.List es _) _) _ => es
  | _ => []
abbrev noE : Expr := .Constant (.int 0) 0 ⟨0, 0, 0, 0⟩
abbrev lamE (j i : Nat) : Expr := (lamsOf ((defBody sLaw).getD (j + 2) pS)).getD i noE
def lamP : Expr → Arguments
  | .Lambda a _ _ _ => a
  | _ => { posonlyargs := [], args := [], vararg := none, kwonlyargs := [], kw_defaults := [], kwarg := none, defaults := [] }
def lamB : Expr → Expr
  | .Lambda _ b _ _ => b
  | e => e
def lamSc : Expr → Scope
  | .Lambda _ _ sc _ => sc
  | _ => defScope sLaw
section
variable {P : Program} {w : World} {K : PySem.W.Frag} {mg : Str → Option Value} {base : Heap} {CB CS CR Ps Pi Pl cL fTo fL : Addr} {fdTo : FuncData} {A : Around} {outer : List PySem.Env} {s : Shared} {H0 : Hp} {E0' : XK}
def Beh (X : Cx) (CS CR Ps Pi Pl d p two : Addr) (body : Expr) (scope : Scope) : Prop :=
  ∃ t : XK → TE, (∀ (A : Around) (outer : List Env) (s : Shared) (H : Hp) (E : XK) (f c' : Addr), Room 10 (A.deeper (lamEnv X scope s.heap.objs.size f c')) → PE (lamCx X A outer s H E scope f c') body (t E)) ∧
    ∀ (σ : L2.St) (H : Hp) (E : XK) (Q : VK), S2 two σ → ShA CS two twoC H → St Ps Pi Pl d p H → (∀ H', ExtN H H' → St Ps Pi Pl d p H' → E (.ref CR) none H') → t E σ H Q
def BadC (X : Cx) (CS CR Ps Pi Pl d p two f : Addr) (H : Hp) : Prop :=
  ∃ (c' : Addr) (params : Arguments) (body : Expr) (scope : Scope), Held X params body scope f c' H ∧ LamS X.env.scope scope ∧
    (∀ (q : Str) (cl : List (Str × Addr)) (pm cv ctv : Value), bindArgs (PySem.W.kla_fn "<lambda>" q params body scope cl pm cv ctv) ⟨[], []⟩ = pure []) ∧ Beh X CS CR Ps Pi Pl d p two body scope
theorem BadC.exN {X : Cx} {d p two f : Addr} {H H' : Hp} (b : BadC X CS CR Ps Pi Pl d p two f H) (e : ExtN H H') : BadC X CS CR Ps Pi Pl d p two f H' := by
  obtain ⟨c', params, body, scope, ⟨h1, h2⟩, r⟩ := b
  refine ⟨c', params, body, scope, ⟨e _ _ h1 (fun ps z => ?_), e _ _ h2 codeO_ne⟩, r⟩
  unfold CP.CloO at z
  cases z
theorem BadC.told {X : Cx} {d p two f : Addr} {H : Hp} {σ : L2.St} {Q : VK} (J : TxtX K mg CR) (b : BadC X CS CR Ps Pi Pl d p two f H) (hσ : S2 two σ) (x : ShA CS two twoC H) (st : St Ps Pi Pl d p H) (q : ∀ H', ExtN H H' → St Ps Pi Pl d p H' → Q (.str "RowError") H') :
    CloAt X 10 σ f H fun tl => TTold K CR "RowError" tl H Q := by
  obtain ⟨c', params, body, scope, hd, L, hb, t, ht, hq⟩ := b
  exact ⟨c', params, body, scope, t, hd, L, hb, fun A outer s H E hr => ht A outer s H E f c' hr, hq σ H _ Q hσ x st fun H' e s' => ⟨true, J.e, fun _ => q H' e s', fun z => nomatch z⟩⟩
abbrev BehL (P : Program) (w : World) (K : PySem.W.Frag) (mg : Str → Option Value) (base : Heap) (fL cL : Addr) (A : Around) (outer : List PySem.Env) (s : Shared) (H0 : Hp) (E0' : XK) (CS CR Ps Pi Pl d p two : Addr) (j i : Nat) : Prop := Beh (xLaw P w K mg base fL cL A outer s H0 E0') CS CR Ps Pi Pl d p two (lamB (lamE j i)) (lamSc (lamE j i))
theorem row_bad {H : Hp} {Q : VK} {E : XK} {r : Addr} {b : Bool} (h : H r = some (.tup [.bl b])) (q : ∀ H', Ex H H' → E (.ref CR) none H') : spRow CR Ps [.ref r] H Q E := by
  unfold spRow
  exact ⟨r, rfl, .inl ⟨b, h, q⟩⟩
theorem extN_tb {H H' : Hp} (t : TabS H Ps qK) (e : Tb Ps H H') : ExtN H H' := fun b o h n => e.keep t h n
variable {d p two : Addr}
theorem beh_00 (ve : LawE P w K mg base CB CS CR Ps Pi Pl cL fTo fdTo) : BehL P w K mg base fL cL A outer s H0 E0' CS CR Ps Pi Pl d p two 0 0 := by
  obtain ⟨fK, fdK, GK, gK, kpK, bK⟩ := ve.kind
  refine ⟨fun E => tCall (spKind CR Ps) [] E (tCons (tC (.bl true)) tNil), fun A' outer' s' H E f c' hr' => pe_call GK (hr'.mono (by decide)) (by rfl) gK kpK bK .nil (passes_call (takes_of rfl rfl rfl rfl) (fun _ _ _ _ h => h)) (pa_cons pe_bl pa_nil), fun σ H E Q hσ x st q => ?_⟩
  exact kind_step (q H (ExtN.refl H) st)
theorem beh_01 (ve : LawE P w K mg base CB CS CR Ps Pi Pl cL fTo fdTo) : BehL P w K mg base fL cL A outer s H0 E0' CS CR Ps Pi Pl d p two 0 1 := by
  obtain ⟨fK, fdK, GK, gK, kpK, bK⟩ := ve.row
  refine ⟨fun E => tCall (spRow CR Ps) [] E (tCons (tTup (tCons (tC (.bl true)) tNil)) tNil), fun A' outer' s' H E f c' hr' => pe_call GK (hr'.mono (by decide)) (by rfl) gK kpK bK .nil (passes_call (takes_of rfl rfl rfl rfl) (fun _ _ _ _ h => h)) (pa_cons (pe_tup (pa_cons pe_bl pa_nil)) pa_nil), fun σ H E Q hσ x st q => ?_⟩
  refine ⟨(by show 1 ≤ sizeLine; decide), fun z hz => ?_⟩
  have e1 : KS.Ex H (upd H z (.tup [.bl true])) := Ex.upd hz
  exact row_bad upd_same fun H' e => q H' (ExtN.of (e1.trans e)) (st.ex (e1.trans e))
theorem beh_02 (ve : LawE P w K mg base CB CS CR Ps Pi Pl cL fTo fdTo) : BehL P w K mg base fL cL A outer s H0 E0' CS CR Ps Pi Pl d p two 0 2 := by
  obtain ⟨fK, fdK, GK, gK, kpK, bK⟩ := ve.kind
  refine ⟨fun E => tCall (spKind CR Ps) [] E (tCons (tC .non) tNil), fun A' outer' s' H E f c' hr' => pe_call GK (hr'.mono (by decide)) (by rfl) gK kpK bK .nil (passes_call (takes_of rfl rfl rfl rfl) (fun _ _ _ _ h => h)) (pa_cons pe_non pa_nil), fun σ H E Q hσ x st q => ?_⟩
  exact kind_step (q H (ExtN.refl H) st)
theorem bad_tab : badT "a\t" = true := by decide +kernel
theorem beh_03 (ve : LawE P w K mg base CB CS CR Ps Pi Pl cL fTo fdTo) : BehL P w K mg base fL cL A outer s H0 E0' CS CR Ps Pi Pl d p two 0 3 := by
  obtain ⟨fK, fdK, GK, gK, kpK, bK⟩ := ve.kind
  refine ⟨fun E => tCall (spKind CR Ps) [] E (tCons (tC (.str "a\t")) tNil), fun A' outer' s' H E f c' hr' => pe_call GK (hr'.mono (by decide)) (by rfl) gK kpK bK .nil (passes_call (takes_of rfl rfl rfl rfl) (fun _ _ _ _ h => h)) (pa_cons pe_str pa_nil), fun σ H E Q hσ x st q => ?_⟩
  exact kind_step ⟨st.ts, fun H' t => ifT bad_tab (q H' (extN_tb st.ts t) (st.tb ve.ap t))⟩
theorem beh_04 (ve : LawE P w K mg base CB CS CR Ps Pi Pl cL fTo fdTo) : BehL P w K mg base fL cL A outer s H0 E0' CS CR Ps Pi Pl d p two 0 4 := by
  obtain ⟨fK, fdK, GK, gK, kpK, bK⟩ := ve.kind
  refine ⟨fun E => tCall (spKind CR Ps) [] E (tCons (tTup (tCons (tC (.str "a")) tNil)) tNil), fun A' outer' s' H E f c' hr' => pe_call GK (hr'.mono (by decide)) (by rfl) gK kpK bK .nil (passes_call (takes_of rfl rfl rfl rfl) (fun _ _ _ _ h => h)) (pa_cons (pe_tup (pa_cons pe_str pa_nil)) pa_nil), fun σ H E Q hσ x st q => ?_⟩
  refine ⟨(by show 1 ≤ sizeLine; decide), fun z hz => ?_⟩
  have e1 : KS.Ex H (upd H z (.tup [.str "a"])) := Ex.upd hz
  exact kind_step ⟨⟨_, upd_same⟩, q _ (ExtN.of e1) (st.ex e1)⟩
theorem shape_bad (ap : Apt Ps Pi Pl) {H : Hp} {Q : VK} {E : XK} {a : Addr} {ts : List Addr} {cols : Co} (st : St Ps Pi Pl d p H) (ha : H a = some (.lst (ts.map V.ref))) (hc : Cols H ts cols) (hl : cols.length ≤ 1000) (hb : ¬ goodS cols) (q : ∀ H', ExtN H H' → St Ps Pi Pl d p H' → E (.ref CR) none H') :
    ∀ c dx, H c = none → H dx = none → dx ≠ c → spSInit CS CR Pi [.ref c, .ref a] (upd (upd H dx (.own c)) c (.ins CS dx [])) Q E := fun c dx hc0 hdx nc => by
  have e4 : KS.Ex H (upd (upd H dx (.own c)) c (.ins CS dx [])) := (Ex.upd hdx).trans (Ex.upd (by rw [L2.upd_ne nc.symm]; exact hc0))
  have hc4 : (upd (upd H dx (.own c)) c (.ins CS dx [])) c = some (.ins CS dx []) := upd_same
  generalize upd (upd H dx (.own c)) c (.ins CS dx []) = H4 at e4 hc4
  have s4 := st.ex e4
  refine sinit_step hc4 (e4 _ _ ha) (hc.ex e4) hl s4.ti (fun _ H5 e5 t5 => ?_) fun z => absurd z hb
  refine q H5 (fun b o h n => e5 b o (ne_of_none h hc0) (fun z => ?_) (e4 _ _ h)) (s4.exB ap hc4 e5 t5)
  obtain ⟨ps, hP, _⟩ := st.ti
  rw [z, hP] at h
  exact n _ (Option.some.inj h).symm
end
end KO1
set_option Elab.async false
set_option linter.all false
set_option maxRecDepth 100000
set_option maxHeartbeats 4000000
namespace KO1
open PySem PySem.Spec PyProof.Rows L2 KB KC KS KN1 LamX K7 CL
section
variable {P : Program} {w : World} {K : PySem.W.Frag} {mg : Str → Option Value} {base : Heap} {CB CS CR Ps Pi Pl cL fTo fL : Addr} {fdTo : FuncData} {A : Around} {outer : List PySem.Env} {s : Shared} {H0 : Hp} {E0' : XK} {d p two : Addr}
theorem beh_10 (ve : LawE P w K mg base CB CS CR Ps Pi Pl cL fTo fdTo) : BehL P w K mg base fL cL A outer s H0 E0' CS CR Ps Pi Pl d p two 1 0 := by
  obtain ⟨fI, fdI, GI, MI, bI⟩ := ve.sinit
  refine ⟨_, fun A' outer' s' H E f c' hr' => pe_make MI GI (hr'.mono (by decide)) (by rfl) ve.S.g bI .nil (passes_call (takes_of rfl rfl rfl rfl) (fun _ _ _ _ h => h)) (pa_cons (pe_lst (pa_cons (pe_tup (pa_cons pe_str (pa_cons pe_str pa_nil))) (pa_cons (pe_tup (pa_cons pe_str (pa_cons pe_str pa_nil))) pa_nil))) pa_nil), fun σ H E Q hσ x st q => ?_⟩
  refine ⟨(by show 2 ≤ sizeLine; decide), fun t1 ht1 => ⟨(by show 2 ≤ sizeLine; decide), fun t2 ht2 => ⟨(by show 2 ≤ sizeLine; decide), fun l hl => ?_⟩⟩⟩
  have e1 : KS.Ex H (upd H t1 (.tup [.str "a", .str "int"])) := Ex.upd ht1
  have h1 : (upd H t1 (.tup [.str "a", .str "int"])) t1 = some (.tup [.str "a", .str "int"]) := upd_same
  generalize upd H t1 (.tup [.str "a", .str "int"]) = H1 at e1 h1 ht2 hl
  have e2 : KS.Ex H1 (upd H1 t2 (.tup [.str "a", .str "text"])) := Ex.upd ht2
  have h2 : (upd H1 t2 (.tup [.str "a", .str "text"])) t2 = some (.tup [.str "a", .str "text"]) := upd_same
  generalize upd H1 t2 (.tup [.str "a", .str "text"]) = H2 at e2 h2 hl
  have e3 : KS.Ex H2 (upd H2 l (.lst [.ref t1, .ref t2])) := Ex.upd hl
  have h3 : (upd H2 l (.lst [.ref t1, .ref t2])) l = some (.lst ([t1, t2].map V.ref)) := upd_same
  have e13 := (e1.trans e2).trans e3
  exact fun c dx a1 a2 a3 => shape_bad ve.ap (cols := [("a", "int"), ("a", "text")]) (st.ex e13) h3 (.cons ((e2.trans e3) _ _ h1) (.cons (e3 _ _ h2) .nil)) (by decide) (fun g => by have := g.2.1; revert this; decide +kernel) (fun H' e s' => q H' ((ExtN.of e13).trans e) s') c dx a1 a2 a3
theorem shape_one (ve : LawE P w K mg base CB CS CR Ps Pi Pl cL fTo fdTo) {H : Hp} {Q : VK} {E : XK} {σ0 : L2.St} {n k : Str} (st : St Ps Pi Pl d p H) (hb : ¬ goodS [(n, k)]) (q : ∀ H', ExtN H H' → St Ps Pi Pl d p H' → E (.ref CR) none H') : tMake CS (spSInit CS CR Pi) [] E (tCons (tLst (tCons (tTup (tCons (tC (.str n)) (tCons (tC (.str k)) tNil))) tNil)) tNil) σ0 H Q := by
  refine ⟨(by show 2 ≤ sizeLine; decide), fun t1 ht1 => ⟨(by show 1 ≤ sizeLine; decide), fun l hl => ?_⟩⟩
  have e1 : KS.Ex H (upd H t1 (.tup [.str n, .str k])) := Ex.upd ht1
  have h1 : (upd H t1 (.tup [.str n, .str k])) t1 = some (.tup [.str n, .str k]) := upd_same
  generalize upd H t1 (.tup [.str n, .str k]) = H1 at e1 h1 hl
  have e3 : KS.Ex H1 (upd H1 l (.lst [.ref t1])) := Ex.upd hl
  have h3 : (upd H1 l (.lst [.ref t1])) l = some (.lst ([t1].map V.ref)) := upd_same
  have e13 := e1.trans e3
  exact fun c dx a1 a2 a3 => shape_bad ve.ap (cols := [(n, k)]) (st.ex e13) h3 (.cons (e3 _ _ h1) .nil) (by show 1 ≤ 1000; decide) hb (fun H' e s' => q H' ((ExtN.of e13).trans e) s') c dx a1 a2 a3
theorem beh_11 (ve : LawE P w K mg base CB CS CR Ps Pi Pl cL fTo fdTo) : BehL P w K mg base fL cL A outer s H0 E0' CS CR Ps Pi Pl d p two 1 1 := by
  obtain ⟨fI, fdI, GI, MI, bI⟩ := ve.sinit
  refine ⟨fun E => tMake CS (spSInit CS CR Pi) [] E (tCons (tLst (tCons (tTup (tCons (tC (.str "")) (tCons (tC (.str "int")) tNil))) tNil)) tNil), fun A' outer' s' H E f c' hr' => pe_make MI GI (hr'.mono (by decide)) (by rfl) ve.S.g bI .nil (passes_call (takes_of rfl rfl rfl rfl) (fun _ _ _ _ h => h)) (pa_cons (pe_lst (pa_cons (pe_tup (pa_cons pe_str (pa_cons pe_str pa_nil))) pa_nil)) pa_nil), fun σ H E Q hσ x st q => ?_⟩
  exact shape_one ve st (fun g => by have := g.2.2; revert this; decide +kernel) q
theorem beh_20 (ve : LawE P w K mg base CB CS CR Ps Pi Pl cL fTo fdTo) : BehL P w K mg base fL cL A outer s H0 E0' CS CR Ps Pi Pl d p two 2 0 := by
  obtain ⟨fI, fdI, GI, MI, bI⟩ := ve.sinit
  refine ⟨fun E => tMake CS (spSInit CS CR Pi) [] E (tCons (tLst (tCons (tTup (tCons (tC (.str "a")) (tCons (tC (.str "truth")) tNil))) tNil)) tNil), fun A' outer' s' H E f c' hr' => pe_make MI GI (hr'.mono (by decide)) (by rfl) ve.S.g bI .nil (passes_call (takes_of rfl rfl rfl rfl) (fun _ _ _ _ h => h)) (pa_cons (pe_lst (pa_cons (pe_tup (pa_cons pe_str (pa_cons pe_str pa_nil))) pa_nil)) pa_nil), fun σ H E Q hσ x st q => ?_⟩
  exact shape_one ve st (fun g => by have := g.2.2; revert this; decide +kernel) q
theorem names21 : ∀ i < 21, (Str.ofString "c").length + (Str.ofString (toString ((i : Nat) : Int))).length ≤ 100 := by decide +kernel
theorem beh_21 (ve : LawE P w K mg base CB CS CR Ps Pi Pl cL fTo fdTo) : BehL P w K mg base fL cL A outer s H0 E0' CS CR Ps Pi Pl d p two 2 1 := by
  obtain ⟨fI, fdI, GI, MI, bI⟩ := ve.sinit
  refine ⟨_, fun A' outer' s' H E f c' hr' => pe_make MI GI (hr'.mono (by decide)) (by rfl) ve.S.g bI .nil (passes_call (takes_of rfl rfl rfl rfl) (fun _ _ _ _ h => h)) (pa_cons
      (pe_lc (own := [("k", 16)]) (g := gName 16) (tt := tYes) rfl scLaw.nd (pi_range1 (by rfl) ve.T.range (pa_cons pe_int pa_nil)) (blkOk_by (N := nLaw) (sc := lamSc (lamE 2 1)) (by decide +kernel))
        (fun _ _ _ _ _ => pg_name (i := 16) scLaw.nd rfl (Or.inl rfl)) (fun _ _ _ _ _ => pts_nil)
        (fun _ _ _ _ _ => pe_tup (pa_cons (pe_op op_add_str pe_str (pe_callTy call_str_int (by rfl) ve.T.str (by decide +kernel) (pa_cons (pv 16) pa_nil))) (pa_cons pe_str pa_nil)))) pa_nil), fun σ H E Q hσ x st q => ?_⟩
  obtain ⟨a0, a1, a2, a3, a4, a5, a6, a7, a8, a9, a10, a11, a12, a13, a14, a16, a17, a18, a19, a20, rfl⟩ := hσ
  refine ⟨21, rfl, by decide, by decide, fun L hL => ?_⟩
  have e0 : KS.Ex H (upd H L (.lst [])) := Ex.upd hL
  refine lc_range (fun i H2 => KS.Ex H H2 ∧ ∃ us : List Addr, H2 L = some (.lst (us.map V.ref)) ∧ Cols H2 us ((List.range i).map fun j => (cN j, "int"))) ⟨e0, [], upd_same, .nil⟩ (fun i H2 hi ⟨e2, us, k2, cu⟩ => ?_) (fun H2 ⟨e2, us, k2, cu⟩ => ?_)
  · have hi : i < 21 := hi
    refine ⟨rfl, _, rfl, _, rfl, ?_, _, _, rfl, rfl, ?_, (by show 2 ≤ sizeLine; decide), fun u hu => ?_⟩
    · show (0 + (i : Int)).natAbs.log2 < 1920
      rw [Int.zero_add, Int.natAbs_natCast]
      exact Nat.lt_of_le_of_lt (Nat.log2_le_self _) (by omega)
    · have e := names21 i hi
      rw [Int.zero_add]
      show (Str.ofString "c").length + (Str.ofString (toString (i : Int))).length ≤ _
      have hz : sizeLine = 16777216 := rfl
      omega
    rw [Int.zero_add]
    have e3 : KS.Ex H2 (upd H2 u (.tup [.str (cN i), .str "int"])) := Ex.upd hu
    have hu3 : (upd H2 u (.tup [.str (cN i), .str "int"])) u = some (.tup [.str (cN i), .str "int"]) := upd_same
    have hL3 := e3 _ _ k2
    have lus := paired_len cu
    rw [List.length_map, List.length_range] at lus
    have hz : sizeLine = 16777216 := rfl
    refine ⟨_, hL3, by rw [List.length_map]; omega, Ex.on (e2.trans e3) hL, us ++ [u], by rw [upd_same, List.map_append]; rfl, ?_⟩
    rw [List.range_succ, List.map_append]
    refine paired_app (paired_mono (fun t y r => ?_) cu) (.cons ?_ .nil)
    · rw [L2.upd_ne (fun z => by rw [z, k2] at r; cases r)]
      exact e3 _ _ r
    · rw [L2.upd_ne (fun z => by rw [z, k2] at hu; cases hu)]
      exact hu3
  · exact fun c dx a1 a2 a3 => shape_bad ve.ap (st.ex e2) k2 cu (by rw [List.length_map, List.length_range]; decide) (fun g => by have := g.1; rw [List.length_map, List.length_range] at this; omega) (fun H' e s' => q H' ((ExtN.of e2).trans e) s') c dx a1 a2 a3
end
end KO1
set_option Elab.async false
set_option linter.all false
set_option maxRecDepth 100000
set_option maxHeartbeats 4000000
namespace KO1
open PySem PySem.Spec PyProof.Rows L2 KB KC KS KN1 LamX K7 CL
section
variable {P : Program} {w : World} {K : PySem.W.Frag} {mg : Str → Option Value} {base : Heap} {CB CS CR Ps Pi Pl cL fTo fL : Addr} {fdTo : FuncData} {A : Around} {outer : List PySem.Env} {s : Shared} {H0 : Hp} {E0' : XK} {d p two : Addr}
theorem two_kind : ∀ x ∈ twoC, x.2 = "int" ∨ x.2 = "text" := by decide
theorem beh_30 (ve : LawE P w K mg base CB CS CR Ps Pi Pl cL fTo fdTo) : BehL P w K mg base fL cL A outer s H0 E0' CS CR Ps Pi Pl d p two 3 0 := by
  obtain ⟨fI, fdI, GI, MI, bI⟩ := ve.place
  refine ⟨_, fun A' outer' s' H E f c' hr' => pe_meth (pv 15) ve.S.cl MI GI (hr'.mono (by decide)) bI .nil (passes_call (takes_of rfl rfl rfl rfl) (fun _ _ _ _ h => h)) (pa_cons pe_str pa_nil), fun σ H E Q hσ x st q => ?_⟩
  obtain ⟨a0, a1, a2, a3, a4, a5, a6, a7, a8, a9, a10, a11, a12, a13, a14, a16, a17, a18, a19, a20, rfl⟩ := hσ
  obtain ⟨dx, t, e, g1⟩ := x.ins
  exact ⟨_, rfl, two, dx, _, rfl, g1, sF_m (by decide +kernel) (by decide +kernel), place_step (n := "c") x (by decide) (fun _ => q H (ExtN.refl H) st) fun i hi => by
    have z : placeIn twoC "c" = none := by decide +kernel
    rw [z] at hi; cases hi⟩
theorem beh_31 (ve : LawE P w K mg base CB CS CR Ps Pi Pl cL fTo fdTo) : BehL P w K mg base fL cL A outer s H0 E0' CS CR Ps Pi Pl d p two 3 1 := by
  obtain ⟨fI, fdI, GI, MI, bI⟩ := ve.check
  refine ⟨_, fun A' outer' s' H E f c' hr' => pe_meth (pv 15) ve.S.cl MI GI (hr'.mono (by decide)) bI .nil (passes_call (takes_of rfl rfl rfl rfl) (fun _ _ _ _ h => h)) (pa_cons (pe_tup (pa_cons pe_int pa_nil)) pa_nil), fun σ H E Q hσ x st q => ?_⟩
  obtain ⟨a0, a1, a2, a3, a4, a5, a6, a7, a8, a9, a10, a11, a12, a13, a14, a16, a17, a18, a19, a20, rfl⟩ := hσ
  obtain ⟨dx, t, e, g1⟩ := x.ins
  refine ⟨_, rfl, two, dx, _, rfl, g1, sF_m (by decide +kernel) (by decide +kernel), (by show 1 ≤ sizeLine; decide), fun r hr => ?_⟩
  have e1 : KS.Ex H (upd H r (.tup [.int 1])) := Ex.upd hr
  have s1 := st.ex e1
  exact check_step (xs := [.int 1]) (x.ex e1) (by decide) two_kind s1.ts upd_same (fun v hv => by rw [List.mem_singleton.mp hv]; trivial) (by decide) (fun _ H' t' => q H' ((ExtN.of e1).trans (extN_tb s1.ts t')) (s1.tb ve.ap t')) fun z => absurd z (by intro z; cases z)
theorem beh_32 (ve : LawE P w K mg base CB CS CR Ps Pi Pl cL fTo fdTo) : BehL P w K mg base fL cL A outer s H0 E0' CS CR Ps Pi Pl d p two 3 2 := by
  obtain ⟨fI, fdI, GI, MI, bI⟩ := ve.check
  refine ⟨_, fun A' outer' s' H E f c' hr' => pe_meth (pv 15) ve.S.cl MI GI (hr'.mono (by decide)) bI .nil (passes_call (takes_of rfl rfl rfl rfl) (fun _ _ _ _ h => h)) (pa_cons (pe_lst (pa_cons pe_int (pa_cons pe_str pa_nil))) pa_nil), fun σ H E Q hσ x st q => ?_⟩
  obtain ⟨a0, a1, a2, a3, a4, a5, a6, a7, a8, a9, a10, a11, a12, a13, a14, a16, a17, a18, a19, a20, rfl⟩ := hσ
  obtain ⟨dx, t, e, g1⟩ := x.ins
  refine ⟨_, rfl, two, dx, _, rfl, g1, sF_m (by decide +kernel) (by decide +kernel), (by show 2 ≤ sizeLine; decide), fun r hr => ?_⟩
  have e1 : KS.Ex H (upd H r (.lst [.int 1, .str "x"])) := Ex.upd hr
  have s1 := st.ex e1
  exact check_lst (x.ex e1) (by decide) two_kind s1.ts upd_same (q _ (ExtN.of e1) s1)
theorem beh_40 (ve : LawE P w K mg base CB CS CR Ps Pi Pl cL fTo fdTo) : BehL P w K mg base fL cL A outer s H0 E0' CS CR Ps Pi Pl d p two 4 0 := by
  obtain ⟨fI, fdI, GI, MI, bI⟩ := ve.check
  refine ⟨_, fun A' outer' s' H E f c' hr' => pe_meth (pv 15) ve.S.cl MI GI (hr'.mono (by decide)) bI .nil (passes_call (takes_of rfl rfl rfl rfl) (fun _ _ _ _ h => h)) (pa_cons (pe_tup (pa_cons pe_bl (pa_cons pe_str pa_nil))) pa_nil), fun σ H E Q hσ x st q => ?_⟩
  obtain ⟨a0, a1, a2, a3, a4, a5, a6, a7, a8, a9, a10, a11, a12, a13, a14, a16, a17, a18, a19, a20, rfl⟩ := hσ
  obtain ⟨dx, t, e, g1⟩ := x.ins
  refine ⟨_, rfl, two, dx, _, rfl, g1, sF_m (by decide +kernel) (by decide +kernel), (by show 2 ≤ sizeLine; decide), fun r hr => ?_⟩
  have e1 : KS.Ex H (upd H r (.tup [.bl true, .str "x"])) := Ex.upd hr
  have s1 := st.ex e1
  exact check_step (xs := [.bl true, .str "x"]) (x.ex e1) (by decide) two_kind s1.ts upd_same (fun v hv => by
    rcases List.mem_cons.mp hv with rfl | hv
    · trivial
    · rw [List.mem_singleton.mp hv]; trivial) (by decide) (fun _ H' t' => q H' ((ExtN.of e1).trans (extN_tb s1.ts t')) (s1.tb ve.ap t')) fun z => absurd z (by
      intro z
      have z := (List.cons.inj z).1
      cases z)
theorem read_no {H : Hp} {Q : VK} {E : XK} {r : Addr} {dat : List Int} (st : St Ps Pi Pl d p H) (h : H r = some (.tup (dat.map V.int))) (hb : Bytes dat) (hl : dat.length ≤ 1000) (hn : allRow dat = none) (q : ∀ H', ExtN H H' → St Ps Pi Pl d p H' → E (.ref CR) none H') : spRead CR [.ref r] H Q E :=
  read_step h hb hl (fun _ H' e => q H' (ExtN.of e) (st.ex e)) fun k hk => by rw [hn] at hk; cases hk
theorem beh_41 (ve : LawE P w K mg base CB CS CR Ps Pi Pl cL fTo fdTo) : BehL P w K mg base fL cL A outer s H0 E0' CS CR Ps Pi Pl d p two 4 1 := by
  obtain ⟨fE, fdE, GE, gE, kpE, bE⟩ := ve.read
  refine ⟨fun E => tCall (spRead CR) [] E (tCons (tOp (rCatA K) (tTup (tCons (tC (.int 21)) tNil)) (tOp (rRepT K) (tTup (tCons (tC (.int 0)) (tCons (tC (.int 0)) tNil))) (tC (.int 21)))) tNil), fun A' outer' s' H E f c' hr' => pe_call GE (hr'.mono (by decide)) (by rfl) gE kpE bE .nil (passes_call (takes_of rfl rfl rfl rfl) (fun _ _ _ _ h => h)) (pa_cons (pe_op op_catA (pe_tup (pa_cons pe_int pa_nil)) (pe_op op_repT (pe_tup (pa_cons pe_int (pa_cons pe_int pa_nil))) pe_int)) pa_nil), fun σ H E Q hσ x st q => ?_⟩
  refine ⟨(by show 1 ≤ sizeLine; decide), fun t1 ht1 => ⟨(by show 2 ≤ sizeLine; decide), fun t2 ht2 => ?_⟩⟩
  have e1 : KS.Ex H (upd H t1 (.tup [.int 21])) := Ex.upd ht1
  have h1 : (upd H t1 (.tup [.int 21])) t1 = some (.tup (([21] : List Int).map V.int)) := upd_same
  generalize upd H t1 (.tup [.int 21]) = H1 at e1 h1 ht2
  have e2 : KS.Ex H1 (upd H1 t2 (.tup [.int 0, .int 0])) := Ex.upd ht2
  have h2 : (upd H1 t2 (.tup [.int 0, .int 0])) t2 = some (.tup [.int 0, .int 0]) := upd_same
  generalize upd H1 t2 (.tup [.int 0, .int 0]) = H2 at e2 h2
  refine ⟨t2, 21, _, rfl, rfl, SqT.of h2, by simp, by decide, by decide, by decide, fun t3 ht3 => ?_⟩
  have ez : (List.replicate (21 : Int).toNat [V.int 0, V.int 0]).flatten = (List.replicate 42 (0 : Int)).map V.int := by decide +kernel
  rw [ez]
  have e3 : KS.Ex H2 (upd H2 t3 (.tup ((List.replicate 42 (0 : Int)).map V.int))) := Ex.upd ht3
  have h3 : (upd H2 t3 (.tup ((List.replicate 42 (0 : Int)).map V.int))) t3 = some (.tup ((List.replicate 42 (0 : Int)).map V.int)) := upd_same
  generalize upd H2 t3 (.tup ((List.replicate 42 (0 : Int)).map V.int)) = H3 at e3 h3
  refine cat_two ((e2.trans e3) _ _ h1) h3 (by decide) fun H4 c4 e4 h4 => ?_
  have e14 := ((e1.trans e2).trans e3).trans e4
  exact read_no (st.ex e14) h4 (by unfold Bytes; decide +kernel) (by decide +kernel) (by decide +kernel) fun H' e s' => q H' ((ExtN.of e14).trans e) s'
theorem beh_50 (ve : LawE P w K mg base CB CS CR Ps Pi Pl cL fTo fdTo) : BehL P w K mg base fL cL A outer s H0 E0' CS CR Ps Pi Pl d p two 5 0 := by
  obtain ⟨fE, fdE, GE, gE, kpE, bE⟩ := ve.read
  refine ⟨_, fun A' outer' s' H E f c' hr' => pe_call GE (hr'.mono (by decide)) (by rfl) gE kpE bE .nil (passes_call (takes_of rfl rfl rfl rfl) (fun _ _ _ _ h => h)) (pa_cons (pe_tup (pa_cons pe_int (pa_cons pe_int (pa_cons pe_int (pa_cons pe_int pa_nil))))) pa_nil), fun σ H E Q hσ x st q => ?_⟩
  refine ⟨(by show 4 ≤ sizeLine; decide), fun t1 ht1 => ?_⟩
  have e1 : KS.Ex H (upd H t1 (.tup [.int 1, .int 0, .int 128, .int 0])) := Ex.upd ht1
  exact read_no (dat := [1, 0, 128, 0]) (st.ex e1) upd_same (by unfold Bytes; decide +kernel) (by decide +kernel) (by decide +kernel) fun H' e s' => q H' ((ExtN.of e1).trans e) s'
theorem beh_51 (ve : LawE P w K mg base CB CS CR Ps Pi Pl cL fTo fdTo) : BehL P w K mg base fL cL A outer s H0 E0' CS CR Ps Pi Pl d p two 5 1 := by
  obtain ⟨fE, fdE, GE, gE, kpE, bE⟩ := ve.read
  refine ⟨_, fun A' outer' s' H E f c' hr' => pe_call GE (hr'.mono (by decide)) (by rfl) gE kpE bE .nil (passes_call (takes_of rfl rfl rfl rfl) (fun _ _ _ _ h => h)) (pa_cons (pe_tup (pa_cons pe_int (pa_cons pe_int pa_nil))) pa_nil), fun σ H E Q hσ x st q => ?_⟩
  refine ⟨(by show 2 ≤ sizeLine; decide), fun t1 ht1 => ?_⟩
  have e1 : KS.Ex H (upd H t1 (.tup [.int 1, .int 3])) := Ex.upd ht1
  exact read_no (dat := [1, 3]) (st.ex e1) upd_same (by unfold Bytes; decide +kernel) (by decide +kernel) (by decide +kernel) fun H' e s' => q H' ((ExtN.of e1).trans e) s'
theorem beh_52 (ve : LawE P w K mg base CB CS CR Ps Pi Pl cL fTo fdTo) : BehL P w K mg base fL cL A outer s H0 E0' CS CR Ps Pi Pl d p two 5 2 := by
  obtain ⟨fE, fdE, GE, gE, kpE, bE⟩ := ve.read
  refine ⟨_, fun A' outer' s' H E f c' hr' => pe_call GE (hr'.mono (by decide)) (by rfl) gE kpE bE .nil (passes_call (takes_of rfl rfl rfl rfl) (fun _ _ _ _ h => h)) (pa_cons (pe_tup pa_nil) pa_nil), fun σ H E Q hσ x st q => ?_⟩
  refine ⟨(by show 0 ≤ sizeLine; decide), fun t1 ht1 => ?_⟩
  have e1 : KS.Ex H (upd H t1 (.tup [])) := Ex.upd ht1
  exact read_no (dat := []) (st.ex e1) upd_same (fun _ z => nomatch z) (by decide +kernel) (by decide +kernel) fun H' e s' => q H' ((ExtN.of e1).trans e) s'
end
end KO1
set_option Elab.async false
set_option linter.all false
set_option maxRecDepth 100000
set_option maxHeartbeats 4000000
namespace KO1
open PySem PySem.Spec PyProof.Rows L2 KB KC KS KN1 LamX K7 CL
section
variable {P : Program} {w : World} {K : PySem.W.Frag} {mg : Str → Option Value} {base : Heap} {CB CS CR Ps Pi Pl cL fTo fL : Addr} {fdTo : FuncData} {A : Around} {outer : List PySem.Env} {s : Shared} {H0 : Hp} {E0' : XK} {d p two : Addr}
theorem tl_mem : (Pl, (Str.ofString "law" ++ Str.ofString ".<locals>.") ++ Str.ofString "<lambda>") ∈ TT Ps Pi Pl := by
  rw [qLaw]
  exact List.mem_cons_of_mem _ (List.mem_cons_of_mem _ (List.mem_cons_self ..))
theorem tl_uni (ap : Apt Ps Pi Pl) : ∀ x ∈ TT Ps Pi Pl, x.1 = Pl → x.2 = (Str.ofString "law" ++ Str.ofString ".<locals>.") ++ Str.ofString "<lambda>" := fun x hx e => by
  rw [qLaw]
  rcases List.mem_cons.mp hx with z | hx
  · rw [z] at e; exact absurd e ap.sl
  rcases List.mem_cons.mp hx with z | hx
  · rw [z] at e; exact absurd e ap.il
  rcases List.mem_cons.mp hx with z | hx
  · rw [z]
  cases hx
theorem clo_step {j i : Nat} {σ : L2.St} {H : Hp} {Q : VK} (hb : BehL P w K mg base fL cL A outer s H0 E0' CS CR Ps Pi Pl d p two j i) (L : lamSB (defScope sLaw) (lamSc (lamE j i)) = true)
    (hbind : ∀ (q : Str) (cl : List (Str × Addr)) (pm cv ctv : Value), bindArgs (PySem.W.kla_fn "<lambda>" q (lamP (lamE j i)) (lamB (lamE j i)) (lamSc (lamE j i)) cl pm cv ctv) ⟨[], []⟩ = pure []) (st : St Ps Pi Pl d p H)
    (q : ∀ f H1, ExtN H H1 → St Ps Pi Pl d p H1 → BadC (xLaw P w K mg base fL cL A outer s H0 E0') CS CR Ps Pi Pl d p two f H1 → Q (.ref f) H1) :
    CP.tClo (TT Ps Pi Pl) ((xLaw P w K mg base fL cL A outer s H0 E0').env.qual ++ "<lambda>") (lamP (lamE j i)) (lamB (lamE j i)) (lamSc (lamE j i)) (cloFrom (xLaw P w K mg base fL cL A outer s H0 E0').env.cells (lamSc (lamE j i)).names []) σ H Q :=
  ⟨st.tabs, fun f c' H1 e1 t1 hf hc _ => q f H1 e1 (st.exN e1 t1) ⟨c', _, _, _, ⟨hf, hc⟩, lamS_by L, hbind, hb⟩⟩
def Sb (l two : Addr) (σ : L2.St) : Prop := ∃ a0 a1 a2 a3 a4 a5 a6 a7 a8 a9 a11 a12 a13 a14 a16 a17 a18 a19 a20 : Option V, σ = [a0, a1, a2, a3, a4, a5, a6, a7, a8, a9, some (.ref l), a11, a12, a13, a14, some (.ref two), a16, a17, a18, a19, a20]
theorem Sb.s2 {l two : Addr} {σ : L2.St} (h : Sb l two σ) : S2 two σ := by
  obtain ⟨_, _, _, _, _, _, _, _, _, _, _, _, _, _, _, _, _, _, _, rfl⟩ := h
  exact ⟨_, _, _, _, _, _, _, _, _, _, _, _, _, _, _, _, _, _, _, _, rfl⟩
structure Lb (P : Program) (w : World) (K : PySem.W.Frag) (mg : Str → Option Value) (base : Heap) (fL cL : Addr) (A : Around) (outer : List PySem.Env) (s : Shared) (H0 : Hp) (E0' : XK) (CS CR Ps Pi Pl d p two l : Addr) (fs : List Addr) (H : Hp) : Prop where
  st : St Ps Pi Pl d p H
  x : ShA CS two twoC H
  l : H l = some (.lst (fs.map V.ref))
  bad : ∀ f ∈ fs, BadC (xLaw P w K mg base fL cL A outer s H0 E0') CS CR Ps Pi Pl d p two f H
  len : fs.length ≤ 100
theorem bad_lc (ve : LawE P w K mg base CB CS CR Ps Pi Pl cL fTo fdTo) {params : Arguments} {body : Expr} {scope : Scope} {pos : Pos} (hdef : defaultsOf params (xLaw P w K mg base fL cL A outer s H0 E0').env = ([], [])) (L : lamSB (defScope sLaw) scope = true) :
    PE (xLaw P w K mg base fL cL A outer s H0 E0') (.Lambda params body scope pos) (CP.tClo (TT Ps Pi Pl) ((xLaw P w K mg base fL cL A outer s H0 E0').env.qual ++ "<lambda>") params body scope (cloFrom (xLaw P w K mg base fL cL A outer s H0 E0').env.cells scope.names [])) :=
  CP.pe_cloV (X := xLaw P w K mg base fL cL A outer s H0 E0') (T := TT Ps Pi Pl) ve.TBl rfl tl_mem (tl_uni ve.ap) hdef (lamS_by (sc := defScope sLaw) L).free
theorem g_bad0 (ve : LawE P w K mg base CB CS CR Ps Pi Pl cL fTo fdTo) (hr : Room 12 (xLaw P w K mg base fL cL A outer s H0 E0').A) :
    ∃ t, PS (xLaw P w K mg base fL cL A outer s H0 E0') ((defBody sLaw).getD 2 pS) t ∧ ∀ (D : Ends) (σ : L2.St) (H : Hp) (d p two : Addr), S2 two σ → St Ps Pi Pl d p H → ShA CS two twoC H →
      (∀ (σ' : L2.St) (H' : Hp) (l : Addr) (fs : List Addr), fs.length = 5 → Sb l two σ' → Lb P w K mg base fL cL A outer s H0 E0' CS CR Ps Pi Pl d p two l fs H' → D.nx σ' H') → t D σ H := by
  refine ⟨_, ps_set (i := 10) scLaw.nd rfl (Or.inl rfl) (pe_lst (pa_cons (bad_lc ve rfl (by decide +kernel)) (pa_cons (bad_lc ve rfl (by decide +kernel)) (pa_cons (bad_lc ve rfl (by decide +kernel)) (pa_cons (bad_lc ve rfl (by decide +kernel)) (pa_cons (bad_lc ve rfl (by decide +kernel)) pa_nil)))))), ?_⟩
  rintro D σ H d p two ⟨a0, a1, a2, a3, a4, a5, a6, a7, a8, a9, a10, a11, a12, a13, a14, a16, a17, a18, a19, a20, rfl⟩ st x fin
  dsimp only [tAsg, tLst, tCons]
  refine clo_step (j := 0) (i := 0) (show BehL P w K mg base fL cL A outer s H0 E0' CS CR Ps Pi Pl d p two 0 0 from beh_00 ve) (by decide +kernel) (fun _ _ _ _ _ => rfl) st fun f0 H1 e1 s1 b1 => ?_
  refine clo_step (j := 0) (i := 1) (show BehL P w K mg base fL cL A outer s H0 E0' CS CR Ps Pi Pl d p two 0 1 from beh_01 ve) (by decide +kernel) (fun _ _ _ _ _ => rfl) s1 fun f1 H2 e2 s2 b2 => ?_
  refine clo_step (j := 0) (i := 2) (show BehL P w K mg base fL cL A outer s H0 E0' CS CR Ps Pi Pl d p two 0 2 from beh_02 ve) (by decide +kernel) (fun _ _ _ _ _ => rfl) s2 fun f2 H3 e3 s3 b3 => ?_
  refine clo_step (j := 0) (i := 3) (show BehL P w K mg base fL cL A outer s H0 E0' CS CR Ps Pi Pl d p two 0 3 from beh_03 ve) (by decide +kernel) (fun _ _ _ _ _ => rfl) s3 fun f3 H4 e4 s4 b4 => ?_
  refine clo_step (j := 0) (i := 4) (show BehL P w K mg base fL cL A outer s H0 E0' CS CR Ps Pi Pl d p two 0 4 from beh_04 ve) (by decide +kernel) (fun _ _ _ _ _ => rfl) s4 fun f4 H5 e5 s5 b5 => ?_
  refine ⟨(by show 5 ≤ sizeLine; decide), fun l hl => ?_⟩
  have e6 : KS.Ex H5 (upd H5 l (.lst [.ref f0, .ref f1, .ref f2, .ref f3, .ref f4])) := Ex.upd hl
  have h6 : (upd H5 l (.lst [.ref f0, .ref f1, .ref f2, .ref f3, .ref f4])) l = some (.lst ([f0, f1, f2, f3, f4].map V.ref)) := upd_same
  have x6 := x.exN ((((e1.trans e2).trans e3).trans e4).trans (e5.trans (ExtN.of e6)))
  refine fin _ _ l [f0, f1, f2, f3, f4] rfl ⟨_, _, _, _, _, _, _, _, _, _, _, _, _, _, _, _, _, _, _, rfl⟩ ⟨s5.ex e6, x6, h6, fun f hf => ?_, by show 5 ≤ 100; decide⟩
  simp only [List.mem_cons, List.not_mem_nil, or_false] at hf
  rcases hf with rfl | rfl | rfl | rfl | rfl
  · exact b1.exN (((e2.trans e3).trans e4).trans (e5.trans (ExtN.of e6)))
  · exact b2.exN ((e3.trans e4).trans (e5.trans (ExtN.of e6)))
  · exact b3.exN (e4.trans (e5.trans (ExtN.of e6)))
  · exact b4.exN (e5.trans (ExtN.of e6))
  · exact b5.exN (ExtN.of e6)
theorem add2 {D : Ends} {H : Hp} {l : Addr} {fs : List Addr} {j : Nat} {i0 i1 : Nat} {a0 a1 a2 a3 a4 a5 a6 a7 a8 a9 a11 a12 a13 a14 a16 a17 a18 a19 a20 : Option V} (lb : Lb P w K mg base fL cL A outer s H0 E0' CS CR Ps Pi Pl d p two l fs H)
    (h0 : BehL P w K mg base fL cL A outer s H0 E0' CS CR Ps Pi Pl d p two j i0) (h1 : BehL P w K mg base fL cL A outer s H0 E0' CS CR Ps Pi Pl d p two j i1)
    (L0 : lamSB (defScope sLaw) (lamSc (lamE j i0)) = true) (L1 : lamSB (defScope sLaw) (lamSc (lamE j i1)) = true)
    (B0 : ∀ (q : Str) (cl : List (Str × Addr)) (pm cv ctv : Value), bindArgs (PySem.W.kla_fn "<lambda>" q (lamP (lamE j i0)) (lamB (lamE j i0)) (lamSc (lamE j i0)) cl pm cv ctv) ⟨[], []⟩ = pure [])
    (B1 : ∀ (q : Str) (cl : List (Str × Addr)) (pm cv ctv : Value), bindArgs (PySem.W.kla_fn "<lambda>" q (lamP (lamE j i1)) (lamB (lamE j i1)) (lamSc (lamE j i1)) cl pm cv ctv) ⟨[], []⟩ = pure []) (hl : fs.length ≤ 90)
    (fin : ∀ (σ' : L2.St) (H' : Hp) (l : Addr) (gs : List Addr), gs.length = fs.length + 2 → Sb l two σ' → Lb P w K mg base fL cL A outer s H0 E0' CS CR Ps Pi Pl d p two l gs H' → D.nx σ' H') :
    tAsg (tOp rCat (tVar 10) (tLst (tCons (CP.tClo (TT Ps Pi Pl) ((xLaw P w K mg base fL cL A outer s H0 E0').env.qual ++ "<lambda>") (lamP (lamE j i0)) (lamB (lamE j i0)) (lamSc (lamE j i0)) (cloFrom (xLaw P w K mg base fL cL A outer s H0 E0').env.cells (lamSc (lamE j i0)).names []))
      (tCons (CP.tClo (TT Ps Pi Pl) ((xLaw P w K mg base fL cL A outer s H0 E0').env.qual ++ "<lambda>") (lamP (lamE j i1)) (lamB (lamE j i1)) (lamSc (lamE j i1)) (cloFrom (xLaw P w K mg base fL cL A outer s H0 E0').env.cells (lamSc (lamE j i1)).names [])) tNil)))) (gName 10) D
      [a0, a1, a2, a3, a4, a5, a6, a7, a8, a9, some (.ref l), a11, a12, a13, a14, some (.ref two), a16, a17, a18, a19, a20] H := by
  refine ⟨_, rfl, ?_⟩
  dsimp only [tLst, tCons]
  refine clo_step h0 L0 B0 lb.st fun f0 H1 e1 s1 b1 => ?_
  refine clo_step h1 L1 B1 s1 fun f1 H2 e2 s2 b2 => ?_
  refine ⟨(by show 2 ≤ sizeLine; decide), fun m hm => ?_⟩
  have e3 : KS.Ex H2 (upd H2 m (.lst [.ref f0, .ref f1])) := Ex.upd hm
  have h3 : (upd H2 m (.lst [.ref f0, .ref f1])) m = some (.lst ([f0, f1].map V.ref)) := upd_same
  generalize upd H2 m (.lst [.ref f0, .ref f1]) = H3 at e3 h3
  have hl3 : H3 l = some (.lst (fs.map V.ref)) := e3 _ _ (e2 _ _ (e1 _ _ lb.l (fun _ z => nomatch z)) (fun _ z => nomatch z))
  have hz : sizeLine = 16777216 := rfl
  refine ⟨l, m, _, _, rfl, rfl, hl3, h3, by rw [List.length_map]; show _ + 2 ≤ _; omega, fun n hn => ?_⟩
  rw [← List.map_append]
  have e4 : KS.Ex H3 (upd H3 n (.lst ((fs ++ [f0, f1]).map V.ref))) := Ex.upd hn
  have h4 : (upd H3 n (.lst ((fs ++ [f0, f1]).map V.ref))) n = some (.lst ((fs ++ [f0, f1]).map V.ref)) := upd_same
  have e34 := ExtN.of (e3.trans e4)
  refine fin _ _ n (fs ++ [f0, f1]) (by rw [List.length_append]; rfl) ⟨_, _, _, _, _, _, _, _, _, _, _, _, _, _, _, _, _, _, _, rfl⟩ ⟨s2.ex (e3.trans e4), lb.x.exN ((e1.trans e2).trans e34), h4, fun f hf => ?_, by rw [List.length_append]; show _ + 2 ≤ _; omega⟩
  rcases List.mem_append.mp hf with hf | hf
  · exact (lb.bad f hf).exN ((e1.trans e2).trans e34)
  simp only [List.mem_cons, List.not_mem_nil, or_false] at hf
  rcases hf with rfl | rfl
  · exact b1.exN (e2.trans e34)
  · exact b2.exN e34
theorem add3 {D : Ends} {H : Hp} {l : Addr} {fs : List Addr} {j : Nat} {i0 i1 i2 : Nat} {a0 a1 a2 a3 a4 a5 a6 a7 a8 a9 a11 a12 a13 a14 a16 a17 a18 a19 a20 : Option V} (lb : Lb P w K mg base fL cL A outer s H0 E0' CS CR Ps Pi Pl d p two l fs H)
    (h0 : BehL P w K mg base fL cL A outer s H0 E0' CS CR Ps Pi Pl d p two j i0) (h1 : BehL P w K mg base fL cL A outer s H0 E0' CS CR Ps Pi Pl d p two j i1) (h2 : BehL P w K mg base fL cL A outer s H0 E0' CS CR Ps Pi Pl d p two j i2)
    (L0 : lamSB (defScope sLaw) (lamSc (lamE j i0)) = true) (L1 : lamSB (defScope sLaw) (lamSc (lamE j i1)) = true) (L2' : lamSB (defScope sLaw) (lamSc (lamE j i2)) = true)
    (B0 : ∀ (q : Str) (cl : List (Str × Addr)) (pm cv ctv : Value), bindArgs (PySem.W.kla_fn "<lambda>" q (lamP (lamE j i0)) (lamB (lamE j i0)) (lamSc (lamE j i0)) cl pm cv ctv) ⟨[], []⟩ = pure [])
    (B1 : ∀ (q : Str) (cl : List (Str × Addr)) (pm cv ctv : Value), bindArgs (PySem.W.kla_fn "<lambda>" q (lamP (lamE j i1)) (lamB (lamE j i1)) (lamSc (lamE j i1)) cl pm cv ctv) ⟨[], []⟩ = pure [])
    (B2 : ∀ (q : Str) (cl : List (Str × Addr)) (pm cv ctv : Value), bindArgs (PySem.W.kla_fn "<lambda>" q (lamP (lamE j i2)) (lamB (lamE j i2)) (lamSc (lamE j i2)) cl pm cv ctv) ⟨[], []⟩ = pure []) (hl : fs.length ≤ 90)
    (fin : ∀ (σ' : L2.St) (H' : Hp) (l : Addr) (gs : List Addr), gs.length = fs.length + 3 → Sb l two σ' → Lb P w K mg base fL cL A outer s H0 E0' CS CR Ps Pi Pl d p two l gs H' → D.nx σ' H') :
    tAsg (tOp rCat (tVar 10) (tLst (tCons (CP.tClo (TT Ps Pi Pl) ((xLaw P w K mg base fL cL A outer s H0 E0').env.qual ++ "<lambda>") (lamP (lamE j i0)) (lamB (lamE j i0)) (lamSc (lamE j i0)) (cloFrom (xLaw P w K mg base fL cL A outer s H0 E0').env.cells (lamSc (lamE j i0)).names []))
      (tCons (CP.tClo (TT Ps Pi Pl) ((xLaw P w K mg base fL cL A outer s H0 E0').env.qual ++ "<lambda>") (lamP (lamE j i1)) (lamB (lamE j i1)) (lamSc (lamE j i1)) (cloFrom (xLaw P w K mg base fL cL A outer s H0 E0').env.cells (lamSc (lamE j i1)).names []))
      (tCons (CP.tClo (TT Ps Pi Pl) ((xLaw P w K mg base fL cL A outer s H0 E0').env.qual ++ "<lambda>") (lamP (lamE j i2)) (lamB (lamE j i2)) (lamSc (lamE j i2)) (cloFrom (xLaw P w K mg base fL cL A outer s H0 E0').env.cells (lamSc (lamE j i2)).names [])) tNil))))) (gName 10) D
      [a0, a1, a2, a3, a4, a5, a6, a7, a8, a9, some (.ref l), a11, a12, a13, a14, some (.ref two), a16, a17, a18, a19, a20] H := by
  refine ⟨_, rfl, ?_⟩
  dsimp only [tLst, tCons]
  refine clo_step h0 L0 B0 lb.st fun f0 H1 e1 s1 b1 => ?_
  refine clo_step h1 L1 B1 s1 fun f1 H2 e2 s2 b2 => ?_
  refine clo_step h2 L2' B2 s2 fun f2 H5 e5 s5 b5 => ?_
  refine ⟨(by show 3 ≤ sizeLine; decide), fun m hm => ?_⟩
  have e3 : KS.Ex H5 (upd H5 m (.lst [.ref f0, .ref f1, .ref f2])) := Ex.upd hm
  have h3 : (upd H5 m (.lst [.ref f0, .ref f1, .ref f2])) m = some (.lst ([f0, f1, f2].map V.ref)) := upd_same
  generalize upd H5 m (.lst [.ref f0, .ref f1, .ref f2]) = H3 at e3 h3
  have hl3 : H3 l = some (.lst (fs.map V.ref)) := e3 _ _ (e5 _ _ (e2 _ _ (e1 _ _ lb.l (fun _ z => nomatch z)) (fun _ z => nomatch z)) (fun _ z => nomatch z))
  have hz : sizeLine = 16777216 := rfl
  refine ⟨l, m, _, _, rfl, rfl, hl3, h3, by rw [List.length_map]; show _ + 3 ≤ _; omega, fun n hn => ?_⟩
  rw [← List.map_append]
  have e4 : KS.Ex H3 (upd H3 n (.lst ((fs ++ [f0, f1, f2]).map V.ref))) := Ex.upd hn
  have h4 : (upd H3 n (.lst ((fs ++ [f0, f1, f2]).map V.ref))) n = some (.lst ((fs ++ [f0, f1, f2]).map V.ref)) := upd_same
  have e34 := ExtN.of (e3.trans e4)
  refine fin _ _ n (fs ++ [f0, f1, f2]) (by rw [List.length_append]; rfl) ⟨_, _, _, _, _, _, _, _, _, _, _, _, _, _, _, _, _, _, _, rfl⟩ ⟨s5.ex (e3.trans e4), lb.x.exN (((e1.trans e2).trans e5).trans e34), h4, fun f hf => ?_, by rw [List.length_append]; show _ + 3 ≤ _; omega⟩
  rcases List.mem_append.mp hf with hf | hf
  · exact (lb.bad f hf).exN (((e1.trans e2).trans e5).trans e34)
  simp only [List.mem_cons, List.not_mem_nil, or_false] at hf
  rcases hf with rfl | rfl | rfl
  · exact b1.exN ((e2.trans e5).trans e34)
  · exact b2.exN (e5.trans e34)
  · exact b5.exN e34
end
end KO1
set_option Elab.async false
set_option linter.all false
set_option maxRecDepth 100000
set_option maxHeartbeats 4000000
namespace KO1
open PySem PySem.Spec PyProof.Rows L2 KB KC KS KN1 LamX K7 CL RC
section
variable {P : Program} {w : World} {K : PySem.W.Frag} {mg : Str → Option Value} {base : Heap} {CB CS CR Ps Pi Pl cL fTo fL : Addr} {fdTo : FuncData} {A : Around} {outer : List PySem.Env} {s : Shared} {H0 : Hp} {E0' : XK} {d p two : Addr}
theorem g_bad (ve : LawE P w K mg base CB CS CR Ps Pi Pl cL fTo fdTo) (hr : Room 12 (xLaw P w K mg base fL cL A outer s H0 E0').A) :
    ∃ t1 t2 t3 t4 t5, PS (xLaw P w K mg base fL cL A outer s H0 E0') ((defBody sLaw).getD 3 pS) t1 ∧ PS (xLaw P w K mg base fL cL A outer s H0 E0') ((defBody sLaw).getD 4 pS) t2 ∧ PS (xLaw P w K mg base fL cL A outer s H0 E0') ((defBody sLaw).getD 5 pS) t3 ∧
      PS (xLaw P w K mg base fL cL A outer s H0 E0') ((defBody sLaw).getD 6 pS) t4 ∧ PS (xLaw P w K mg base fL cL A outer s H0 E0') ((defBody sLaw).getD 7 pS) t5 ∧
      ∀ (D : Ends) (σ : L2.St) (H : Hp) (d p two l : Addr) (fs : List Addr) (tr : TS), fs.length = 5 → Sb l two σ → Lb P w K mg base fL cL A outer s H0 E0' CS CR Ps Pi Pl d p two l fs H →
      (∀ (σ' : L2.St) (H' : Hp) (l : Addr) (fs : List Addr), Sb l two σ' → Lb P w K mg base fL cL A outer s H0 E0' CS CR Ps Pi Pl d p two l fs H' → tr D σ' H') → tSeq t1 (tSeq t2 (tSeq t3 (tSeq t4 (tSeq t5 tr)))) D σ H := by
  refine ⟨_, _, _, _, _, ps_set (i := 10) scLaw.nd rfl (Or.inl rfl) (pe_op op_cat (pv 10) (pe_lst (pa_cons (bad_lc ve rfl (by decide +kernel)) (pa_cons (bad_lc ve rfl (by decide +kernel)) pa_nil)))),
    ps_set (i := 10) scLaw.nd rfl (Or.inl rfl) (pe_op op_cat (pv 10) (pe_lst (pa_cons (bad_lc ve rfl (by decide +kernel)) (pa_cons (bad_lc ve rfl (by decide +kernel)) pa_nil)))),
    ps_set (i := 10) scLaw.nd rfl (Or.inl rfl) (pe_op op_cat (pv 10) (pe_lst (pa_cons (bad_lc ve rfl (by decide +kernel)) (pa_cons (bad_lc ve rfl (by decide +kernel)) (pa_cons (bad_lc ve rfl (by decide +kernel)) pa_nil))))),
    ps_set (i := 10) scLaw.nd rfl (Or.inl rfl) (pe_op op_cat (pv 10) (pe_lst (pa_cons (bad_lc ve rfl (by decide +kernel)) (pa_cons (bad_lc ve rfl (by decide +kernel)) pa_nil)))),
    ps_set (i := 10) scLaw.nd rfl (Or.inl rfl) (pe_op op_cat (pv 10) (pe_lst (pa_cons (bad_lc ve rfl (by decide +kernel)) (pa_cons (bad_lc ve rfl (by decide +kernel)) (pa_cons (bad_lc ve rfl (by decide +kernel)) pa_nil))))), ?_⟩
  rintro D σ H d p two l fs tr l5 ⟨a0, a1, a2, a3, a4, a5, a6, a7, a8, a9, a11, a12, a13, a14, a16, a17, a18, a19, a20, rfl⟩ lb fin
  dsimp only [tSeq]
  refine add2 (j := 1) (i0 := 0) (i1 := 1) lb (beh_10 ve) (beh_11 ve) (by decide +kernel) (by decide +kernel) (fun _ _ _ _ _ => rfl) (fun _ _ _ _ _ => rfl) (by omega) ?_
  rintro σ1 H1 l1 fs1 n1 ⟨b0, b1, b2, b3, b4, b5, b6, b7, b8, b9, b11, b12, b13, b14, b16, b17, b18, b19, b20, rfl⟩ lb1
  refine add2 (j := 2) (i0 := 0) (i1 := 1) lb1 (beh_20 ve) (beh_21 ve) (by decide +kernel) (by decide +kernel) (fun _ _ _ _ _ => rfl) (fun _ _ _ _ _ => rfl) (by omega) ?_
  rintro σ2 H2 l2 fs2 n2 ⟨c0, c1, c2, c3, c4, c5, c6, c7, c8, c9, c11, c12, c13, c14, c16, c17, c18, c19, c20, rfl⟩ lb2
  refine add3 (j := 3) (i0 := 0) (i1 := 1) (i2 := 2) lb2 (beh_30 ve) (beh_31 ve) (beh_32 ve) (by decide +kernel) (by decide +kernel) (by decide +kernel) (fun _ _ _ _ _ => rfl) (fun _ _ _ _ _ => rfl) (fun _ _ _ _ _ => rfl) (by omega) ?_
  rintro σ3 H3 l3 fs3 n3 ⟨d0, d1, d2, d3, d4, d5, d6, d7, d8, d9, d11, d12, d13, d14, d16, d17, d18, d19, d20, rfl⟩ lb3
  refine add2 (j := 4) (i0 := 0) (i1 := 1) lb3 (beh_40 ve) (beh_41 ve) (by decide +kernel) (by decide +kernel) (fun _ _ _ _ _ => rfl) (fun _ _ _ _ _ => rfl) (by omega) ?_
  rintro σ4 H4 l4 fs4 n4 ⟨e0, e1, e2, e3, e4, e5, e6, e7, e8, e9, e11, e12, e13, e14, e16, e17, e18, e19, e20, rfl⟩ lb4
  refine add3 (j := 5) (i0 := 0) (i1 := 1) (i2 := 2) lb4 (beh_50 ve) (beh_51 ve) (beh_52 ve) (by decide +kernel) (by decide +kernel) (by decide +kernel) (fun _ _ _ _ _ => rfl) (fun _ _ _ _ _ => rfl) (fun _ _ _ _ _ => rfl) (by omega) ?_
  intro σ5 H5 l5' fs5 n5 h5 lb5
  exact fin σ5 H5 l5' fs5 h5 lb5
abbrev tTold (CR : Addr) (K : PySem.W.Frag) (X : Cx) (ta : TA) (σ : L2.St) : TE := fun σ' H Q => ta σ' H fun vs H1 => ∃ f, vs = [.ref f] ∧ CloAt X 10 σ f H1 fun tl => TTold K CR "RowError" tl H1 Q
theorem clo_told {X : Cx} {pins : List (Addr × Obj)} {σ : L2.St} {s0 : Shared} {H1 : Hp} {sc : Scope} {ce : Env} {fp : List Addr} {xe0 : Value → Shared → Prop} (ve : LawE X.prog X.w X.K X.mg X.base CB CS CR Ps Pi Pl cL fTo fdTo) (hr : Room 12 X.A)
    (bk : Back X pins σ (blkX X s0 H1 sc ce fp xe0)) (hg : Gl (blkX X s0 H1 sc ce fp xe0) "_law_told") {ea : Expr} {ta : TA} {p pos : Pos} (ha : PA (blkX X s0 H1 sc ce fp xe0) [ea] ta)
    (he : starEach [ea] (blkX X s0 H1 sc ce fp xe0).env = (false, eval ea (blkX X s0 H1 sc ce fp xe0).env) :: starEach [] (blkX X s0 H1 sc ce fp xe0).env) (hpl : (backTo pos (starEach [] (blkX X s0 H1 sc ce fp xe0).env)).any (·.1) = false) :
    PE (blkX X s0 H1 sc ce fp xe0) (.Call (.Name "_law_told" p) [ea] [] pos) (tTold CR X.K X ta σ) := by
  obtain ⟨oc, od, dV, kV, doc, pm, an, cdv, ct, osl, rfl, lk, hcd, _, _⟩ := ve.told.ex
  have bT := ve.told.bindsN (ps := ["what"]) fun _ _ _ _ _ _ us hl => match us, hl with | [_], _ => rfl
  exact pe_clocall (k := 10) bk hg ve.gTold ve.told.kp lk hcd bT (Ng := ["what"]) (sg := defScope sTold) ⟨rfl, rfl, rfl, by decide +kernel, rfl, by decide +kernel, by decide +kernel⟩ rfl (Or.inl rfl)
    (told_givesH (by rfl) ve.J.g (by decide +kernel) (fun f => rfl)) hr ha (he := he) (hpl := hpl)
@[irreducible] def tIdxC (c : Nat) : TE := fun _ H Q => Q (.int ((idx tabL c : Nat) : Int)) H
theorem pe_lidxC {X : Cx} {c : Nat} (hc : c ∈ tabL) {tk : Tok} {j : Nat} {p1 p2 p3 p4 : Pos} (hg : Gl X "LETTERS") (hm : X.mg "LETTERS" = some (.str ltrs tk)) (hline : (p2.endLine == p4.line) = true := by rfl) :
    PE X (.Call (.Attribute (.Name "LETTERS" p1) "index" p2) [.Constant (.str ⟨#[c]⟩) j p3] [] p4) (tIdxC c) := by
  have h := pe_bm (X := X) (cpos := p4) (apos := p2) (name := "index") PySem.F.plainAttrs_str PySem.F.slot_str_index PySem.F.type_str_index mt_sindex (pe_glob (x := "LETTERS") (pos := p1) (v := .str ltrs) hg hm ⟨_, rfl⟩) (pa_cons (pe_str (x := ⟨#[c]⟩) (pos := p3) (j := j)) pa_nil) (hline := hline)
  refine ⟨fun pins s σ H Q I hw => h.run pins s σ H Q I ?_⟩
  unfold tIdxC at hw
  exact ⟨rfl, _, _, _, _, rfl, rfl, idx_occ c hc, hw⟩
end
end KO1
set_option Elab.async false
set_option linter.all false
set_option maxRecDepth 100000
set_option maxHeartbeats 4000000
namespace KO1
open PySem PySem.Spec PyProof.Rows L2 KB KC KS KN1 LamX K7 CL RC
def spLaw (K : PySem.W.Frag) (Ps Pi Pl : Addr) : Sp := fun vs H Q _ => ∃ (a : Addr) (ns : List Int), vs = [.ref a] ∧ SqL K H a (ns.map V.int) ∧ TabS H Ps qK ∧ TabS H Pi qSh ∧ TabS H Pl qL ∧ ∀ H', Q (.bl true) H'
theorem idxC_step {c : Nat} {σ : L2.St} {H : Hp} {Q : VK} (q : Q (.int ((idx tabL c : Nat) : Int)) H) : tIdxC c σ H Q := by
  unfold tIdxC
  exact q
theorem a_in : (97 : Nat) ∈ tabL := by decide +kernel
section
variable {P : Program} {w : World} {K : PySem.W.Frag} {mg : Str → Option Value} {base : Heap} {CB CS CR Ps Pi Pl cL fTo fL : Addr} {fdTo fdL : FuncData} {A : Around} {outer : List PySem.Env} {s : Shared} {H0 : Hp} {E0' : XK} {d p two : Addr}
theorem last_row : rowL tabL [.inl 1, .inr "a", .inl (-1)] = [3, 0, 1, 2, 1, ((idx tabL 97 : Nat) : Int), 1, 0] := by
  have n3 : natL 3 = [3] := by rw [natL, if_pos (by decide)]; rfl
  have n1 : natL 1 = [1] := by rw [natL, if_pos (by decide)]; rfl
  have n0 : natL 0 = [0] := by rw [natL, if_pos (by decide)]; rfl
  have v1 : valL tabL (.inl 1) = [0, 1] := by rw [valL_pos tabL (by decide)]; show 0 :: natL 1 = _; rw [n1]
  have v2 : valL tabL (.inr "a") = [2, 1, ((idx tabL 97 : Nat) : Int)] := by
    show 2 :: (natL 1 ++ [((idx tabL 97 : Nat) : Int)]) = _
    rw [n1]; rfl
  have v3 : valL tabL (.inl (-1)) = [1, 0] := by rw [valL_neg tabL (by decide)]; show 1 :: natL 0 = _; rw [n0]
  show natL 3 ++ (valL tabL (.inl 1) ++ (valL tabL (.inr "a") ++ (valL tabL (.inl (-1)) ++ []))) = _
  rw [n3, v1, v2, v3]
  rfl
theorem g_ret (ve : LawE P w K mg base CB CS CR Ps Pi Pl cL fTo fdTo) (hr : Room 12 (xLaw P w K mg base fL cL A outer s H0 E0').A) :
    ∃ t, PS (xLaw P w K mg base fL cL A outer s H0 E0') ((defBody sLaw).getD 8 pS) t ∧ ∀ (D : Ends) (σ : L2.St) (H : Hp) (d p two l : Addr) (fs : List Addr), Sb l two σ → Lb P w K mg base fL cL A outer s H0 E0' CS CR Ps Pi Pl d p two l fs H → (∀ H', D.rt (.bl true) H') → t D σ H := by
  have hu := hr.units
  obtain ⟨tk, hL⟩ := ve.TK.l
  obtain ⟨fO, fdO, GO, gO, kpO, bO⟩ := ve.row
  refine ⟨_, ps_ret (pe_and (pe_cmpR (op_eqD hu) (RC.pe_lcB (X := xLaw P w K mg base fL cL A outer s H0 E0') (own := [("f", 20)]) (g := gName 20) (tt := fun σ => tTest (tOp rNe (tTold CR K (xLaw P w K mg base fL cL A outer s H0 E0') (tCons (tVar 20) tNil) σ) (tC (.str "RowError")))) (te := tC (.int 1)) (E := fun _ _ _ => False) rfl scLaw.nd rfl rfl L2.takes0
        (pi_list (pv 10)) (blkOk_by (N := nLaw) (sc := defScope sLaw) (by decide +kernel)) (fun _ _ _ _ _ _ _ => pg_name (i := 20) scLaw.nd rfl (Or.inl rfl))
        (fun pins σ s1 H1 C cl fp xe bk _ => pts_one (pt_cmpR op_ne (clo_told (X := xLaw P w K mg base fL cL A outer s H0 E0') ve hr bk (by rfl) (pa_cons (pv 20) pa_nil) (by rfl) (by rfl)) pe_str (nomark _)))
        (fun _ _ _ _ _ _ _ => pe_int)) (pe_lst pa_nil) (nomark _))
      (pe_and (pe_cmpR (op_eqD hu) (pe_call GO (hr.mono (by decide)) (by rfl) gO kpO bO (E := fun _ _ _ => False) .nil (passes_call L2.takes0 (fun _ _ _ _ h => h)) (pa_cons (pe_tup (pa_cons pe_int (pa_cons pe_str (pa_cons (pe_un un_neg pe_int) pa_nil)))) pa_nil))
        (pe_tup (pa_cons pe_int (pa_cons pe_int (pa_cons pe_int (pa_cons pe_int (pa_cons pe_int (pa_cons (pe_lidxC a_in (by rfl) hL) (pa_cons pe_int (pa_cons pe_int pa_nil))))))))) (nomark _))
      (pe_one (pe_cmpR op_eq (pe_callB call_len_str (by rfl) ve.T.len (by decide +kernel) (pa_cons (pe_glob (v := .str ltrs) (by rfl) hL ⟨_, rfl⟩) pa_nil)) pe_int (nomark _))))), ?_⟩
  rintro D σ H d p two l fs ⟨a0, a1, a2, a3, a4, a5, a6, a7, a8, a9, a11, a12, a13, a14, a16, a17, a18, a19, a20, rfl⟩ lb fin
  refine ⟨_, rfl, l, rfl, ⟨_, SqL.of lb.l⟩, fun L hL' => ?_⟩
  have eL : KS.Ex H (upd H L (.lst [])) := Ex.upd hL'
  refine lc_it walk_list (fun j H' => ExtN H H' ∧ St Ps Pi Pl d p H' ∧ H' L = some (.lst [])) ⟨ExtN.of eL, lb.st.ex eL, upd_same⟩ (fun j H' _ h => SqL.of (h.1 _ _ lb.l (fun _ z => nomatch z))) ?_ ?_
  · rintro j v H5 H6 hj ⟨e5, s5, h5⟩ ⟨rfl, hx⟩
    rw [List.getElem?_map] at hx
    obtain ⟨f, hf, rfl⟩ := Option.map_eq_some_iff.mp hx
    refine ⟨rfl, .ref f, rfl, f, rfl, ((lb.bad f (List.mem_of_getElem? hf)).exN e5).told ve.J ⟨_, _, _, _, _, _, _, _, _, _, _, _, _, _, _, _, _, _, _, _, rfl⟩ (lb.x.exN e5) s5 fun H7 e7 s7 => ⟨rfl, _, rfl, ?_⟩⟩
    exact ifF (by decide) ⟨e5.trans e7, s7, e7 _ _ h5 (fun _ z => nomatch z)⟩
  · rintro H5 ⟨e5, s5, h5⟩
    refine ⟨(by show 0 ≤ sizeLine; decide), fun l2 hl2 => ?_⟩
    have e6 : KS.Ex H5 (upd H5 l2 (.lst [])) := Ex.upd hl2
    have s6 := s5.ex e6
    refine ⟨.list [], .list [], .lst (SqL.of (e6 _ _ h5)) .nil, .lst (SqL.of upd_same) .nil, by decide +kernel, by decide +kernel, _, rfl, ifT rfl ?_⟩
    generalize upd H5 l2 (.lst []) = H6 at s6
    refine ⟨_, rfl, (by show 3 ≤ sizeLine; decide), fun r hr6 => ?_⟩
    have e7 : KS.Ex H6 (upd H6 r (.tup [.int 1, .str "a", .int (-1)])) := Ex.upd hr6
    have s7 := s6.ex e7
    refine row_step (k := [.inl 1, .inr "a", .inl (-1)]) upd_same (fun x hx => ?_) (by decide) s7.ts fun H8 q8 t8 h8 => ?_
    · simp only [List.mem_cons, List.not_mem_nil, or_false] at hx
      rcases hx with rfl | rfl | rfl
      · exact ⟨by decide +kernel, by decide +kernel⟩
      · exact ⟨by decide +kernel, by decide +kernel⟩
      · exact ⟨by decide +kernel, by decide +kernel⟩
    have s8 := s7.tb ve.ap t8
    dsimp only [tTup, tCons, tC, tNil]
    refine idxC_step ⟨(by show 8 ≤ sizeLine; decide), fun q9 hq9 => ?_⟩
    have e9 : KS.Ex H8 (upd H8 q9 (.tup [.int 3, .int 0, .int 1, .int 2, .int 1, .int ((idx tabL 97 : Nat) : Int), .int 1, .int 0])) := Ex.upd hq9
    have h9 : (upd H8 q9 (.tup [.int 3, .int 0, .int 1, .int 2, .int 1, .int ((idx tabL 97 : Nat) : Int), .int 1, .int 0])) q9 = some (.tup (([3, 0, 1, 2, 1, ((idx tabL 97 : Nat) : Int), 1, 0] : List Int).map V.int)) := upd_same
    refine ⟨_, _, dp_i (e9 _ _ h8), dp_i h9, shaped_i _, shaped_i _, _, rfl, ?_⟩
    rw [eqv_i, last_row]
    refine ifT (by simp) ⟨ltrs, rfl, by rw [ltrs_size]; decide, rfl, ?_⟩
    rw [ltrs_size]
    exact fin _
theorem ok_law (F : FnP K "law" "law" sLaw [] fL fdL) (hc : fdL.code = .ref cL) (ve : LawE P w K mg base CB CS CR Ps Pi Pl cL fTo fdTo) : FnOk P w K mg base CX0 13 fL fdL ["script"] (spLaw K Ps Pi Pl) := by
  refine okC F hc scLaw (fun vs H Q E h => ?_) (fun A outer s H vs Q E hr h => ?_)
  · obtain ⟨_, _, rfl, _⟩ := h; rfl
  · obtain ⟨a, ns, rfl, hS, hts, hti, htl, fin⟩ := h
    obtain ⟨fR, fdR, GR, gR, kR, bR⟩ := ve.rounds
    obtain ⟨t0, d0, q0⟩ := g_round (fL := fL) (A := A) (outer := outer) (s := s) (H0 := H) (E0' := E) ve hr
    obtain ⟨t1, d1, q1⟩ := g_two (fL := fL) (A := A) (outer := outer) (s := s) (H0 := H) (E0' := E) ve hr
    obtain ⟨t2, d2, q2⟩ := g_bad0 (fL := fL) (A := A) (outer := outer) (s := s) (H0 := H) (E0' := E) ve hr
    obtain ⟨t3, t4, t5, t6, t7, d3, d4, d5, d6, d7, q3⟩ := g_bad (fL := fL) (A := A) (outer := outer) (s := s) (H0 := H) (E0' := E) ve hr
    obtain ⟨t8, d8, q8⟩ := g_ret (fL := fL) (A := A) (outer := outer) (s := s) (H0 := H) (E0' := E) ve hr
    refine ⟨_, PSs.nox <| (pss_cons (ps_for PassesOwn.never rfl (pi_list (pe_call GR (hr.mono (by decide)) (by rfl) gR kR bR .nil pass0 (pa_cons (pv 0) (pa_cons pe_int pa_nil)))) (pg_name (i := 1) scLaw.nd rfl (Or.inr rfl)) d0)
      (pss_cons d1 (pss_cons d2 (pss_cons d3 (pss_cons d4 (pss_cons d5 (pss_cons d6 (pss_cons d7 (pss_one d8)))))))) : PSs (xLaw P w K mg base fL cL A outer s H E) (defBody sLaw) _), ?_⟩
    refine ⟨_, rfl, rounds_step hS fun H1 p d e1 hp hd => ⟨p, rfl, ⟨_, SqL.of hp⟩, for_list (xs := [V.ref d]) (fun i σ H2 => St Ps Pi Pl d p H2 ∧ σ.length = 21 ∧ (i = 0 → σ = L2.start nLaw [.ref a])) ⟨⟨hts.ext e1, hti.ext e1, htl.ext e1, hd, hp⟩, rfl, fun _ => rfl⟩ (fun i σ H2 _ h => SqL.of h.1.hp) ?_ ?_⟩⟩
    · rintro i x σ H2 hx ⟨st, _, hi⟩
      cases i with
      | succ i => cases hx
      | zero =>
        obtain rfl := hi rfl
        cases hx
        dsimp only [gName]
        refine q0 _ _ H2 d p ⟨_, _, _, _, _, _, _, _, _, _, _, _, _, _, _, _, _, _, _, _, rfl⟩ st fun σ' H3 hs st3 => ?_
        exact ⟨st3, hs.len, fun z => nomatch z⟩
    · rintro σ H2 ⟨st, hl, _⟩
      refine q1 _ σ H2 d p hl st fun σ3 H3 two hs st3 x3 => ?_
      refine q2 _ σ3 H3 d p two hs st3 x3 fun σ4 H4 l fs l5 hs4 lb4 => ?_
      refine q3 _ σ4 H4 d p two l fs _ l5 hs4 lb4 fun σ5 H5 l' fs' hs5 lb5 => ?_
      exact q8 _ σ5 H5 d p two l' fs' hs5 lb5 fun H' => fin H'
end
end KO1
set_option Elab.async false
set_option linter.all false
set_option maxRecDepth 100000
set_option maxHeartbeats 0
namespace KO1
open PySem PySem.Spec PyProof.Rows L2
def dD (x : Str) (st : Stmt) : He.DefD := ⟨(x, none), x, x, defArgs st, defBody st, defScope st, [], []⟩
def dM (c m q : Str) (st : Stmt) : He.DefD := ⟨(c, some m), m, q, defArgs st, defBody st, defScope st, [], []⟩
def fnL : List He.DefD := [dD "kind_of" sKind, dD "natural_bytes" sNat, dD "value_bytes" sVal, dD "row_bytes" sRow, dD "read_row" sRead, dD "hash_of" sHash, dD "_law_dice" sDice, dD "_law_roll" sRoll, dD "_law_rounds" sRounds, dD "_law_told" sTold, dD "_law_natural" sLNat, dD "_law_drawn" sDrawn, dD "_law_bytes" sLBytes, dD "law" sLaw,
  dM "Shape" "__init__" "Shape.__init__" (sSM 0), dM "Shape" "place_of" "Shape.place_of" (sSM 1), dM "Shape" "kinds" "Shape.kinds" (sSM 2), dM "Shape" "check_row" "Shape.check_row" (sSM 3),
  dM "ByteReader" "__init__" "ByteReader.__init__" (sBM 0), dM "ByteReader" "byte" "ByteReader.byte" (sBM 1), dM "ByteReader" "row" "ByteReader.row" (sBM 2), dM "ByteReader" "whole_row" "ByteReader.whole_row" (sBM 3), dM "ByteReader" "natural" "ByteReader.natural" (sBM 4), dM "ByteReader" "value" "ByteReader.value" (sBM 5), dM "ByteReader" "text" "ByteReader.text" (sBM 6), dM "ByteReader" "letter" "ByteReader.letter" (sBM 7)]
def faL : List He.Fa := [.glo "kind_of", .glo "natural_bytes", .glo "value_bytes", .glo "row_bytes", .glo "read_row", .glo "hash_of", .glo "_law_dice", .glo "_law_roll", .glo "_law_rounds", .glo "_law_told", .glo "_law_natural", .glo "_law_drawn", .glo "_law_bytes", .glo "law", .glo "Shape", .glo "ByteReader", .glo "RowError", .glo "KINDS",
  .free "abs", .free "int", .free "range", .free "dict", .free "list", .free "tuple", .free "len", .free "zip", .free "isinstance", .free "str", .free "sorted", .free "all", .free "bool", .free "any", .free "enumerate",
  .int "MOST_COLUMNS" 20, .str "LETTERS" ltrs,
  .cls "Shape", .noat "Shape" "columns", .noat "Shape" "places", .mkr "Shape", .meth "Shape" "place_of", .meth "Shape" "kinds", .meth "Shape" "check_row",
  .cls "ByteReader", .noat "ByteReader" "data", .noat "ByteReader" "place", .mkr "ByteReader", .meth "ByteReader" "byte", .meth "ByteReader" "row", .meth "ByteReader" "whole_row", .meth "ByteReader" "natural", .meth "ByteReader" "value", .meth "ByteReader" "text", .meth "ByteReader" "letter",
  .exc "RowError", .exm "RowError" "RowError" true]
def tK : He.Defn := ("kind_of", none)
def tI : He.Defn := ("Shape", some "__init__")
def tL : He.Defn := ("law", none)
def tfL : List He.Defn := [tK, tI, tL]
def kindsB (K : PySem.W.Frag) : Bool := match K.lookup (He.ga K "KINDS") with
  | some ⟨.type c, _, .seq its _, _⟩ => decide (c = "tuple") && He.relAll [V.str "int", V.str "text"] its.toList
  | _ => false
def exL (K : PySem.W.Frag) : Bool := kindsB K && (((He.cT K tK).2 != (He.cT K tI).2) && ((He.cT K tK).2 != (He.cT K tL).2) && ((He.cT K tI).2 != (He.cT K tL).2))
abbrev RL : PySem.W.OpenRow := PySem.W.OpenLaw.row PySem.Challenge.rw_streamstack_k01_rows_as_bytes
abbrev hkL : PySem.W.Hook := He.hookX 6 faL fnL [] tfL exL
def obL (s : PySem.W.SharedT) : He.AlX := He.obsX 6 faL fnL [] tfL exL (HandSHeadRun.getT s)
theorem obL_eq (s : PySem.W.SharedT) : obL s = hkL.obs s.abs := He.obsX_eq (HandSHeadRun.getT_eq s)
def looseL : List Str := ["StreamError", "RowError", "KINDS", "LETTERS", "MOST_COLUMNS", "kind_of", "Shape", "natural_bytes", "value_bytes", "row_bytes", "ByteReader", "read_row", "hash_of", "_law_dice", "_law_roll", "_law_rounds", "_law_told", "_law_natural", "_law_drawn", "_law_bytes"]
theorem runL (w : World) : HandSHeadRun.RunEq RL (PySem.W.view RL.prog [23]) hkL obL 3000 looseL w := by
  intro os
  kernel_rfl
end KO1
set_option Elab.async false
set_option linter.all false
set_option maxRecDepth 100000
set_option maxHeartbeats 4000000
namespace KO1
open PySem PySem.Spec PyProof.Rows L2 KB KC KS KN1 LamX K7
theorem code_at {K : PySem.W.Frag} {x q : Str} {st : Stmt} {dvs : List V} {p : He.Defn} {fd : FuncData} (F : FnP K x q st dvs (He.fAd K p) fd) : fd.code = .ref (He.cT K p).1 := by
  obtain ⟨oc, od, dV, kV, doc, pm, an, cdv, ct, osl, rfl, lk, hcd, _, _⟩ := F.ex
  obtain ⟨c, e⟩ := He.codeIn_ref hcd
  subst e
  have z : He.codeOf K p = c := He.codeOf_eq lk rfl
  show Value.ref c = Value.ref (He.codeOf K p)
  rw [z]
theorem kinds_ok {K : PySem.W.Frag} {mg : Str → Option Value} (g : mg "KINDS" = some (.ref (He.ga K "KINDS"))) (h : kindsB K = true) : GT.TupG K mg "KINDS" ["int", "text"] := by
  unfold kindsB at h
  cases q : K.lookup (He.ga K "KINDS") with
  | none => rw [q] at h; cases h
  | some o =>
    obtain ⟨oc, od, dt, osl⟩ := o
    rw [q] at h
    cases oc with
    | type c =>
      cases dt with
      | seq its n =>
        have h : (decide (c = "tuple") && He.relAll [V.str "int", V.str "text"] its.toList) = true := h
        rw [Bool.and_eq_true] at h
        refine ⟨_, _, its, n, g, q, congrArg Value.type (of_decide_eq_true h.1), rfl, ?_⟩
        have r := He.relAll_ok h.2
        generalize its.toList = l at r
        cases r with
        | cons r1 rr =>
          cases rr with
          | cons r2 rr =>
            cases rr
            obtain ⟨t1, rfl⟩ := r1
            obtain ⟨t2, rfl⟩ := r2
            exact .cons _ _ (.cons _ _ .nil)
      | _ => cases h
    | _ => cases dt <;> cases h
def pickL (K : PySem.W.Frag) : List (Addr × Addr) := [He.cT K tK, He.cT K tI, He.cT K tL]
abbrev pr : Program := PySem.Challenge.rw_streamstack_k01_rows_as_bytes.prog
theorem lawAt {w : World} {mg : Str → Option Value} {fa : Addr} {h : Heap} {K : PySem.W.Frag} (X : K.In h) (G : h.Ns mainGlobals mg) (hmg : mg ("law" : Str) = some (.ref fa)) (c : He.SaysX faL fnL [] tfL exL w h K) :
    LawAtS PySem.Challenge.rw_streamstack_k01_rows_as_bytes w K CX0 13 63 "script" mg fa h := by
  have D := c.t.d
  obtain ⟨fd0, F0⟩ := D.def_ 0 (d := dD "kind_of" sKind) rfl
  obtain ⟨fd1, F1⟩ := D.def_ 1 (d := dD "natural_bytes" sNat) rfl
  obtain ⟨fd2, F2⟩ := D.def_ 2 (d := dD "value_bytes" sVal) rfl
  obtain ⟨fd3, F3⟩ := D.def_ 3 (d := dD "row_bytes" sRow) rfl
  obtain ⟨fd4, F4⟩ := D.def_ 4 (d := dD "read_row" sRead) rfl
  obtain ⟨fd5, F5⟩ := D.def_ 5 (d := dD "hash_of" sHash) rfl
  obtain ⟨fd6, F6⟩ := D.def_ 6 (d := dD "_law_dice" sDice) rfl
  obtain ⟨fd7, F7⟩ := D.def_ 7 (d := dD "_law_roll" sRoll) rfl
  obtain ⟨fd8, F8⟩ := D.def_ 8 (d := dD "_law_rounds" sRounds) rfl
  obtain ⟨fd9, F9⟩ := D.def_ 9 (d := dD "_law_told" sTold) rfl
  obtain ⟨fd10, F10⟩ := D.def_ 10 (d := dD "_law_natural" sLNat) rfl
  obtain ⟨fd11, F11⟩ := D.def_ 11 (d := dD "_law_drawn" sDrawn) rfl
  obtain ⟨fd12, F12⟩ := D.def_ 12 (d := dD "_law_bytes" sLBytes) rfl
  obtain ⟨fd13, F13⟩ := D.def_ 13 (d := dD "law" sLaw) rfl
  obtain ⟨fd14, F14⟩ := D.def_ 14 (d := dM "Shape" "__init__" "Shape.__init__" (sSM 0)) rfl
  obtain ⟨fd15, F15⟩ := D.def_ 15 (d := dM "Shape" "place_of" "Shape.place_of" (sSM 1)) rfl
  obtain ⟨fd16, F16⟩ := D.def_ 16 (d := dM "Shape" "kinds" "Shape.kinds" (sSM 2)) rfl
  obtain ⟨fd17, F17⟩ := D.def_ 17 (d := dM "Shape" "check_row" "Shape.check_row" (sSM 3)) rfl
  obtain ⟨fd18, F18⟩ := D.def_ 18 (d := dM "ByteReader" "__init__" "ByteReader.__init__" (sBM 0)) rfl
  obtain ⟨fd19, F19⟩ := D.def_ 19 (d := dM "ByteReader" "byte" "ByteReader.byte" (sBM 1)) rfl
  obtain ⟨fd20, F20⟩ := D.def_ 20 (d := dM "ByteReader" "row" "ByteReader.row" (sBM 2)) rfl
  obtain ⟨fd21, F21⟩ := D.def_ 21 (d := dM "ByteReader" "whole_row" "ByteReader.whole_row" (sBM 3)) rfl
  obtain ⟨fd22, F22⟩ := D.def_ 22 (d := dM "ByteReader" "natural" "ByteReader.natural" (sBM 4)) rfl
  obtain ⟨fd23, F23⟩ := D.def_ 23 (d := dM "ByteReader" "value" "ByteReader.value" (sBM 5)) rfl
  obtain ⟨fd24, F24⟩ := D.def_ 24 (d := dM "ByteReader" "text" "ByteReader.text" (sBM 6)) rfl
  obtain ⟨fd25, F25⟩ := D.def_ 25 (d := dM "ByteReader" "letter" "ByteReader.letter" (sBM 7)) rfl
  have gl : ∀ (i : Nat) (x : Str), faL[i]? = some (.glo x) → mg x = some (.ref (He.ga K x)) := fun i x h => He.glo_ok X G (D.fact i h)
  have fr : ∀ (i : Nat) (x : Str), faL[i]? = some (.free x) → mg x = none := fun i x h => He.free_ok X G (D.fact i h)
  have me : ∀ (i : Nat) (C m : Str), faL[i]? = some (.meth C m) → Meth K (He.ga K C) m (He.ma K (He.ga K C) m) := fun i C m h => He.meth_ok (D.fact i h)
  have na : ∀ (i : Nat) (C m : Str), faL[i]? = some (.noat C m) → NoAttr K (He.ga K C) m := fun i C m h => He.noat_ok (D.fact i h)
  have T : TxtL mg := ⟨fr 18 _ rfl, fr 19 _ rfl, fr 20 _ rfl, fr 21 _ rfl, fr 22 _ rfl, fr 23 _ rfl, fr 24 _ rfl, fr 25 _ rfl, fr 26 _ rfl, fr 27 _ rfl, fr 28 _ rfl, fr 29 _ rfl⟩
  have hM : ∃ tk, mg "MOST_COLUMNS" = some (.int 20 tk) := He.int_ok X G (D.fact 33 (f := .int "MOST_COLUMNS" 20) rfl)
  have TK : TxtK mg := ⟨He.str_ok X G (D.fact 34 (f := .str "LETTERS" ltrs) rfl), fr 30 _ rfl, fr 31 _ rfl⟩
  have S : TxtS K mg (He.ga K "Shape") := ⟨He.cls_ok (D.fact 35 (f := .cls "Shape") rfl), na 36 _ _ rfl, na 37 _ _ rfl, gl 14 _ rfl⟩
  have B : TxtB K mg (He.ga K "ByteReader") := ⟨He.cls_ok (D.fact 42 (f := .cls "ByteReader") rfl), na 43 _ _ rfl, na 44 _ _ rfl, gl 15 _ rfl⟩
  obtain ⟨x1, x2, x3, x4⟩ := He.exc_ok (D.fact 53 (f := .exc "RowError") rfl)
  have J : TxtX K mg (He.ga K "RowError") := ⟨gl 16 _ rfl, x1, x2, x3, x4, He.exm_ok (D.fact 54 (f := .exm "RowError" "RowError" true) rfl)⟩
  have MS := He.mkr_ok (D.fact 38 (f := .mkr "Shape") rfl)
  have MB := He.mkr_ok (D.fact 45 (f := .mkr "ByteReader") rfl)
  have hex := c.more
  unfold exL at hex
  rw [Bool.and_eq_true, Bool.and_eq_true, Bool.and_eq_true, bne_iff_ne, bne_iff_ne, bne_iff_ne] at hex
  have ap : Apt (He.cT K tK).2 (He.cT K tI).2 (He.cT K tL).2 := ⟨hex.2.1.1, hex.2.1.2, hex.2.2⟩
  have hKi := kinds_ok (gl 17 _ rfl) hex.1
  have e := hmg.symm.trans (gl 13 _ rfl)
  cases e
  have memL : ∀ p ∈ pickL K, ∃ q ∈ tfL, p = He.cT K q := fun p hp => by
    rcases List.mem_cons.mp hp with rfl | hp
    · exact ⟨tK, List.mem_cons_self .., rfl⟩
    rcases List.mem_cons.mp hp with rfl | hp
    · exact ⟨tI, List.mem_cons_of_mem _ (List.mem_cons_self ..), rfl⟩
    rcases List.mem_cons.mp hp with rfl | hp
    · exact ⟨tL, List.mem_cons_of_mem _ (List.mem_cons_of_mem _ (List.mem_cons_self ..)), rfl⟩
    cases hp
  refine ⟨fd13, pickL K, spLaw K (He.cT K tK).2 (He.cT K tI).2 (He.cT K tL).2, fun p hp => ?_, fun p hp => ?_, fun p hp => ?_, fun s u => ?_, fun H a ns hl hb hT hS => ?_, fun base KB GB TB => ?_⟩
  · obtain ⟨q, hq, rfl⟩ := memL p hp
    exact c.empty q hq
  · obtain ⟨q, hq, rfl⟩ := memL p hp
    exact c.out q hq
  · obtain ⟨q, hq, rfl⟩ := memL p hp
    exact PySem.W.codeHd_of_K X (c.hd q hq)
  · exact F13.bindsA (ps := ["script"]) (fun _ _ _ _ _ _ us hl => match us, hl with | [_], _ => rfl) s [u] rfl
  · exact ⟨a, ns, rfl, hS, TabS.nil (hT (He.cT K tK) (List.mem_cons_self ..)), TabS.nil (hT (He.cT K tI) (List.mem_cons_of_mem _ (List.mem_cons_self ..))), TabS.nil (hT (He.cT K tL) (List.mem_cons_of_mem _ (List.mem_cons_of_mem _ (List.mem_cons_self ..)))), fun _ => rfl⟩
  · have tbK := TB (He.cT K tK) (List.mem_cons_self ..)
    have tbI := TB (He.cT K tI) (List.mem_cons_of_mem _ (List.mem_cons_self ..))
    have tbL := TB (He.cT K tL) (List.mem_cons_of_mem _ (List.mem_cons_of_mem _ (List.mem_cons_self ..)))
    have hcK := code_at (p := tK) (st := sKind) (dvs := []) F0
    have gK := gl 0 _ rfl
    have gN := gl 1 _ rfl
    have gV := gl 2 _ rfl
    have gR := gl 3 _ rfl
    have tb1 : GxR.TabB base mg (He.cT K tK).1 (He.cT K tK).2 := ⟨tbK.code, tbK.bm, tbK.gP⟩
    have GKi : FnOk pr w K mg base (L2.CX pr w) 1 _ fd0 ["value"] (spKind (He.ga K "RowError") (He.cT K tK).2) := ok_kind F0 hcK tb1 T TK J
    have bKi : L2.Binds K fd0 ["value"] [] := F0.bindsN fun _ _ _ _ _ _ us hl => match us, hl with | [_], _ => rfl
    have GIb : FnOk pr w K mg base CX0 1 _ fd18 ["self", "data"] (spBInit (He.ga K "ByteReader")) := ok_binit F18 B
    have bIb : L2.Binds K fd18 ["self", "data"] [] := F18.bindsN fun _ _ _ _ _ _ us hl => match us, hl with | [_, _], _ => rfl
    have GBy : FnOk pr w K mg base (L2.CX pr w) 1 _ fd19 ["self"] (spP (He.ga K "ByteReader") (He.ga K "RowError") pB RI) := ok_byte F19 B T J
    have bBy : L2.Binds K fd19 ["self"] [] := F19.bindsN fun _ _ _ _ _ _ us hl => match us, hl with | [_], _ => rfl
    have bRo : L2.Binds K fd20 ["self"] [] := F20.bindsN fun _ _ _ _ _ _ us hl => match us, hl with | [_], _ => rfl
    have bWh : L2.Binds K fd21 ["self"] [] := F21.bindsN fun _ _ _ _ _ _ us hl => match us, hl with | [_], _ => rfl
    have bNa : L2.Binds K fd22 ["self"] [] := F22.bindsN fun _ _ _ _ _ _ us hl => match us, hl with | [_], _ => rfl
    have bVa : L2.Binds K fd23 ["self"] [] := F23.bindsN fun _ _ _ _ _ _ us hl => match us, hl with | [_], _ => rfl
    have bTx : L2.Binds K fd24 ["self"] [] := F24.bindsN fun _ _ _ _ _ _ us hl => match us, hl with | [_], _ => rfl
    have bLe : L2.Binds K fd25 ["self"] [] := F25.bindsN fun _ _ _ _ _ _ us hl => match us, hl with | [_], _ => rfl
    have GNa : FnOk pr w K mg base (L2.CX pr w) 2 _ fd22 ["self"] (spP (He.ga K "ByteReader") (He.ga K "RowError") pN RN) := ok_natural F22 B T J (me 46 _ _ rfl) GBy bBy
    have GLe : FnOk pr w K mg base (L2.CX pr w) 2 _ fd25 ["self"] (spP (He.ga K "ByteReader") (He.ga K "RowError") pL (RV gL)) := ok_letter F25 B T TK J (me 46 _ _ rfl) GBy bBy
    have GTx : FnOk pr w K mg base (L2.CX pr w) 3 _ fd24 ["self"] (spP (He.ga K "ByteReader") (He.ga K "RowError") pTx (RV gT)) := ok_text F24 B T J (me 49 _ _ rfl) GNa bNa (me 52 _ _ rfl) GLe bLe
    have GVa : FnOk pr w K mg base (L2.CX pr w) 4 _ fd23 ["self"] (spP (He.ga K "ByteReader") (He.ga K "RowError") (pV tabL) (RV kV)) := ok_value F23 B T J (me 46 _ _ rfl) GBy bBy (me 49 _ _ rfl) GNa bNa (me 51 _ _ rfl) GTx bTx
    have GWh : FnOk pr w K mg base (L2.CX pr w) 5 _ fd21 ["self"] (spP (He.ga K "ByteReader") (He.ga K "RowError") (pRow tabL) RR) := ok_whole F21 B T J hM (me 49 _ _ rfl) GNa bNa (me 50 _ _ rfl) GVa bVa
    have GRo : FnOk pr w K mg base (L2.CX pr w) 6 _ fd20 ["self"] (spRd (He.ga K "ByteReader") (He.ga K "RowError")) := ok_rdrow F20 B J (me 48 _ _ rfl) GWh bWh
    have GRe : FnOk pr w K mg base (L2.CX pr w) 7 _ fd4 ["data"] (spRead (He.ga K "RowError")) := ok_read F4 B T J MB GIb bIb (me 47 _ _ rfl) GRo bRo
    have GQ : FnOk pr w K mg base CX0 1 _ fd16 ["self"] (spKinds (He.ga K "Shape")) := ok_kinds F16 S T
    have bQ : L2.Binds K fd16 ["self"] [] := F16.bindsN fun _ _ _ _ _ _ us hl => match us, hl with | [_], _ => rfl
    have roll : FnOk pr w K mg base CX0 1 _ fd7 ["dice", "many"] spRoll := ok_roll F7 T
    have bRl : L2.Binds K fd7 ["dice", "many"] [] := F7.bindsN fun _ _ _ _ _ _ us hl => match us, hl with | [_, _], _ => rfl
    have ve : LawE pr w K mg base (He.ga K "ByteReader") (He.ga K "Shape") (He.ga K "RowError") (He.cT K tK).2 (He.cT K tI).2 (He.cT K tL).2 (He.cT K tL).1 (He.ga K "_law_told") fd9 :=
      { T := T, TK := TK, J := J, B := B, S := S, TBl := tbL, ap := ap, en := fr 32 _ rfl
        rounds := ⟨_, _, ok_rounds F8 T F6 (gl 6 _ rfl), gl 8 _ rfl, F8.kp, F8.bindsN fun _ _ _ _ _ _ us hl => match us, hl with | [_, _], _ => rfl⟩
        roll := ⟨1, by decide, _, _, roll, gl 7 _ rfl, F7.kp, bRl⟩
        drawn := ⟨_, _, ok_drawn F11 T TK ⟨1, by decide, roll⟩ (gl 7 _ rfl) F7.kp bRl, gl 11 _ rfl, F11.kp, F11.bindsN fun _ _ _ _ _ _ us hl => match us, hl with | [_], _ => rfl⟩
        lnat := ⟨_, _, ok_lnat F10 T, gl 10 _ rfl, F10.kp, F10.bindsN fun _ _ _ _ _ _ us hl => match us, hl with | [_], _ => rfl⟩
        lbytes := ⟨_, _, ok_lbytes F12 F10 (gl 10 _ rfl) T TK, gl 12 _ rfl, F12.kp, F12.bindsN fun _ _ _ _ _ _ us hl => match us, hl with | [_], _ => rfl⟩
        nat := ⟨_, _, ok_nat F1 T, gN, F1.kp, F1.bindsN fun _ _ _ _ _ _ us hl => match us, hl with | [_], _ => rfl⟩
        kind := ⟨_, _, GKi, gK, F0.kp, bKi⟩
        row := ⟨_, _, ok_row F3 F2 gV F0 gK hcK tb1 F1 gN T TK J, gR, F3.kp, F3.bindsN fun _ _ _ _ _ _ us hl => match us, hl with | [_], _ => rfl⟩
        hash := ⟨_, _, ok_hash F5 F3 gR F2 gV F0 gK hcK tb1 F1 gN T TK J, gl 5 _ rfl, F5.kp, F5.bindsN fun _ _ _ _ _ _ us hl => match us, hl with | [_], _ => rfl⟩
        read := ⟨_, _, GRe, gl 4 _ rfl, F4.kp, F4.bindsN fun _ _ _ _ _ _ us hl => match us, hl with | [_], _ => rfl⟩
        binit := ⟨_, _, GIb, MB, bIb⟩
        byte := ⟨_, _, GBy, me 46 _ _ rfl, bBy⟩
        rrow := ⟨_, _, GRo, me 47 _ _ rfl, bRo⟩
        sinit := ⟨_, _, ok_sinit F14 (code_at (p := tI) (st := sSM 0) (dvs := []) F14) ⟨tbI.code, tbI.bm, tbI.gP⟩ S T TK J hM (fr 32 _ rfl) hKi, MS, F14.bindsN fun _ _ _ _ _ _ us hl => match us, hl with | [_, _], _ => rfl⟩
        place := ⟨_, _, ok_place F15 S J, me 39 _ _ rfl, F15.bindsN fun _ _ _ _ _ _ us hl => match us, hl with | [_, _], _ => rfl⟩
        kinds := ⟨_, _, GQ, me 40 _ _ rfl, bQ⟩
        check := ⟨_, _, ok_check F17 S T J GKi gK F0.kp bKi (me 40 _ _ rfl) GQ bQ, me 41 _ _ rfl, F17.bindsN fun _ _ _ _ _ _ us hl => match us, hl with | [_, _], _ => rfl⟩
        told := F9
        gTold := gl 9 _ rfl }
    exact ok_law F13 (code_at (p := tL) (st := sLaw) (dvs := []) F13) ve
end KO1
open PySem PySem.W PySem.Calls PyProof.Rows
theorem PySem.Challenge.cw_streamstack_k01_rows_as_bytes_holds : PySem.Challenge.rw_streamstack_k01_rows_as_bytes.Holds := by
  w_on; o_law
  refine HandSHeadRun.head_any (r := OpenLaw.row PySem.Challenge.rw_streamstack_k01_rows_as_bytes) (q := view (OpenLaw.row PySem.Challenge.rw_streamstack_k01_rows_as_bytes).prog [23]) (H := KO1.hkL) (ob := KO1.obL) (M := 3000) (loose := KO1.looseL) (d := HandSHeadRun.topDef (OpenLaw.row PySem.Challenge.rw_streamstack_k01_rows_as_bytes).prog 23) (kwd := []) KO1.obL_eq
    (by kernel_rfl) (fun s => by kernel_rfl) KO1.runL (by kernel_rfl) (by kernel_rfl) (by kernel_rfl) (by rfl) (by first | assumption | decide +kernel) (by decide +kernel) ⟨rfl, rfl, rfl, rfl, rfl, by decide +kernel⟩ ?hw ?hc
  case hw => w_witness2
  case hc =>
    refine LamX.walk_ofTsE (l := PySem.Challenge.rw_streamstack_k01_rows_as_bytes) (n := 63) (k := 13) (x := "script") (CX := fun _ => L2.CX0) rfl (by decide) (by kernel_rfl) ⟨rfl, by decide, by decide⟩ ?F (fun _ _ _ _ _ z => z)
    intro w mg fa h Y G hmg0
    obtain ⟨K, KX, c⟩ := Y
    have hmg : mg ("law" : PySem.Str) = some (.ref fa) := by
      have e : (HandSHeadRun.topDef (OpenLaw.row PySem.Challenge.rw_streamstack_k01_rows_as_bytes).prog 23).name = ("law" : PySem.Str) := by kernel_rfl
      rw [← e]
      exact hmg0
    exact ⟨K, KX, KO1.lawAt KX G hmg c⟩
