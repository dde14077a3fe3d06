import PyProof.Rows.All
import Wide.All
import OpenK.AllK
import Wide.FinOn
import HandS.ForMost
import HandS.Lambda
import HandS.AnyAll
import HandS.EndTab
import HandS.TupAny
import HandS.Zip
import HandS.DictTup
import HandS.Codes
import HandS.ExcOwn
import HandS.TryOnly
import HandS.IsInst
import HandS.Wide
import HandS.DictComp
import HandS.DictEq
import HandS.ListItems
import KE.LtSeq
import KE.KSortTup
import HandS.SortOrd
import HandS.SortKw
import HandS.SortRule
import HandS.Defaults
import HandS.WordsExc
import HandS.Dict
import PySem.Challenge.RW_streamstack_k09_deals_on_logs
import KE.KDictPairs
import KE.KDictWalk
import HandS.Walk
import HandS.Replace
import HandS.Deep
import HandS.Conv
import PyProof.P3In
import KE.DatumOrd
import KE.SortKeyHeap
import KE.DataMinKey
import HandS.RaiseMore
import HandS.FStr
import HandS.RevRange
import HandS.Comp
import HandS.Exc
import KE.KAsSuite
import KE.GoesRaise
import HandS.SuiteRaise
import KE.KExcRaise
import HandS.Iter
import KE.GoesEnumKw
import KE.KDictZip
import PyProof.CollectWalk
import PyProof.TupleOps
import PyProof.TupleOfGen
import PyProof.TupleCall
import PyProof.AssignAttr
import HandS.SetKeys
import HandS.Small
import HandS.TupMul
import KE.KStateDown
import Lean
import HandS.Ends
import HandS.More
import HandS.Words
import HandS.Head0
import HandS.Head1
import HandS.Head2
import HandS.HeadEnd
import HandS.HeadHook1
import HandS.HeadHook2
import HandS.HeadHook3
import HandS.HeadHook4
import HandS.HeadWalk
set_option Elab.async false
set_option linter.all false
set_option maxRecDepth 100000
set_option maxHeartbeats 4000000
namespace KB
open PySem PySem.Spec PyProof.Rows L2
section
variable {prog : Program} {w : World} {K : Type} [DecidableEq K] {knd : HeapKind prog w K} {A : Around} {E : Value → Shared → Prop} {s : Shared}
def hitH (ys : List (K × Addr × Value)) (eqb : Value → Value → Bool) (x : K × Addr × Value) : Bool :=
  match atKey ys x.1 with
  | none => false
  | some q => eqb x.2.2 q.2
theorem samePairsH {nm : String} {a b : Addr} {xs ys : List (K × Addr × Value)} {eqb : Value → Value → Bool} {Q : Bool → Shared → Prop} (ha : (a == sysModules) = false) (hb : (b == sysModules) = false)
    (da : s.heap.DictOfH knd a xs) (db : s.heap.DictOfH knd b ys) (hu : knd.room A)
    (heq : ∀ x ∈ xs, ∀ q, atKey ys x.1 = some q → ∀ (R : Bool → Shared → Prop) (F : Value → Shared → Prop), R (eqb x.2.2 q.2) s → wpAny (model prog w) A (eqBool x.2.2 q.2) R F s)
    (h : Q (xs.length == ys.length && xs.all (hitH ys eqb)) s) :
    wpAny (model prog w) A (Builtin.Dict.samePairs nm a b) Q E s := by
  obtain ⟨oa, es, ep, hoa, _, hda, hka, hia, hna⟩ := da
  obtain ⟨ob, es', ep', hob, _, hdb, hkb, hib, hnb⟩ := db
  have hla : xs.length = es.size := (size_of_entries hka).symm
  have hlb : ys.length = es'.size := (size_of_entries hkb).symm
  rw [hla, hlb] at h
  unfold Builtin.Dict.samePairs Builtin.Dict.showsAll
  rw [if_neg (show ¬ (a == sysModules) = true by rw [ha]; exact Bool.false_ne_true), if_neg (show ¬ (b == sysModules) = true by rw [hb]; exact Bool.false_ne_true)]
  refine wpAny_bind (wpAny_pure (wpAny_bind (wpAny_pure ?_)))
  refine wpAny_bind (wpAny_dictEntries hoa hda ?_)
  dsimp only
  refine wpAny_bind (wpAny_dictEntries hob hdb ?_)
  by_cases hsz : es.size = es'.size
  case neg =>
    rw [if_pos (by simpa using hsz)]
    have hbf : (es.size == es'.size) = false := by simpa using hsz
    rw [hbf, Bool.false_and] at h
    exact wpAny_bind (wpAny_rule (wpAny_pure h))
  case pos =>
    have h' : Q (xs.all (hitH ys eqb)) s := by simpa [hsz] using h
    rw [if_neg (by rw [hsz]; simp)]
    refine wpAny_bind (wpAny_dictEpoch hoa hda ?_)
    refine wpAny_bind ?_
    rw [Std.Legacy.Range.forIn_eq_forIn_range']
    simp only [Std.Legacy.Range.size, Nat.sub_zero, Nat.add_sub_cancel, Nat.div_one]
    refine wpAny_forIn_list _
      (fun rest q s' => s' = s ∧ q = (none, ()) ∧ ∃ i, rest = List.range' i (es.size - i) ∧ i ≤ es.size ∧ (xs.drop i).all (hitH ys eqb) = xs.all (hitH ys eqb))
      _ ?_ ?_ _ _ ⟨rfl, rfl, 0, by simp, Nat.zero_le _, by simp⟩
    · rintro x rest q s' ⟨rfl, rfl, i, hr, hi, hpre⟩
      have hlt : i < es.size := by
        rcases Nat.lt_or_ge i es.size with h | h
        · exact h
        · rw [Nat.sub_eq_zero_of_le h] at hr; simp at hr
      obtain ⟨rfl, hrest⟩ : x = i ∧ rest = List.range' (i + 1) (es.size - (i + 1)) := by
        have e : es.size - i = (es.size - (i + 1)) + 1 := by omega
        rw [e, List.range'_succ] at hr
        injection hr with h1 h2
        exact ⟨h1, h2⟩
      refine wpAny_bind (wpAny_dictEntries hoa hda ?_)
      have hlt' : x < xs.length := by rw [hla]; exact hlt
      obtain ⟨k, c, v, hkv⟩ : ∃ k c v, xs[x] = (k, c, v) := ⟨_, _, _, rfl⟩
      have hdrop : xs.drop x = (k, c, v) :: xs.drop (x + 1) := by rw [← hkv]; exact List.drop_eq_getElem_cons hlt'
      have hget : xs[x]? = some (k, c, v) := by rw [List.getElem?_eq_getElem hlt', hkv]
      have hmem : (k, c, v) ∈ xs := List.mem_of_getElem? hget
      have hex : es[x]? = some (entryOfKey knd (k, c, v)) := by rw [entry_at hka x, hget]; rfl
      rw [hex]
      rw [hdrop, List.all_cons] at hpre
      have hkey : knd.is s'.heap k c := hia _ hmem
      show wpAny _ _ (holding [Value.ref c, v] _ >>= _) _ _ _
      refine wpAny_bind (wpAny_holding (wpAny_bind (wpAny_dictFind_heap hu hkey hob hdb hkb hib hnb ?_ ?_)))
      · intro hno
        have hn : atKey ys k = none := atKey_none_of_get hno
        have e1 : hitH ys eqb (k, c, v) = false := by unfold hitH; simp only [hn]
        rw [e1, Bool.false_and] at hpre
        rw [← hpre] at h'
        refine wpAny_pure ?_
        show wpAny _ _ (if (!false) = true then _ else _) _ _ _
        rw [if_pos (by decide)]
        exact wpAny_pure (wpAny_pure h')
      · intro j p hj
        have hp : atKey ys k = some p := atKey_of_get hnb hj
        have e1 : hitH ys eqb (k, c, v) = eqb v p.2 := by unfold hitH; simp only [hp]
        have hey : es'[j]? = some (entryOfKey knd (k, p)) := by rw [entry_at hkb j, hj]; rfl
        refine wpAny_bind (wpAny_dictEntries hob hdb ?_)
        rw [hey]
        refine wpAny_holding (heq _ hmem p hp _ _ ?_)
        show wpAny _ _ (if (!eqb v p.2) = true then _ else _) _ _ _
        cases he : eqb v p.2 with
        | false =>
          rw [e1, he, Bool.false_and] at hpre
          rw [← hpre] at h'
          rw [if_pos (by decide)]
          exact wpAny_pure (wpAny_pure h')
        | true =>
          rw [e1, he, Bool.true_and] at hpre
          rw [if_neg (by decide)]
          refine wpAny_bind (wpAny_dictEpoch hoa hda ?_)
          rw [if_neg (by simp)]
          exact wpAny_pure ⟨rfl, rfl, x + 1, hrest, hlt, hpre⟩
    · rintro q s' ⟨rfl, rfl, i, hr, hi, hpre⟩
      have hin : i = es.size := by
        rcases Nat.lt_or_ge i es.size with h | h
        · have e : es.size - i = (es.size - (i + 1)) + 1 := by omega
          rw [e, List.range'_succ] at hr; exact nomatch hr
        · exact Nat.le_antisymm hi h
      have e2 : xs.all (hitH ys eqb) = true := by
        rw [← hpre, hin, ← hla, List.drop_length]; rfl
      rw [e2] at h'
      exact wpAny_pure h'
end
section
variable {prog : Program} {w : World} {K : Type} [DecidableEq K] {knd : HeapKind prog w K} {A : Around} {E : Value → Shared → Prop} {s : Shared}
theorem eqH {a b : Addr} {xs ys : List (K × Addr × Value)} {eqb : Value → Value → Bool} {Q : Value → Shared → Prop} (ha : (a == sysModules) = false) (hb : (b == sysModules) = false)
    (da : s.heap.DictOfH knd a xs) (db : s.heap.DictOfH knd b ys) (hA : A.units < cLine) (hu : knd.room A.in1)
    (heq : ∀ x ∈ xs, ∀ q, atKey ys x.1 = some q → ∀ (R : Bool → Shared → Prop) (F : Value → Shared → Prop), R (eqb x.2.2 q.2) s → wpAny (model prog w) A.in1 (eqBool x.2.2 q.2) R F s)
    (h : Q (.bool (xs.length == ys.length && xs.all (hitH ys eqb))) s) :
    wpAny (model prog w) A (compareOp .Eq (.ref a) (.ref b)) Q E s := by
  refine wpAny_richCompare_same_room (op := .Eq) da.typeIs db.typeIs PySem.F.slot_dict_eq (wpAny_call_entry PySem.F.slot_dict_eq da.typeIs PySem.F.entry_dict_eq ?_ (PySem.F.args_dict_eq_2 _ _)) hA
  show wpAny _ _ (Builtin.Dict.dictSlotArgs "__eq__" ⟨[.ref a, .ref b], []⟩ >>= _) _ _ s
  refine wpAny_bind ?_
  unfold Builtin.Dict.dictSlotArgs
  refine wpAny_bind (wpAny_notOrdered_dict da.typeIs ?_)
  show wpAny _ _ (pure (Value.ref a, Value.ref b)) _ _ s
  refine wpAny_pure ?_
  refine wpAny_bind (wpAny_isInstance (T := "dict") db.typeIs PySem.F.sub_dict_dict ?_)
  simp only [Bool.not_true, Bool.false_eq_true, if_false]
  refine wpAny_bind (wpAny_pure (wpAny_bind (wpAny_pure ?_)))
  refine wpAny_bind (samePairsH ha hb da db hu heq ?_)
  refine wpAny_pure ⟨_, rfl, ?_, ?_⟩
  · exact fun x => nomatch x
  · simpa using h
theorem neH {a b : Addr} {xs ys : List (K × Addr × Value)} {eqb : Value → Value → Bool} {Q : Value → Shared → Prop} (ha : (a == sysModules) = false) (hb : (b == sysModules) = false)
    (da : s.heap.DictOfH knd a xs) (db : s.heap.DictOfH knd b ys) (hA : A.units < cLine) (hu : knd.room A.in1)
    (heq : ∀ x ∈ xs, ∀ q, atKey ys x.1 = some q → ∀ (R : Bool → Shared → Prop) (F : Value → Shared → Prop), R (eqb x.2.2 q.2) s → wpAny (model prog w) A.in1 (eqBool x.2.2 q.2) R F s)
    (h : Q (.bool (!(xs.length == ys.length && xs.all (hitH ys eqb)))) s) :
    wpAny (model prog w) A (compareOp .NotEq (.ref a) (.ref b)) Q E s := by
  refine wpAny_richCompare_same_room (op := .NotEq) da.typeIs db.typeIs PySem.F.slot_dict_ne (wpAny_call_entry PySem.F.slot_dict_ne da.typeIs PySem.F.entry_dict_ne ?_ (PySem.F.args_dict_ne_2 _ _)) hA
  show wpAny _ _ (Builtin.Dict.dictSlotArgs "__ne__" ⟨[.ref a, .ref b], []⟩ >>= _) _ _ s
  refine wpAny_bind ?_
  unfold Builtin.Dict.dictSlotArgs
  refine wpAny_bind (wpAny_notOrdered_dict da.typeIs ?_)
  show wpAny _ _ (pure (Value.ref a, Value.ref b)) _ _ s
  refine wpAny_pure ?_
  refine wpAny_bind (wpAny_isInstance (T := "dict") db.typeIs PySem.F.sub_dict_dict ?_)
  simp only [Bool.not_true, Bool.false_eq_true, if_false]
  refine wpAny_bind (wpAny_pure (wpAny_bind (wpAny_pure ?_)))
  refine wpAny_bind (samePairsH ha hb da db hu heq ?_)
  refine wpAny_pure ⟨_, rfl, ?_, ?_⟩
  · exact fun x => nomatch x
  · simpa using h
end
def eqT (ks ls : List (List Key × V)) : Bool := (ks.length == ls.length) && ks.all fun p => decide (valV ls p.1 = some p.2)
def intB : Value → Value → Bool
  | .int i _, .int j _ => i == j
  | _, _ => false
def IntVals (ks : List (List Key × V)) : Prop := ∀ p ∈ ks, ∃ i, p.2 = V.int i
theorem mem_r {α β : Type} {R : α → β → Prop} : ∀ {l : List α} {m : List β}, Paired R l m → ∀ y ∈ m, ∃ x ∈ l, R x y
  | _, _, .nil, y, h => nomatch h
  | _, _, .cons (a := a) (b := b) r t, y, h => by
    rcases List.mem_cons.mp h with rfl | h
    · exact ⟨a, List.mem_cons_self, r⟩
    · obtain ⟨x, hx, q⟩ := mem_r t y h
      exact ⟨x, List.mem_cons_of_mem _ hx, q⟩
theorem kt_int {H : Hp} {ks : List (List Key × V)} {xs : List (List Key × Addr × Value)} (r : KT H ks xs) (hi : IntVals ks) : ∀ x ∈ xs, ∃ i t, x.2.2 = Value.int i t := by
  intro x hx
  obtain ⟨p, hp, _, _, rv⟩ := mem_r r x hx
  obtain ⟨i, e⟩ := hi p hp
  rw [e] at rv
  obtain ⟨t, rv⟩ := rv
  exact ⟨i, t, rv⟩
theorem atKey_mem {K : Type} [DecidableEq K] {xs : List (K × Addr × Value)} {k : K} {q : Addr × Value} (h : atKey xs k = some q) : (k, q) ∈ xs := by
  unfold atKey at h
  rw [Option.map_eq_some_iff] at h
  obtain ⟨x, h1, h2⟩ := h
  have h3 := List.find?_some h1
  have h4 := List.mem_of_find?_eq_some h1
  have h5 : x.1 = k := of_decide_eq_true h3
  rw [← h5, ← h2]
  exact h4
theorem all_hits {H : Hp} {ls : List (List Key × V)} {ys : List (List Key × Addr × Value)} (rb : KT H ls ys) : ∀ {ks : List (List Key × V)} {xs : List (List Key × Addr × Value)}, KT H ks xs → IntVals ks → IntVals ls →
    xs.all (hitH ys intB) = ks.all fun p => decide (valV ls p.1 = some p.2)
  | _, _, .nil, _, _ => rfl
  | _, _, .cons (a := p) (b := x) (l₁ := ks) (l₂ := xs) h t, hi, hj => by
    rw [List.all_cons, List.all_cons, all_hits rb t (fun q hq => hi q (List.mem_cons_of_mem _ hq)) hj]
    refine congrArg (fun z => z && _) ?_
    obtain ⟨h1, _, h2⟩ := h
    obtain ⟨i, ei⟩ := hi p List.mem_cons_self
    have rv := rb.val p.1
    unfold hitH
    rw [← h1]
    cases hx : atKey ys p.1 with
    | none =>
      rw [hx] at rv
      cases hv : valV ls p.1 with
      | none => simp
      | some v => rw [hv] at rv; exact rv.elim
    | some q =>
      rw [hx] at rv
      cases hv : valV ls p.1 with
      | none => rw [hv] at rv; exact rv.elim
      | some v =>
        rw [hv] at rv
        have rv : RelV v q.2 := rv
        obtain ⟨j, ej⟩ : ∃ j, v = V.int j := by
          have hm : (p.1, v) ∈ ls := by
            unfold valV at hv
            rw [Option.map_eq_some_iff] at hv
            obtain ⟨y, y1, y2⟩ := hv
            have y3 : y.1 = p.1 := by
              have z := List.find?_some y1
              simpa using z
            have y4 := List.mem_of_find?_eq_some y1
            rw [← y3, ← y2]
            exact y4
          exact hj _ hm
        rw [ei] at h2
        rw [ej] at rv
        obtain ⟨t1, e1⟩ := h2
        obtain ⟨t2, e2⟩ := rv
        show intB x.2.2 q.2 = _
        rw [e1, e2, ei, ej]
        unfold intB
        rw [Bool.eq_iff_iff]
        simp
        exact ⟨fun z => z.symm, fun z => z.symm⟩
def rEqDT : R2 := fun x y H Q => ∃ a b ks ls, x = .ref a ∧ y = .ref b ∧ H a = some (.dT ks) ∧ H b = some (.dT ls) ∧ IntVals ks ∧ IntVals ls ∧ Q (.bl (eqT ks ls)) H
def rNeDT : R2 := fun x y H Q => ∃ a b ks ls, x = .ref a ∧ y = .ref b ∧ H a = some (.dT ks) ∧ H b = some (.dT ls) ∧ IntVals ks ∧ IntVals ls ∧ Q (.bl (!eqT ks ls)) H
section
variable {X : Cx}
theorem eq_ints {A : Around} {s : Shared} {H : Hp} {ks ls : List (List Key × V)} {xs ys : List (List Key × Addr × Value)} (ra : KT H ks xs) (rb : KT H ls ys) (hi : IntVals ks) (hj : IntVals ls) :
    ∀ x ∈ xs, ∀ q, atKey ys x.1 = some q → ∀ (R : Bool → Shared → Prop) (F : Value → Shared → Prop), R (intB x.2.2 q.2) s → wpAny (model X.prog X.w) A (eqBool x.2.2 q.2) R F s := by
  intro x hx q hq R F hR
  obtain ⟨i, t, e1⟩ := kt_int ra hi x hx
  obtain ⟨j, u, e2⟩ := kt_int rb hj (x.1, q) (atKey_mem hq)
  have e2 : q.2 = Value.int j u := e2
  rw [e1, e2] at hR ⊢
  exact SeqAt.EqAt.int_int i t j u _ _ _ _ (by unfold intB at hR; exact hR)
theorem op_eqDT (hu : X.A.units + 1 < cLine) : OpR X (compareOp .Eq) rEqDT := by
  intro pins s σ H x y v u Q I rx ry h
  obtain ⟨a, b, ks, ls, rfl, rfl, ea, eb, hi, hj, q⟩ := h
  obtain rfl : v = Value.ref a := rx
  obtain rfl : u = Value.ref b := ry
  obtain ⟨_, ya, xs, ra, da⟩ := dt_of I.hok ea
  obtain ⟨_, yb, ys, rb, db⟩ := dt_of I.hok eb
  refine eqH (eqb := intB) ya yb da db (by omega) (tupleKind_room_in1 hu) (eq_ints ra rb hi hj) (fin_bl I q ?_)
  unfold eqT
  rw [all_hits rb ra hi hj, Paired.length ra, Paired.length rb]
theorem op_neDT (hu : X.A.units + 1 < cLine) : OpR X (compareOp .NotEq) rNeDT := by
  intro pins s σ H x y v u Q I rx ry h
  obtain ⟨a, b, ks, ls, rfl, rfl, ea, eb, hi, hj, q⟩ := h
  obtain rfl : v = Value.ref a := rx
  obtain rfl : u = Value.ref b := ry
  obtain ⟨_, ya, xs, ra, da⟩ := dt_of I.hok ea
  obtain ⟨_, yb, ys, rb, db⟩ := dt_of I.hok eb
  refine neH (eqb := intB) ya yb da db (by omega) (tupleKind_room_in1 hu) (eq_ints ra rb hi hj) (fin_bl I q ?_)
  unfold eqT
  rw [all_hits rb ra hi hj, Paired.length ra, Paired.length rb]
end
theorem paired_of {α β : Type} {R : α → β → Prop} : ∀ {l : List α} {m : List β}, l.length = m.length → (∀ (j : Nat) a b, l[j]? = some a → m[j]? = some b → R a b) → Paired R l m
  | [], [], _, _ => .nil
  | [], _ :: _, h, _ => by cases h
  | _ :: _, [], h, _ => by cases h
  | a :: l, b :: m, h, k => .cons (k 0 a b rfl rfl) (paired_of (Nat.succ.inj h) fun j x y e1 e2 => k (j + 1) x y e1 e2)
def PairsOf (H : Hp) (ts : List Addr) (kvs : List (List Key × V)) : Prop := Paired (fun (t : Addr) (p : List Key × V) => ∃ q, H t = some (.tup [.ref q, p.2]) ∧ H q = some (.tup (p.1.map kV))) ts kvs
section
variable {X : Cx}
theorem take_all {pins : List (Addr × Obj)} {σ : L2.St} {H0 : Hp} {s : Shared} {h' : Heap} {tk : Nat} {P : Addr → List V → Prop} (I0 : Inv X pins σ H0 s) (L : List Addr) : ∀ H1 : Hp, Inv X pins σ H1 { s with heap := h', toks := tk } → L.Nodup →
    (∀ a ∈ L, s.heap.objs.size ≤ a ∧ H1 a = none ∧ ∃ vs, P a vs ∧ ∀ H2, ObjOk X.prog X.w H2 h' a (.tup vs)) →
    ∃ H2, Inv X pins σ H2 { s with heap := h', toks := tk } ∧ (∀ b o, H1 b = some o → H2 b = some o) ∧ (∀ a ∈ L, ∃ vs, P a vs ∧ H2 a = some (.tup vs)) ∧ ∀ b, b ∉ L → H2 b = H1 b := by
  induction L with
  | nil => exact fun H1 I1 _ _ => ⟨H1, I1, fun _ _ e => e, (fun _ h => nomatch h), fun _ _ => rfl⟩
  | cons a L ih =>
    intro H1 I1 hn h
    obtain ⟨hb, hnone, vs, hP, ok⟩ := h a List.mem_cons_self
    obtain ⟨na, nd⟩ := List.nodup_cons.mp hn
    have J := I1.take (h' := h') (t' := tk) (fun b ob _ e => e) (I0.fpOk hb hnone) (ok _)
    obtain ⟨H2, I3, g, q, off⟩ := ih _ J nd fun c hc => by
      obtain ⟨c1, c2, c3⟩ := h c (List.mem_cons_of_mem _ hc)
      exact ⟨c1, by rw [upd_ne fun z => na (by rw [← z]; exact hc)]; exact c2, c3⟩
    refine ⟨H2, I3, fun b o e => g b o (by rw [upd_ne (ne_of_none e hnone)]; exact e), fun c hc => ?_, fun b hb' => ?_⟩
    · rcases List.mem_cons.mp hc with rfl | hc
      · exact ⟨vs, hP, g _ _ upd_same⟩
      · exact q c hc
    · rw [off b fun z => hb' (List.mem_cons_of_mem _ z), upd_ne fun z => hb' (by rw [z]; exact List.mem_cons_self)]
theorem made_tracked {pins : List (Addr × Obj)} {σ : L2.St} {H H1 : Hp} {s : Shared} {h' : Heap} {tk : Nat} {kvs : List (List Key × V)} {xs : List (List Key × Addr × Value)} {es : Array DictEntry} {as : List Addr} (I : Inv X pins σ H s)
    (rel : KT H kvs xs) (hes : es.toList = xs.map (entryOfKey (tupleKind (mixKind X.prog X.w)))) (hl : as.length = es.size) (hG : DT.Made es s.heap.objs.size h' as)
    (I1 : Inv X pins σ H1 { s with heap := h', toks := tk }) (g1 : ∀ b o, H b = some o → H1 b = some o) (hn : ∀ b ∈ as, H1 b = none) :
    ∃ H2, Inv X pins σ H2 { s with heap := h', toks := tk } ∧ (∀ b o, H1 b = some o → H2 b = some o) ∧ PairsOf H2 as kvs ∧ ∀ b, b ∉ as → H2 b = H1 b := by
  have l1 : kvs.length = xs.length := Paired.length rel
  have l2 : es.size = xs.length := size_of_entries hes
  have nd : as.Nodup := List.Pairwise.imp (fun h => Nat.ne_of_lt h) hG.rise
  have pr : ∀ (j : Nat) (b : Addr), as[j]? = some b → ∃ (p : List Key × V) (q : Addr) (u : Value), kvs[j]? = some p ∧ H q = some (.tup (p.1.map kV)) ∧ RelV p.2 u ∧ h'.get? b = some { cls := .type "tuple", data := .seq #[Value.ref q, u] } := by
    intro j b hj
    obtain ⟨en, he, hg⟩ := hG.pairs j b hj
    rw [entry_at hes j] at he
    cases hxj : xs[j]? with
    | none =>
      rw [hxj] at he
      exact nomatch (show (none : Option DictEntry) = some en from he)
    | some x =>
      rw [hxj] at he
      have een : entryOfKey (tupleKind (mixKind X.prog X.w)) x = en := Option.some.inj he
      obtain ⟨e0, he0, r1, r2, r3⟩ := L2.DX.pget rel hxj
      exact ⟨e0, x.2.1, x.2.2, he0, r2, r3, by rw [hg, ← een]; rfl⟩
  obtain ⟨H2, I2, g, qt, off⟩ := take_all (P := fun b vs => ∃ (j : Nat) (p : List Key × V) (q : Addr), as[j]? = some b ∧ kvs[j]? = some p ∧ vs = [.ref q, p.2] ∧ H q = some (.tup (p.1.map kV))) I as H1 I1 nd fun b hb => by
    obtain ⟨j, hj⟩ := List.mem_iff_getElem?.mp hb
    obtain ⟨p, q, u, hp, hq, ru, hg⟩ := pr j b hj
    exact ⟨Nat.le_of_lt (hG.above b hb), hn b hb, [.ref q, p.2], ⟨j, p, q, hj, hp, rfl, hq⟩, fun H3 => ⟨(by rw [sizeLine_eq]; show 2 ≤ 16777216; omega), [Value.ref q, u], .cons rfl (.cons ru .nil), ⟨_, hg, rfl, 0, rfl⟩⟩⟩
  refine ⟨H2, I2, g, paired_of (by omega) fun j b p hj hp => ?_, off⟩
  obtain ⟨vs, ⟨i, p', q, i1, i2, ev, hq⟩, hH⟩ := qt b (List.mem_of_getElem? hj)
  have eij : j = i := (List.getElem?_inj (List.getElem?_eq_some_iff.mp hj).1 nd).mp (hj.trans i1.symm)
  subst eij
  have ep : p' = p := Option.some.inj (i2.symm.trans hp)
  rw [ev, ep] at hH
  rw [ep] at hq
  exact ⟨q, hH, g _ _ (g1 _ _ hq)⟩
theorem vals_refs : ∀ as : List Addr, Vals (as.map V.ref) (as.map Value.ref)
  | [] => .nil
  | _ :: as => .cons rfl (vals_refs as)
end
section
variable {prog : Program} {w : World} {A : Around} {E : Value → Shared → Prop} {s : Shared} {r d : Addr} {es : Array DictEntry} {ep : Nat}
theorem initI {R : Result → Shared → Prop} (hh : A.handled = none) (hv : s.heap.IsItemsView r d) (hm : DT.Raw s.heap d es ep) (S : Addr) (hSr : S ≠ r) (hSd : d ≠ S) (hS : s.heap.get? S = some { cls := .type "list", data := .seq #[] })
    (hR : ∀ h' tk acc c as, (∀ b o, b ≠ S → s.heap.get? b = some o → h'.get? b = some o) → h'.get? S = some { cls := .type "list", dict := none, data := .seq acc c, slots := #[] } → as.length = es.size → DT.Made es S h' as →
      acc.toList = as.map Value.ref → R (.ok (.ret .none)) { s with heap := h', toks := tk }) (hn : es.size ≤ sizeLine) :
    wpAny (model prog w) A.in1 (Builtin.«list.__init__» ⟨[.ref S, .ref r], []⟩)
      (fun fin s' => match fin with | .done f => R (.ok f) s' | .again c' => c'.quiet = true ∧ codeAny (model prog w) A c' R s') (fun e s' => R (.error e) s') s := by
  show wpAny _ _ (do let old ← Builtin.List.listItems (.ref S); Builtin.List.listUpdate (.ref S) (fun _ => #[]); letGo old.toList.reverse; Builtin.List.listExtendWith (.ref S) (.ref r) .none) _ _ s
  refine wpAny_bind ?_
  unfold Builtin.List.listItems
  refine wpAny_bind (wpAny_seqItems hS rfl (wpAny_pure ?_))
  show wpAny _ _ (updateSeq S (fun _ => #[]) >>= fun _ => letGo (#[] : Array Value).toList.reverse >>= fun _ => Builtin.List.listExtendWith (.ref S) (.ref r) .none) _ _ s
  refine wpAny_bind (wpAny_updateSeq hS rfl ?_)
  have hS₂ := Heap.get?_update_self (Obj.mapSeq (fun _ => (#[] : Array Value))) hS rfl
  have oth : ∀ b o, b ≠ S → s.heap.get? b = some o → (s.heap.update S (Obj.mapSeq (fun _ => (#[] : Array Value)))).get? b = some o :=
    fun b o hb e => (Heap.get?_update_other _ _ (Ne.symm hb)).trans e
  refine wpAny_bind (wpAny_letGo ?_)
  refine DT.extI (es := es) (ep := ep) hh (let ⟨o, ho, x⟩ := hv; ⟨o, oth r o hSr.symm ho, x⟩) (hm.at' fun o e => oth d o hSd e) S hSr hSd .none _ hS₂ (fun h' tk acc c as hk hS' hl hG hacc => ?_) hn
  exact hR h' tk acc c as (fun b o hb e => hk b o hb (oth b o hb e)) hS' hl (hG.low (Nat.le_of_lt (Heap.lt_size hS₂))) hacc
theorem listCallI {Q : Value → Shared → Prop} (hh : A.handled = none) (hv : s.heap.IsItemsView r d) (hm : DT.Raw s.heap d es ep) (hn : es.size ≤ sizeLine)
    (hQ : ∀ h' tk acc c as, (∀ b o, s.heap.get? b = some o → h'.get? b = some o) → h'.get? s.heap.objs.size = some { cls := .type "list", dict := none, data := .seq acc c, slots := #[] } → as.length = es.size → DT.Made es s.heap.objs.size h' as →
      acc.toList = as.map Value.ref → Q (.ref s.heap.objs.size) { s with heap := h', toks := tk }) :
    wpAny (model prog w) A (call (.type "list") [.ref r]) Q E s := by
  refine callType_codes (Q₁ := fun obj s₁ => obj = .ref s.heap.objs.size ∧ s₁ = { s with heap := s.heap.push { cls := .type "list", data := .seq #[] } }) PySem.F.called_list (PySem.F.typeCall_list_1 _) PySem.F.entry_list_init
    (code_list_new _ ⟨rfl, rfl⟩) fun obj s₁ h₁ => ?_
  obtain ⟨rfl, rfl⟩ := h₁
  have hS : (s.heap.push { cls := .type "list", data := .seq #[] }).get? s.heap.objs.size = some { cls := .type "list", data := .seq #[] } := Heap.get?_push_size _ rfl
  have hr : r < s.heap.objs.size := let ⟨_, ho, _⟩ := hv; Heap.lt_size ho
  have hd : d < s.heap.objs.size := hm.lt
  refine ⟨⟨_, hS, rfl⟩, PySem.F.args_list_init_2 _ _, initI (es := es) (ep := ep) (A := A.in1) hh (let ⟨o, ho, x⟩ := hv; ⟨o, Heap.get?_push_of_some _ ho, x⟩) (hm.push _) _ (Nat.ne_of_gt hr) (Nat.ne_of_lt hd) hS (fun h' tk acc c as hk hS' hl hG hacc => ?_) hn⟩
  exact ⟨rfl, hQ h' tk acc c as (fun b o e => hk b o (Nat.ne_of_lt (Heap.lt_size e)) (Heap.get?_push_of_some _ e)) hS' hl hG hacc⟩
end
def rListItT : List V → Hp → VK → Prop := fun vs H Q => ∃ (p a : Addr) (kvs : List (List Key × V)), vs = [.ref p] ∧ H p = some (L2.DX.itemsO p a) ∧ H a = some (.dT kvs) ∧
  ∀ (H' : Hp) (l : Addr) (ts : List Addr), (∀ b o, H b = some o → H' b = some o) → H l = none → H' l = some (.lst (ts.map V.ref)) → PairsOf H' ts kvs → Q (.ref l) H'
section
variable {X : Cx}
theorem cr_listItT (hc : X.calm = true) : CallR X (.type "list") rListItT := by
  intro pins s σ H xs us Q I r h
  obtain ⟨p, a, kvs, rfl, hp, ha, q⟩ := h
  obtain rfl := Vals.ref1 r
  have view : s.heap.IsItemsView p a := (show ObjOk X.prog X.w H s.heap p (L2.DX.itemsO p a) from I.hok p _ hp).1
  obtain ⟨z, hd, xs', rel, o, es, ep, ho, hx, hdat, hes, his, hn⟩ := dt_of I.hok ha
  have l1 : kvs.length = xs'.length := Paired.length rel
  have l2 : es.size = xs'.length := size_of_entries hes
  refine listCallI (es := es) (ep := ep) (I.ok.hd hc) view ⟨o, ho, hx, hdat⟩ (by omega) fun h' tk acc c as hk hS hl hG hacc => ?_
  have newS : H s.heap.objs.size = none := I.hok.fresh (Nat.le_refl _)
  have nS : ∀ b ∈ as, b ≠ s.heap.objs.size := fun b hb => Nat.ne_of_gt (hG.above b hb)
  have I1 : Inv X pins σ (upd H s.heap.objs.size (.lst (as.map V.ref))) { s with heap := h', toks := tk } :=
    I.laid (t' := tk) hk (Nat.le_refl _) ⟨by rw [List.length_map]; omega, acc.toList, c, by rw [hacc]; exact vals_refs as, by rw [Array.toArray_toList]; exact hS⟩
  obtain ⟨H2, I2, g, pp, _⟩ := made_tracked (h' := h') (tk := tk) I rel hes hl hG I1 (fun b o e => by rw [upd_ne (ne_of_none e newS)]; exact e) fun b hb => by
    rw [upd_ne (nS b hb)]
    exact I.hok.fresh (Nat.le_of_lt (hG.above b hb))
  exact ⟨.ref _, H2, I2, rfl, q H2 _ as (fun b o e => g b o (by rw [upd_ne (ne_of_none e newS)]; exact e)) newS (g _ _ upd_same) pp⟩
end
end KB
set_option Elab.async false
set_option linter.all false
set_option maxRecDepth 100000
set_option maxHeartbeats 4000000
namespace PySem.SeqAt
open AutoSeq1 (wpAny_loadPart')
open MeetsSeq MeetsSeq2 MeetsSeq3 SeqRoads2
theorem kc_tuple_lt (l b : Addr) (items items2 : Array Value) (n n2 : Nat) (dd dd2 : Option Addr) (sl sl2 : Array (Option Value)) (e r : Nat → Bool) :
    Meets (Builtin.«tuple.__lt__» ⟨[.ref l, .ref b], []⟩)
      (fun A R s => s.heap.get? l = some { cls := .type "tuple", dict := dd, data := .seq items n, slots := sl } ∧ s.heap.get? b = some { cls := .type "tuple", dict := dd2, data := .seq items2 n2, slots := sl2 } ∧
        (∀ j (h1 : j < items.size) (h2 : j < items2.size), EqAt A.in1 s items[j] items2[j] (e j)) ∧ (∀ j (h1 : j < items.size) (h2 : j < items2.size), (∀ i, i < j → e i = true) → e j = false → RcLt A.in1 s items[j] items2[j] (r j)) ∧
        R (.ok (.ret (.bool (firstLt e r (decide (items.size < items2.size)) (List.range (min items.size items2.size)))))) s) :=
  .of_wp fun prog w A R s h => by
    obtain ⟨hp, g, d, tk, os⟩ := s; obtain ⟨hl, hb, he, hr, h⟩ := h
    have f2 := AutoSeq1.sub_tuple_tuple
    have hZ : (items.toList.zip items2.toList).length = min items.size items2.size := by simp
    wp_walk using wpAny_loadPart' hl, wpAny_loadPart' hb, wpAny_forIn_list _ (fun rest b s' => b.1 = none ∧ s' = ⟨hp, g, d, tk, os⟩ ∧ ∃ i, rest = (items.toList.zip items2.toList).drop i ∧ (∀ m, m < i → e m = true) ∧
      R (.ok (.ret (.bool (firstLt e r (decide (items.size < items2.size)) ((List.range (min items.size items2.size)).drop i))))) ⟨hp, g, d, tk, os⟩) _
    case turn =>
      rintro ⟨y, x⟩ rest b s' ⟨hb', rfl, i, hz, hpre, hR⟩
      have hlt : i < (items.toList.zip items2.toList).length := by
        rcases Nat.lt_or_ge i (items.toList.zip items2.toList).length with h' | h'
        · exact h'
        · rw [List.drop_of_length_le h'] at hz; cases hz
      have hm : i < min items.size items2.size := hZ ▸ hlt
      have h1 : i < items.size := Nat.lt_of_lt_of_le hm (Nat.min_le_left _ _)
      have h2 : i < items2.size := Nat.lt_of_lt_of_le hm (Nat.min_le_right _ _)
      rw [List.drop_eq_getElem_cons hlt] at hz
      injection hz with hyx hrest
      have hy : y = items[i] := by have := congrArg Prod.fst hyx; simpa using this
      have hx : x = items2[i] := by have := congrArg Prod.snd hyx; simpa using this
      subst hy hx
      have hd : (List.range (min items.size items2.size)).drop i = i :: (List.range (min items.size items2.size)).drop (i + 1) := by simp [List.drop_eq_getElem_cons, hm]
      rw [hd] at hR
      refine wpAny_bind (he i h1 h2 prog w _ _ ?_)
      cases hy : e i with
      | true =>
        rw [firstLt_yes hy] at hR
        wp_walk
        refine ⟨rfl, rfl, i + 1, hrest, fun m hm => ?_, hR⟩
        rcases Nat.lt_or_ge m i with z | z
        · exact hpre m z
        · have : m = i := by omega
          rw [this]; exact hy
      | false =>
        rw [firstLt_no hy] at hR
        rw [if_pos (by rfl)]
        show wpAny _ _ (do rule "tuple.compare.by-the-first-pair-that-differs"; let v ← richCompare CmpOp.Lt items[i] items2[i]; let v' ← ret v; pure (ForInStep.done (some v', ()))) _ _ _
        refine wpAny_bind (wpAny_rule ?_)
        refine wpAny_bind (hr i h1 h2 hpre hy prog w _ _ ?_)
        wp_walk
        exact ⟨_, rfl, hR⟩
    case fin =>
      rintro ⟨b1, b2⟩ s' ⟨hb', rfl, i, hz, hpre, hR⟩
      simp only at hb'
      subst hb'
      have hge : min items.size items2.size ≤ i := by
        rcases Nat.lt_or_ge i (items.toList.zip items2.toList).length with h' | h'
        · rw [List.drop_eq_getElem_cons h'] at hz; cases hz
        · exact hZ ▸ h'
      rw [List.drop_of_length_le (by simpa using hge)] at hR
      wp_walk
      exact ⟨_, rfl, by simpa [Builtin.Tuple.tupleCompareSizes, firstLt] using hR⟩
    case h =>
      exact ⟨rfl, rfl, 0, rfl, fun m hm => absurd hm (Nat.not_lt_zero _), by simpa using h⟩
section
variable {A : Around} {s : Shared}
theorem RcLt.tuplesF {l b : Addr} {items items2 : Array Value} {e r : Nat → Bool} (hl : s.heap.IsTuple l items) (hb : s.heap.IsTuple b items2) (hu : A.units < cLine)
    (he : ∀ j (h1 : j < items.size) (h2 : j < items2.size), EqAt A.in1 s items[j] items2[j] (e j)) (hr : ∀ j (h1 : j < items.size) (h2 : j < items2.size), (∀ i, i < j → e i = true) → e j = false → RcLt A.in1 s items[j] items2[j] (r j)) :
    RcLt A s (.ref l) (.ref b) (firstLt e r (decide (items.size < items2.size)) (List.range (min items.size items2.size))) := fun prog w E Q h => by
  obtain ⟨⟨cls, dd, data, sl⟩, ho, hc, n, hd⟩ := id hl
  obtain ⟨⟨cls2, dd2, data2, sl2⟩, ho2, hc2, n2, hd2⟩ := id hb
  simp only at hc hd hc2 hd2
  subst hc hd hc2 hd2
  exact richCompare_meets_room (op := .Lt) ⟨_, ho, rfl⟩ ⟨_, ho2, rfl⟩ F.slot_tuple_lt F.entry_tuple_lt (F.args_tuple_lt_2 _ _) (kc_tuple_lt l b items items2 n n2 dd dd2 sl sl2 e r)
    ⟨ho, ho2, he, hr, show Value.bool (firstLt e r (decide (items.size < items2.size)) (List.range (min items.size items2.size))) ≠ Value.notImplemented ∧ Q (.bool (firstLt e r (decide (items.size < items2.size)) (List.range (min items.size items2.size)))) s from ⟨(fun x => nomatch x), h⟩⟩ hu
end
end PySem.SeqAt
namespace KC
open PySem PySem.Spec PyProof.Rows L2 KB PySem.SeqAt
mutual
def ltD : PyData → PyData → Bool
  | .int i, .int j => decide (i < j)
  | .str x, .str y => decide (x.cps.toList < y.cps.toList)
  | .tuple xs, .tuple ys => ltL xs ys
  | _, _ => false
def ltL : List PyData → List PyData → Bool
  | [], [] => false
  | [], _ :: _ => true
  | _ :: _, [] => false
  | x :: xs, y :: ys => if PyData.eqv x y = true then ltL xs ys else ltD x y
end
mutual
def okD : PyData → PyData → Bool
  | .int _, .int _ => true
  | .str _, .str _ => true
  | .tuple xs, .tuple ys => okL xs ys
  | _, _ => false
def okL : List PyData → List PyData → Bool
  | [], _ => true
  | _ :: _, [] => true
  | x :: xs, y :: ys => if PyData.eqv x y = true then okL xs ys else okD x y
end
theorem firstLt_shift {e r : Nat → Bool} {fin : Bool} : ∀ l : List Nat, firstLt e r fin (l.map (· + 1)) = firstLt (fun j => e (j + 1)) (fun j => r (j + 1)) fin l
  | [] => rfl
  | j :: l => by
    show (if e (j + 1) = true then firstLt e r fin (l.map (· + 1)) else r (j + 1)) = _
    rw [firstLt_shift l]
    rfl
theorem ltL_first : ∀ (xs ys : List PyData) (e r : Nat → Bool), (∀ j x y, xs[j]? = some x → ys[j]? = some y → e j = PyData.eqv x y ∧ r j = ltD x y) →
    firstLt e r (decide (xs.length < ys.length)) (List.range (min xs.length ys.length)) = ltL xs ys
  | [], [], _, _, _ => by unfold ltL; rfl
  | [], _ :: _, _, _, _ => by
    unfold ltL
    simp [firstLt]
  | _ :: _, [], _, _, _ => by
    unfold ltL
    simp [firstLt]
  | x :: xs, y :: ys, e, r, h => by
    have h0 := h 0 x y rfl rfl
    have e1 : min (x :: xs).length (y :: ys).length = min xs.length ys.length + 1 := by simp only [List.length_cons]; omega
    rw [e1, List.range_succ_eq_map]
    have e2 : decide ((x :: xs).length < (y :: ys).length) = decide (xs.length < ys.length) := by simp
    rw [e2]
    unfold ltL
    show (if e 0 = true then firstLt e r _ (List.map Nat.succ _) else r 0) = _
    rw [h0.1, h0.2]
    by_cases q : PyData.eqv x y = true
    · rw [if_pos q, if_pos q]
      rw [show (List.map Nat.succ (List.range (min xs.length ys.length))) = (List.range (min xs.length ys.length)).map (· + 1) from rfl, firstLt_shift]
      exact ltL_first xs ys _ _ fun j a b ha hb => h (j + 1) a b ha hb
    · rw [if_neg q, if_neg q]
end KC
namespace KC
open PySem PySem.Spec PyProof.Rows L2 KB PySem.SeqAt
theorem lt_str_b {prog : Program} {w : World} {A : Around} {E : Value → Shared → Prop} {s : Shared} {x y : Str} {t u : Tok} {Q : Value → Shared → Prop} (h : Q (.bool (decide (x.cps.toList < y.cps.toList))) s) :
    wpAny (model prog w) A (richCompare .Lt (.str x t) (.str y u)) Q E s := DT.rcLt_str A s x t y u prog w E Q h
mutual
theorem rcLt_data : ∀ (da db : PyData) (A : Around) (s : Shared) (a b : Value) (as bs : List Addr), Reads s.heap a da as → Reads s.heap b db bs → da.canLay0 = true → db.canLay0 = true → okD da db = true →
    A.units + min da.depth db.depth < cLine → RcLt A s a b (ltD da db)
  | .int x, .int y, A, s, _, _, _, _, ra, rb, _, _, _, hu => by
    cases ra; cases rb
    intro prog w E Q h
    exact PyProof.Rows.lt_int (by unfold ltD at h; exact h)
  | .str x, .str y, A, s, _, _, _, _, ra, rb, _, _, _, hu => by
    cases ra; cases rb
    intro prog w E Q h
    exact lt_str_b (by unfold ltD at h; exact h)
  | .tuple xs, .tuple ys, A, s, _, _, _, _, ra, rb, ha, hb, hok, hu => by
    cases ra with
    | @tuple l o vs n _ as₁ h1 h2 h3 h4 =>
      cases rb with
      | @tuple l' o' vs' n' _ bs₁ k1 k2 k3 k4 =>
        have hl : s.heap.IsTuple l vs := ⟨_, h1, h2, _, h3⟩
        have hl' : s.heap.IsTuple l' vs' := ⟨_, k1, k2, _, k3⟩
        have n1 : vs.size = xs.length := by simpa using ReadsAll.length _ _ _ h4
        have n2 : vs'.size = ys.length := by simpa using ReadsAll.length _ _ _ k4
        have hok' : okL xs ys = true := by unfold okD at hok; exact hok
        have e : ltD (.tuple xs) (.tuple ys) = firstLt (pairEq xs ys) (fun j => ltD (xs.getD j .none) (ys.getD j .none)) (decide (vs.size < vs'.size)) (List.range (min vs.size vs'.size)) := by
          rw [n1, n2, ltL_first xs ys]
          · unfold ltD; rfl
          · intro j x y hx hy
            simp [pairEq, List.getD, hx, hy]
        rw [e]
        refine RcLt.tuplesF hl hl' (room_here hu) (fun j j1 j2 => ?_) (fun j j1 j2 hp hf => ?_)
        · have := eqAt_readsAll xs ys A.in1 s vs.toList vs'.toList _ _ h4 k4 ha hb (room_in hu) j (by simpa using j1) (by simpa using j2)
          simpa using this
        · have := rcLt_all xs ys A.in1 s vs.toList vs'.toList _ _ h4 k4 ha hb hok' (room_in hu) j (by simpa using j1) (by simpa using j2) hp hf
          simpa using this
  | .none, _, _, _, _, _, _, _, _, _, _, _, hok, _ => by unfold okD at hok; cases hok
  | .bool _, _, _, _, _, _, _, _, _, _, _, _, hok, _ => by unfold okD at hok; cases hok
  | .list _, _, _, _, _, _, _, _, _, _, _, _, hok, _ => by unfold okD at hok; cases hok
  | .dict _, _, _, _, _, _, _, _, _, _, _, _, hok, _ => by unfold okD at hok; cases hok
  | .int _, .none, _, _, _, _, _, _, _, _, _, _, hok, _ => by unfold okD at hok; cases hok
  | .int _, .bool _, _, _, _, _, _, _, _, _, _, _, hok, _ => by unfold okD at hok; cases hok
  | .int _, .str _, _, _, _, _, _, _, _, _, _, _, hok, _ => by unfold okD at hok; cases hok
  | .int _, .list _, _, _, _, _, _, _, _, _, _, _, hok, _ => by unfold okD at hok; cases hok
  | .int _, .tuple _, _, _, _, _, _, _, _, _, _, _, hok, _ => by unfold okD at hok; cases hok
  | .int _, .dict _, _, _, _, _, _, _, _, _, _, _, hok, _ => by unfold okD at hok; cases hok
  | .str _, .none, _, _, _, _, _, _, _, _, _, _, hok, _ => by unfold okD at hok; cases hok
  | .str _, .bool _, _, _, _, _, _, _, _, _, _, _, hok, _ => by unfold okD at hok; cases hok
  | .str _, .int _, _, _, _, _, _, _, _, _, _, _, hok, _ => by unfold okD at hok; cases hok
  | .str _, .list _, _, _, _, _, _, _, _, _, _, _, hok, _ => by unfold okD at hok; cases hok
  | .str _, .tuple _, _, _, _, _, _, _, _, _, _, _, hok, _ => by unfold okD at hok; cases hok
  | .str _, .dict _, _, _, _, _, _, _, _, _, _, _, hok, _ => by unfold okD at hok; cases hok
  | .tuple _, .none, _, _, _, _, _, _, _, _, _, _, hok, _ => by unfold okD at hok; cases hok
  | .tuple _, .bool _, _, _, _, _, _, _, _, _, _, _, hok, _ => by unfold okD at hok; cases hok
  | .tuple _, .int _, _, _, _, _, _, _, _, _, _, _, hok, _ => by unfold okD at hok; cases hok
  | .tuple _, .str _, _, _, _, _, _, _, _, _, _, _, hok, _ => by unfold okD at hok; cases hok
  | .tuple _, .list _, _, _, _, _, _, _, _, _, _, _, hok, _ => by unfold okD at hok; cases hok
  | .tuple _, .dict _, _, _, _, _, _, _, _, _, _, _, hok, _ => by unfold okD at hok; cases hok
theorem rcLt_all : ∀ (xs ys : List PyData) (A : Around) (s : Shared) (vs ws : List Value) (as bs : List Addr), ReadsAll s.heap vs xs as → ReadsAll s.heap ws ys bs → PyData.canLayAll0 xs = true → PyData.canLayAll0 ys = true → okL xs ys = true →
    A.units + min (PyData.depthAll xs) (PyData.depthAll ys) < cLine → ∀ j (h1 : j < vs.length) (h2 : j < ws.length), (∀ i, i < j → pairEq xs ys i = true) → pairEq xs ys j = false → RcLt A s vs[j] ws[j] (ltD (xs.getD j .none) (ys.getD j .none))
  | [], _, _, _, _, _, _, _, ra, _, _, _, _, _, j, h1, _, _, _ => by cases ra; exact absurd h1 (Nat.not_lt_zero _)
  | _ :: _, [], _, _, _, _, _, _, _, rb, _, _, _, _, j, _, h2, _, _ => by cases rb; exact absurd h2 (Nat.not_lt_zero _)
  | x :: xs, y :: ys, A, s, _, _, _, _, ra, rb, ha, hb, hok, hu, j, h1, h2, hp, hf => by
    have ha' : x.canLay0 = true ∧ PyData.canLayAll0 xs = true := by simpa [PyData.canLayAll0] using ha
    have hb' : y.canLay0 = true ∧ PyData.canLayAll0 ys = true := by simpa [PyData.canLayAll0] using hb
    unfold okL at hok
    cases ra with
    | cons r rs =>
      cases rb with
      | cons r' rs' =>
        cases j with
        | zero =>
          have e0 : PyData.eqv x y = false := hf
          rw [if_neg (by rw [e0]; exact Bool.false_ne_true)] at hok
          exact rcLt_data x y A s _ _ _ _ r r' ha'.1 hb'.1 hok (room_head hu)
        | succ j =>
          have e0 : PyData.eqv x y = true := hp 0 (Nat.succ_pos _)
          rw [if_pos e0] at hok
          exact rcLt_all xs ys A s _ _ _ _ rs rs' ha'.2 hb'.2 hok (room_tail hu) j (Nat.lt_of_succ_lt_succ h1) (Nat.lt_of_succ_lt_succ h2) (fun i hi => hp (i + 1) (Nat.succ_lt_succ hi)) hf
end
def rLtD (K : PySem.W.Frag) : R2 := fun x y H Q => ∃ d e, Dp K H x d ∧ Dp K H y e ∧ shaped d = true ∧ shaped e = true ∧ okD d e = true ∧ Q (.bl (ltD d e)) H
theorem op_ltD {X : Cx} (hu : X.A.units + 64 < cLine) : OpR X (compareOp .Lt) (rLtD X.K) := by
  intro pins s σ H x y v u Q I rx ry h
  obtain ⟨d, e, hd, he, sd, se, hok, q⟩ := h
  obtain ⟨as, r1⟩ := Dp.reads I d x v hd rx
  obtain ⟨bs, r2⟩ := Dp.reads I e y u he ry
  exact rcLt_data d e X.A s v u as bs r1 r2 (canLay_of_shaped sd) (canLay_of_shaped se) hok (room_of_shaped sd hu) X.prog X.w X.xe _ ⟨.bl _, H, I, rfl, q⟩
theorem keyLt_data {prog : Program} {w : World} {A : Around} {E : Value → Shared → Prop} {s : Shared} {xs ys : List PyData} {u v : Value} {as bs : List Addr} {Q : Bool → Shared → Prop} (ra : Reads s.heap u (.tuple xs) as) (rb : Reads s.heap v (.tuple ys) bs)
    (ha : (PyData.tuple xs).canLay0 = true) (hb : (PyData.tuple ys).canLay0 = true) (hok : okL xs ys = true) (hu : A.units + min (PyData.tuple xs).depth (PyData.tuple ys).depth < cLine) (h : Q (ltL xs ys) s) :
    wpAny (model prog w) A (keyLt' (tuples' false) u v) Q E s := by
  cases ra with
  | @tuple l o vs n _ as₁ h1 h2 h3 h4 =>
    cases rb with
    | @tuple l' o' vs' n' _ bs₁ k1 k2 k3 k4 =>
      refine PySem.W.kat_lt h1 h3 k1 k3 ?_
      have n1 : vs.size = xs.length := by simpa using ReadsAll.length _ _ _ h4
      have n2 : vs'.size = ys.length := by simpa using ReadsAll.length _ _ _ k4
      rw [n1, n2]
      have hu0 : A.units + min (PyData.depthAll xs) (PyData.depthAll ys) < cLine := by
        have q := room_in hu
        omega
      clear h3 k3 n1 n2 h1 k1
      generalize vs.toList = us at h4
      generalize vs'.toList = ws at k4
      have key : ∀ (xs ys : List PyData) (us ws : List Value) (as bs : List Addr) (i : Nat), ReadsAll s.heap us xs as → ReadsAll s.heap ws ys bs → PyData.canLayAll0 xs = true → PyData.canLayAll0 ys = true → okL xs ys = true →
          A.units + min (PyData.depthAll xs) (PyData.depthAll ys) < cLine → Q (ltL xs ys) s → PySem.W.KatLex prog w A false (decide (xs.length < ys.length)) Q (us.zip ws) i s := by
        intro xs
        induction xs with
        | nil =>
          intro ys us ws as bs i ra rb _ _ _ _ hq
          cases ra
          cases ys with
          | nil =>
            cases rb
            exact PySem.W.kat_nil (by unfold ltL at hq; exact hq)
          | cons y ys =>
            cases rb
            exact PySem.W.kat_nil (by unfold ltL at hq; simpa using hq)
        | cons x xs ih =>
          intro ys us ws as bs i ra rb ha hb hok hu hq
          cases ys with
          | nil =>
            cases rb
            cases ra
            exact PySem.W.kat_nil (by unfold ltL at hq; simpa using hq)
          | cons y ys =>
            have ha' : x.canLay0 = true ∧ PyData.canLayAll0 xs = true := by simpa [PyData.canLayAll0] using ha
            have hb' : y.canLay0 = true ∧ PyData.canLayAll0 ys = true := by simpa [PyData.canLayAll0] using hb
            unfold okL at hok
            unfold ltL at hq
            cases ra with
            | cons r rs =>
              cases rb with
              | cons r' rs' =>
                have e1 : decide ((x :: xs).length < (y :: ys).length) = decide (xs.length < ys.length) := by simp
                rw [e1]
                refine PySem.W.kat_cons (eqAt_reads x y A s _ _ _ _ r r' ha'.1 hb'.1 (room_head hu) prog w _ _ ?_)
                refine PySem.W.kat_go (fun e => ?_) (fun e => ?_)
                · rw [if_pos e] at hok hq
                  exact PySem.W.kat_yes (ih ys _ _ _ _ (i + 1) rs rs' ha'.2 hb'.2 hok (room_tail hu) hq)
                · rw [if_neg (by rw [e]; exact Bool.false_ne_true)] at hok hq
                  refine PySem.W.kat_no ?_
                  rw [Bool.false_and]
                  exact PySem.W.kat_one _ _ (rcLt_data x y A s _ _ _ _ r r' ha'.1 hb'.1 hok (room_head hu) prog w _ _ hq)
      exact key xs ys _ _ _ _ 0 h4 k4 ha hb hok hu0 h
end KC
set_option Elab.async false
set_option linter.all false
set_option maxRecDepth 100000
set_option maxHeartbeats 4000000
namespace KD
open PySem PySem.Spec PyProof.Rows L2 KB KC LamX
def LamO (f : Addr) (q : Str) (params : Arguments) (body : Expr) (scope : Scope) (c' : Addr) : HO := .ext fun h => ∃ pm ctv, h.get? f = some (PySem.W.kla_obj "<lambda>" q params body scope [] pm c' ctv)
theorem lam_run {CX : CXT} {P : Program} {w : World} {K : PySem.W.Frag} {mg : Str → Option Value} {base : Heap} {k : Nat} {f c' : Addr} {q : Str} {params : Arguments} {body : Expr} {scope : Scope} {N ps : List Str} (S : FnScope N ps scope)
    {A : Around} {outer : List Env} {s : Shared} {H : Hp} {args : Args} {us : List Value} {vs : List V} {Q : VK} {E : XK} (hr : Room (k + 1) A) (e0 : Env0 P w K mg base A outer s H)
    (hf : H f = some (LamO f q params body scope c')) (hc : H c' = some (CodeO c' q)) (hb : ∀ pm ctv, BindsTo s (PySem.W.kla_fn "<lambda>" q params body scope [] pm (.ref c') ctv) args (ps.zip us)) (r : Vals vs us) (hl : vs.length = ps.length)
    (hbody : Room k (A.deeper (envOfC q scope s.heap.objs.size f (.ref c'))) → ∃ t, PE (cxOf CX P w K mg base N q scope f (.ref c') A outer s H E) body t ∧ t (start N vs) H Q) :
    codeAny (model P w) A (.call (.ref f) args) (CR CX outer P w H s Q E) s := by
  have lim : s.heap.NoLimit := e0.mod.nolimit.keeps fun b o e => (e0.bs b o e).1
  have hkind : ∀ y ∈ ps.zip us, scope.names.lookup y.1 = some .local ∨ (scope.names.lookup y.1 = some .cell ∧ ((cellsFrom (s.heap.objs.size + 1) scope.names []).lookup y.1).isSome = true) := fun ⟨n, v⟩ hy =>
    (S.par n (List.of_mem_zip hy).1).elim .inl fun q => .inr ⟨q, PySem.W.cellsFrom_some _ _ _ (.inl q)⟩
  obtain ⟨⟨pm, ctv, of1⟩, _, _⟩ := e0.hok f _ hf
  obtain ⟨⟨oc, vsc, t, hoc, hdc, hvc⟩, _, _⟩ := e0.hok c' _ hc
  refine PySem.W.kla_callFunE hr.depth of1 rfl S.co S.gen rfl ⟨c', oc, vsc, t, rfl, hoc, hdc, hvc⟩ ?_
  refine hb pm ctv _ _ _ _ ?_
  refine wpAny_newFunctionEnv_cells S.kind hkind fun env he s1 x => ?_
  subst he
  refine ⟨lim.keeps x.toInCall.keep, ?_⟩
  obtain ⟨t, ht, hq⟩ := hbody (hr.deeper _)
  have I : Inv (cxOf CX P w K mg base N q scope f (.ref c') A outer s H E) [] (start N vs) H s1 := inv_start S hr.hd e0 hl r x
  refine PySem.W.kla_codeExpr (wpAny_mono (ht.run [] s1 (start N vs) H Q I hq) (fun v s' hs => ?_) fun e s' hs => hs)
  obtain ⟨v', H', J, rv, q⟩ := hs
  exact ⟨v', H', J.os, J.bare, J.base, J.hok, rv, q⟩
theorem lamO_ok {P : Program} {w : World} {H : Hp} {h : Heap} {f c' : Addr} {q : Str} {params : Arguments} {body : Expr} {scope : Scope} {pm ctv : Value} (e : h.get? f = some (PySem.W.kla_obj "<lambda>" q params body scope [] pm c' ctv)) :
    ObjOk P w H h f (LamO f q params body scope c') := ⟨⟨pm, ctv, e⟩, ⟨_, e⟩, fun h1 h2 ⟨a, b, z⟩ k => ⟨a, b, k _ z⟩⟩
theorem tabs_upd {T : List (Addr × Str)} {H : Hp} {a : Addr} {o : HO} (t : Tabs T H) (n : H a = none) : Tabs T (upd H a o) := t.ext fun b u e => by rw [upd_ne (ne_of_none e n)]; exact e
theorem extN_upd {H : Hp} {a : Addr} {o : HO} (n : H a = none) : ExtN H (upd H a o) := fun b u e _ => by rw [upd_ne (ne_of_none e n)]; exact e
def tLamV (T : List (Addr × Str)) (q : Str) (params : Arguments) (body : Expr) (scope : Scope) : TE := fun _ H Q => Tabs T H ∧ ∀ f c' H1, ExtN H H1 → Tabs T H1 → H1 f = some (LamO f q params body scope c') → H1 c' = some (CodeO c' q) → H f = none → Q (.ref f) H1
section
variable {X : Cx}
theorem pe_lamV {T : List (Addr × Str)} {c P : Addr} {params : Arguments} {body : Expr} {scope : Scope} {pos : Pos} (TB : TabB X.base X.mg c P) (hcode : X.env.code = .ref c) (hm : (P, X.env.qual ++ "<lambda>") ∈ T) (hu : ∀ p ∈ T, p.1 = P → p.2 = X.env.qual ++ "<lambda>")
    (hdef : defaultsOf params X.env = ([], [])) (hfree : ∀ y ∈ scope.names, y.2 ≠ .free) (hclo : cloFrom X.env.cells scope.names [] = []) : PE X (.Lambda params body scope pos) (tLamV T (X.env.qual ++ "<lambda>") params body scope) := by
  refine ⟨fun pins s σ H Q I h => ?_⟩
  obtain ⟨hT, h⟩ := h
  obtain ⟨ps, hP, ht, ha⟩ := hT _ hm
  refine PySem.W.kla_eval hdef ?_
  have bP : s.heap.BuiltinsAt X.mg P := TB.bm.keeps I.bk
  have hP' : s.heap.get? P = some { cls := .none, data := .fields ps } := I.hok P _ hP
  have hcl : closureFor scope X.env = pure [] := by
    have z := closure_ok (env := X.env) (scope := scope) (fun y hy e => absurd e (hfree y hy))
    rw [hclo] at z
    exact z
  have end_ : ∀ (f c' : Addr) (ctv : Value) (H1 : Hp) (h' : Heap) (tk : Nat), Inv X pins σ H1 { s with heap := h', toks := tk } → s.heap.objs.size ≤ h'.objs.size → ExtN H H1 → Tabs T H1 → H1 h'.objs.size = none → H1 c' = some (CodeO c' (X.env.qual ++ "<lambda>")) →
      EP X pins σ Q (.ref h'.objs.size) { s with heap := h'.push (PySem.W.kla_obj "<lambda>" (X.env.qual ++ "<lambda>") params body scope [] ((X.mg "__name__").getD .none) c' ctv), toks := tk } := by
    intro f c' ctv H1 h' tk I1 hz e1 t1 n1 co
    have J : Inv X pins σ (upd H1 h'.objs.size (LamO h'.objs.size (X.env.qual ++ "<lambda>") params body scope c')) { s with heap := h'.push (PySem.W.kla_obj "<lambda>" (X.env.qual ++ "<lambda>") params body scope [] ((X.mg "__name__").getD .none) c' ctv), toks := tk } :=
      I1.laid (t' := tk) (fun b u e => Heap.get?_push_of_some _ e) (Nat.le_refl _) (lamO_ok (Heap.get?_push_size _ rfl))
    refine ⟨.ref h'.objs.size, _, J, rfl, h h'.objs.size c' _ (e1.trans (extN_upd n1)) (tabs_upd t1 n1) upd_same (by rw [upd_ne (ne_of_none co n1)]; exact co) (I.hok.fresh hz)⟩
  cases hc : codeAmong pos ps.toList with
  | none =>
    refine PySem.W.kla_makeFunction (mg := X.mg) (c := c) (P := P) (ps := ps) hcl I.ok.glob (I.mod.glob.keeps I.bk) hcode (TB.code.keeps I.bk) hP' ht hc TB.gP bP fun c' ctv h' tk hx hge hlt hrec htb => ?_
    obtain ⟨c2, oc, vs, t, e2, hoc, hd, hv⟩ := hrec
    cases e2
    have nC : H c' = none := I.hok.fresh hge
    have nPc : P ≠ c' := ne_of_none hP nC
    have I1 := inv_table (t' := tk) (more := #[rawInt pos.line, rawInt pos.col, .ref c']) (h' := h') I hP hx htb hge ⟨oc, vs, t, hoc, hd, hv⟩
    have hE : ExtN H (upd (upd H P (.tbl (ps ++ #[rawInt pos.line, rawInt pos.col, .ref c']))) c' (CodeO c' (X.env.qual ++ "<lambda>"))) := fun b o e n => by
      rw [upd_ne (ne_of_none e nC), upd_ne (fun z => n ps (Option.some.inj (e.symm.trans (by rw [z]; exact hP))))]
      exact e
    have eL : (ps ++ #[rawInt pos.line, rawInt pos.col, .ref c']).toList = ps.toList ++ [rawInt pos.line, rawInt pos.col, .ref c'] := by simp
    refine end_ h'.objs.size c' ctv _ h' tk I1 (Nat.le_trans hge (Nat.le_of_lt hlt)) hE (fun p hp => ?_) ?_ upd_same
    · by_cases hb : p.1 = P
      · rw [hu p hp hb, hb]
        refine ⟨_, by rw [upd_ne nPc, upd_same], by rw [eL]; exact PySem.TriplesOk_snoc _ _ _ _ ht, fun p' cv hcv => ?_⟩
        rw [eL] at hcv
        rcases among_app _ ht hcv with z | z
        · obtain ⟨c0, e1, e2⟩ := ha p' cv z
          exact ⟨c0, e1, hE _ _ e2 codeO_ne⟩
        · exact ⟨c', z, upd_same⟩
      · obtain ⟨ps', a1, a2, a3⟩ := hT p hp
        refine ⟨ps', by rw [upd_ne (ne_of_none a1 nC), upd_ne hb]; exact a1, a2, fun p' cv hcv => ?_⟩
        obtain ⟨c0, e1, e2⟩ := a3 p' cv hcv
        exact ⟨c0, e1, hE _ _ e2 codeO_ne⟩
    · have n1 : h'.objs.size ≠ c' := Nat.ne_of_gt hlt
      have n2 : h'.objs.size ≠ P := Nat.ne_of_gt (Nat.lt_of_lt_of_le (Heap.lt_size hP') (Nat.le_trans hge (Nat.le_of_lt hlt)))
      rw [upd_ne n1, upd_ne n2]
      exact I.hok.fresh (Nat.le_trans hge (Nat.le_of_lt hlt))
  | some cv =>
    obtain ⟨c', e, hco⟩ := ha pos cv hc
    subst e
    refine PySem.W.kla_makeFunctionHit (mg := X.mg) (c := c) (P := P) (ps := ps) hcl I.ok.glob (I.mod.glob.keeps I.bk) hcode (TB.code.keeps I.bk) hP' ht hc bP fun ctv h' tk hx hsz => ?_
    exact end_ h'.objs.size c' ctv H h' tk (I.kept (t' := tk) hx) hsz (ExtN.refl H) hT (I.hok.fresh hsz) hco
end
end KD
set_option Elab.async false
set_option linter.all false
set_option maxRecDepth 100000
set_option maxHeartbeats 4000000
namespace KS
open PySem PySem.Spec PyProof.Rows L2 KB KC KD LamX PySem.SeqAt SrtO Srt
def Ex (H H' : Hp) : Prop := ∀ b o, H b = some o → H' b = some o
theorem Ex.refl (H : Hp) : Ex H H := fun _ _ h => h
theorem Ex.trans {H H1 H2 : Hp} (a : Ex H H1) (b : Ex H1 H2) : Ex H H2 := fun c o h => b c o (a c o h)
theorem Ex.upd {H : Hp} {a : Addr} {o : HO} (n : H a = none) : Ex H (upd H a o) := fun b u e => by rw [upd_ne (ne_of_none e n)]; exact e
theorem Ex.rd {H H' : Hp} {a : Addr} {u : HO} (e : Ex H H') (h : Rd H a u) : Rd H' a u := h.elim (fun h => .inl (e _ _ h)) fun ⟨o, h⟩ => .inr ⟨o, e _ _ h⟩
mutual
theorem dp_ex {K : PySem.W.Frag} {H H' : Hp} (e : Ex H H') : ∀ {v : V} {d : PyData}, Dp K H v d → Dp K H' v d
  | _, _, .non => .non
  | _, _, .bl b => .bl b
  | _, _, .int i => .int i
  | _, _, .str x => .str x
  | _, _, .lst h t => .lst (h.elim (fun h => .inl (e.rd h)) .inr) (dpAll_ex e t)
  | _, _, .tup h t => .tup (h.elim (fun h => .inl (e.rd h)) .inr) (dpAll_ex e t)
theorem dpAll_ex {K : PySem.W.Frag} {H H' : Hp} (e : Ex H H') : ∀ {vs : List V} {ds : List PyData}, DpAll K H vs ds → DpAll K H' vs ds
  | _, _, .nil => .nil
  | _, _, .cons h t => .cons (dp_ex e h) (dpAll_ex e t)
end
def KeyCall (X : Cx) (f : Addr) (H : Hp) (kvs : List (List Key × V)) (kd : List Key × V → List PyData) : Prop :=
  ∀ x ∈ kvs, ∀ (t q : Addr) (H1 : Hp), Ex H H1 → H1 t = some (.tup [.ref q, x.2]) → H1 q = some (.tup (x.1.map kV)) → ∀ (pins : List (Addr × Obj)) (σ : L2.St) (s1 : Shared) (R : Value → Shared → Prop), Inv X pins σ H1 s1 →
    (∀ y u H2 s2, Inv X pins σ H2 s2 → Ex H1 H2 → RelV y u → Dp X.K H2 y (.tuple (kd x)) → R u s2) → wpAny (model X.prog X.w) X.A.in1.in1 (call (.ref f) [.ref t]) R (fun _ _ => False) s1
section
variable {X : Cx} {pins : List (Addr × Obj)} {σ : L2.St}
theorem lst_raw {H : Hp} {s : Shared} {a : Addr} {ys : List V} (I : Inv X pins σ H s) (h : H a = some (.lst ys)) : ys.length ≤ sizeLine ∧ ∃ (its : List Value) (n : Nat), Vals ys its ∧ s.heap.get? a = some (seqObj "list" its.toArray n) := I.hok a _ h
theorem lst_write {H : Hp} {s : Shared} {a : Addr} {ys zs : List V} {us vs : List Value} {n tk : Nat} (I : Inv X pins σ H s) (h : H a = some (.lst ys)) (hr : s.heap.get? a = some (seqObj "list" us.toArray n)) (hz : zs.length ≤ sizeLine) (rz : Vals zs vs) (g : Array Value → Array Value) (hg : g us.toArray = vs.toArray) :
    Inv X pins σ (upd H a (.lst zs)) { s with heap := s.heap.update a (Obj.mapSeq g), toks := tk } := by
  have e := get?_update_seq hr g
  rw [hg] at e
  exact I.write (t' := tk) (x := a) (e := a) (by rw [h]; exact True.intro) (.inl rfl) (fun b u hb q => (Heap.get?_update_ne _ _ _ _ hb).trans q) ⟨_, e⟩ ⟨hz, vs, _, rz, e⟩
theorem swo_rank {α : Type} (r : α → Int) : Swo fun p q : α => decide (r p < r q) :=
  ⟨fun x y h => by have h := of_decide_eq_true h; exact decide_eq_false (by omega), fun x y z h1 h2 => by have h1 := of_decide_eq_false h1; have h2 := of_decide_eq_false h2; exact decide_eq_false (by omega)⟩
def rankOf (as : List Addr) (kvs : List (List Key × V)) (ρ : List Key × V → Int) (v : Value) : Int :=
  match v with
  | .ref t => match (as.zip kvs).find? (fun z => decide (z.1 = t)) with
    | some z => ρ z.2
    | none => 0
  | _ => 0
theorem find_zip {as : List Addr} {kvs : List (List Key × V)} (nd : as.Nodup) : ∀ {j : Nat} {t : Addr} {x : List Key × V}, as[j]? = some t → kvs[j]? = some x → (as.zip kvs).find? (fun z => decide (z.1 = t)) = some (t, x) := by
  induction as generalizing kvs with
  | nil => intro j t x h; simp at h
  | cons b as ih =>
    intro j t x h1 h2
    rw [List.nodup_cons] at nd
    cases kvs with
    | nil => simp at h2
    | cons y kvs =>
      cases j with
      | zero =>
        simp only [List.getElem?_cons_zero, Option.some.injEq] at h1 h2
        subst h1 h2
        simp
      | succ j =>
        simp only [List.getElem?_cons_succ] at h1 h2
        have hne : ¬ b = t := fun z => nd.1 (by rw [z]; exact List.mem_of_getElem? h1)
        rw [List.zip_cons_cons, List.find?_cons_of_neg (by simpa using hne)]
        exact ih nd.2 h1 h2
theorem rank_at {as : List Addr} {kvs : List (List Key × V)} {ρ : List Key × V → Int} (nd : as.Nodup) {j : Nat} {t : Addr} {x : List Key × V} (h1 : as[j]? = some t) (h2 : kvs[j]? = some x) : rankOf as kvs ρ (.ref t) = ρ x := by
  unfold rankOf
  simp only [find_zip nd h1 h2]
end
mutual
def pureD : PyData → Bool
  | .none => true
  | .bool _ => true
  | .int _ => true
  | .str _ => true
  | .tuple xs => pureL xs
  | _ => false
def pureL : List PyData → Bool
  | [] => true
  | x :: xs => pureD x && pureL xs
end
mutual
theorem dp_tups {K : PySem.W.Frag} {H H' : Hp} (e : ∀ b xs, Rd H b (.tup xs) → Rd H' b (.tup xs)) : ∀ {v : V} {d : PyData}, pureD d = true → Dp K H v d → Dp K H' v d
  | _, _, _, .non => .non
  | _, _, _, .bl b => .bl b
  | _, _, _, .int i => .int i
  | _, _, _, .str x => .str x
  | _, _, h, .lst _ _ => by unfold pureD at h; cases h
  | _, _, h, .tup a t => .tup (a.elim (fun a => .inl (e _ _ a)) .inr) (dpAll_tups e (by unfold pureD at h; exact h) t)
theorem dpAll_tups {K : PySem.W.Frag} {H H' : Hp} (e : ∀ b xs, Rd H b (.tup xs) → Rd H' b (.tup xs)) : ∀ {vs : List V} {ds : List PyData}, pureL ds = true → DpAll K H vs ds → DpAll K H' vs ds
  | _, _, _, .nil => .nil
  | _, _, h, .cons a t => by
    have h2 := h
    unfold pureL at h2
    rw [Bool.and_eq_true] at h2
    exact .cons (dp_tups e h2.1 a) (dpAll_tups e h2.2 t)
end
theorem kat_of {h : Heap} : ∀ its : List Value, (∀ u ∈ its, ∃ l r as, Reads h u (.tuple (.tuple l :: r)) as) → ∃ fs : List Value, PySem.W.KatTups h its fs ∧ fs.length = its.length ∧ ∀ v ∈ fs, ∃ (b : Addr) (o : Obj), v = .ref b ∧ h.get? b = some o ∧ o.cls = .type "tuple"
  | [], _ => ⟨[], PySem.W.KatTups.nil, rfl, fun v hv => by simp at hv⟩
  | u :: its, hr => by
    obtain ⟨fs, k1, k2, k3⟩ := kat_of its fun u' hu' => hr u' (List.mem_cons_of_mem _ hu')
    obtain ⟨l, r, as, q⟩ := hr u List.mem_cons_self
    cases q with
    | @tuple a o vs n _ as₁ h1 h2 h3 h4 =>
      generalize ev : vs.toList = vl at h4
      cases h4 with
      | @cons v0 vr _ _ as1 as2 r0 rr =>
        cases r0 with
        | @tuple b ob vs' n' _ as₂ g1 g2 g3 g4 =>
          refine ⟨.ref b :: fs, PySem.W.KatTups.cons h1 h2 h3 (by rw [← Array.getElem?_toList, ev]; rfl) k1, by rw [List.length_cons, List.length_cons, k2], fun v hv => ?_⟩
          rcases List.mem_cons.mp hv with e | hv
          · exact ⟨b, ob, e, g1, g2⟩
          · exact k3 v hv
section
variable {X : Cx} {pins : List (Addr × Obj)} {σ : L2.St}
theorem sort_body {f D : Addr} {H : Hp} {s : Shared} {h2 : Heap} {tk : Nat} {kvs : List (List Key × V)} {xs : List (List Key × Addr × Value)} {es : Array DictEntry} {as : List Addr} {kd : List Key × V → List PyData} {ρ : List Key × V → Int} {P : PySem.Fin → Shared → Prop} {E : Value → Shared → Prop}
    (I : Inv X pins σ H s) (hk : ∀ b o, s.heap.get? b = some o → h2.get? b = some o) (hD : h2.get? D = some (seqObj "list" (as.map Value.ref).toArray 0)) (hsD : s.heap.objs.size ≤ D)
    (rel : KT H kvs xs) (hes : es.toList = xs.map (entryOfKey (tupleKind (mixKind X.prog X.w)))) (hl : as.length = es.size) (hG : DT.Made es s.heap.objs.size h2 as) (hz : kvs.length ≤ sizeLine)
    (hsh : ∀ x ∈ kvs, shaped (.tuple (kd x)) = true) (hpu : ∀ x ∈ kvs, pureL (kd x) = true) (hft : ∀ x ∈ kvs, ∃ l r, kd x = .tuple l :: r) (hok : ∀ x ∈ kvs, ∀ y ∈ kvs, okL (kd x) (kd y) = true) (hρ : ∀ x ∈ kvs, ∀ y ∈ kvs, ltL (kd x) (kd y) = decide (ρ x < ρ y))
    (hu : X.A.units + 66 < cLine) (hcall : KeyCall X f H kvs kd)
    (q : ∀ (H' : Hp) (s' : Shared) (zs : List (Addr × (List Key × V))), Inv X pins σ H' s' → Ex H H' → H D = none → H' D = some (.lst (zs.map fun z => V.ref z.1)) → (zs.map (·.2)).Perm kvs → (zs.map (·.2)).Pairwise (fun x y => ¬ ρ y < ρ x) →
      (∀ z ∈ zs, ∃ q, H' z.1 = some (.tup [.ref q, z.2.2]) ∧ H' q = some (.tup (z.2.1.map kV))) → P (.done (.ret .none)) s') :
    wpAny (model X.prog X.w) X.A.in1.in1 (ksk_tree D (.ref f) false) P E { s with heap := h2, toks := tk } := by
  have l1 : kvs.length = xs.length := Paired.length rel
  have l2 : es.size = xs.length := size_of_entries hes
  have lak : as.length = kvs.length := by omega
  have nd : as.Nodup := List.Pairwise.imp (fun h => Nat.ne_of_lt h) hG.rise
  have szl : (as.map Value.ref).toArray.size = kvs.length := by rw [List.size_toArray, List.length_map, lak]
  have asz : (as.map Value.ref).length ≤ sizeLine := by rw [List.length_map]; omega
  have nD : H D = none := I.hok.fresh hsD
  have asD : ∀ b ∈ as, b ≠ D ∧ b < h2.objs.size := fun b hb => by
    obtain ⟨j, hj⟩ := List.mem_iff_getElem?.mp hb
    obtain ⟨_, _, e⟩ := hG.pairs j b hj
    refine ⟨fun z => ?_, Heap.lt_size e⟩
    rw [z, hD] at e
    exact absurd (Value.type.inj (congrArg Obj.cls (Option.some.inj e))) (by decide)
  unfold ksk_tree
  refine wpAny_bind (listItems_at hD rfl ?_)
  refine wpAny_bind (listUpdate_at hD rfl ?_ (by rw [szl]; exact hz) (Nat.zero_le _))
  obtain ⟨e1, ho1⟩ : ∃ e1, (h2.update D (Obj.mapSeq fun _ => (#[] : Array Value))).get? D = some (seqObj "list" #[] e1) := ⟨_, get?_update_seq hD fun _ => #[]⟩
  refine wpAny_bind (seqEpoch_at ho1 rfl ?_)
  refine wpAny_bind (wpAny_newTuple ?_ asz)
  refine wpAny_bind (wpAny_newList ?_ (Nat.zero_le _))
  refine wpAny_holding ?_
  generalize hh4 : (h2.update D (Obj.mapSeq fun _ => (#[] : Array Value))).push (seqObj "tuple" (as.map Value.ref).toArray 0) = h4
  have z4 : h4.objs.size = h2.objs.size + 1 := by rw [← hh4, size_push', Heap.size_update]
  have keep4 : ∀ b o, b ≠ D → h2.get? b = some o → h4.get? b = some o := fun b o hb e => by
    rw [← hh4]
    exact Heap.get?_push_of_some _ ((Heap.get?_update_ne _ _ _ _ hb).trans e)
  have hD4 : h4.get? D = some (seqObj "list" #[] e1) := by rw [← hh4]; exact Heap.get?_push_of_some _ ho1
  have I1 : Inv X pins σ (upd H h4.objs.size (.lst [])) { s with heap := h4.push (seqObj "list" #[] 0), toks := tk } :=
    I.laid (t' := tk) (fun b o e => Heap.get?_push_of_some _ (keep4 b o (fun z => by rw [z] at e; exact absurd (Heap.lt_size e) (Nat.not_lt.mpr hsD)) (hk b o e))) (by rw [z4]; exact Nat.le_succ_of_le (Nat.le_trans hsD (Nat.le_of_lt (Heap.lt_size hD))))
      ⟨Nat.zero_le _, [], 0, .nil, Heap.get?_push_size _ rfl⟩
  have hkn : H h4.objs.size = none := I.hok.fresh (by rw [z4]; exact Nat.le_succ_of_le (Nat.le_trans hsD (Nat.le_of_lt (Heap.lt_size hD))))
  have hDk : D ≠ h4.objs.size := by rw [z4]; exact Nat.ne_of_lt (Nat.lt_succ_of_lt (Heap.lt_size hD))
  have hG5 : DT.Made es s.heap.objs.size (h4.push (seqObj "list" #[] 0)) as := ⟨hG.rise, hG.above, fun j b hj => by
    obtain ⟨e, he, hg⟩ := hG.pairs j b hj
    exact ⟨e, he, Heap.get?_push_of_some _ (keep4 b _ (asD b (List.mem_of_getElem? hj)).1 hg)⟩⟩
  obtain ⟨H2, I2, g2, pp, off⟩ := made_tracked (h' := h4.push (seqObj "list" #[] 0)) (tk := tk) I rel hes hl hG5 I1 (Ex.upd hkn) fun b hb => by
    rw [upd_ne (by rw [z4]; exact Nat.ne_of_lt (Nat.lt_succ_of_lt (asD b hb).2))]
    exact I.hok.fresh (Nat.le_of_lt (hG.above b hb))
  have exH2 : Ex H H2 := (Ex.upd hkn).trans g2
  have hkS2 : H2 h4.objs.size = some (.lst []) := g2 _ _ upd_same
  have hD2 : H2 D = none := by rw [off D fun z => (asD D z).1 rfl, upd_ne hDk]; exact nD
  have fD : ∀ H', H' D = none → FpOk X pins H' D := fun H' n => I.fpOk hsD n
  have I3 : Inv X (pins ++ [(D, seqObj "list" #[] e1)]) σ H2 { s with heap := h4.push (seqObj "list" #[] 0), toks := tk } := I2.pins_of fun p hp => by
    rcases List.mem_append.mp hp with hp | hp
    · exact I2.pin p (List.mem_append_right _ hp)
    · rw [List.mem_singleton.mp hp]
      obtain ⟨_, f1, f2, _⟩ := fD H2 hD2
      exact ⟨Heap.get?_push_of_some _ hD4, hD2, f1, f2, fun v z => by cases z⟩
  have pget : ∀ {j : Nat} {t : Addr}, as[j]? = some t → ∃ x q, kvs[j]? = some x ∧ H2 t = some (.tup [.ref q, x.2]) ∧ H2 q = some (.tup (x.1.map kV)) := fun {j t} hj => by
    obtain ⟨x, hx, q, q1, q2⟩ := LiI.paired_get pp hj
    exact ⟨x, q, hx, q1, q2⟩
  unfold ksk_rest
  refine wpAny_bind (wpAny_rule ?_)
  first
    | rw [List.forIn_toArray]
    | (rw [← Array.forIn_toList]; simp only [List.toList_toArray])
  refine wpAny_bind (ksk_fold (fun i s' => ∃ (Hi : Hp) (ys : List V), Inv X (pins ++ [(D, seqObj "list" #[] e1)]) σ Hi s' ∧ (∀ b o, b ≠ h4.objs.size → H2 b = some o → Hi b = some o) ∧ Hi h4.objs.size = some (.lst ys) ∧ ys.length = i ∧
      ∀ (j : Nat) (y : V), ys[j]? = some y → ∃ x, kvs[j]? = some x ∧ Dp X.K Hi y (.tuple (kd x))) (as.map Value.ref) 0 _ ⟨H2, [], I3, fun b o _ e => e, hkS2, rfl, fun j y h => by simp at h⟩ ?step ?done)
  case step =>
    rintro j v s' hv ⟨Hi, ys, Ii, ei, hki, hlen, hdp⟩
    simp only [Nat.zero_add] at hlen ⊢
    rw [List.getElem?_map] at hv
    obtain ⟨t, ht, rfl⟩ := Option.map_eq_some_iff.mp hv
    obtain ⟨x, qa, hx, q1, q2⟩ := pget ht
    have nk : ∀ {b : Addr} {vs : List V}, H2 b = some (.tup vs) → b ≠ h4.objs.size := fun e z => by rw [z, hkS2] at e; cases e
    have hxm : x ∈ kvs := List.mem_of_getElem? hx
    refine wpAny_bind (wpAny_attempt (wpAny_mono (hcall x hxm t qa Hi (fun b o e => ei b o (fun z => by rw [z, hkn] at e; cases e) (exH2 b o e)) (ei _ _ (nk q1) q1) (ei _ _ (nk q2) q2) _ _ s'
      (fun u s'' => ∃ y H3, Inv X (pins ++ [(D, seqObj "list" #[] e1)]) σ H3 s'' ∧ Ex Hi H3 ∧ RelV y u ∧ Dp X.K H3 y (.tuple (kd x))) Ii fun y u H3 s2 J e3 ry dy => ⟨y, H3, J, e3, ry, dy⟩) (fun u s'' he => ?_) fun _ _ hF => hF.elim))
    obtain ⟨y, H3, J, e3, ry, dy⟩ := he
    have hk3 := e3 _ _ hki
    obtain ⟨hzy, its, n, ri, hraw⟩ := lst_raw J hk3
    have jl : j < as.length := (List.getElem?_eq_some_iff.mp ht).1
    have il : its.length = ys.length := ri.length.symm
    try dsimp only
    refine wpAny_bind (listUpdate_at hraw rfl ?_ (by rw [List.size_toArray]; omega) (by rw [Array.size_push, List.size_toArray]; omega))
    refine wpAny_pure ⟨rfl, _, ys ++ [y], lst_write (tk := s''.toks) J hk3 hraw (by rw [List.length_append, List.length_singleton]; omega) (ri.append (.cons ry .nil)) (·.push u) (by simp), fun b o hb e => ?_, upd_same, by rw [List.length_append, List.length_singleton]; omega, fun i z hz' => ?_⟩
    · rw [upd_ne hb]
      exact e3 _ _ (ei b o hb e)
    · have mono : ∀ {v : V} {x : List Key × V}, x ∈ kvs → Dp X.K H3 v (.tuple (kd x)) → Dp X.K (upd H3 h4.objs.size (.lst (ys ++ [y]))) v (.tuple (kd x)) := fun {v x} hm hd =>
        dp_tups (fun b vs r => r.elim (fun r => .inl (by rw [upd_ne (ne_of r hk3 (fun z => by cases z))]; exact r)) fun ⟨o, r⟩ => .inr ⟨o, by rw [upd_ne (ne_of r hk3 (fun z => by cases z))]; exact r⟩) (by unfold pureD; exact hpu x hm) hd
      by_cases hi : i < ys.length
      · rw [List.getElem?_append_left hi] at hz'
        obtain ⟨x', hx', hd'⟩ := hdp i z hz'
        exact ⟨x', hx', mono (List.mem_of_getElem? hx') (dp_ex e3 hd')⟩
      · rw [List.getElem?_append_right (by omega)] at hz'
        have e0 : i - ys.length = 0 := by
          have := (List.getElem?_eq_some_iff.mp hz').1
          simp at this
          omega
        rw [e0] at hz'
        have e4 : y = z := by simpa using hz'
        have e5 : i = j := by omega
        rw [← e4, e5]
        exact ⟨x, hx, mono hxm dy⟩
  case done =>
    rintro s' ⟨Hi, ys, Ii, ei, hki, hlen, hdp⟩
    rw [List.length_map, Nat.zero_add] at hlen
    obtain ⟨_, its, n, ri, hraw⟩ := lst_raw Ii hki
    have il : its.length = ys.length := ri.length.symm
    try dsimp only
    refine wpAny_bind (listItems_at hraw rfl ?_)
    have pairsL : (its.toArray.zip (as.map Value.ref).toArray).toList = its.zip (as.map Value.ref) := by
      first
        | simp
        | rfl
    have mem_at : ∀ p ∈ its.zip (as.map Value.ref), ∃ (j : Nat) (t : Addr) (x : List Key × V), p.2 = .ref t ∧ as[j]? = some t ∧ kvs[j]? = some x ∧ its[j]? = some p.1 := fun p hp => by
      obtain ⟨j, hj⟩ := List.mem_iff_getElem?.mp hp
      obtain ⟨j1, j2⟩ := List.getElem?_zip_eq_some.mp hj
      rw [List.getElem?_map] at j2
      obtain ⟨t, ht, e⟩ := Option.map_eq_some_iff.mp j2
      obtain ⟨x, _, hx, _⟩ := pget ht
      exact ⟨j, t, x, e.symm, ht, hx, j1⟩
    have tail : ∀ st' : SortSt, Srtd (fun p q : Keyed => decide (rankOf as kvs ρ p.2 < rankOf as kvs ρ q.2)) (arrOf st').toList → Stb (fun p q : Keyed => decide (rankOf as kvs ρ p.2 < rankOf as kvs ρ q.2)) (arrOf st').toList (its.zip (as.map Value.ref)) → failedOf st' = none →
        wpAny (model X.prog X.w) X.A.in1.in1 (ksk_tail D false e1 (.ref h4.objs.size) st') P E s' := by
      intro st' hs hb hf
      have out_perm : ((arrOf st').toList.map (·.2)).Perm (as.map Value.ref) := by
        have z := hb.perm.map (·.2)
        rw [List.map_snd_zip (by rw [List.length_map]; omega)] at z
        exact z
      have ezip : (as.zip kvs).map (fun z => Value.ref z.1) = as.map Value.ref := by
        rw [show (fun z : Addr × (List Key × V) => Value.ref z.1) = Value.ref ∘ Prod.fst from rfl, ← List.map_map, List.map_fst_zip (by omega)]
      obtain ⟨zs, pz, ez⟩ := perm_lift (fun z : Addr × (List Key × V) => Value.ref z.1) out_perm (as.zip kvs) ezip
      have zmem : ∀ z ∈ zs, ∃ j : Nat, as[j]? = some z.1 ∧ kvs[j]? = some z.2 := fun z hz => by
        obtain ⟨j, hj⟩ := List.mem_iff_getElem?.mp (pz.mem_iff.mp hz)
        exact ⟨j, List.getElem?_zip_eq_some.mp hj⟩
      have zlen : zs.length = kvs.length := by
        rw [pz.length_eq, List.length_zip]
        omega
      have osz : ((arrOf st').map (·.2)).size = kvs.length := by
        have z := out_perm.length_eq
        rw [List.length_map, Array.length_toList, List.length_map] at z
        rw [Array.size_map]
        omega
      have oeq : ((arrOf st').map (·.2)).toList = zs.map fun z => Value.ref z.1 := by rw [Array.toList_map, ← ez]
      have J1 := lst_write (tk := s'.toks) (zs := []) (vs := []) Ii hki hraw (Nat.zero_le _) .nil (fun _ => (#[] : Array Value)) rfl
      obtain ⟨pD, nD5, _⟩ := J1.pin (D, seqObj "list" #[] e1) (List.mem_append_right _ (List.mem_append_right _ (List.mem_singleton.mpr rfl)))
      unfold ksk_tail
      try dsimp only
      refine wpAny_bind (listUpdate_at hraw rfl ?_ (by rw [List.size_toArray]; omega) (Nat.zero_le _))
      refine wpAny_bind (wpAny_letGo ?_)
      refine wpAny_bind (seqEpoch_at pD rfl ?_)
      refine wpAny_bind (listUpdate_at pD rfl ?_ (Nat.zero_le _) (by simp only [Bool.false_eq_true, if_false]; rw [osz]; omega))
      rw [hf]
      simp only [bne_self_eq_false, Bool.false_eq_true, if_false]
      refine wpAny_pure ?_
      have J2 := J1.pins_of (pins' := pins) fun p hp => J1.pin p (List.mem_append_right _ (List.mem_append_left _ hp))
      have eD := get?_update_seq pD fun _ => (arrOf st').map (·.2)
      have dk : D ≠ h4.objs.size := hDk
      have J3 := J2.take (t' := s'.toks) (o := .lst (zs.map fun z => V.ref z.1)) (h' := (s'.heap.update h4.objs.size (Obj.mapSeq fun _ => (#[] : Array Value))).update D (Obj.mapSeq fun _ => (arrOf st').map (·.2))) (fun b u hb e => (Heap.get?_update_ne _ _ _ _ hb).trans e) (fD _ nD5)
        ⟨by rw [List.length_map]; omega, zs.map (fun z => Value.ref z.1), _, vals_maps (fun z : Addr × (List Key × V) => V.ref z.1) (fun z => Value.ref z.1) zs fun _ _ => rfl, by rw [← oeq, Array.toArray_toList]; exact eD⟩
      refine q _ _ zs J3 (fun b o e => ?_) nD upd_same ?_ ?_ fun z hz' => ?_
      · rw [upd_ne (ne_of_none e nD), upd_ne (ne_of_none e hkn)]
        exact ei b o (ne_of_none e hkn) (exH2 b o e)
      · have z := pz.map (·.2)
        rw [List.map_snd_zip (by omega)] at z
        exact z
      · have s1 : (zs.map fun z => Value.ref z.1).Pairwise (fun v u => decide (rankOf as kvs ρ u < rankOf as kvs ρ v) = false) := by
          rw [ez, List.pairwise_map]
          exact hs
        rw [List.pairwise_map] at s1 ⊢
        refine List.Pairwise.imp_of_mem (fun {x y} hx hy h => ?_) s1
        obtain ⟨j, j1, j2⟩ := zmem x hx
        obtain ⟨i, i1, i2⟩ := zmem y hy
        rw [rank_at nd j1 j2, rank_at nd i1 i2] at h
        exact of_decide_eq_false h
      · obtain ⟨j, j1, j2⟩ := zmem z hz'
        obtain ⟨x, qa, hx, q1, q2⟩ := pget j1
        have e : x = z.2 := Option.some.inj (hx.symm.trans j2)
        rw [e] at q1 q2
        have up : ∀ {b : Addr} {vs : List V}, H2 b = some (.tup vs) → (upd (upd Hi h4.objs.size (.lst [])) D (.lst (zs.map fun z => V.ref z.1))) b = some (.tup vs) := fun {b vs} h => by
          rw [upd_ne (fun z => by rw [z, hD2] at h; cases h), upd_ne (fun z => by rw [z, hkS2] at h; cases h)]
          exact ei _ _ (fun z => by rw [z, hkS2] at h; cases h) h
        exact ⟨qa, up q1, up q2⟩
    unfold ksk_end
    simp only [Bool.false_eq_true, if_false]
    by_cases h2s : (as.map Value.ref).toArray.size < 2
    · rw [if_pos h2s, if_pos h2s]
      refine wpAny_bind (wpAny_pure ?_)
      rw [StateT.run_pure]
      refine wpAny_bind (wpAny_pure ?_)
      try dsimp only
      refine tail (SortSt.mk' general' (its.toArray.zip (as.map Value.ref).toArray) #[] 7 none) ?_ ?_ rfl
      · show List.Pairwise _ (its.toArray.zip (as.map Value.ref).toArray).toList
        rw [pairsL]
        have ll : (its.zip (as.map Value.ref)).length < 2 := by
          rw [List.length_zip, List.length_map]
          rw [szl] at h2s
          omega
        match h : its.zip (as.map Value.ref), ll with
        | [], _ => exact List.Pairwise.nil
        | [v], _ => exact List.pairwise_singleton _ _
        | _ :: _ :: l, h3 => exact absurd h3 (by rw [List.length_cons, List.length_cons]; omega)
      · show Stb _ (its.toArray.zip (as.map Value.ref).toArray).toList _
        rw [pairsL]
        exact Stb.refl _
    · rw [if_neg h2s, if_neg h2s]
      have rd : ∀ {j : Nat} {u : Value}, its[j]? = some u → ∃ x as', kvs[j]? = some x ∧ Reads s'.heap u (.tuple (kd x)) as' := fun {j u} hj => by
        have jl : j < ys.length := by
          have := (List.getElem?_eq_some_iff.mp hj).1
          omega
        obtain ⟨x, hx, hd⟩ := hdp j ys[j] (List.getElem?_eq_getElem jl)
        obtain ⟨u', hu', ru⟩ := ri.get (List.getElem?_eq_getElem jl)
        have e : u' = u := Option.some.inj (hu'.symm.trans hj)
        rw [e] at ru
        obtain ⟨as', r⟩ := Dp.reads Ii _ _ _ hd ru
        exact ⟨x, as', hx, r⟩
      have cmp : Cmp X.prog X.w X.A.in1.in1 s' (tuples' false) (fun p => p ∈ its.zip (as.map Value.ref)) (fun p q : Keyed => decide (rankOf as kvs ρ p.2 < rankOf as kvs ρ q.2)) := by
        intro p q hp hq
        obtain ⟨j, t, x, e1, h1, h2, h3⟩ := mem_at p hp
        obtain ⟨i, t', x', e1', h1', h2', h3'⟩ := mem_at q hq
        obtain ⟨y, bs, hy, r⟩ := rd h3
        obtain ⟨y', bs', hy', r'⟩ := rd h3'
        have ey : y = x := Option.some.inj (hy.symm.trans h2)
        have ey' : y' = x' := Option.some.inj (hy'.symm.trans h2')
        rw [ey] at r
        rw [ey'] at r'
        have m := List.mem_of_getElem? h2
        have m' := List.mem_of_getElem? h2'
        refine keyLt_data r r' (canLay_of_shaped (hsh x m)) (canLay_of_shaped (hsh x' m')) (hok x m x' m') (room_of_shaped (hsh x m) (by show X.A.units + 1 + 1 + 64 < cLine; omega)) ⟨rfl, ?_⟩
        show ltL (kd x) (kd x') = decide (rankOf as kvs ρ p.2 < rankOf as kvs ρ q.2)
        rw [e1, e1', rank_at nd h1 h2, rank_at nd h1' h2', hρ x m x' m']
      have kk : ∀ (R : SortKind → Shared → Prop), R (tuples' false) s' → wpAny (model X.prog X.w) X.A.in1.in1 (keyKind' its.toArray) R E s' := by
        intro R hR
        obtain ⟨fs, k1, k2, k3⟩ := kat_of (h := s'.heap) its fun u hu' => by
          obtain ⟨j, hj⟩ := List.mem_iff_getElem?.mp hu'
          obtain ⟨x, as', hx, r⟩ := rd hj
          obtain ⟨l, r', e⟩ := hft x (List.mem_of_getElem? hx)
          rw [e] at r
          exact ⟨l, r', as', r⟩
        refine PySem.W.kat_kind (T := .type "tuple") k1 (by rw [szl] at h2s; omega) (fun v hv => ?_) (by decide) (by
          have z : (Value.type "tuple" != Value.type "tuple") = false := by decide
          rw [z]
          exact hR)
        obtain ⟨b, o, rfl, ho, hc⟩ := k3 v hv
        rw [← hc]
        exact (PySem.W.Looks.ld ho).andThen .now
      refine wpAny_bind (kk _ ?_)
      refine wpAny_bind (wpAny_mono (wpS_sortO (st0 := SortSt.mk' (tuples' false) (its.toArray.zip (as.map Value.ref).toArray) #[] 7 none)
        (Q := fun _ st' => Srtd (fun p q : Keyed => decide (rankOf as kvs ρ p.2 < rankOf as kvs ρ q.2)) (arrOf st').toList ∧ Stb (fun p q : Keyed => decide (rankOf as kvs ρ p.2 < rankOf as kvs ρ q.2)) (arrOf st').toList (its.zip (as.map Value.ref)) ∧ failedOf st' = none) (swo_rank fun p : Keyed => rankOf as kvs ρ p.2) cmp rfl
        (fun p hp => by
          have hp : p ∈ (its.toArray.zip (as.map Value.ref).toArray).toList := hp
          rw [pairsL] at hp
          exact hp) rfl rfl fun st' a1 a2 a3 => ⟨a1, by
            have a2 : Stb _ (arrOf st').toList (its.toArray.zip (as.map Value.ref).toArray).toList := a2
            rw [pairsL] at a2
            exact a2, a3⟩) ?_ fun _ _ e => e)
      rintro ⟨⟨⟩, st'⟩ s'' ⟨rfl, a1, a2, a3⟩
      try dsimp only
      exact tail st' a1 a2 a3
end
end KS
set_option Elab.async false
set_option linter.all false
set_option maxRecDepth 100000
set_option maxHeartbeats 2000000
namespace TL
open PySem PySem.Spec PyProof.Rows L2 KB KC KD LamX
def Beh (P : Program) (w : World) (K : PySem.W.Frag) (mg : Str → Option Value) (base : Heap) (k : Nat) (f c' : Addr) (q : Str) (body : Expr) (scope : Scope) (N : List Str) (H : Hp) (Q : VK) (E1 : XK) : Prop :=
  ∀ E : XK, (∀ cls d H', E1 cls d H' → E cls d H') → ∀ (A : Around) (outer : List Env) (s : Shared), Room k (A.deeper (envOfC q scope s.heap.objs.size f (.ref c'))) →
    ∃ t, PE (cxOf (L2.CX P w) P w K mg base N q scope f (.ref c') A outer s H E) body t ∧ t (start N []) H Q
def LamAt (P : Program) (w : World) (K : PySem.W.Frag) (mg : Str → Option Value) (base : Heap) (k : Nat) (f : Addr) (H : Hp) (Q : VK) (E1 : XK) : Prop :=
  ∃ (c' : Addr) (q : Str) (params : Arguments) (body : Expr) (scope : Scope) (N : List Str), H f = some (LamO f q params body scope c') ∧ H c' = some (CodeO c' q) ∧ FnScope N [] scope ∧
    (∀ pm ctv, bindArgs (PySem.W.kla_fn "<lambda>" q params body scope [] pm (.ref c') ctv) ⟨[], []⟩ = pure []) ∧ Beh P w K mg base k f c' q body scope N H Q E1
section
variable {X : Cx}
theorem pe_callLam {k i : Nat} {a : Str} {E : L2.St → XK} {p1 p2 : Pos} (hr : Room (k + 1) X.A) (hx : ∀ σ, PassesAt (L2.CX X.prog X.w) X σ (E σ)) (hN : X.N[i]? = some a) (hv : Vis X.env.scope a) (hd : (a == ("__debug__" : Str)) = false := by decide) (hcd : (a == ("__classdict__" : Str)) = false := by decide) :
    PE X (.Call (.Name a p1) [] [] p2) (fun σ H Q => ∃ f, σ[i]? = some (some (.ref f)) ∧ LamAt X.prog X.w X.K X.mg X.base k f H Q (E σ)) := by
  refine ⟨fun pins s σ H Q I hw => ?_⟩
  obtain ⟨f, hs, c', q, params, body, scope, N, hf, hc, S, hb, beh⟩ := hw
  have nm := (pe_var (pos := p1) (i := i) hN hv hd hcd).run pins s σ H (fun v H1 => v = .ref f ∧ H1 = H) I ⟨_, hs, rfl, rfl⟩
  refine wpAny_Call_Name_kw (thn nm fun u s1 hu => ?_)
  obtain ⟨v, H1, I1, rv, ev, eH⟩ := hu
  subst ev
  subst eH
  have eu : u = Value.ref f := rv
  subst eu
  obtain ⟨⟨pm, ctv, of1⟩, _, _⟩ := I1.hok f _ hf
  refine PySem.W.callWith_F0 ⟨_, _, _, _, of1⟩ ?_
  have run := lam_run (CX := L2.CX X.prog X.w) (Q := Q) (E := E σ) (vs := []) (us := []) (args := ⟨[], []⟩) (ps := []) S hr I1.env0 hf hc (fun pm ctv => .of_eq (hb pm ctv)) .nil rfl (fun hr' => beh (E σ) (fun _ _ _ z => z) _ _ _ hr')
  refine wpAny_call (codeAny_mono run fun r s2 hq => ?_)
  match r, hq with
  | .error e, hq => exact hx σ pins H1 s1 e s2 I1 hq
  | .ok (.ret u), hq => exact I1.after hq
  | .ok .next, hq => exact False.elim hq
  | .ok .brk, hq => exact False.elim hq
  | .ok .cont, hq => exact False.elim hq
end
theorem LamAt.mono {P : Program} {w : World} {K : PySem.W.Frag} {mg : Str → Option Value} {base : Heap} {k : Nat} {f : Addr} {H : Hp} {Q : VK} {E1 E2 : XK} (h : LamAt P w K mg base k f H Q E1) (e : ∀ cls d H', E1 cls d H' → E2 cls d H') : LamAt P w K mg base k f H Q E2 := by
  obtain ⟨c', q, params, body, scope, N, hf, hc, S, hb, beh⟩ := h
  exact ⟨c', q, params, body, scope, N, hf, hc, S, hb, fun E he => beh E fun cls d H' z => he cls d H' (e cls d H' z)⟩
@[irreducible] def spToldV (P : Program) (w : World) (K : PySem.W.Frag) (mg : Str → Option Value) (base : Heap) (k : Nat) (CR : Addr) (ret : Str) : Sp := fun vs H Q _ => ∃ f, vs = [.ref f] ∧
  LamAt P w K mg base k f H Q (fun cls _ H' => ∃ b, PySem.W.exmOne K cls (.ref CR) = some b ∧ (b = true → Q (.str ret) H') ∧ (b = false → False))
section
variable {P : Program} {w : World} {K : PySem.W.Frag} {mg : Str → Option Value} {base : Heap}
theorem ok_toldV {x a e ret : Str} {pg : Arguments} {sg : Scope} {Ng : List Str} {f CR : Addr} {fd : FuncData} {j k : Nat} {p1 p2 p3 p4 p5 p6 p7 p8 : Pos}
    (F : FunD K x x pg [.Try [.Return (some (.Call (.Name a p1) [] [] p2)) p3] [.ExceptHandler (some (.Name e p4)) none [.Return (some (.Constant (.str ret) j p5)) p6] p7] [] [] p8] sg [] [] f fd) (S : FnScope Ng [a] sg) (hN : Ng[0]? = some a) (hva : Vis sg a)
    (h0 : ∀ f : Addr, (L2.start Ng [V.ref f])[0]? = some (some (V.ref f))) (hge : sg.names.lookup e = some .globalImplicit) (hme : mg e = some (.ref CR)) (hde : (e == ("__debug__" : Str)) = false) (hd : (a == ("__debug__" : Str)) = false) (hcd : (a == ("__classdict__" : Str)) = false) :
    FnOk P w K mg base CX0 (k + 2) f fd [a] (spToldV P w K mg base k CR ret) := by
  refine F.ok S (fun vs H Q E h => ?_) (fun cdv A outer s H vs Q E hr h => ?_)
  · unfold spToldV at h
    obtain ⟨_, rfl, _⟩ := h; rfl
  · unfold spToldV at h
    obtain ⟨fl, rfl, hl⟩ := h
    have hgl : Gl (cxOf CX0 P w K mg base Ng x sg f cdv A outer s H E).nox e := hge
    refine ⟨_, PSs.nox <| pss_one (ps_try_only (c := .ref CR) (tb := fun W => tRet fun σ H Q => ∃ fz, σ[0]? = some (some (V.ref fz)) ∧ LamAt P w K mg base k fz H Q (WE W σ)) rfl rfl ⟨hgl, hde, .inl hme⟩ L2.takes0
      (fun W pn xe tk _ => pss_one (ps_ret (pe_callLam (k := k) (i := 0) (E := fun σ => WE W σ) hr (fun σ => passAt tk σ) hN hva hd hcd))) (fun a oe cls d pn _ _ => pss_one (ps_ret pe_str))), ?_⟩
    exact ⟨fl, h0 fl, hl.mono fun cls d H' ⟨b, e1, e2, e3⟩ => ⟨b, e1, fun hb a _ => e2 hb, fun hb => e3 hb⟩⟩
end
end TL
set_option Elab.async false
set_option linter.all false
set_option maxRecDepth 100000
namespace KN1
open PySem PySem.Spec L2
def natL (n : Nat) : List Int := if n < 128 then [(n : Int)] else ((n % 128 : Nat) + 128 : Int) :: natL (n / 128)
termination_by n
decreasing_by omega
theorem natL_small {n : Nat} (h : n < 128) : natL n = [(n : Int)] := by rw [natL, if_pos h]
theorem natL_big {n : Nat} (h : ¬ n < 128) : natL n = ((n % 128 : Nat) + 128 : Int) :: natL (n / 128) := by rw [natL, if_neg h]
def pN1 : List Int → Option (Nat × List Int)
  | [] => none
  | b :: r => if 128 ≤ b then (pN1 r).map fun q => ((b - 128).toNat + 128 * q.1, q.2) else if b = 0 then none else some (b.toNat, r)
def pN : List Int → Option (Nat × List Int)
  | [] => none
  | b :: r => if 128 ≤ b then (pN1 r).map fun q => ((b - 128).toNat + 128 * q.1, q.2) else some (b.toNat, r)
theorem pN1_enc : ∀ (n : Nat) (rest : List Int), 0 < n → pN1 (natL n ++ rest) = some (n, rest)
  | n, rest, h0 => by
    by_cases h : n < 128
    · rw [natL_small h]
      show (if 128 ≤ (n : Int) then _ else if (n : Int) = 0 then none else some ((n : Int).toNat, rest)) = _
      rw [if_neg (by omega), if_neg (by omega)]
      rfl
    · rw [natL_big h]
      have ih := pN1_enc (n / 128) rest (by omega)
      show (if 128 ≤ ((n % 128 : Nat) + 128 : Int) then (pN1 (natL (n / 128) ++ rest)).map _ else _) = _
      rw [if_pos (by omega), ih]
      show some ((((n % 128 : Nat) + 128 : Int) - 128).toNat + 128 * (n / 128), rest) = _
      congr 2
      omega
termination_by n => n
decreasing_by omega
theorem pN_enc (n : Nat) (rest : List Int) : pN (natL n ++ rest) = some (n, rest) := by
  by_cases h : n < 128
  · rw [natL_small h]
    show (if 128 ≤ (n : Int) then _ else some ((n : Int).toNat, rest)) = _
    rw [if_neg (by omega)]
    rfl
  · rw [natL_big h]
    show (if 128 ≤ ((n % 128 : Nat) + 128 : Int) then (pN1 (natL (n / 128) ++ rest)).map _ else _) = _
    rw [if_pos (by omega), pN1_enc (n / 128) rest (by omega)]
    show some ((((n % 128 : Nat) + 128 : Int) - 128).toNat + 128 * (n / 128), rest) = _
    congr 2
    omega
def Bytes (l : List Int) : Prop := ∀ b ∈ l, 0 ≤ b ∧ b < 256
theorem Bytes.tail {b : Int} {r : List Int} (h : Bytes (b :: r)) : Bytes r := fun x hx => h x (List.mem_cons_of_mem _ hx)
theorem enc_pN1 : ∀ {l : List Int} {n : Nat} {rest : List Int}, Bytes l → pN1 l = some (n, rest) → 0 < n ∧ l = natL n ++ rest
  | [], n, rest, _, e => by cases e
  | b :: r, n, rest, hb, e => by
    have h := hb b (List.mem_cons_self ..)
    have e' : (if 128 ≤ b then (pN1 r).map (fun q => ((b - 128).toNat + 128 * q.1, q.2)) else if b = 0 then none else some (b.toNat, r)) = some (n, rest) := e
    by_cases c : 128 ≤ b
    · rw [if_pos c] at e'
      obtain ⟨q, hq, eq⟩ := Option.map_eq_some_iff.mp e'
      obtain ⟨m, rs⟩ := q
      obtain ⟨e1, e2⟩ := Prod.mk.inj eq
      obtain ⟨p, ih⟩ := enc_pN1 hb.tail hq
      have e1' : (b - 128).toNat + 128 * m = n := e1
      have e2' : rs = rest := e2
      subst e2'
      refine ⟨by omega, ?_⟩
      rw [natL_big (by omega), ih]
      have a1 : n / 128 = m := by omega
      have a2 : ((n % 128 : Nat) + 128 : Int) = b := by omega
      rw [a1, a2]
      rfl
    · rw [if_neg c] at e'
      by_cases c0 : b = 0
      · rw [if_pos c0] at e'; cases e'
      · rw [if_neg c0] at e'
        obtain ⟨e1, e2⟩ := Prod.mk.inj (Option.some.inj e')
        subst e2
        refine ⟨by omega, ?_⟩
        rw [natL_small (by omega)]
        have : ((n : Nat) : Int) = b := by omega
        rw [this]
        rfl
theorem enc_pN {l : List Int} {n : Nat} {rest : List Int} (hb : Bytes l) (e : pN l = some (n, rest)) : l = natL n ++ rest := by
  cases l with
  | nil => cases e
  | cons b r =>
    have h := hb b (List.mem_cons_self ..)
    have e' : (if 128 ≤ b then (pN1 r).map (fun q => ((b - 128).toNat + 128 * q.1, q.2)) else some (b.toNat, r)) = some (n, rest) := e
    by_cases c : 128 ≤ b
    · rw [if_pos c] at e'
      obtain ⟨q, hq, eq⟩ := Option.map_eq_some_iff.mp e'
      obtain ⟨m, rs⟩ := q
      obtain ⟨e1, e2⟩ := Prod.mk.inj eq
      obtain ⟨p, ih⟩ := enc_pN1 hb.tail hq
      have e1' : (b - 128).toNat + 128 * m = n := e1
      have e2' : rs = rest := e2
      subst e2'
      rw [natL_big (by omega), ih]
      have a1 : n / 128 = m := by omega
      have a2 : ((n % 128 : Nat) + 128 : Int) = b := by omega
      rw [a1, a2]
      rfl
    · rw [if_neg c] at e'
      obtain ⟨e1, e2⟩ := Prod.mk.inj (Option.some.inj e')
      subst e2
      rw [natL_small (by omega)]
      have : ((n : Nat) : Int) = b := by omega
      rw [this]
      rfl
theorem natL_bytes : ∀ n : Nat, Bytes (natL n)
  | n => by
    by_cases h : n < 128
    · rw [natL_small h]
      intro b hb
      rw [List.mem_singleton] at hb
      omega
    · rw [natL_big h]
      intro b hb
      rcases List.mem_cons.mp hb with rfl | hb
      · omega
      · exact natL_bytes (n / 128) b hb
termination_by n => n
decreasing_by omega
section
variable (tab : List Nat)
def idx (c : Nat) : Nat := tab.findIdx fun d => decide (d = c)
def pT : Nat → List Int → Option (List Nat × List Int)
  | 0, l => some ([], l)
  | _ + 1, [] => none
  | n + 1, b :: r => match tab[b.toNat]? with
    | none => none
    | some c => (pT n r).map fun q => (c :: q.1, q.2)
theorem pT_enc : ∀ (cs : List Nat) (rest : List Int), (∀ c ∈ cs, c ∈ tab) → pT tab cs.length (cs.map (fun c => ((idx tab c : Nat) : Int)) ++ rest) = some (cs, rest)
  | [], rest, _ => rfl
  | c :: cs, rest, h => by
    have hc := h c (List.mem_cons_self ..)
    have hl : idx tab c < tab.length := List.findIdx_lt_length_of_exists ⟨c, hc, by simp⟩
    have hg : tab[idx tab c]? = some c := by
      rw [List.getElem?_eq_getElem hl]
      have := List.findIdx_getElem (w := hl)
      have h2 : tab[idx tab c] = c := by
        unfold idx
        simpa using this
      rw [h2]
    show (match tab[(((idx tab c : Nat) : Int)).toNat]? with | none => none | some d => (pT tab cs.length (cs.map (fun c => ((idx tab c : Nat) : Int)) ++ rest)).map fun q : List Nat × List Int => (d :: q.1, q.2)) = some (c :: cs, rest)
    rw [Int.toNat_natCast, hg, pT_enc cs rest fun d hd => h d (List.mem_cons_of_mem _ hd)]
    rfl
theorem enc_pT (nd : tab.Nodup) : ∀ {n : Nat} {l : List Int} {cs : List Nat} {rest : List Int}, Bytes l → pT tab n l = some (cs, rest) → cs.length = n ∧ (∀ c ∈ cs, c ∈ tab) ∧ l = cs.map (fun c => ((idx tab c : Nat) : Int)) ++ rest
  | 0, l, cs, rest, _, e => by
    obtain ⟨rfl, rfl⟩ := Prod.mk.inj (Option.some.inj e)
    exact ⟨rfl, fun c h => (by cases h), rfl⟩
  | n + 1, [], cs, rest, _, e => by cases e
  | n + 1, b :: r, cs, rest, hb, e => by
    have hb0 := hb b (List.mem_cons_self ..)
    have e' : (match tab[b.toNat]? with | none => none | some c => (pT tab n r).map fun q => (c :: q.1, q.2)) = some (cs, rest) := e
    cases ht : tab[b.toNat]? with
    | none => rw [ht] at e'; cases e'
    | some c =>
      rw [ht] at e'
      obtain ⟨q, hq, eq⟩ := Option.map_eq_some_iff.mp e'
      obtain ⟨cs', rs⟩ := q
      obtain ⟨e1, e2⟩ := Prod.mk.inj eq
      have e1' : c :: cs' = cs := e1
      have e2' : rs = rest := e2
      subst e1' e2'
      obtain ⟨h1, h2, h3⟩ := enc_pT nd hb.tail hq
      obtain ⟨hlt, hget⟩ := List.getElem?_eq_some_iff.mp ht
      have hi : idx tab c = b.toNat := by
        have hc : c ∈ tab := List.mem_of_getElem? ht
        have hl : idx tab c < tab.length := List.findIdx_lt_length_of_exists ⟨c, hc, by simp⟩
        have hv : tab[idx tab c] = c := by
          have := List.findIdx_getElem (w := hl)
          unfold idx
          simpa using this
        exact (List.getElem_inj nd).mp (hv.trans hget.symm)
      refine ⟨by rw [List.length_cons, h1], fun d hd => (List.mem_cons.mp hd).elim (fun z => by rw [z]; exact List.mem_of_getElem? ht) (h2 d), ?_⟩
      rw [h3]
      show b :: _ = ((idx tab c : Nat) : Int) :: _
      rw [hi]
      congr 1
      omega
end
end KN1
set_option Elab.async false
set_option linter.all false
set_option maxRecDepth 100000
namespace KN1
open PySem PySem.Spec L2
section
variable (tab : List Nat)
def valL : Key → List Int
  | .inl v => if v < 0 then 1 :: natL (-v - 1).toNat else 0 :: natL v.toNat
  | .inr s => 2 :: (natL s.cps.toList.length ++ s.cps.toList.map fun c => ((idx tab c : Nat) : Int))
theorem valL_neg {v : Int} (c : v < 0) : valL tab (.inl v) = 1 :: natL (-v - 1).toNat := if_pos c
theorem valL_pos {v : Int} (c : ¬ v < 0) : valL tab (.inl v) = 0 :: natL v.toNat := if_neg c
def rowL (k : List Key) : List Int := natL k.length ++ k.flatMap (valL tab)
def pV : List Int → Option (Key × List Int)
  | [] => none
  | m :: r => if m = 0 then (pN r).map fun q => (.inl (q.1 : Int), q.2) else if m = 1 then (pN r).map fun q => (.inl (-(q.1 : Int) - 1), q.2) else if m = 2 then
      (match pN r with
      | none => none
      | some q => if q.2.length < q.1 then none else (pT tab q.1 q.2).map fun z => (.inr ⟨z.1.toArray⟩, z.2)) else none
def pVs : Nat → List Int → Option (List Key × List Int)
  | 0, l => some ([], l)
  | n + 1, l => match pV tab l with
    | none => none
    | some q => (pVs n q.2).map fun z => (q.1 :: z.1, z.2)
def pRow (l : List Int) : Option (List Key × List Int) := match pN l with
  | none => none
  | some q => if 20 < q.1 then none else pVs tab q.1 q.2
def InTab : Key → Prop
  | .inl _ => True
  | .inr s => ∀ c ∈ s.cps.toList, c ∈ tab
theorem pV_0 (r : List Int) : pV tab (0 :: r) = (pN r).map fun q : Nat × List Int => ((.inl (q.1 : Int) : Key), q.2) := rfl
theorem pV_1 (r : List Int) : pV tab (1 :: r) = (pN r).map fun q : Nat × List Int => ((.inl (-(q.1 : Int) - 1) : Key), q.2) := rfl
theorem pV_2 (r : List Int) : pV tab (2 :: r) = (match pN r with
  | none => none
  | some q => if q.2.length < q.1 then none else (pT tab q.1 q.2).map fun z : List Nat × List Int => ((.inr ⟨z.1.toArray⟩ : Key), z.2)) := rfl
theorem pV_enc {k : Key} (rest : List Int) (h : InTab tab k) : pV tab (valL tab k ++ rest) = some (k, rest) := by
  cases k with
  | inl v =>
    by_cases c : v < 0
    · have e : valL tab (.inl v) ++ rest = 1 :: (natL (-v - 1).toNat ++ rest) := by rw [valL_neg tab c]; rfl
      rw [e]
      rw [pV_1, pN_enc]
      show some (Sum.inl (-(((-v - 1).toNat : Nat) : Int) - 1), rest) = _
      congr 3
      omega
    · have e : valL tab (.inl v) ++ rest = 0 :: (natL v.toNat ++ rest) := by rw [valL_pos tab c]; rfl
      rw [e]
      rw [pV_0, pN_enc]
      show some (Sum.inl ((v.toNat : Nat) : Int), rest) = _
      congr 3
      omega
  | inr s =>
    have e : valL tab (.inr s) ++ rest = 2 :: (natL s.cps.toList.length ++ (s.cps.toList.map (fun c => ((idx tab c : Nat) : Int)) ++ rest)) := by
      show 2 :: ((natL _ ++ _) ++ rest) = _
      rw [List.append_assoc]
    rw [e]
    rw [pV_2, pN_enc]
    show (if (s.cps.toList.map (fun c => ((idx tab c : Nat) : Int)) ++ rest).length < s.cps.toList.length then none else (pT tab s.cps.toList.length (s.cps.toList.map (fun c => ((idx tab c : Nat) : Int)) ++ rest)).map fun z : List Nat × List Int => (Sum.inr (⟨z.1.toArray⟩ : Str), z.2)) = some (Sum.inr s, rest)
    rw [if_neg (by rw [List.length_append, List.length_map]; omega), pT_enc tab _ _ h]
    show some (Sum.inr (⟨s.cps.toList.toArray⟩ : Str), rest) = _
    rw [Array.toArray_toList]
theorem pVs_enc : ∀ (k : List Key) (rest : List Int), (∀ x ∈ k, InTab tab x) → pVs tab k.length (k.flatMap (valL tab) ++ rest) = some (k, rest)
  | [], rest, _ => rfl
  | x :: k, rest, h => by
    have e : (x :: k).flatMap (valL tab) ++ rest = valL tab x ++ (k.flatMap (valL tab) ++ rest) := by rw [List.flatMap_cons, List.append_assoc]
    rw [e]
    show (match pV tab (valL tab x ++ (k.flatMap (valL tab) ++ rest)) with | none => none | some q => (pVs tab k.length q.2).map fun z : List Key × List Int => (q.1 :: z.1, z.2)) = some (x :: k, rest)
    rw [pV_enc tab _ (h x (List.mem_cons_self ..))]
    show (pVs tab k.length (k.flatMap (valL tab) ++ rest)).map (fun z : List Key × List Int => (x :: z.1, z.2)) = _
    rw [pVs_enc k rest fun y hy => h y (List.mem_cons_of_mem _ hy)]
    rfl
theorem pRow_enc {k : List Key} (rest : List Int) (h : ∀ x ∈ k, InTab tab x) (hl : k.length ≤ 20) : pRow tab (rowL tab k ++ rest) = some (k, rest) := by
  have e : rowL tab k ++ rest = natL k.length ++ (k.flatMap (valL tab) ++ rest) := by unfold rowL; rw [List.append_assoc]
  unfold pRow
  rw [e, pN_enc]
  show (if 20 < k.length then none else pVs tab k.length (k.flatMap (valL tab) ++ rest)) = _
  rw [if_neg (by omega), pVs_enc tab k rest h]
theorem Bytes.of_app {a b : List Int} (h : Bytes (a ++ b)) : Bytes b := fun x hx => h x (List.mem_append_right _ hx)
theorem enc_pV (nd : tab.Nodup) {l rest : List Int} {k : Key} (hb : Bytes l) (e : pV tab l = some (k, rest)) : InTab tab k ∧ l = valL tab k ++ rest := by
  cases l with
  | nil => cases e
  | cons m r =>
    have e' : (if m = 0 then (pN r).map (fun q => ((.inl (q.1 : Int) : Key), q.2)) else if m = 1 then (pN r).map (fun q => ((.inl (-(q.1 : Int) - 1) : Key), q.2)) else if m = 2 then
      (match pN r with
      | none => none
      | some q => if q.2.length < q.1 then none else (pT tab q.1 q.2).map fun z : List Nat × List Int => ((.inr ⟨z.1.toArray⟩ : Key), z.2)) else none) = some (k, rest) := e
    by_cases c0 : m = 0
    · rw [if_pos c0] at e'
      obtain ⟨⟨n, rs⟩, hq, eq⟩ := Option.map_eq_some_iff.mp e'
      obtain ⟨e1, e2⟩ := Prod.mk.inj eq
      have e1' : (.inl (n : Int) : Key) = k := e1
      have e2' : rs = rest := e2
      subst e1' e2' c0
      refine ⟨trivial, ?_⟩
      rw [enc_pN hb.tail hq]
      rw [valL_pos tab (by omega), Int.toNat_natCast]
      rfl
    · rw [if_neg c0] at e'
      by_cases c1 : m = 1
      · rw [if_pos c1] at e'
        obtain ⟨⟨n, rs⟩, hq, eq⟩ := Option.map_eq_some_iff.mp e'
        obtain ⟨e1, e2⟩ := Prod.mk.inj eq
        have e1' : (.inl (-(n : Int) - 1) : Key) = k := e1
        have e2' : rs = rest := e2
        subst e1' e2' c1
        refine ⟨trivial, ?_⟩
        rw [enc_pN hb.tail hq]
        have z : (-(-(n : Int) - 1) - 1).toNat = n := by omega
        rw [valL_neg tab (by omega), z]
        rfl
      · rw [if_neg c1] at e'
        by_cases c2 : m = 2
        · rw [if_pos c2] at e'
          cases hp : pN r with
          | none => rw [hp] at e'; cases e'
          | some q =>
            obtain ⟨n, r2⟩ := q
            rw [hp] at e'
            have e3 : (if r2.length < n then none else (pT tab n r2).map fun z : List Nat × List Int => ((.inr ⟨z.1.toArray⟩ : Key), z.2)) = some (k, rest) := e'
            by_cases c3 : r2.length < n
            · rw [if_pos c3] at e3; cases e3
            · rw [if_neg c3] at e3
              obtain ⟨⟨cs, rs⟩, hq, eq⟩ := Option.map_eq_some_iff.mp e3
              obtain ⟨e1, e2⟩ := Prod.mk.inj eq
              have e1' : (.inr ⟨cs.toArray⟩ : Key) = k := e1
              have e2' : rs = rest := e2
              have hr := enc_pN hb.tail hp
              have hb2 : Bytes r2 := by
                have h := hb.tail
                rw [hr] at h
                exact h.of_app
              obtain ⟨h1, h2, h3⟩ := enc_pT tab nd hb2 hq
              subst e1' e2' c2
              refine ⟨h2, ?_⟩
              rw [hr, h3]
              show 2 :: (natL n ++ (cs.map (fun c => ((idx tab c : Nat) : Int)) ++ rs)) = 2 :: ((natL cs.length ++ cs.map (fun c => ((idx tab c : Nat) : Int))) ++ rs)
              rw [List.append_assoc, h1]
        · rw [if_neg c2] at e'; cases e'
theorem enc_pVs (nd : tab.Nodup) : ∀ {n : Nat} {l rest : List Int} {k : List Key}, Bytes l → pVs tab n l = some (k, rest) → k.length = n ∧ (∀ x ∈ k, InTab tab x) ∧ l = k.flatMap (valL tab) ++ rest
  | 0, l, rest, k, _, e => by
    obtain ⟨rfl, rfl⟩ := Prod.mk.inj (Option.some.inj e)
    exact ⟨rfl, fun x h => (by cases h), rfl⟩
  | n + 1, l, rest, k, hb, e => by
    have e' : (match pV tab l with | none => none | some q => (pVs tab n q.2).map fun z : List Key × List Int => (q.1 :: z.1, z.2)) = some (k, rest) := e
    cases hp : pV tab l with
    | none => rw [hp] at e'; cases e'
    | some q =>
      obtain ⟨x, r⟩ := q
      rw [hp] at e'
      obtain ⟨⟨ks, rs⟩, hq, eq⟩ := Option.map_eq_some_iff.mp e'
      obtain ⟨e1, e2⟩ := Prod.mk.inj eq
      have e1' : x :: ks = k := e1
      have e2' : rs = rest := e2
      obtain ⟨h0, h0'⟩ := enc_pV tab nd hb hp
      have hb2 : Bytes r := by
        rw [h0'] at hb
        exact hb.of_app
      obtain ⟨h1, h2, h3⟩ := enc_pVs nd hb2 hq
      subst e1' e2'
      refine ⟨by rw [List.length_cons, h1], fun y hy => (List.mem_cons.mp hy).elim (fun z => by rw [z]; exact h0) (h2 y), ?_⟩
      rw [h0', List.flatMap_cons, List.append_assoc, h3]
theorem enc_pRow (nd : tab.Nodup) {l rest : List Int} {k : List Key} (hb : Bytes l) (e : pRow tab l = some (k, rest)) : k.length ≤ 20 ∧ (∀ x ∈ k, InTab tab x) ∧ l = rowL tab k ++ rest := by
  unfold pRow at e
  cases hp : pN l with
  | none => rw [hp] at e; cases e
  | some q =>
    obtain ⟨n, r⟩ := q
    rw [hp] at e
    have e' : (if 20 < n then none else pVs tab n r) = some (k, rest) := e
    by_cases c : 20 < n
    · rw [if_pos c] at e'; cases e'
    · rw [if_neg c] at e'
      have hl := enc_pN hb hp
      have hb2 : Bytes r := by
        rw [hl] at hb
        exact hb.of_app
      obtain ⟨h1, h2, h3⟩ := enc_pVs tab nd hb2 e'
      refine ⟨by omega, h2, ?_⟩
      unfold rowL
      rw [hl, h3, h1, List.append_assoc]
theorem cut_none (nd : tab.Nodup) {k k' : List Key} {a b rest : List Int} (h : ∀ x ∈ k, InTab tab x) (hl : k.length ≤ 20) (e : rowL tab k = a ++ b) (hb : b ≠ []) (ha : Bytes a) : pRow tab a ≠ some (k', rest) := by
  intro z
  obtain ⟨h1, h2, h3⟩ := enc_pRow tab nd ha z
  have p1 := pRow_enc tab [] h hl
  rw [List.append_nil, e, h3, List.append_assoc, pRow_enc tab (rest ++ b) h2 h1] at p1
  obtain ⟨_, e2⟩ := Prod.mk.inj (Option.some.inj p1)
  exact hb (List.append_eq_nil_iff.mp e2).2
end
end KN1
set_option Elab.async false
set_option linter.all false
set_option maxRecDepth 100000
set_option maxHeartbeats 4000000
namespace KL9
open PySem PySem.Spec PyProof.Rows L2 KB KC
def top (i : Nat) : Stmt := PySem.Challenge.pw_streamstack_k09_deals_on_logs.main.body.getD i (.Pass ⟨0, 0, 0, 0⟩)
abbrev sDeal : Stmt := top 10
abbrev sKept : Stmt := top 11
abbrev sKind : Stmt := top 14
abbrev sNat : Stmt := top 15
abbrev sVal : Stmt := top 16
abbrev sRow : Stmt := top 17
abbrev sHash : Stmt := top 18
abbrev sSum : Stmt := top 22
abbrev sRec : Stmt := top 23
abbrev sPart : Stmt := top 24
abbrev sLog : Stmt := top 25
abbrev sDice : Stmt := top 27
abbrev sRoll : Stmt := top 28
abbrev sRounds : Stmt := top 29
abbrev sTold : Stmt := top 30
abbrev sRead : Stmt := top 31
abbrev sAged : Stmt := top 32
abbrev sLaw : Stmt := top 33
abbrev FnP (K : PySem.W.Frag) (x q : Str) (st : Stmt) (dvs : List V) (f : Addr) (fd : FuncData) : Prop := FunD K x q (defArgs st) (defBody st) (defScope st) dvs [] f fd
def rIxD : R2 := fun x y H Q => ∃ p xs i v, x = .ref p ∧ y = .int i ∧ H p = some (.lst xs) ∧ atI xs i = some v ∧ Q v H
theorem ix_listD {X : Cx} : IxR X rIxD := by
  intro value slice pins s σ H x y v u Q I rx ry h hs
  obtain ⟨p, xs, i, z, e1, e2, hq, he, q⟩ := h
  exact ix_list value slice pins s σ H x y v u Q I rx ry ⟨p, xs, i, z, e1, e2, SqL.of hq, he, q⟩ hs
theorem sc_int {a b : Int} : scal (.int a) (.int b) = true := rfl
theorem at3_0 {a b c : V} : atI [a, b, c] 0 = some a := rfl
theorem at3_1 {a b c : V} : atI [a, b, c] 1 = some b := rfl
theorem at3_2 {a b c : V} : atI [a, b, c] 2 = some c := rfl
theorem at2_0 {a b : V} : atI [a, b] 0 = some a := rfl
theorem at2_1 {a b : V} : atI [a, b] 1 = some b := rfl
theorem ix3_0 : ixN (0 + 1 + 1 + 1) 0 = some 0 := rfl
theorem ix3_1 : ixN (0 + 1 + 1 + 1) 1 = some 1 := rfl
theorem ix3_2 : ixN (0 + 1 + 1 + 1) 2 = some 2 := rfl
theorem upd2 {H : Hp} {a : Addr} {o o' : HO} : upd (upd H a o) a o' = upd H a o' := by
  funext b
  by_cases e : b = a
  · subst e; rw [upd_same, upd_same]
  · rw [upd_ne e, upd_ne e, upd_ne e]
structure TxtL (mg : Str → Option Value) : Prop where
  abs : mg "abs" = none
  int : mg "int" = none
  range : mg "range" = none
  dict : mg "dict" = none
  list : mg "list" = none
  tuple : mg "tuple" = none
  len : mg "len" = none
  zip : mg "zip" = none
  isi : mg "isinstance" = none
  str : mg "str" = none
  sorted : mg "sorted" = none
  all : mg "all" = none
def IsDice (H : Hp) (d : Addr) : Prop := ∃ a b k : Int, H d = some (.lst [.int a, .int b, .int k])
def ExD (d : Addr) (H H' : Hp) : Prop := ∀ b o, b ≠ d → H b = some o → H' b = some o
def spDice : Sp := fun vs H Q _ => ∃ c : Int, vs = [.int c] ∧ ∀ p a b k, H p = none → Q (.ref p) (upd H p (.lst [.int a, .int b, .int k]))
@[irreducible] def spRoll : Sp := fun vs H Q _ => ∃ (d : Addr) (m : Int), vs = [.ref d, .int m] ∧ IsDice H d ∧ 0 < m ∧ m ≤ 100000000 ∧
  ∀ (r : Int) a b k, 0 ≤ r → r < m → Q (.int r) (upd H d (.lst [.int a, .int b, .int k]))
section
variable {P : Program} {w : World} {K : PySem.W.Frag} {mg : Str → Option Value} {base : Heap} {f : Addr} {fd : FuncData}
theorem scDice : FnScope ["cell"] ["cell"] (defScope sDice) := ⟨rfl, rfl, rfl, by decide +kernel, rfl, by decide +kernel, by decide +kernel⟩
theorem ok_dice (F : FnP K "_law_dice" "_law_dice" sDice [] f fd) (T : TxtL mg) : FnOk P w K mg base CX0 1 f fd ["cell"] spDice := by
  refine F.ok scDice (fun vs H Q E h => ?_) (fun cdv A outer s H vs Q E hr h => ?_)
  · obtain ⟨c, rfl, _⟩ := h; rfl
  · obtain ⟨c, rfl, k⟩ := h
    refine ⟨_, PSs.nox <| pss_cons (ps_if (pt_chain op_lt op_lt (pe_op op_sub pe_int pe_int) (pv 0) pe_int)
        (pss_one (ps_ret (pe_lst (pa_cons (pe_callB call_abs (by rfl) T.abs (by decide +kernel) (pa_cons (pv 0) pa_nil)) (pa_cons pe_int (pa_cons pe_int pa_nil)))))) pss_nil)
      (pss_one (ps_ret (pe_lst (pa_cons (pv 0) (pa_cons (pe_op op_add pe_int (pe_op op_mod (pe_callTy call_int1 (by rfl) T.int (by decide +kernel) (pa_cons (pv 0) pa_nil)) pe_int))
        (pa_cons (pe_callTy call_int1 (by rfl) T.int (by decide +kernel) (pa_cons (pe_cmpR op_ge (pv 0) (pe_op op_pow pe_int pe_int) (nomark _)) pa_nil)) pa_nil)))))), ?_⟩
    simp only [tSeq, tIfS, tIf, tTest, tChain, tOp, tC, tVar, tRet, tLst, tTup, tCons, tCB, tNil, tAsg, gName, tCall, tDrop, tOr, tAnd, tNot, gSub, rI0, rI, tNext, L2.start, List.set_cons_zero, List.set_cons_succ, List.map, List.replicate, List.length, List.append_nil, List.getElem?_cons_zero, List.getElem?_cons_succ, List.cons_append, List.nil_append, Option.some.injEq, exists_eq_left', exists_eq_left, exists_and_left, V.int.injEq, V.ref.injEq, List.cons.injEq, and_true, true_and, V.bl.injEq, reduceCtorEq, false_and, and_false, exists_false, or_false, false_or, HO.lst.injEq]
    have hs : 0 + 1 + 1 + 1 ≤ sizeLine := by decide
    have hp : CPow 10 18 := by unfold CPow; decide
    have h9 : (0 : Int) < 1009 := by decide
    split
    · split
      · exact ⟨hs, fun p e => k p _ _ _ e⟩
      · exact ⟨h9, hp, hs, fun p e => k p _ _ _ e⟩
    · rw [if_neg (fun z => z)]
      exact ⟨h9, hp, hs, fun p e => k p _ _ _ e⟩
theorem scRoll : FnScope ["dice", "many", "found"] ["dice", "many"] (defScope sRoll) := ⟨rfl, rfl, rfl, by decide +kernel, rfl, by decide +kernel, by decide +kernel⟩
theorem ok_roll (F : FnP K "_law_roll" "_law_roll" sRoll [] f fd) (T : TxtL mg) : FnOk P w K mg base CX0 1 f fd ["dice", "many"] spRoll := by
  refine F.ok scRoll (fun vs H Q E h => ?_) (fun cdv A outer s H vs Q E hr h => ?_)
  · unfold spRoll at h
    obtain ⟨d, m, rfl, _⟩ := h; rfl
  · unfold spRoll at h
    obtain ⟨d, m, rfl, ⟨a, b, k, hd⟩, h0, h1, q⟩ := h
    refine ⟨_, PSs.nox <| pss_cons (ps_if (PW.pt (pw_or (pt_cmpR op_eq (pe_ix ix_listD (pv 0) pe_int (fun _ _ => rfl)) pe_int (nomark _)) (pw_or1 (PW.pt (pw_and (pt_cmpR op_eq (pe_ix ix_listD (pv 0) pe_int (fun _ _ => rfl)) pe_int (nomark _)) (pw_and1 (pt_cmpR op_gt (pe_ix ix_listD (pv 0) pe_int (fun _ _ => rfl)) pe_int (nomark _))))))))
        (pss_cons (ps_set (i := 2) scRoll.nd rfl (Or.inl rfl) (pe_op op_mod (pe_callTy call_int1 (by rfl) T.int (by decide +kernel) (pa_cons (pe_ix ix_listD (pv 0) pe_int (fun _ _ => rfl)) pa_nil)) (pv 1)))
          (pss_cons (ps_asg (pe_op op_fdiv (pe_ix ix_listD (pv 0) pe_int (fun _ _ => rfl)) (pv 1)) (pg_sub (pv 0) pe_int set_list)) (pss_one (ps_ret (pv 2))))) pss_nil)
      (pss_cons (ps_asg pe_int (pg_sub (pv 0) pe_int set_list))
      (pss_cons (ps_if (pt_cmpR op_gt (pv 1) pe_int (nomark _)) pss_never pss_nil)
      (pss_cons (ps_asg (pe_op op_mod (pe_callTy call_int1 (by rfl) T.int (by decide +kernel) (pa_cons (pe_op op_add (pe_op op_add (pe_op op_mul (pe_ix ix_listD (pv 0) pe_int (fun _ _ => rfl)) pe_int) (pe_op op_mul (pe_ix ix_listD (pv 0) pe_int (fun _ _ => rfl)) pe_int)) pe_int) pa_nil)) pe_int) (pg_sub (pv 0) pe_int set_list))
      (pss_cons (ps_asg (pe_op op_add (pe_ix ix_listD (pv 0) pe_int (fun _ _ => rfl)) pe_int) (pg_sub (pv 0) pe_int set_list))
      (pss_one (ps_ret (pe_op op_mod (pe_callTy call_int1 (by rfl) T.int (by decide +kernel) (pa_cons (pe_op op_fdiv (pe_ix ix_listD (pv 0) pe_int (fun _ _ => rfl)) pe_int) pa_nil)) (pv 1)))))))), ?_⟩
    have hm : decide ((100000000 : Int) < m) = false := decide_eq_false (by omega)
    simp only [tSeq, tIfS, tIf, tTest, tChain, tOp, tC, tVar, tRet, tLst, tTup, tCons, tCB, tNil, tAsg, gName, tCall, tDrop, tOr, tAnd, tNot, gSub, rI0, rI, tNext, L2.start, List.set_cons_zero, List.set_cons_succ, List.map, List.replicate, List.length, List.append_nil, List.getElem?_cons_zero, List.getElem?_cons_succ, List.cons_append, List.nil_append, Option.some.injEq, exists_eq_left', exists_eq_left, exists_and_left, V.int.injEq, V.ref.injEq, List.cons.injEq, and_true, true_and, V.bl.injEq, reduceCtorEq, false_and, and_false, exists_false, or_false, false_or, HO.lst.injEq, rIxD, rSetL, rEq, sc_int, hd, upd_same, upd2, at3_0, at3_1, at3_2, ix3_0, ix3_1, ix3_2, hm, if_true, if_false, Bool.false_eq_true]
    have g0 : (0 : Int) < 2147483647 := by decide
    have gm : ∀ x : Int, CMul x 48271 := fun x => .inr ⟨by decide, by decide⟩
    have gn : ∀ x : Int, CMul x 69621 := fun x => .inr ⟨by decide, by decide⟩
    have gd : ∀ x : Int, CDiv x 7 := fun x => ⟨by decide, by decide⟩
    have gq : ∀ x : Int, CDiv x m := fun x => ⟨h0, by omega⟩
    have lo : ∀ x : Int, 0 ≤ x % m := fun x => Int.emod_nonneg _ (by omega)
    have hi : ∀ x : Int, x % m < m := fun x => Int.emod_lt_of_pos _ h0
    split
    · exact ⟨h0, gq _, q _ _ _ _ (lo _) (hi _)⟩
    · split
      · split
        · exact ⟨h0, gq _, q _ _ _ _ (lo _) (hi _)⟩
        · exact ⟨gm _, gn _, g0, gd _, h0, q _ _ _ _ (lo _) (hi _)⟩
      · exact ⟨gm _, gn _, g0, gd _, h0, q _ _ _ _ (lo _) (hi _)⟩
end
end KL9
set_option Elab.async false
set_option linter.all false
set_option maxRecDepth 100000
set_option maxHeartbeats 4000000
namespace KL9
open PySem PySem.Spec PyProof.Rows L2 KB KC KS
@[irreducible] def spRounds (K : PySem.W.Frag) : Sp := fun vs H Q _ => ∃ (s : Addr) (ns : List Int), vs = [.ref s, .int 1] ∧ SqL K H s (ns.map V.int) ∧ ∀ H' p d, Ex H H' → H' p = some (.lst [.ref d]) → IsDice H' d → Q (.ref p) H'
theorem IsDice.upd_ne {H : Hp} {d a : Addr} {o : HO} (h : IsDice H d) (n : H a = none) : IsDice (upd H a o) d := by
  obtain ⟨x, y, z, e⟩ := h
  exact ⟨x, y, z, by rw [L2.upd_ne (ne_of_none e n)]; exact e⟩
theorem Ex.on {H H1 : Hp} {a : Addr} {o : HO} (e : Ex H H1) (n : H a = none) : Ex H (upd H1 a o) := fun b u h => by rw [L2.upd_ne (ne_of_none h n)]; exact e b u h
section
variable {P : Program} {w : World} {K : PySem.W.Frag} {mg : Str → Option Value} {base : Heap} {f fD : Addr} {fd fdD : FuncData}
theorem scRounds : FnScope ["script", "most", "cells", "cell"] ["script", "most"] (defScope sRounds) := ⟨rfl, rfl, rfl, by decide +kernel, rfl, by decide +kernel, by decide +kernel⟩
theorem ok_rounds (F : FnP K "_law_rounds" "_law_rounds" sRounds [] f fd) (T : TxtL mg) (FD : FnP K "_law_dice" "_law_dice" sDice [] fD fdD) (gD : mg "_law_dice" = some (.ref fD)) :
    FnOk P w K mg base CX0 2 f fd ["script", "most"] (spRounds K) := by
  have GD : FnOk P w K mg base CX0 1 fD fdD ["cell"] spDice := ok_dice FD T
  have bD : Binds K fdD ["cell"] [] := FD.bindsN fun _ _ _ _ _ _ us hl => match us, hl with | [_], _ => rfl
  refine F.ok scRounds (fun vs H Q E h => ?_) (fun cdv A outer s H vs Q E hr h => ?_)
  · unfold spRounds at h
    obtain ⟨c, d, rfl, _⟩ := h; rfl
  · unfold spRounds at h
    obtain ⟨a, ns, rfl, hS, q⟩ := h
    refine ⟨_, PSs.nox <| pss_cons (ps_set (i := 2) scRounds.nd rfl (Or.inl rfl) (pe_slice sl_list (pv 0) po_none (po_some (pv 1))))
      (pss_cons (ps_if (pt_cmpR (op_eqD hr.units) (pv 2) (pe_lst pa_nil) (nomark _)) (pss_one (ps_set (i := 2) scRounds.nd rfl (Or.inl rfl) (pe_lst (pa_cons pe_int pa_nil)))) pss_nil)
      (pss_one (ps_ret (pe_lc (own := [("cell", 3)]) (g := gName 3) (tt := tYes) rfl scRounds.nd (pi_list (pv 2)) (blkOk_by (N := ["script", "most", "cells", "cell"]) (sc := defScope sRounds) (by decide +kernel))
        (fun _ _ _ _ _ => pg_name (i := 3) scRounds.nd rfl (Or.inl rfl)) (fun _ _ _ _ _ => pts_nil)
        (fun _ _ _ _ _ => pe_call GD hr rfl gD FD.kp bD .nil pass0 (pa_cons (pv 3) pa_nil)))))), ?_⟩
    have fin : ∀ (c : Addr) (n : Int) (H1 : Hp), Ex H H1 → H1 c = some (.lst [.int n]) →
        (tRet (tLc (iList K (tVar 2)) (gName 3) tYes (tCall spDice [] E0 (tCons (tVar 3) tNil)) [3])) { nx := fun _ H' => Q .non H', rt := Q } [some (.ref a), some (.int 1), some (.ref c), none] H1 := by
      intro c n H1 e1 hc
      refine ⟨_, rfl, c, rfl, ⟨_, SqL.of hc⟩, fun D hD => lc_list (xs := [V.int n])
        (fun i H2 => Ex H1 H2 ∧ ((i = 0 ∧ H2 D = some (.lst [])) ∨ (i = 1 ∧ ∃ d, H2 D = some (.lst [.ref d]) ∧ IsDice H2 d))) ?_ ?_ ?_ ?_⟩
      · exact ⟨Ex.upd hD, .inl ⟨rfl, upd_same⟩⟩
      · rintro i H2 _ ⟨e2, _⟩
        exact SqL.of (e2 c _ hc)
      · rintro i x H2 hx ⟨e2, h2⟩
        rcases h2 with ⟨rfl, h2⟩ | ⟨rfl, _⟩
        · cases hx
          refine ⟨rfl, ?_⟩
          refine ⟨_, rfl, n, rfl, fun p x y z hp => ⟨[], ?_, (by decide), ?_⟩⟩
          · rw [L2.upd_ne (ne_of_none h2 hp)]; exact h2
          · refine ⟨Ex.on (e2.trans (Ex.upd hp)) hD, .inr ⟨rfl, p, upd_same, x, y, z, ?_⟩⟩
            rw [L2.upd_ne (fun e => by rw [e, h2] at hp; cases hp), upd_same]
        · cases hx
      · rintro H2 ⟨e2, h2⟩
        rcases h2 with ⟨h, _⟩ | ⟨_, d, h2, h3⟩
        · cases h
        · exact q H2 D d (e1.trans e2) h2 h3
    refine ⟨_, rfl, _, rfl, 1, rfl, a, _, rfl, hS, fun p hp => ?_⟩
    cases ns with
    | nil =>
      refine ⟨_, rfl, (by decide), fun p2 hp2 => ⟨.list [], .list [], .lst (.inl (.inl ?_)) .nil, .lst (.inl (.inl upd_same)) .nil, rfl, rfl, true, rfl, ?_⟩⟩
      · rw [L2.upd_ne (ne_of_none upd_same hp2)]; exact upd_same
      · refine ⟨(by decide), fun p3 hp3 => fin p3 0 _ ?_ upd_same⟩
        exact ((Ex.upd hp).trans (Ex.upd hp2)).trans (Ex.upd hp3)
    | cons n r =>
      have e : cutV ((n :: r).map V.int) none (some 1) = [V.int n] := by
        unfold cutV HT.sIx
        simp
      rw [e] at *
      refine ⟨_, rfl, (by decide), fun p2 hp2 => ⟨.list [.int n], .list [], .lst (.inl (.inl ?_)) (.cons (.int _) .nil), .lst (.inl (.inl upd_same)) .nil, rfl, rfl, false, rfl, ?_⟩⟩
      · rw [L2.upd_ne (ne_of_none upd_same hp2)]; exact upd_same
      · refine fin p n _ ((Ex.upd hp).trans (Ex.upd hp2)) ?_
        rw [L2.upd_ne (ne_of_none upd_same hp2)]; exact upd_same
end
end KL9
set_option Elab.async false
set_option linter.all false
set_option maxRecDepth 100000
set_option maxHeartbeats 1000000
namespace KL9
open PySem PySem.Spec PyProof.Rows L2 KB KC KS KN1
@[irreducible] def spNat : Sp := fun vs H Q _ => ∃ n : Int, vs = [.int n] ∧ 0 ≤ n ∧ n < 2 ^ 2000 ∧ ∀ H' p, Ex H H' → H' p = some (.tup ((natL n.toNat).map V.int)) → Q (.ref p) H'
theorem natL_len : ∀ (k n : Nat), n < 128 ^ (k + 1) → (natL n).length ≤ k + 1
  | 0, n, h => by rw [natL_small (by simpa using h)]; exact Nat.le_refl _
  | k + 1, n, h => by
    by_cases c : n < 128
    · rw [natL_small c]; show 1 ≤ _; omega
    · rw [natL_big c, List.length_cons]
      have h2 : n / 128 < 128 ^ (k + 1) := by
        rw [Nat.div_lt_iff_lt_mul (by decide)]
        rw [← Nat.pow_succ]
        exact h
      have := natL_len k (n / 128) h2
      omega
theorem natL_short {n : Int} (h : n < 2 ^ 2000) : (natL n.toNat).length ≤ 300 := by
  refine natL_len 299 n.toNat ?_
  have h1 : n.toNat < 2 ^ 2000 := by
    have : ((2 ^ 2000 : Nat) : Int) = 2 ^ 2000 := by decide +kernel
    omega
  exact Nat.lt_of_lt_of_le h1 (by decide +kernel)
theorem nat_step {H : Hp} {n : Int} {Q : VK} {E : XK} (h0 : 0 ≤ n) (h1 : n < 2 ^ 2000) (fin : ∀ H' p, Ex H H' → H' p = some (.tup ((natL n.toNat).map V.int)) → Q (.ref p) H') : spNat [.int n] H Q E := by
  unfold spNat
  exact ⟨n, rfl, h0, h1, fin⟩
section
variable {P : Program} {w : World} {K : PySem.W.Frag} {mg : Str → Option Value} {base : Heap} {f : Addr} {fd : FuncData}
theorem scNat : FnScope ["number", "found", "left"] ["number"] (defScope sNat) := ⟨rfl, rfl, rfl, by decide +kernel, rfl, by decide +kernel, by decide +kernel⟩
theorem ok_nat (F : FnP K "natural_bytes" "natural_bytes" sNat [] f fd) (T : TxtL mg) : FnOk P w K mg base CX0 1 f fd ["number"] spNat := by
  refine F.ok scNat (fun vs H Q E h => ?_) (fun cdv A outer s H vs Q E hr h => ?_)
  · unfold spNat at h
    obtain ⟨_, rfl, _⟩ := h; rfl
  · unfold spNat at h
    obtain ⟨n, rfl, h0, h1, fin⟩ := h
    refine ⟨_, PSs.nox <| pss_cons (ps_set (i := 1) scNat.nd rfl (Or.inl rfl) (pe_lst pa_nil))
      (pss_cons (ps_set (i := 2) scNat.nd rfl (Or.inl rfl) (pv 0))
      (pss_cons (ps_while PassesOwn.never (pt_cmpR op_ge (pv 2) pe_int (nomark _))
        (pss_cons (ps_expr (pe_bm PySem.F.plainAttrs_list PySem.F.slot_list_append PySem.F.type_list_append mt_append (pv 1) (pa_cons (pe_op op_add (pe_op op_mod (pv 2) pe_int) pe_int) pa_nil)))
          (pss_one (ps_set (i := 2) scNat.nd rfl (Or.inl rfl) (pe_op op_fdiv (pv 2) pe_int)))))
      (pss_cons (ps_expr (pe_bm PySem.F.plainAttrs_list PySem.F.slot_list_append PySem.F.type_list_append mt_append (pv 1) (pa_cons (pv 2) pa_nil)))
      (pss_one (ps_ret (pe_callTy call_tuple_of (by rfl) T.tuple (by decide +kernel) (pa_cons (pv 1) pa_nil))))))), ?_⟩
    have hlen := natL_short h1
    have hz : sizeLine = 16777216 := rfl
    refine ⟨by decide, fun l hl => ⟨_, rfl, ?_⟩⟩
    refine while_by (fun σ H2 => ∃ (left : Nat) (pre : List Int), σ = [some (.int n), some (.ref l), some (.int (left : Int))] ∧ KS.Ex H H2 ∧ H2 l = some (.lst (pre.map V.int)) ∧ pre ++ natL left = natL n.toNat)
      (fun σ _ => match σ with | [_, _, some (.int left)] => left.toNat | _ => 0) ⟨n.toNat, [], by rw [Int.toNat_of_nonneg h0]; rfl, Ex.upd hl, upd_same, rfl⟩ ?_ ?_
    · rintro σ H2 ⟨left, pre, rfl, e2, hl2, hp⟩
      have hpl : pre.length ≤ 300 := by
        have := congrArg List.length hp
        rw [List.length_append] at this
        omega
      refine ⟨_, rfl, _, _, rfl, rfl, _, rfl, ?_⟩
      by_cases c : (128 : Int) ≤ (left : Int)
      · refine ite2 (fun _ => ?_) (fun z => absurd (decide_eq_true c) z)
        refine ⟨_, rfl, .inl ⟨rfl, _, SqL.of hl2⟩, _, rfl, _, _, rfl, rfl, by show (0 : Int) < 128; decide, _, _, rfl, rfl, l, _, _, rfl, rfl, hl2, by rw [List.length_map]; omega, ?_⟩
        refine ⟨_, rfl, _, _, rfl, rfl, ⟨by decide, by decide⟩, ?_⟩
        refine ⟨⟨left / 128, pre ++ [((left % 128 : Nat) : Int) + 128], ?_, Ex.on e2 hl, ?_, ?_⟩, ?_⟩
        · show [some (.int n), some (.ref l), some (V.int ((left : Int) / 128))] = _
          rw [Int.natCast_ediv]
          rfl
        · rw [upd_same, List.map_append]
          rfl
        · rw [List.append_assoc]
          show pre ++ ((((left % 128 : Nat) : Int) + 128) :: natL (left / 128)) = _
          rw [← natL_big (by omega)]
          exact hp
        · show ((left : Int) / 128).toNat < ((left : Int)).toNat
          omega
      · refine ite2 (fun z => absurd (of_decide_eq_true z) c) (fun _ => ?_)
        refine ⟨_, rfl, .inl ⟨rfl, _, SqL.of hl2⟩, _, rfl, l, _, _, rfl, rfl, hl2, by rw [List.length_map]; omega, ?_⟩
        refine ⟨_, rfl, l, _, rfl, .inl ⟨SqL.of upd_same, fun q hq => ?_⟩⟩
        refine fin _ q ((Ex.on e2 hl).trans (Ex.upd hq)) ?_
        rw [upd_same]
        have : pre ++ [(left : Int)] = natL n.toNat := by rw [← hp, natL_small (by omega)]
        rw [← this, List.map_append]
        rfl
    · rintro σ H Q Q' imp ⟨x, hx, i, j, e1, e2, c, e3, q⟩
      exact ⟨x, hx, i, j, e1, e2, c, e3, imp _ _ q⟩
end
end KL9
set_option Elab.async false
set_option linter.all false
set_option maxRecDepth 100000
set_option maxHeartbeats 1000000
namespace KL9
open PySem PySem.Spec PyProof.Rows L2 KB KC KS KN1
section
variable {P : Program} {w : World} {K : PySem.W.Frag} {mg : Str → Option Value} {base : Heap} {f : Addr} {fd : FuncData}
theorem cat_one {K : PySem.W.Frag} {H : Hp} {a b : Addr} {pre : List Int} {x : Int} {Q : VK} (ha : H a = some (.tup (pre.map V.int))) (hb : H b = some (.tup [.int x])) (hl : pre.length ≤ 1000)
    (q : ∀ H' c, Ex H H' → H' c = some (.tup ((pre ++ [x]).map V.int)) → Q (.ref c) H') : rCatA K (.ref a) (.ref b) H Q := by
  refine ⟨a, b, _, _, rfl, rfl, SqT.of ha, SqT.of hb, ?_, fun h => ?_, fun _ h => (by cases h), fun _ _ p hp => ?_⟩
  · have hz : sizeLine = 16777216 := rfl
    rw [List.length_map]
    show pre.length + 1 ≤ sizeLine
    omega
  · have hp : pre = [] := by cases pre with | nil => rfl | cons _ _ => cases h
    subst hp
    exact q H b (Ex.refl H) hb
  · refine q _ p (Ex.upd hp) ?_
    rw [upd_same, List.map_append]
    rfl
end
end KL9
set_option Elab.async false
set_option linter.all false
set_option maxRecDepth 100000
set_option maxHeartbeats 4000000
namespace KS
open PySem PySem.Spec PyProof.Rows PySem.Calls L2 KB KC KD LamX PySem.SeqAt
def rSortItK (X : Cx) : List V → List V → Hp → VK → Prop := fun vs zs H Q => ∃ (p a f : Addr) (kvs : List (List Key × V)) (kd : List Key × V → List PyData) (ρ : List Key × V → Int), vs = [.ref p] ∧ zs = [.ref f] ∧ H p = some (L2.DX.itemsO p a) ∧ H a = some (.dT kvs) ∧
  (∀ x ∈ kvs, shaped (.tuple (kd x)) = true) ∧ (∀ x ∈ kvs, pureL (kd x) = true) ∧ (∀ x ∈ kvs, ∃ l r, kd x = .tuple l :: r) ∧ (∀ x ∈ kvs, ∀ y ∈ kvs, okL (kd x) (kd y) = true) ∧ (∀ x ∈ kvs, ∀ y ∈ kvs, ltL (kd x) (kd y) = decide (ρ x < ρ y)) ∧ KeyCall X f H kvs kd ∧
  ∀ (H' : Hp) (D : Addr) (zs : List (Addr × (List Key × V))), Ex H H' → H D = none → H' D = some (.lst (zs.map fun z => V.ref z.1)) → (zs.map (·.2)).Perm kvs → (zs.map (·.2)).Pairwise (fun x y => ¬ ρ y < ρ x) →
    (∀ z ∈ zs, ∃ q, H' z.1 = some (.tup [.ref q, z.2.2]) ∧ H' q = some (.tup (z.2.1.map kV))) → Q (.ref D) H'
section
variable {X : Cx}
theorem cr_sortedItK (hc : X.calm = true) (hu : X.A.units + 66 < cLine) : CallRK X (.builtin "sorted") [Str.ofString "key"] (rSortItK X) := by
  intro pins s σ H xs zs us ws Q I r rz h
  obtain ⟨p, a, f, kvs, kd, ρ, rfl, rfl, hp, ha, hsh, hpu, hft, hok, hρ, hcall, q⟩ := h
  obtain rfl := Vals.ref1 r
  obtain rfl := Vals.ref1 rz
  have view : s.heap.IsItemsView p a := (show ObjOk X.prog X.w H s.heap p (L2.DX.itemsO p a) from I.hok p _ hp).1
  obtain ⟨z, hd, xs', rel, o, es, ep, ho, hx, hdat, hes, his, hn⟩ := dt_of I.hok ha
  have l1 : kvs.length = xs'.length := Paired.length rel
  have l2 : es.size = xs'.length := size_of_entries hes
  show wpAny _ _ (call (.builtin "sorted") [.ref p] [(Str.ofString "key", .ref f)]) _ _ s
  refine call_function_entry_kw kind_sorted plain_sorted entry_sorted (ksk_s1 _ _) ?_
  unfold Builtin.«sorted»
  refine wpAny_bind (m := checkCount "sorted" 1 1 _) (wpAny_pure ?_)
  refine wpAny_bind (DT.collectI (A := X.A.in1) (es := es) (ep := ep) (I.ok.hd hc) view ⟨o, ho, hx, hdat⟩ (by omega) fun h' tk as hk hlt hl hG => ?_)
  refine wpAny_bind (wpAny_newList ?_ (by rw [List.length_map, hl]; omega))
  have hoL : (h'.push (seqObj "list" (as.map Value.ref).toArray 0)).get? h'.objs.size = some (seqObj "list" (as.map Value.ref).toArray 0) := Heap.get?_push_size _ rfl
  refine wpAny_bind (wpAny_holding (wpAny_call_entry_kw slot_list_sort ⟨_, hoL, rfl⟩ entry_list_sort ?body (ksk_l1 _ _)))
  case body =>
    show wpAny (model X.prog X.w) X.A.in1.in1 (Builtin.«list.sort» ⟨[.ref h'.objs.size], [(Str.ofString "key", .ref f)]⟩) _ _ _
    rw [ksk_t1]
    refine sort_body (s := s) (h2 := h'.push (seqObj "list" (as.map Value.ref).toArray 0)) (tk := tk) (ρ := ρ) I (fun b u e => Heap.get?_push_of_some _ (hk b u e)) hoL (Nat.le_of_lt hlt) rel hes hl
      ⟨hG.rise, hG.above, fun j b hj => let ⟨e, he, hg⟩ := hG.pairs j b hj; ⟨e, he, Heap.get?_push_of_some _ hg⟩⟩ z hsh hpu hft hok hρ hu hcall fun H' s' zs J e1 e2 e3 e4 e5 e6 => ⟨_, rfl, ?_⟩
    exact wpAny_pure ⟨_, rfl, .ref h'.objs.size, H', J, rfl, q H' h'.objs.size zs e1 e2 e3 e4 e5 e6⟩
theorem keyCall_lam {k : Nat} {f c' : Addr} {qn : Str} {params : Arguments} {body : Expr} {scope : Scope} {N : List Str} {pn : Str} {H : Hp} {kvs : List (List Key × V)} {kd : List Key × V → List PyData} (S : FnScope N [pn] scope) (hr : Room (k + 3) X.A)
    (hf : H f = some (LamO f qn params body scope c')) (hc : H c' = some (CodeO c' qn)) (hb : ∀ (s : Shared) (pm ctv u : Value), BindsTo s (PySem.W.kla_fn "<lambda>" qn params body scope [] pm (.ref c') ctv) ⟨[u], []⟩ ([pn].zip [u]))
    (hbody : ∀ (A : Around) (outer : List Env) (s : Shared) (H1 : Hp), Room k (A.deeper (envOfC qn scope s.heap.objs.size f (.ref c'))) → ∀ x ∈ kvs, ∀ (t q : Addr) (Q : VK), Ex H H1 → H1 t = some (.tup [.ref q, x.2]) → H1 q = some (.tup (x.1.map kV)) →
      (∀ y H2, Ex H1 H2 → Dp X.K H2 y (.tuple (kd x)) → Q y H2) → ∃ tt, PE (cxOf CX0 X.prog X.w X.K X.mg X.base N qn scope f (.ref c') A outer s H1 E0) body tt ∧ tt (start N [.ref t]) H1 Q) : KeyCall X f H kvs kd := by
  intro x hx t q H1 e1 h1 h2 pins σ s1 R J hR
  have hr2 : Room (k + 1) X.A.in1.in1 := (show Room (k + 2) X.A.in1 from Room.in1 hr).in1
  have rc := lam_run (CX := CX0) (Q := fun y H2 => Ex H1 H2 ∧ Dp X.K H2 y (.tuple (kd x))) (E := E0) (vs := [.ref t]) (us := [.ref t]) (args := ⟨[.ref t], []⟩) S hr2 J.env0.in1.in1 (e1 _ _ hf) (e1 _ _ hc) (fun pm ctv => hb s1 pm ctv _) (.cons rfl .nil) rfl
    (fun hr' => hbody _ _ s1 H1 hr' x hx t q _ e1 h1 h2 fun y H2 a b => ⟨a, b⟩)
  refine wpAny_call (codeAny_mono rc fun r s2 hq => ?_)
  cases r with
  | error e => exact (show False from hq).elim
  | ok fl =>
    cases fl with
    | ret u =>
      obtain ⟨y, H2, J2, ry, a, b⟩ := J.after hq
      exact hR y u H2 s2 J2 a ry b
    | next => exact False.elim hq
    | brk => exact False.elim hq
    | cont => exact False.elim hq
end
end KS
set_option Elab.async false
set_option linter.all false
set_option maxRecDepth 100000
set_option maxHeartbeats 4000000
namespace KG
open PySem PySem.Spec PyProof.Rows PySem.Calls L2 KB
def mergeT (acc kvs : List (List Key × V)) : List (List Key × V) := kvs.foldl (fun acc p => putK acc p.1 p.2) acc
theorem kt_merge {H : Hp} : ∀ {kvs : List (List Key × V)} {xs : List (List Key × Addr × Value)} {acc : List (List Key × V)} {ys : List (List Key × Addr × Value)}, KT H kvs xs → KT H acc ys → KT H (mergeT acc kvs) (storedAllH ys xs)
  | _, _, _, _, .nil, r => r
  | _, _, _, _, .cons (a := p) (b := x) (l₁ := kvs) (l₂ := xs) h t, r => by
    obtain ⟨h1, h2, h3⟩ := h
    have z := KT.put r p.1 (b := x.2.1) (by exact h2) h3
    show KT H (mergeT (putK _ p.1 p.2) kvs) (storedAllH (storedH _ x.1 x.2.1 x.2.2) xs)
    rw [← h1]
    exact kt_merge t z
theorem putK_len {κ : Type} [DecidableEq κ] (kvs : List (κ × V)) (k : κ) (v : V) : (putK kvs k v).length ≤ kvs.length + 1 := by
  unfold putK
  split
  · rw [List.length_map]; omega
  · rw [List.length_append]; simp
theorem merge_len : ∀ (kvs acc : List (List Key × V)), (mergeT acc kvs).length ≤ acc.length + kvs.length
  | [], acc => Nat.le_refl _
  | p :: kvs, acc => by
    have h1 := merge_len kvs (putK acc p.1 p.2)
    have h2 := putK_len acc p.1 p.2
    rw [List.length_cons]
    show (mergeT (putK acc p.1 p.2) kvs).length ≤ _
    omega
section
variable {X : Cx} {pins : List (Addr × Obj)} {σ : L2.St} {H : Hp} {s : Shared}
theorem pairs_raw (I : Inv X pins σ H s) : ∀ {ts : List Addr} {kvs : List (List Key × V)}, PairsOf H ts kvs → ∃ xs : List (List Key × Addr × Value), KT H kvs xs ∧ xs.length = ts.length ∧ ∀ (j : Nat) (x : List Key × Addr × Value), xs[j]? = some x → ∃ t, ts[j]? = some t ∧ s.heap.IsTuple t #[.ref x.2.1, x.2.2]
  | _, _, .nil => ⟨[], .nil, rfl, fun j x h => by simp at h⟩
  | _, _, .cons (a := t) (b := p) (l₁ := ts) (l₂ := kvs) h r => by
    obtain ⟨xs, k1, k2, k3⟩ := pairs_raw I r
    obtain ⟨q, h1, h2⟩ := h
    obtain ⟨_, its, rv, ht⟩ := (show ObjOk X.prog X.w H s.heap t (.tup [.ref q, p.2]) from I.hok t _ h1)
    cases rv with
    | cons r1 r2 =>
      cases r2 with
      | @cons _ u _ _ r3 r4 =>
        cases r4
        cases r1
        refine ⟨(p.1, q, u) :: xs, .cons ⟨rfl, h2, r3⟩ k1, by rw [List.length_cons, List.length_cons, k2], fun j x hj => ?_⟩
        cases j with
        | zero =>
          simp only [List.getElem?_cons_zero, Option.some.injEq] at hj
          subst hj
          exact ⟨t, rfl, ht⟩
        | succ j =>
          simp only [List.getElem?_cons_succ] at hj
          exact k3 j x hj
def rDictT : List V → Hp → VK → Prop := fun vs H Q => ∃ (a : Addr) (ts : List Addr) (kvs : List (List Key × V)), vs = [.ref a] ∧ (H a = some (.lst (ts.map V.ref)) ∨ ∃ o, H a = some (.frz o (.tup (ts.map V.ref))) ∧ o.dict = none) ∧ PairsOf H ts kvs ∧ ∀ p, H p = none → Q (.ref p) (upd H p (.dT (mergeT [] kvs)))
theorem cr_dictT (hc : X.calm = true) (hu : X.A.units + 4 < cLine) : CallR X (.type "dict") rDictT := by
  intro pins s σ H vs us Q I r h
  obtain ⟨a, ts, kvs, rfl, ha, hp, q⟩ := h
  obtain rfl := Vals.ref1 r
  obtain ⟨xs, k1, k2, k3⟩ := pairs_raw I hp
  have lk : kvs.length = xs.length := Paired.length k1
  have items : PairItems s.heap (ts.map Value.ref).toArray (fun j => ts.getD j 0) (xs.map fun x => (Value.ref x.2.1, x.2.2)) := by
    refine ⟨by simp [k2], fun j k v hj => ?_⟩
    rw [List.getElem?_map] at hj
    obtain ⟨x, hx, e⟩ := Option.map_eq_some_iff.mp hj
    obtain ⟨t, ht, hT⟩ := k3 j x hx
    cases e
    refine ⟨by simp [ht], .inl ?_⟩
    have e2 : ts.getD j 0 = t := by simp [List.getD, ht]
    show s.heap.IsTuple (ts.getD j 0) _
    rw [e2]
    exact hT
  have nps : (xs.map fun x => (Value.ref x.2.1, x.2.2)).length = xs.length := List.length_map _
  have hc2 : PairsHaveH (tupleKind (mixKind X.prog X.w)) (xs.map fun x => (Value.ref x.2.1, x.2.2)).length (PairRel (xs.map fun x => (Value.ref x.2.1, x.2.2))) xs := by
    refine ⟨by rw [nps], fun i key v hj => ?_⟩
    have hj : (xs.map fun x => (Value.ref x.2.1, x.2.2))[i]? = some (key, v) := hj
    rw [List.getElem?_map] at hj
    obtain ⟨x, hx, e⟩ := Option.map_eq_some_iff.mp hj
    cases e
    exact ⟨x.1, x.2.1, by rw [hx], rfl⟩
  have keys : ∀ x ∈ xs, (tupleKind (mixKind X.prog X.w)).is s.heap x.1 x.2.1 := fun x hx => by
    obtain ⟨p, _, e1, e2, _⟩ := mem_r k1 x hx
    rw [← e1]
    exact key_of I.hok e2
  have hst : KeysStay (tupleKind (mixKind X.prog X.w)) s.heap s.heap.objs.size [] xs := fun h' hk x hx => by
    obtain ⟨o, its, n, ho, hc', hd, hi⟩ := keys x hx
    exact ⟨o, its, n, hk _ _ (Nat.ne_of_lt (Heap.lt_size ho)) (by simp) ho, hc', hd, hi⟩
  have hroom : (tupleKind (mixKind X.prog X.w)).room X.A.in1.in1 := tupleKind_room_in1 (by show X.A.units + 1 + 1 < cLine; omega)
  have hm : (s.heap.objs.size == sysModules) = false := beq_eq_false_iff_ne.mpr (Nat.ne_of_gt I.big)
  have fin : ∀ (h' : Heap) (tk : Nat), h'.DictOfH (tupleKind (mixKind X.prog X.w)) s.heap.objs.size (storedAllH [] xs) → (∀ b o, b ∉ ([] : List Addr) → s.heap.get? b = some o → h'.get? b = some o) → kvs.length ≤ sizeLine → EP X pins σ Q (.ref s.heap.objs.size) { s with heap := h', toks := tk } := by
    intro h' tk hd hk hz
    obtain ⟨o, es, ep, d1, d2, d3, d4, _, d6⟩ := hd
    have kt : KT (upd H s.heap.objs.size (.dT (mergeT [] kvs))) (mergeT [] kvs) (storedAllH [] xs) := (kt_merge k1 .nil).keeps fun b ys e => by rw [upd_ne (ne_of_none e (I.hok.fresh (Nat.le_refl _)))]; exact e
    have hz2 := merge_len kvs []
    exact ⟨.ref s.heap.objs.size, _, I.laid (t' := tk) (o := .dT (mergeT [] kvs)) (fun b o e => hk b o (by simp) e) (Nat.le_refl _) ⟨by simp at hz2; omega, hm, _, kt, o, es, ep, d1, d2, d3, d4, d6⟩, rfl, q _ (I.hok.fresh (Nat.le_refl _))⟩
  rcases ha with ha | ha
  · obtain ⟨hz, its, n, ri, hraw⟩ := (show ObjOk X.prog X.w H s.heap a (.lst (ts.map V.ref)) from I.hok a _ ha)
    have ei : its = ts.map Value.ref := refs_at ri
    subst ei
    rw [List.length_map] at hz
    exact call_dict_pairsH (knd := tupleKind (mixKind X.prog X.w)) (PairArg.list a _ _ _) (I.ok.hd hc) hroom ⟨⟨_, n, hraw, rfl, rfl, rfl⟩, items⟩ hc2 hst (by rw [nps]; omega) fun h' tk hd hk => fin h' tk hd hk (by omega)
  · obtain ⟨o, ha, hdn⟩ := ha
    obtain ⟨ho, hz, its, ri, hraw⟩ := (show ObjOk X.prog X.w H s.heap a (.frz o (.tup (ts.map V.ref))) from I.hok a _ ha)
    have ei : its = ts.map Value.ref := refs_at ri
    subst ei
    rw [List.length_map] at hz
    obtain ⟨o', ho', hcl, n, hdat⟩ := hraw
    have e : o' = o := Option.some.inj (ho'.symm.trans ho)
    subst e
    exact call_dict_pairsH (knd := tupleKind (mixKind X.prog X.w)) (PairArg.tuple a _ _ _) (I.ok.hd hc) hroom ⟨⟨o', n, ho, hcl, hdn, hdat⟩, items⟩ hc2 hst (by rw [nps]; omega) fun h' tk hd hk => fin h' tk hd hk (by omega)
def rTupleF (K : PySem.W.Frag) : List V → Hp → VK → Prop := fun vs H Q => ∃ (p : Addr) (ys : List V), vs = [.ref p] ∧ SqL K H p ys ∧ ∀ (l : Addr) (o : Obj), o.dict = none → H l = none → Q (.ref l) (upd H l (.frz o (.tup ys)))
theorem cr_tupleF : CallR X (.type "tuple") (rTupleF X.K) := by
  intro pins s σ H vs us Q I r h
  obtain ⟨p, ys, rfl, hq, q⟩ := h
  obtain rfl := Vals.ref1 r
  obtain ⟨its, r', pl, hz⟩ := I.list hq
  have hlen := r'.length
  refine call_tuple_list pl.isList (fun h' kp => ?_) (by simp only [List.size_toArray]; omega)
  have I1 : Inv X pins σ H { s with heap := h' } := I.kept (t' := s.toks) kp
  have hget : (h'.push { cls := .type "tuple", data := .seq its.toArray }).get? h'.objs.size = some { cls := .type "tuple", data := .seq its.toArray } := Heap.get?_push_size _ rfl
  exact ⟨.ref h'.objs.size, _, I1.laid (t' := s.toks) (o := .frz { cls := .type "tuple", data := .seq its.toArray } (.tup ys)) (fun b o e => Heap.get?_push_of_some _ e) (Nat.le_refl _) ⟨hget, hz, its, r', _, hget, rfl, 0, rfl⟩, rfl, q _ _ rfl (I1.hok.fresh (Nat.le_refl _))⟩
end
end KG
set_option Elab.async false
set_option linter.all false
set_option maxRecDepth 100000
set_option maxHeartbeats 4000000
namespace KH
open PySem PySem.Spec PyProof.Rows PySem.Calls L2 KB GxR
def EltI (prog : Program) (w : World) (scope : Scope) (x : Str) (elt : Expr) (pb : Int → Bool) : Prop :=
  ∀ (cenv : Env) (A' : Around) (E' : Value → Shared → Prop) (i : Int) (t : Tok) (s₂ : Shared) (m₂ : Str → Option Value), cenv.scope = scope → s₂.heap.Ns cenv.locals m₂ → m₂ x = some (.int i t) →
    wpAny (model prog w) A' (eval elt cenv) (fun y s₃ => y = .bool (pb i) ∧ Keeps s₂ s₃) E' s₂
theorem elt_gt {prog : Program} {w : World} {scope : Scope} {x : Str} {n : Int} {j : Nat} {p1 p2 p3 : Pos} (hk : scope.kind = .function) (hl : scope.names.lookup x = some .local) (hd : (x == ("__debug__" : Str)) = false := by decide) :
    EltI prog w scope x (.Compare (.Name x p1) [.Gt] [.Constant (.int n) j p2] p3) (fun i => decide (n < i)) := by
  intro cenv A' E' i t s₂ m₂ hs hn hm
  refine wpAny_Compare1 ?_
  refine wpAny_Name (wpAny_loadName_local (by rw [hs]; exact hk) (show cenv.scope.names.lookup x = some .local by rw [hs]; exact hl) hn hm ?_) hd
  refine wpAny_Constant_int ?_
  exact PyProof.Rows.gt_int ⟨rfl, keeps_tok _ _⟩
def intP (pb : Int → Bool) : Value → Bool
  | .int i _ => pb i
  | _ => false
def vP (pb : Int → Bool) : V → Bool
  | .int i => pb i
  | _ => false
def trE (pb : Int → Bool) (es : Array DictEntry) (j : Nat) : Bool := match es[j]? with
  | some e => intP pb e.val
  | none => false
theorem all_trE (pb : Int → Bool) (es : Array DictEntry) : (List.range es.size).all (trE pb es) = es.toList.all fun e => intP pb e.val := by
  rw [Bool.eq_iff_iff, List.all_eq_true, List.all_eq_true]
  constructor
  · intro h e he
    obtain ⟨j, hj, hx⟩ := List.getElem_of_mem he
    have hj' : j < es.size := by rw [← Array.length_toList]; exact hj
    have q := h j (List.mem_range.mpr hj')
    unfold trE at q
    rw [Array.getElem?_eq_getElem hj'] at q
    rw [Array.getElem_toList] at hx
    rw [← hx]
    exact q
  · intro h j hj
    have hj' := List.mem_range.mp hj
    unfold trE
    rw [Array.getElem?_eq_getElem hj']
    exact h _ (Array.mem_toList_iff.mpr (Array.getElem_mem hj'))
theorem all_kt (pb : Int → Bool) {H : Hp} : ∀ {kvs : List (List Key × V)} {xs : List (List Key × Addr × Value)}, KT H kvs xs → (xs.all fun x => intP pb x.2.2) = kvs.all fun p => vP pb p.2
  | _, _, .nil => rfl
  | _, _, .cons (a := p) (b := x) h t => by
    rw [List.all_cons, List.all_cons, all_kt pb t]
    obtain ⟨_, _, rv⟩ := h
    have e : intP pb x.2.2 = vP pb p.2 := by
      cases hp : p.2 with
      | int i =>
        rw [hp] at rv
        obtain ⟨t, e⟩ := rv
        rw [e]
        rfl
      | non => rw [hp] at rv; rw [show x.2.2 = Value.none from rv]; rfl
      | bl b => rw [hp] at rv; rw [show x.2.2 = Value.bool b from rv]; rfl
      | str z => rw [hp] at rv; obtain ⟨t, e⟩ := rv; rw [e]; rfl
      | byt z => rw [hp] at rv; obtain ⟨t, e⟩ := rv; rw [e]; rfl
      | flt z => rw [hp] at rv; obtain ⟨t, e⟩ := rv; rw [e]; rfl
      | ref a => rw [hp] at rv; rw [show x.2.2 = Value.ref a from rv]; rfl
      | ty n => rw [hp] at rv; rw [show x.2.2 = Value.type n from rv]; rfl
    rw [e]
theorem nat1 {a b c : Nat} (h : a < b) (e : c = b + 1) (q : a = c) : False := by omega
theorem nat2 {a b c : Nat} (h : a < b) (e : b ≤ c) (q : a = c) : False := by omega
section
variable {X : Cx} {pins : List (Addr × Obj)} {σ : L2.St} {H : Hp} {s : Shared}
def ReadyI (X : Cx) (pins : List (Addr × Obj)) (σ : L2.St) (H1 : Hp) (P : Addr) (es : Array DictEntry) (pb : Int → Bool) (g : Addr) (s5 : Shared) : Prop :=
  ∃ (fp wr : List Addr) (G : Array GenState → Array GenState → Prop) (F : Nat → Value → Prop) (St : Nat → Shared → Prop),
    WalksS X.prog X.w X.A.in1 g fp wr G es.size F St ∧ St 0 s5 ∧ TruthOf X.prog X.w X.A.in1 F (trE pb es) ∧ ∀ s', Moved wr G s5 s' → ∃ H2, Tabbed P H1 H2 ∧ Inv X pins σ H2 s'
theorem gen_vals {c P : Addr} {elt e : Expr} {x : Str} {px gpos apos cpos : Pos} {scope : Scope} {pb : Int → Bool} {te : TE} {k : Nat} {Q' : Value → Shared → Prop} {R : List (List Key × V) → Hp → Prop}
    (hr : Room k X.A) (TB : TabB X.base X.mg c P) (hcode : X.env.code = .ref c) (S : GenS X.env scope x) (hi : PE X e te) (hel : EltI X.prog X.w scope x elt pb)
    (hbase : attributeBase e "values" X.env (eval e X.env) = eval e X.env) (hline : (apos.endLine == cpos.line) = true)
    (hs : ∀ v, genFold (.Call (.Attribute e "values" apos) [] [] cpos) X.env v = pure v) (I : Inv X pins σ H s) (h : te σ H fun v H1 => ∃ (d : Addr) (kvs : List (List Key × V)), v = .ref d ∧ H1 d = some (.dT kvs) ∧ IntVals kvs ∧ TabG H1 P ∧ R kvs H1)
    (hQ : ∀ kvs H1 es g s5, R kvs H1 → (es.toList.all fun e => intP pb e.val) = (kvs.all fun p => vP pb p.2) → ReadyI X pins σ H1 P es pb g s5 → Q' (.ref g) s5) :
    wpAny (model X.prog X.w) X.A (eval (.GeneratorExp elt [⟨.Name x px, .Call (.Attribute e "values" apos) [] [] cpos, [], 0⟩] scope gpos) X.env) Q' X.xe s := by
  refine wpAny_GeneratorExp_walksQ hr.hd S.co (closure_ok S.free) S.cell S.dot S.loc S.kind (by have := hr.dp; omega) ?_ hs
  refine wpAny_Call_method (T := "dict") (id := "dict.values") hbase rfl hline F.plainAttrs_dict F.slot_dict_values F.type_dict_values (thn (hi.run pins s σ H _ I h) fun u s1 ⟨v, H1, I1, r1, d, kvs, ev, hd, hiv, ⟨ps, hP, ht⟩, q1⟩ => ?_)
  subst ev
  obtain rfl : u = Value.ref d := r1
  obtain ⟨z, hm0, xs, rel, o, es, ep, ho, hx, hdat, hes, his, hn⟩ := dt_of I1.hok hd
  have raw : s1.heap.DictRaw d es ep := ⟨o, ho, hx, hdat⟩
  refine ⟨raw.typeIs, fun a e => by cases e; exact ⟨o, ho, hx.2.1⟩, ?_⟩
  show wpAny _ _ (callWith cpos (.builtin "dict.values") [.ref d] [] []) _ X.xe s1
  refine method_meetsIn F.slot_dict_values F.entry_dict_values rfl (PySem.evalArgs_none ⟨rfl, raw.typeIs, F.args_dict_values_1 _, _, meets_dict_values_raw d hm0, ⟨es, ep, raw⟩, ?_⟩)
  refine wpAny_pyIter_values_raw ⟨_, Heap.get?_push_size _ rfl, rfl, rfl⟩ (raw.at fun o e => Heap.get?_push_of_some _ e) ?_
  generalize hva : s1.heap.push { cls := .type "dict_values", data := .fields #[.ref d] } = hv
  have kv : ∀ b u, s1.heap.get? b = some u → hv.get? b = some u := fun b u e => by rw [← hva]; exact Heap.get?_push_of_some _ e
  have zv : hv.objs.size = s1.heap.objs.size + 1 := by rw [← hva, Heap.size_push]
  show _ ∧ _
  generalize hio : ({ cls := .type "dict_valueiterator", data := .fields #[.ref d, .int 0 0, .int es.size 0, .int ep 0] } : Obj) = io
  have k2 : ∀ b u, s1.heap.get? b = some u → (hv.push io).get? b = some u := fun b u e => Heap.get?_push_of_some _ (kv b u e)
  have hPs : s1.heap.get? P = some { cls := .none, data := .fields ps } := I1.hok P _ hP
  have hPlt : P < s1.heap.objs.size := Heap.lt_size hPs
  have hdlt : d < s1.heap.objs.size := Heap.lt_size ho
  have hP2 : (hv.push io).get? P = some { cls := .none, data := .fields ps } := k2 _ _ hPs
  have cd : PySem.W.CodeHd (hv.push io) c P := TB.code.keeps fun b u e => k2 b u (I1.bk b u e)
  have lim2 : (hv.push io).NoLimit := I1.nolimit.keeps k2
  have hst : (hv.push io).IsValIter hv.objs.size d 0 es.size ep ∧ (hv.push io).DictRaw d es ep := ⟨⟨_, Heap.get?_push_size _ (by rw [← hio]; rfl), by rw [← hio], by rw [← hio]; rfl⟩, raw.at fun o e => k2 _ _ e⟩
  have W : ∀ A' : Around, A'.handled = none → Walks X.prog X.w A' hv.objs.size [hv.objs.size, d] [hv.objs.size] es.size (fun i v => ∃ hi : i < es.size, v = es[i].val) (fun i h => h.IsValIter hv.objs.size d i es.size ep ∧ h.DictRaw d es ep) :=
    fun A' hA => Walks.rawValues hA _ d (by rw [zv]; exact Nat.ne_of_lt (Nat.lt_succ_of_lt hdlt)) es ep
  have vints : ∀ (i : Nat) (hi : i < es.size), ∃ n t, es[i].val = Value.int n t := fun i hi => by
    have hi' : i < xs.length := by rw [← size_of_entries hes]; exact hi
    have e1 := entry_at hes i
    rw [Array.getElem?_eq_getElem hi, List.getElem?_eq_getElem hi'] at e1
    have e2 := Option.some.inj e1
    obtain ⟨n, t, e3⟩ := kt_int rel hiv xs[i] (List.getElem_mem hi')
    exact ⟨n, t, by rw [e2]; exact e3⟩
  have hall : (es.toList.all fun e => intP pb e.val) = kvs.all fun p => vP pb p.2 := by
    rw [hes, List.all_map, ← all_kt pb rel]
    rfl
  have cont : ∀ (code : Value) (h3 : Heap) (tk : Nat) (ps' : Array Value), Heap.ExtBut P (hv.push io) h3 → (hv.push io).objs.size ≤ h3.objs.size → h3.get? P = some { cls := .none, data := .fields ps' } → (∃ more, ps' = ps ++ more) → TriplesOk ps'.toList →
      wpAny (model X.prog X.w) X.A (builtinsFor X.env.globals X.env.builtins) (fun bi s₄ =>
        ∃ Ia fp wr n₀ Pf St₀ pz F, Value.ref hv.objs.size = .ref Ia ∧ (∀ A' : Around, A'.handled = none → Walks X.prog X.w A' Ia fp wr n₀ Pf St₀) ∧ St₀ 0 s₄.heap ∧ (∀ b ∈ fp, b < s₄.heap.objs.size) ∧ s₄.heap.NoLimit ∧ cStatics ∉ wr ∧
          (∀ href : Heap, (∀ b o, s₄.heap.get? b = some o → href.get? b = some o) →
            QuietGen X.prog X.w (genEnv scope (cloFrom X.env.cells scope.names []) s₄.heap.objs.size code bi X.env) x [] elt (List.range s₄.heap.objs.size) wr Pf pz F href) ∧
          (∀ a h₅ tk gs, gs.bare = true → s₄.heap.objs.size < a → h₅.objs.size = a + 1 → (∀ b o, s₄.heap.get? b = some o → h₅.get? b = some o) →
            WalksS X.prog X.w X.A.in4 a (a :: s₄.heap.objs.size :: List.range s₄.heap.objs.size) (s₄.heap.objs.size :: wr) (GenOnlyQ s₄.gens.size) (passing pz n₀ 0).length
              (fun j y => ∃ i, (passing pz n₀ 0)[j]? = some i ∧ F i y) (GenAt X.prog X.w X.A.in4 a s₄.gens.size s₄.heap.objs.size (List.range s₄.heap.objs.size) wr pz n₀ F) →
            GenAt X.prog X.w X.A.in4 a s₄.gens.size s₄.heap.objs.size (List.range s₄.heap.objs.size) wr pz n₀ F 0 { s₄ with gens := s₄.gens.push gs, toks := tk, heap := h₅ } →
            Q' (.ref a) { s₄ with gens := s₄.gens.push gs, toks := tk, heap := h₅ })) X.xe { s1 with heap := h3, toks := tk } := by
    intro code h3 tk ps' hx3 hsz hP3 hmore ht3
    obtain ⟨bm, ob, e1, e2, e3, e4, e5, e6, e7, e8⟩ := TB.bm
    have hcP : cStatics ≠ P := fun e => by
      obtain ⟨_, hns, _⟩ := I1.nolimit
      obtain ⟨o', es', ep', ho', hd', _⟩ := hns
      rw [e, hPs] at ho'
      cases ho'
      cases hd'
    have hcl : cStatics < s1.heap.objs.size := let ⟨_, hns, _⟩ := I1.nolimit; hns.lt
    have sz2 : (hv.push io).objs.size = s1.heap.objs.size + 2 := by rw [Heap.size_push, zv]
    have keep3 : ∀ b u, b ≠ P → s1.heap.get? b = some u → h3.get? b = some u := fun b u hb e => hx3 b u hb (k2 b u e)
    refine wpAny_builtinsFor (m := X.mg) (by rw [I1.ok.glob]; exact (((I1.mod.glob.keeps I1.bk).keeps k2)).extBut hx3 TB.gP) e1 e2 (keep3 _ _ e4 (I1.bk _ _ e5)) e6 e7 e8 ?_
    refine ⟨hv.objs.size, [hv.objs.size, d], [hv.objs.size], es.size, _, _, (fun _ => true), (fun i y => ∃ hi : i < es.size, y = .bool (intP pb es[i].val)), rfl, W, ?_, ?_, lim2.extBut hx3 hcP, ?_, ?_, ?_⟩
    · refine (W X.A hr.hd).frame _ _ _ hst fun b hb u e => hx3 b u (fun z => ?_) e
      rcases List.mem_cons.mp hb with z2 | z2
      · exact (nat1 hPlt zv (z.symm.trans z2)).elim
      · rcases List.mem_cons.mp z2 with z2 | z2
        · rw [z.symm.trans z2, ho] at hPs
          cases hPs
          cases hdat
        · cases z2
    · intro b hb
      rcases List.mem_cons.mp hb with z | z
      · rw [z]
        show hv.objs.size < h3.objs.size
        omega
      · rcases List.mem_cons.mp z with z | z
        · rw [z]
          exact Nat.lt_of_lt_of_le hdlt (show s1.heap.objs.size ≤ h3.objs.size by omega)
        · cases z
    · intro z
      rcases List.mem_cons.mp z with z | z
      · exact (nat1 hcl zv z).elim
      · cases z
    · intro href hhref
      refine ⟨fun A' E' i v s₂ m₂ hA hPv hn hm hk => ?_, fun A' E' i v s₂ m₂ hA hPv hp hn hm hk => ?_⟩
      · simp only [List.forIn_nil]
        exact wpAny_pure ⟨rfl, keeps_refl _⟩
      · obtain ⟨hi', rfl⟩ := hPv
        obtain ⟨n, t, e⟩ := vints i hi'
        rw [e] at hm
        exact wpAny_mono (hel _ A' E' n t s₂ m₂ rfl hn hm) (fun y s3 r => ⟨⟨hi', by rw [r.1, e]; rfl⟩, r.2⟩) fun _ _ e => e
    · intro g h5 tk5 gs hgb hag hsz5 hk5 W5 hat
      simp only [GxR.passing_true, List.length_range] at W5
      refine hQ kvs H1 es g _ q1 hall ⟨_, _, _, _, _, W5.in4_1, hat, ?_, fun s' hmv => ?_⟩
      · intro j y sj Qj Ej hy hQj
        obtain ⟨i, hij, hi', rfl⟩ := hy
        obtain ⟨hj, ej⟩ := List.getElem?_eq_some_iff.mp hij
        rw [List.getElem_range] at ej
        subst ej
        have hQ2 : Qj (trE pb es j) sj := hQj
        unfold trE at hQ2
        rw [Array.getElem?_eq_getElem hi'] at hQ2
        exact wpAny_truthy_bool hQ2
      · obtain ⟨more, em⟩ := hmore
        have nwr : ∀ b u, s1.heap.get? b = some u → b ∉ h3.objs.size :: [hv.objs.size] := fun b u e hb => by
          have hl := Heap.lt_size e
          rcases List.mem_cons.mp hb with z | z
          · exact (nat2 hl (by omega) z).elim
          · rcases List.mem_cons.mp z with z | z
            · exact (nat1 hl zv z).elim
            · cases z
        have J := inv_tab (more := more) (h' := s'.heap) (g' := s'.gens) (d' := s'.drawn) (t' := s'.toks) I1 hP (fun b u hb e => hmv.heap b u (nwr b u e) (hk5 b u (keep3 b u hb e)))
          (by rw [← em]; exact hmv.heap P _ (nwr P _ hPs) (hk5 P _ hP3)) (AllBare.movedS (I1.bare.push hgb) hmv)
        rw [sh_eta s1 s' hmv.os] at J
        exact ⟨upd H1 P (.tbl (ps ++ more)), ⟨⟨ps ++ more, upd_same, by rw [← em]; exact ht3⟩, fun b hb => upd_ne hb⟩, J⟩
  refine ⟨lim2, ?_⟩
  cases hf : codeAmong gpos ps.toList with
  | none =>
    refine wpAny_genexprCodeX hcode (cd.code hP2 ht) (cd.tab hP2) hf fun c' h' tk hx3 hge hlt hco' _ htab' _ => ?_
    obtain ⟨o1, vs, f1, tf, fl, tg, inF, tx, tt, op, _, _, _, _, _, _, _, _, _, htr, _⟩ := hco'
    exact cont _ h' tk _ hx3 (Nat.le_trans hge (Nat.le_of_lt hlt)) htab'.2 ⟨_, rfl⟩ htr
  | some cv =>
    refine wpAny_genexprCode_hit hcode (cd.code hP2 ht) hf ?_
    exact cont cv (hv.push io) s1.toks ps (Heap.ExtBut.refl _ _) (Nat.le_refl _) hP2 ⟨#[], by simp⟩ ht
def tAllV (P : Addr) (pb : Int → Bool) (te : TE) : TE := fun σ H Q => te σ H fun v H1 => ∃ (d : Addr) (kvs : List (List Key × V)), v = .ref d ∧ H1 d = some (.dT kvs) ∧ IntVals kvs ∧ TabG H1 P ∧ ∀ H2, Tabbed P H1 H2 → Q (.bl (kvs.all fun p => vP pb p.2)) H2
theorem pe_allV {c P : Addr} {elt e : Expr} {x : Str} {px p pos gpos apos cpos : Pos} {scope : Scope} {pb : Int → Bool} {te : TE} {k : Nat}
    (hr : Room k X.A) (hg : Gl X "all") (hm : X.mg "all" = none) (TB : TabB X.base X.mg c P) (hcode : X.env.code = .ref c) (S : GenS X.env scope x) (hi : PE X e te) (hel : EltI X.prog X.w scope x elt pb)
    (hbase : attributeBase e "values" X.env (eval e X.env) = eval e X.env := by rfl) (hline : (apos.endLine == cpos.line) = true := by rfl)
    (hs : ∀ v, genFold (.Call (.Attribute e "values" apos) [] [] cpos) X.env v = pure v := by intro _; rfl)
    (he : starEach [.GeneratorExp elt [⟨.Name x px, .Call (.Attribute e "values" apos) [] [] cpos, [], 0⟩] scope gpos] X.env = (false, eval (.GeneratorExp elt [⟨.Name x px, .Call (.Attribute e "values" apos) [] [] cpos, [], 0⟩] scope gpos) X.env) :: starEach [] X.env := by rfl) :
    PE X (.Call (.Name "all" p) [.GeneratorExp elt [⟨.Name x px, .Call (.Attribute e "values" apos) [] [] cpos, [], 0⟩] scope gpos] [] pos) (tAllV P pb te) := by
  refine ⟨fun pins s σ H Q I h => ?_⟩
  refine wpAny_Call_Name_kw (ld_blt I hg hm boot_all ?_)
  refine PyProof.Rows.callWith_builtin1 ?_ he (by rfl)
  rw [he]
  show wpAny _ _ (spliced ((false, eval (.GeneratorExp elt [⟨.Name x px, .Call (.Attribute e "values" apos) [] [] cpos, [], 0⟩] scope gpos) X.env) :: backTo pos (starEach [] X.env))) _ _ s
  refine Calls.spliced_cons (gen_vals (R := fun kvs H1 => ∀ H2, Tabbed P H1 H2 → Q (.bl (kvs.all fun p => vP pb p.2)) H2) hr TB hcode S hi hel hbase hline hs I h fun kvs H1 es g s5 hR hal hG => ?_)
  obtain ⟨fp, wr, G, F, St, W, hst, htr, hI⟩ := hG
  refine Calls.spliced_nil ?_
  refine call_all_walkS (W.self 0 _ _ _ hst ⟨g, fp, wr, G, _, F, St, _, rfl, W, hst, htr, fun s' hmv => ?_⟩)
  obtain ⟨H2, hT, J⟩ := hI s' hmv
  refine ⟨.bl _, H2, J, rfl, ?_⟩
  rw [all_trE pb es, hal]
  exact hR H2 hT
end
end KH
set_option Elab.async false
set_option linter.all false
set_option maxRecDepth 100000
set_option maxHeartbeats 4000000
namespace KH
open PySem PySem.Spec PyProof.Rows PySem.Calls L2 KB GxR
def TabbedS (P : Addr) (q : Str) (H H' : Hp) : Prop := LamX.TabS H' P q ∧ ∀ b o, b ≠ P → H b = some o → H' b = some o
theorem ltN {a n s h : Nat} (h1 : n ≤ a) (h2 : n = s + 2) (h3 : h = s + 1) (z : a = h) : False := by omega
section
variable {X : Cx} {pins : List (Addr × Obj)} {σ : L2.St} {H : Hp} {s : Shared}
def ReadyS (X : Cx) (pins : List (Addr × Obj)) (σ : L2.St) (H1 : Hp) (P : Addr) (q : Str) (es : Array DictEntry) (pb : Int → Bool) (g : Addr) (s5 : Shared) : Prop :=
  ∃ (fp wr : List Addr) (G : Array GenState → Array GenState → Prop) (F : Nat → Value → Prop) (St : Nat → Shared → Prop),
    WalksS X.prog X.w X.A.in1 g fp wr G es.size F St ∧ St 0 s5 ∧ TruthOf X.prog X.w X.A.in1 F (trE pb es) ∧ ∀ s', Moved wr G s5 s' → ∃ H2, TabbedS P q H1 H2 ∧ Inv X pins σ H2 s'
theorem gen_valsS {c P : Addr} {q : Str} {elt e : Expr} {x : Str} {px gpos apos cpos : Pos} {scope : Scope} {pb : Int → Bool} {te : TE} {k : Nat} {Q' : Value → Shared → Prop} {R : List (List Key × V) → Hp → Prop}
    (hq : X.env.qual ++ Str.ofString "<genexpr>" = q) (hr : Room k X.A) (TB : TabB X.base X.mg c P) (hcode : X.env.code = .ref c) (S : GenS X.env scope x) (hi : PE X e te) (hel : EltI X.prog X.w scope x elt pb)
    (hbase : attributeBase e "values" X.env (eval e X.env) = eval e X.env) (hline : (apos.endLine == cpos.line) = true)
    (hs : ∀ v, genFold (.Call (.Attribute e "values" apos) [] [] cpos) X.env v = pure v) (I : Inv X pins σ H s) (h : te σ H fun v H1 => ∃ (d : Addr) (kvs : List (List Key × V)), v = .ref d ∧ H1 d = some (.dT kvs) ∧ IntVals kvs ∧ LamX.TabS H1 P q ∧ R kvs H1)
    (hQ : ∀ kvs H1 es g s5, R kvs H1 → (es.toList.all fun e => intP pb e.val) = (kvs.all fun p => vP pb p.2) → ReadyS X pins σ H1 P q es pb g s5 → Q' (.ref g) s5) :
    wpAny (model X.prog X.w) X.A (eval (.GeneratorExp elt [⟨.Name x px, .Call (.Attribute e "values" apos) [] [] cpos, [], 0⟩] scope gpos) X.env) Q' X.xe s := by
  refine wpAny_GeneratorExp_walksQ hr.hd S.co (closure_ok S.free) S.cell S.dot S.loc S.kind (by have := hr.dp; omega) ?_ hs
  refine wpAny_Call_method (T := "dict") (id := "dict.values") hbase rfl hline F.plainAttrs_dict F.slot_dict_values F.type_dict_values (thn (hi.run pins s σ H _ I h) fun u s1 ⟨v, H1, I1, r1, d, kvs, ev, hd, hiv, ⟨ps, hP, ht, ha⟩, q1⟩ => ?_)
  subst ev
  obtain rfl : u = Value.ref d := r1
  obtain ⟨z, hm0, xs, rel, o, es, ep, ho, hx, hdat, hes, his, hn⟩ := dt_of I1.hok hd
  have raw : s1.heap.DictRaw d es ep := ⟨o, ho, hx, hdat⟩
  refine ⟨raw.typeIs, fun a e => by cases e; exact ⟨o, ho, hx.2.1⟩, ?_⟩
  show wpAny _ _ (callWith cpos (.builtin "dict.values") [.ref d] [] []) _ X.xe s1
  refine method_meetsIn F.slot_dict_values F.entry_dict_values rfl (PySem.evalArgs_none ⟨rfl, raw.typeIs, F.args_dict_values_1 _, _, meets_dict_values_raw d hm0, ⟨es, ep, raw⟩, ?_⟩)
  refine wpAny_pyIter_values_raw ⟨_, Heap.get?_push_size _ rfl, rfl, rfl⟩ (raw.at fun o e => Heap.get?_push_of_some _ e) ?_
  generalize hva : s1.heap.push { cls := .type "dict_values", data := .fields #[.ref d] } = hv
  have kv : ∀ b u, s1.heap.get? b = some u → hv.get? b = some u := fun b u e => by rw [← hva]; exact Heap.get?_push_of_some _ e
  have zv : hv.objs.size = s1.heap.objs.size + 1 := by rw [← hva, Heap.size_push]
  show _ ∧ _
  generalize hio : ({ cls := .type "dict_valueiterator", data := .fields #[.ref d, .int 0 0, .int es.size 0, .int ep 0] } : Obj) = io
  have k2 : ∀ b u, s1.heap.get? b = some u → (hv.push io).get? b = some u := fun b u e => Heap.get?_push_of_some _ (kv b u e)
  have hPs : s1.heap.get? P = some { cls := .none, data := .fields ps } := I1.hok P _ hP
  have hPlt : P < s1.heap.objs.size := Heap.lt_size hPs
  have hdlt : d < s1.heap.objs.size := Heap.lt_size ho
  have hP2 : (hv.push io).get? P = some { cls := .none, data := .fields ps } := k2 _ _ hPs
  have cd : PySem.W.CodeHd (hv.push io) c P := TB.code.keeps fun b u e => k2 b u (I1.bk b u e)
  have lim2 : (hv.push io).NoLimit := I1.nolimit.keeps k2
  have hst : (hv.push io).IsValIter hv.objs.size d 0 es.size ep ∧ (hv.push io).DictRaw d es ep := ⟨⟨_, Heap.get?_push_size _ (by rw [← hio]; rfl), by rw [← hio], by rw [← hio]; rfl⟩, raw.at fun o e => k2 _ _ e⟩
  have W : ∀ A' : Around, A'.handled = none → Walks X.prog X.w A' hv.objs.size [hv.objs.size, d] [hv.objs.size] es.size (fun i v => ∃ hi : i < es.size, v = es[i].val) (fun i h => h.IsValIter hv.objs.size d i es.size ep ∧ h.DictRaw d es ep) :=
    fun A' hA => Walks.rawValues hA _ d (by rw [zv]; exact Nat.ne_of_lt (Nat.lt_succ_of_lt hdlt)) es ep
  have vints : ∀ (i : Nat) (hi : i < es.size), ∃ n t, es[i].val = Value.int n t := fun i hi => by
    have hi' : i < xs.length := by rw [← size_of_entries hes]; exact hi
    have e1 := entry_at hes i
    rw [Array.getElem?_eq_getElem hi, List.getElem?_eq_getElem hi'] at e1
    have e2 := Option.some.inj e1
    obtain ⟨n, t, e3⟩ := kt_int rel hiv xs[i] (List.getElem_mem hi')
    exact ⟨n, t, by rw [e2]; exact e3⟩
  have hall : (es.toList.all fun e => intP pb e.val) = kvs.all fun p => vP pb p.2 := by
    rw [hes, List.all_map, ← all_kt pb rel]
    rfl
  have cont : ∀ (code : Value) (h3 : Heap) (tk : Nat) (ps' : Array Value), Heap.ExtBut P (hv.push io) h3 → (hv.push io).objs.size ≤ h3.objs.size → h3.get? P = some { cls := .none, data := .fields ps' } → (∃ more, ps' = ps ++ more) → TriplesOk ps'.toList → ∀ co : Option Addr, (∀ pos' cv, codeAmong pos' ps'.toList = some cv → codeAmong pos' ps.toList = some cv ∨ ∃ c', co = some c' ∧ cv = .ref c') → (∀ c', co = some c' → (hv.push io).objs.size ≤ c' ∧ c' < h3.objs.size ∧ h3.CodeRec (.ref c') q) →
      wpAny (model X.prog X.w) X.A (builtinsFor X.env.globals X.env.builtins) (fun bi s₄ =>
        ∃ Ia fp wr n₀ Pf St₀ pz F, Value.ref hv.objs.size = .ref Ia ∧ (∀ A' : Around, A'.handled = none → Walks X.prog X.w A' Ia fp wr n₀ Pf St₀) ∧ St₀ 0 s₄.heap ∧ (∀ b ∈ fp, b < s₄.heap.objs.size) ∧ s₄.heap.NoLimit ∧ cStatics ∉ wr ∧
          (∀ href : Heap, (∀ b o, s₄.heap.get? b = some o → href.get? b = some o) →
            QuietGen X.prog X.w (genEnv scope (cloFrom X.env.cells scope.names []) s₄.heap.objs.size code bi X.env) x [] elt (List.range s₄.heap.objs.size) wr Pf pz F href) ∧
          (∀ a h₅ tk gs, gs.bare = true → s₄.heap.objs.size < a → h₅.objs.size = a + 1 → (∀ b o, s₄.heap.get? b = some o → h₅.get? b = some o) →
            WalksS X.prog X.w X.A.in4 a (a :: s₄.heap.objs.size :: List.range s₄.heap.objs.size) (s₄.heap.objs.size :: wr) (GenOnlyQ s₄.gens.size) (passing pz n₀ 0).length
              (fun j y => ∃ i, (passing pz n₀ 0)[j]? = some i ∧ F i y) (GenAt X.prog X.w X.A.in4 a s₄.gens.size s₄.heap.objs.size (List.range s₄.heap.objs.size) wr pz n₀ F) →
            GenAt X.prog X.w X.A.in4 a s₄.gens.size s₄.heap.objs.size (List.range s₄.heap.objs.size) wr pz n₀ F 0 { s₄ with gens := s₄.gens.push gs, toks := tk, heap := h₅ } →
            Q' (.ref a) { s₄ with gens := s₄.gens.push gs, toks := tk, heap := h₅ })) X.xe { s1 with heap := h3, toks := tk } := by
    intro code h3 tk ps' hx3 hsz hP3 hmore ht3 co hnew hco
    obtain ⟨bm, ob, e1, e2, e3, e4, e5, e6, e7, e8⟩ := TB.bm
    have hcP : cStatics ≠ P := fun e => by
      obtain ⟨_, hns, _⟩ := I1.nolimit
      obtain ⟨o', es', ep', ho', hd', _⟩ := hns
      rw [e, hPs] at ho'
      cases ho'
      cases hd'
    have hcl : cStatics < s1.heap.objs.size := let ⟨_, hns, _⟩ := I1.nolimit; hns.lt
    have sz2 : (hv.push io).objs.size = s1.heap.objs.size + 2 := by rw [Heap.size_push, zv]
    have keep3 : ∀ b u, b ≠ P → s1.heap.get? b = some u → h3.get? b = some u := fun b u hb e => hx3 b u hb (k2 b u e)
    refine wpAny_builtinsFor (m := X.mg) (by rw [I1.ok.glob]; exact (((I1.mod.glob.keeps I1.bk).keeps k2)).extBut hx3 TB.gP) e1 e2 (keep3 _ _ e4 (I1.bk _ _ e5)) e6 e7 e8 ?_
    refine ⟨hv.objs.size, [hv.objs.size, d], [hv.objs.size], es.size, _, _, (fun _ => true), (fun i y => ∃ hi : i < es.size, y = .bool (intP pb es[i].val)), rfl, W, ?_, ?_, lim2.extBut hx3 hcP, ?_, ?_, ?_⟩
    · refine (W X.A hr.hd).frame _ _ _ hst fun b hb u e => hx3 b u (fun z => ?_) e
      rcases List.mem_cons.mp hb with z2 | z2
      · exact (nat1 hPlt zv (z.symm.trans z2)).elim
      · rcases List.mem_cons.mp z2 with z2 | z2
        · rw [z.symm.trans z2, ho] at hPs
          cases hPs
          cases hdat
        · cases z2
    · intro b hb
      rcases List.mem_cons.mp hb with z | z
      · rw [z]
        show hv.objs.size < h3.objs.size
        omega
      · rcases List.mem_cons.mp z with z | z
        · rw [z]
          exact Nat.lt_of_lt_of_le hdlt (show s1.heap.objs.size ≤ h3.objs.size by omega)
        · cases z
    · intro z
      rcases List.mem_cons.mp z with z | z
      · exact (nat1 hcl zv z).elim
      · cases z
    · intro href hhref
      refine ⟨fun A' E' i v s₂ m₂ hA hPv hn hm hk => ?_, fun A' E' i v s₂ m₂ hA hPv hp hn hm hk => ?_⟩
      · simp only [List.forIn_nil]
        exact wpAny_pure ⟨rfl, keeps_refl _⟩
      · obtain ⟨hi', rfl⟩ := hPv
        obtain ⟨n, t, e⟩ := vints i hi'
        rw [e] at hm
        exact wpAny_mono (hel _ A' E' n t s₂ m₂ rfl hn hm) (fun y s3 r => ⟨⟨hi', by rw [r.1, e]; rfl⟩, r.2⟩) fun _ _ e => e
    · intro g h5 tk5 gs hgb hag hsz5 hk5 W5 hat
      simp only [GxR.passing_true, List.length_range] at W5
      refine hQ kvs H1 es g _ q1 hall ⟨_, _, _, _, _, W5.in4_1, hat, ?_, fun s' hmv => ?_⟩
      · intro j y sj Qj Ej hy hQj
        obtain ⟨i, hij, hi', rfl⟩ := hy
        obtain ⟨hj, ej⟩ := List.getElem?_eq_some_iff.mp hij
        rw [List.getElem_range] at ej
        subst ej
        have hQ2 : Qj (trE pb es j) sj := hQj
        unfold trE at hQ2
        rw [Array.getElem?_eq_getElem hi'] at hQ2
        exact wpAny_truthy_bool hQ2
      · obtain ⟨more, em⟩ := hmore
        have nwr : ∀ b u, s1.heap.get? b = some u → b ∉ h3.objs.size :: [hv.objs.size] := fun b u e hb => by
          have hl := Heap.lt_size e
          rcases List.mem_cons.mp hb with z | z
          · exact (nat2 hl (by omega) z).elim
          · rcases List.mem_cons.mp z with z | z
            · exact (nat1 hl zv z).elim
            · cases z
        have J := inv_tab (more := more) (h' := s'.heap) (g' := s'.gens) (d' := s'.drawn) (t' := s'.toks) I1 hP (fun b u hb e => hmv.heap b u (nwr b u e) (hk5 b u (keep3 b u hb e)))
          (by rw [← em]; exact hmv.heap P _ (nwr P _ hPs) (hk5 P _ hP3)) (AllBare.movedS (I1.bare.push hgb) hmv)
        rw [sh_eta s1 s' hmv.os] at J
        cases co with
        | none =>
          refine ⟨upd H1 P (.tbl (ps ++ more)), ⟨⟨ps ++ more, upd_same, by rw [← em]; exact ht3, fun pos' cv hcv => ?_⟩, fun b o hb e => by rw [upd_ne hb]; exact e⟩, J⟩
          rw [← em] at hcv
          rcases hnew pos' cv hcv with z | ⟨c', z, _⟩
          · obtain ⟨c0, e1, e2⟩ := ha pos' cv z
            exact ⟨c0, e1, by rw [upd_ne (fun z => by rw [z, hP] at e2; cases e2)]; exact e2⟩
          · cases z
        | some c' =>
          obtain ⟨hge, hlt, cr⟩ := hco c' rfl
          obtain ⟨c2, oc, vs, t, e2, hoc, hd2, hv2⟩ := id cr
          cases e2
          have hge1 : s1.heap.objs.size ≤ c' := by omega
          have nC : H1 c' = none := I1.hok.fresh hge1
          have nPc : P ≠ c' := ne_of_none hP nC
          have nw : c' ∉ h3.objs.size :: [hv.objs.size] := fun z => by
            rcases List.mem_cons.mp z with z | z
            · exact Nat.lt_irrefl _ (z ▸ hlt)
            · rcases List.mem_cons.mp z with z | z
              · exact ltN hge sz2 zv z
              · cases z
          have ho' : s'.heap.get? c' = some oc := hmv.heap c' _ nw (hk5 c' _ hoc)
          have nC2 : upd H1 P (.tbl (ps ++ more)) c' = none := by rw [upd_ne nPc.symm]; exact nC
          have J2 : Inv X pins σ (upd (upd H1 P (.tbl (ps ++ more))) c' (LamX.CodeO c' q)) s' := J.take (h' := s'.heap) (t' := s'.toks) (fun b ob _ e => e) (I1.fpOk hge1 nC2)
            (show ObjOk X.prog X.w _ s'.heap c' (LamX.CodeO c' q) from ⟨⟨oc, vs, t, ho', hd2, hv2⟩, ⟨_, ho'⟩, fun h1 h2 ⟨o1, v1, t1, z1, z2, z3⟩ k => ⟨o1, v1, t1, k _ z1, z2, z3⟩⟩)
          refine ⟨_, ⟨⟨ps ++ more, by rw [upd_ne nPc, upd_same], by rw [← em]; exact ht3, fun pos' cv hcv => ?_⟩, fun b o hb e => by rw [upd_ne (ne_of_none e nC), upd_ne hb]; exact e⟩, J2⟩
          rw [← em] at hcv
          rcases hnew pos' cv hcv with z | ⟨c3, z, e3⟩
          · obtain ⟨c0, e1, e2⟩ := ha pos' cv z
            exact ⟨c0, e1, by rw [upd_ne (ne_of_none e2 nC), upd_ne (fun z => by rw [z, hP] at e2; cases e2)]; exact e2⟩
          · cases z
            exact ⟨c', e3, upd_same⟩
  refine ⟨lim2, ?_⟩
  cases hf : codeAmong gpos ps.toList with
  | none =>
    refine wpAny_genexprCodeX hcode (cd.code hP2 ht) (cd.tab hP2) hf fun c' h' tk hx3 hge hlt hco' hrec' htab' _ => ?_
    obtain ⟨o1, vs, f1, tf, fl, tg, inF, tx, tt, op, _, _, _, _, _, _, _, _, _, htr, _⟩ := hco'
    have eL : (ps ++ #[rawInt gpos.line, rawInt gpos.col, .ref c']).toList = ps.toList ++ [rawInt gpos.line, rawInt gpos.col, .ref c'] := by simp
    refine cont _ h' tk _ hx3 (Nat.le_trans hge (Nat.le_of_lt hlt)) htab'.2 ⟨_, rfl⟩ htr (some c') (fun pos' cv hcv => ?_) (fun c3 e => ?_)
    · rw [eL] at hcv
      rcases LamX.among_app _ ht hcv with z | z
      · exact .inl z
      · exact .inr ⟨c', rfl, z⟩
    · cases e
      exact ⟨hge, hlt, hq ▸ hrec'⟩
  | some cv =>
    refine wpAny_genexprCode_hit hcode (cd.code hP2 ht) hf ?_
    exact cont cv (hv.push io) s1.toks ps (Heap.ExtBut.refl _ _) (Nat.le_refl _) hP2 ⟨#[], by simp⟩ ht none (fun _ _ z => .inl z) (fun _ e => nomatch e)
def tAllS (P : Addr) (q : Str) (pb : Int → Bool) (te : TE) : TE := fun σ H Q => te σ H fun v H1 => ∃ (d : Addr) (kvs : List (List Key × V)), v = .ref d ∧ H1 d = some (.dT kvs) ∧ IntVals kvs ∧ LamX.TabS H1 P q ∧ ∀ H2, TabbedS P q H1 H2 → Q (.bl (kvs.all fun p => vP pb p.2)) H2
theorem pe_allS {c P : Addr} {elt e : Expr} {x : Str} {px p pos gpos apos cpos : Pos} {scope : Scope} {pb : Int → Bool} {te : TE} {k : Nat}
    (hq : X.env.qual ++ Str.ofString "<genexpr>" = q) (hr : Room k X.A) (hg : Gl X "all") (hm : X.mg "all" = none) (TB : TabB X.base X.mg c P) (hcode : X.env.code = .ref c) (S : GenS X.env scope x) (hi : PE X e te) (hel : EltI X.prog X.w scope x elt pb)
    (hbase : attributeBase e "values" X.env (eval e X.env) = eval e X.env := by rfl) (hline : (apos.endLine == cpos.line) = true := by rfl)
    (hs : ∀ v, genFold (.Call (.Attribute e "values" apos) [] [] cpos) X.env v = pure v := by intro _; rfl)
    (he : starEach [.GeneratorExp elt [⟨.Name x px, .Call (.Attribute e "values" apos) [] [] cpos, [], 0⟩] scope gpos] X.env = (false, eval (.GeneratorExp elt [⟨.Name x px, .Call (.Attribute e "values" apos) [] [] cpos, [], 0⟩] scope gpos) X.env) :: starEach [] X.env := by rfl) :
    PE X (.Call (.Name "all" p) [.GeneratorExp elt [⟨.Name x px, .Call (.Attribute e "values" apos) [] [] cpos, [], 0⟩] scope gpos] [] pos) (tAllS P q pb te) := by
  refine ⟨fun pins s σ H Q I h => ?_⟩
  refine wpAny_Call_Name_kw (ld_blt I hg hm boot_all ?_)
  refine PyProof.Rows.callWith_builtin1 ?_ he (by rfl)
  rw [he]
  show wpAny _ _ (spliced ((false, eval (.GeneratorExp elt [⟨.Name x px, .Call (.Attribute e "values" apos) [] [] cpos, [], 0⟩] scope gpos) X.env) :: backTo pos (starEach [] X.env))) _ _ s
  refine Calls.spliced_cons (gen_valsS (R := fun kvs H1 => ∀ H2, TabbedS P q H1 H2 → Q (.bl (kvs.all fun p => vP pb p.2)) H2) hq hr TB hcode S hi hel hbase hline hs I h fun kvs H1 es g s5 hR hal hG => ?_)
  obtain ⟨fp, wr, G, F, St, W, hst, htr, hI⟩ := hG
  refine Calls.spliced_nil ?_
  refine call_all_walkS (W.self 0 _ _ _ hst ⟨g, fp, wr, G, _, F, St, _, rfl, W, hst, htr, fun s' hmv => ?_⟩)
  obtain ⟨H2, hT, J⟩ := hI s' hmv
  refine ⟨.bl _, H2, J, rfl, ?_⟩
  rw [all_trE pb es, hal]
  exact hR H2 hT
end
end KH
set_option Elab.async false
set_option linter.all false
set_option maxRecDepth 100000
set_option maxHeartbeats 4000000
namespace GS
open PySem PySem.Spec PyProof.Rows PySem.Calls L2 KB GxR KH
def ReadyG (X : Cx) (pins : List (Addr × Obj)) (σ : L2.St) (H1 : Hp) (P : Addr) (q : Str) (n : Nat) (tr : Nat → Bool) (g : Addr) (s5 : Shared) : Prop :=
  ∃ (fp wr : List Addr) (G : Array GenState → Array GenState → Prop) (F : Nat → Value → Prop) (St : Nat → Shared → Prop),
    WalksS X.prog X.w X.A.in1 g fp wr G n F St ∧ St 0 s5 ∧ TruthOf X.prog X.w X.A.in1 F tr ∧ ∀ s', Moved wr G s5 s' → ∃ H2, TabbedS P q H1 H2 ∧ Inv X pins σ H2 s'
def EltG (prog : Program) (w : World) (mg : Str → Option Value) (scope : Scope) (x : Str) (elt : Expr) (Pv : Nat → Value → Prop) (tr : Nat → Bool) : Prop :=
  ∀ (cenv : PySem.Env) (A' : Around) (E' : Value → Shared → Prop) (i : Nat) (v : Value) (s₂ : Shared) (m₂ : Str → Option Value), cenv.scope = scope → cenv.globals = mainGlobals → A'.handled = none → s₂.heap.Ns mainGlobals mg → Pv i v → s₂.heap.Ns cenv.locals m₂ → m₂ x = some v →
    wpAny (model prog w) A' (eval elt cenv) (fun y s₃ => y = .bool (tr i) ∧ Keeps s₂ s₃) E' s₂
structure Src (X : Cx) (pins : List (Addr × Obj)) (σ : L2.St) (P : Addr) (q : Str) (x : Str) (elt : Expr) (scope : Scope) (Q' : Value → Shared → Prop) (it : Value) (sb : Shared) (s1 : Shared) (H1 : Hp) (J : Addr) (fp wr : List Addr) (n : Nat) (Pv : Nat → Value → Prop) (St : Nat → Heap → Prop) (tr : Nat → Bool) : Prop where
  it : it = .ref J
  inv : Inv X pins σ H1 s1
  same : sb = { s1 with heap := sb.heap, toks := sb.toks }
  keep : ∀ b u, s1.heap.get? b = some u → sb.heap.get? b = some u
  size : s1.heap.objs.size ≤ sb.heap.objs.size
  walk : ∀ A' : Around, A'.handled = none → Walks X.prog X.w A' J fp wr n Pv St
  st : St 0 sb.heap
  fps : ∀ b ∈ fp, b < sb.heap.objs.size ∧ b ≠ P
  wrs : ∀ b ∈ wr, s1.heap.objs.size ≤ b
  tab : LamX.TabS H1 P q
  elt : EltG X.prog X.w X.mg scope x elt Pv tr
  next : ∀ g s5, ReadyG X pins σ H1 P q n tr g s5 → Q' (.ref g) s5
theorem lt_or {a b c d : Nat} (h1 : a ≤ b) (h2 : b ≤ c) (h3 : d < a) (e : d = c) : False := by omega
section
variable {X : Cx} {pins : List (Addr × Obj)} {σ : L2.St} {s : Shared}
theorem gen_S {c P : Addr} {q : Str} {elt iter : Expr} {x : Str} {px gpos : Pos} {scope : Scope} {k : Nat} {Q' : Value → Shared → Prop} (hq : X.env.qual ++ Str.ofString "<genexpr>" = q) (hr : Room k X.A) (TB : GxR.TabB X.base X.mg c P) (hcode : X.env.code = .ref c) (S : GenS X.env scope x)
    (hs : ∀ v, genFold iter X.env v = pure v)
    (src : wpAny (model X.prog X.w) X.A (eval iter X.env) (fun xv sa => wpAny (model X.prog X.w) X.A (pyIter xv) (fun it sb => ∃ s1 H1 J fp wr n Pv St tr, Src X pins σ P q x elt scope Q' it sb s1 H1 J fp wr n Pv St tr) X.xe sa) X.xe s) :
    wpAny (model X.prog X.w) X.A (eval (.GeneratorExp elt [⟨.Name x px, iter, [], 0⟩] scope gpos) X.env) Q' X.xe s := by
  refine wpAny_GeneratorExp_walksQ hr.hd S.co (closure_ok S.free) S.cell S.dot S.loc S.kind (by have := hr.dp; omega) (wpAny_mono src (fun xv sa h1 => wpAny_mono h1 (fun it sb h2 => ?_) fun _ _ e => e) fun _ _ e => e) hs
  obtain ⟨s1, H1, J, fp, wr, n, Pv, St, tr, Z⟩ := h2
  obtain ⟨ps, hP, ht, ha⟩ := Z.tab
  obtain ⟨hb, gb, db, kb, ob⟩ := sb
  have sm := Z.same
  have I1 := Z.inv
  have hPs : s1.heap.get? P = some { cls := .none, data := .fields ps } := I1.hok P _ hP
  have hPlt : P < s1.heap.objs.size := Heap.lt_size hPs
  have hP2 : hb.get? P = some { cls := .none, data := .fields ps } := Z.keep _ _ hPs
  have cd : PySem.W.CodeHd hb c P := TB.code.keeps fun b u e => Z.keep b u (I1.bk b u e)
  have lim2 : hb.NoLimit := I1.nolimit.keeps Z.keep
  rw [sm]
  refine ⟨lim2, ?_⟩
  have hsz2 : s1.heap.objs.size ≤ hb.objs.size := Z.size
  have cst : cStatics < s1.heap.objs.size := let ⟨_, hns, _⟩ := I1.nolimit; hns.lt
  have goOn : ∀ (code : Value) (h3 : Heap) (tk : Nat) (more : Array Value), Heap.ExtBut P hb h3 → hb.objs.size ≤ h3.objs.size → h3.get? P = some { cls := .none, data := .fields (ps ++ more) } → TriplesOk (ps ++ more).toList →
      ∀ co : Option Addr, (∀ p' cv, codeAmong p' (ps ++ more).toList = some cv → codeAmong p' ps.toList = some cv ∨ ∃ c', co = some c' ∧ cv = .ref c') → (∀ c', co = some c' → hb.objs.size ≤ c' ∧ c' < h3.objs.size ∧ h3.CodeRec (.ref c') q) →
      wpAny (model X.prog X.w) X.A (builtinsFor X.env.globals X.env.builtins) (fun bi s₄ => ∃ I fp wr n₀ P St₀ pz F, it = .ref I ∧ (∀ A' : Around, A'.handled = none → Walks X.prog X.w A' I fp wr n₀ P St₀) ∧ St₀ 0 s₄.heap ∧ (∀ b ∈ fp, b < s₄.heap.objs.size) ∧ s₄.heap.NoLimit ∧ cStatics ∉ wr ∧
          (∀ href : Heap, (∀ b o, s₄.heap.get? b = some o → href.get? b = some o) → QuietGen X.prog X.w (genEnv scope (cloFrom X.env.cells scope.names []) s₄.heap.objs.size code bi X.env) x [] elt (List.range s₄.heap.objs.size) wr P pz F href) ∧
          (∀ a h₅ tk gs, gs.bare = true → s₄.heap.objs.size < a → h₅.objs.size = a + 1 → (∀ b o, s₄.heap.get? b = some o → h₅.get? b = some o) →
            WalksS X.prog X.w X.A.in4 a (a :: s₄.heap.objs.size :: List.range s₄.heap.objs.size) (s₄.heap.objs.size :: wr) (GenOnlyQ s₄.gens.size) (passing pz n₀ 0).length
              (fun j y => ∃ i, (passing pz n₀ 0)[j]? = some i ∧ F i y) (GenAt X.prog X.w X.A.in4 a s₄.gens.size s₄.heap.objs.size (List.range s₄.heap.objs.size) wr pz n₀ F) →
            GenAt X.prog X.w X.A.in4 a s₄.gens.size s₄.heap.objs.size (List.range s₄.heap.objs.size) wr pz n₀ F 0 { s₄ with gens := s₄.gens.push gs, toks := tk, heap := h₅ } →
            Q' (.ref a) { s₄ with gens := s₄.gens.push gs, toks := tk, heap := h₅ })) X.xe { s1 with heap := h3, toks := tk } := by
    intro code h3 tk more hx3 hsz hP3 ht3 co hnew hco
    obtain ⟨bm, bo, e1, e2, e3, e4, e5, e6, e7, e8⟩ := TB.bm
    have hcP : cStatics ≠ P := fun e => by
      obtain ⟨_, hns, _⟩ := I1.nolimit
      obtain ⟨o', es', ep', ho', hd', _⟩ := hns
      rw [e, hPs] at ho'
      cases ho'
      cases hd'
    have keep3 : ∀ b u, b ≠ P → s1.heap.get? b = some u → h3.get? b = some u := fun b u n e => hx3 b u n (Z.keep b u e)
    have nsG : h3.Ns mainGlobals X.mg := ((I1.mod.glob.keeps I1.bk).keeps Z.keep).extBut hx3 TB.gP
    have glt : mainGlobals < s1.heap.objs.size := (I1.mod.glob.keeps I1.bk).lt
    refine wpAny_builtinsFor (m := X.mg) (by rw [I1.ok.glob]; exact (((I1.mod.glob.keeps I1.bk).keeps Z.keep)).extBut hx3 TB.gP) e1 e2 (keep3 _ _ e4 (I1.bk _ _ e5)) e6 e7 e8 ?_
    refine ⟨J, fp, wr, n, Pv, St, (fun _ => true), (fun i y => y = .bool (tr i)), Z.it, Z.walk, (Z.walk X.A hr.hd).frame _ _ _ Z.st fun b hbf u e => hx3 b u (Z.fps b hbf).2 e, fun b hbf => Nat.lt_of_lt_of_le (Z.fps b hbf).1 hsz, lim2.extBut hx3 hcP, fun z => Nat.lt_irrefl _ (Nat.lt_of_lt_of_le cst (Z.wrs _ z)), fun href hhr => ⟨fun A' E' i v s₂ m₂ _ _ _ _ _ => ?_, fun A' E' i v s₂ m₂ hA hPv _ hn hm hk => Z.elt _ A' E' i v s₂ m₂ rfl I1.ok.glob hA (nsG.at fun o e => hk _ (List.mem_range.mpr (Heap.lt_size e)) (fun z => Nat.lt_irrefl _ (Nat.lt_of_lt_of_le glt (Z.wrs _ z))) _ (hhr _ _ e)) hPv hn hm⟩, ?_⟩
    · simp only [List.forIn_nil]
      exact wpAny_pure ⟨rfl, keeps_refl _⟩
    · intro g h5 tk5 gs hgb hag hsz5 hk5 W5 hat
      simp only [GxR.passing_true, List.length_range] at W5
      refine Z.next g _ ⟨_, _, _, _, _, W5.in4_1, hat, fun j y sj Qj Ej hy hQj => ?_, fun s' hmv => ?_⟩
      · obtain ⟨i, hij, hF⟩ := hy
        obtain ⟨hj, ej⟩ := List.getElem?_eq_some_iff.mp hij
        rw [List.getElem_range] at ej
        have hF' : y = .bool (tr i) := hF
        rw [hF', ← ej]
        exact wpAny_truthy_bool hQj
      · have apart : ∀ b u, s1.heap.get? b = some u → b ∉ h3.objs.size :: wr := fun b u e z => by
          have hl := Heap.lt_size e
          rcases List.mem_cons.mp z with z | z
          · exact lt_or hsz2 hsz hl z
          · exact Nat.lt_irrefl _ (Nat.lt_of_lt_of_le hl (Z.wrs _ z))
        have JJ := inv_tab (more := more) (h' := s'.heap) (g' := s'.gens) (d' := s'.drawn) (t' := s'.toks) I1 hP (fun b u n e => hmv.heap b u (apart b u e) (hk5 b u (keep3 b u n e)))
          (hmv.heap P _ (apart P _ hPs) (hk5 P _ hP3)) (AllBare.movedS (I1.bare.push hgb) hmv)
        rw [sh_eta s1 s' hmv.os] at JJ
        cases co with
        | none =>
          refine ⟨_, ⟨⟨ps ++ more, upd_same, ht3, fun p' cv hcv => ?_⟩, fun b o n e => by rw [upd_ne n]; exact e⟩, JJ⟩
          rcases hnew p' cv hcv with z | ⟨c', z, _⟩
          · obtain ⟨c0, y1, y2⟩ := ha p' cv z
            exact ⟨c0, y1, by rw [upd_ne (fun z => by rw [z, hP] at y2; cases y2)]; exact y2⟩
          · cases z
        | some c' =>
          obtain ⟨hge, hlt, cr⟩ := hco c' rfl
          obtain ⟨c2, oc, vs, t, y0, hoc, hd2, hv2⟩ := id cr
          cases y0
          have nC : H1 c' = none := I1.hok.fresh (Nat.le_trans hsz2 hge)
          have nPc : P ≠ c' := ne_of_none hP nC
          have nw : c' ∉ h3.objs.size :: wr := fun z => by
            rcases List.mem_cons.mp z with z | z
            · exact Nat.lt_irrefl _ (z ▸ hlt)
            · exact Nat.lt_irrefl _ (Nat.lt_of_lt_of_le (Z.fps c' ((Z.walk X.A hr.hd).sub c' z)).1 hge)
          have ho' : s'.heap.get? c' = some oc := hmv.heap c' _ nw (hk5 c' _ hoc)
          have nC2 : upd H1 P (.tbl (ps ++ more)) c' = none := by rw [upd_ne nPc.symm]; exact nC
          have J2 := JJ.take (h' := s'.heap) (t' := s'.toks) (o := LamX.CodeO c' q) (fun b ob _ e => e) (I1.fpOk (Nat.le_trans hsz2 hge) nC2)
            (show ObjOk X.prog X.w _ s'.heap c' (LamX.CodeO c' q) from ⟨⟨oc, vs, t, ho', hd2, hv2⟩, ⟨_, ho'⟩, fun k1 k2 ⟨o1, v1, t1, z1, z2, z3⟩ kk => ⟨o1, v1, t1, kk _ z1, z2, z3⟩⟩)
          refine ⟨_, ⟨⟨ps ++ more, by rw [upd_ne nPc, upd_same], ht3, fun p' cv hcv => ?_⟩, fun b o n e => by rw [upd_ne (ne_of_none e nC), upd_ne n]; exact e⟩, J2⟩
          rcases hnew p' cv hcv with z | ⟨c3, z, e3'⟩
          · obtain ⟨c0, y1, y2⟩ := ha p' cv z
            exact ⟨c0, y1, by rw [upd_ne (ne_of_none y2 nC), upd_ne (fun z => by rw [z, hP] at y2; cases y2)]; exact y2⟩
          · cases z
            exact ⟨c', e3', upd_same⟩
  cases hf : codeAmong gpos ps.toList with
  | none =>
    refine wpAny_genexprCodeX hcode (cd.code hP2 ht) (cd.tab hP2) hf fun c' h' tk hx3 hge hlt hco' hrec' htab' _ => ?_
    obtain ⟨o1, vs, f1, tf, fl, tg, inF, tx, tt, op, _, _, _, _, _, _, _, _, _, htr, _⟩ := hco'
    refine goOn _ h' tk _ hx3 (Nat.le_trans hge (Nat.le_of_lt hlt)) htab'.2 htr (some c') (fun p' cv hcv => ?_) fun c3 e => by cases e; exact ⟨hge, hlt, hq ▸ hrec'⟩
    have eL : (ps ++ #[rawInt gpos.line, rawInt gpos.col, .ref c']).toList = ps.toList ++ [rawInt gpos.line, rawInt gpos.col, .ref c'] := by simp
    rw [eL] at hcv
    exact (LamX.among_app _ ht hcv).elim .inl fun z => .inr ⟨c', rfl, z⟩
  | some cv =>
    refine wpAny_genexprCode_hit hcode (cd.code hP2 ht) hf ?_
    have e0 : ps ++ #[] = ps := by simp
    exact goOn cv hb kb #[] (Heap.ExtBut.refl _ _) (Nat.le_refl _) (by rw [e0]; exact hP2) (by rw [e0]; exact ht) none (fun p' v z => by rw [e0] at z; exact .inl z) (fun _ e => nomatch e)
end
end GS
set_option Elab.async false
set_option linter.all false
set_option maxRecDepth 100000
set_option maxHeartbeats 4000000
namespace GS
open PySem PySem.Spec PyProof.Rows PySem.Calls L2 KB GxR KH
theorem elt_notInG {prog : Program} {w : World} {mg : Str → Option Value} {scope : Scope} {x g : Str} {a wd : Str} {tk : Tok} {p1 p2 p3 : Pos} (hk : scope.kind = .function) (hl : scope.names.lookup x = some .local) (hg : scope.names.lookup g = some .globalImplicit) (hm : mg g = some (.str wd tk)) (hd : (x == ("__debug__" : Str)) = false := by decide) (hd2 : (g == ("__debug__" : Str)) = false := by decide) :
    EltG prog w mg scope x (.Compare (.Name x p1) [.NotIn] [.Name g p2] p3) (SignAt a) (trF (fun c => !decide (c ∈ wd.cps.toList)) a.cps.toList) := by
  intro cenv A' E' i v s₂ m₂ hs hgl hA nsG hPv hn hmx
  obtain ⟨c, u, hc, rfl⟩ := hPv
  refine wpAny_Compare1 ?_
  refine wpAny_Name (wpAny_loadName_local (by rw [hs]; exact hk) (show cenv.scope.names.lookup x = some .local by rw [hs]; exact hl) hn hmx ?_) hd
  refine Calls.Name_function_global (by rw [hs]; exact hk) (show cenv.scope.names.lookup g = some .globalImplicit by rw [hs]; exact hg) (Calls.loadGlobal_global (by rw [hgl]; exact nsG) hm ?_) hd2
  refine PyProof.Rows.notIn_str ⟨?_, keeps_tok _ _⟩
  rw [trF_some (b := c) (by rw [Array.getElem?_toList]; exact hc)]
  exact congrArg Value.bool (congrArg Bool.not (PySem.StrLaws.found_one wd c))
section
variable {X : Cx}
def tAnyT (P : Addr) (q : Str) (pb : Nat → Bool) (te : TE) : TE := fun σ H Q => te σ H fun v H1 => ∃ a : Str, v = .str a ∧ LamX.TabS H1 P q ∧ ∀ H2, TabbedS P q H1 H2 → Q (.bl (a.cps.toList.any pb)) H2
theorem pe_anyT {c P : Addr} {q : Str} {elt iter : Expr} {x : Str} {px p pos gpos : Pos} {scope : Scope} {pb : Nat → Bool} {te : TE} {k : Nat}
    (hq : X.env.qual ++ Str.ofString "<genexpr>" = q) (hr : Room k X.A) (hg : Gl X "any") (hm : X.mg "any" = none) (TB : TabB X.base X.mg c P) (hcode : X.env.code = .ref c) (S : GenS X.env scope x) (hi : PE X iter te) (hel : ∀ a : Str, EltG X.prog X.w X.mg scope x elt (SignAt a) (trF pb a.cps.toList))
    (hs : ∀ v, genFold iter X.env v = pure v)
    (he : starEach [.GeneratorExp elt [⟨.Name x px, iter, [], 0⟩] scope gpos] X.env = (false, eval (.GeneratorExp elt [⟨.Name x px, iter, [], 0⟩] scope gpos) X.env) :: starEach [] X.env := by rfl) :
    PE X (.Call (.Name "any" p) [.GeneratorExp elt [⟨.Name x px, iter, [], 0⟩] scope gpos] [] pos) (tAnyT P q pb te) := by
  refine ⟨fun pins s σ H Q I h => ?_⟩
  refine wpAny_Call_Name_kw (ld_blt I hg hm boot_any ?_)
  refine PyProof.Rows.callWith_builtin1 ?_ he (by rfl)
  rw [he]
  show wpAny _ _ (spliced ((false, eval (.GeneratorExp elt [⟨.Name x px, iter, [], 0⟩] scope gpos) X.env) :: backTo pos (starEach [] X.env))) _ _ s
  refine Calls.spliced_cons (gen_S (pins := pins) (σ := σ) hq hr TB hcode S hs (thn (hi.run pins s σ H _ I h) fun xv s1 ⟨v, H1, I1, r1, q1⟩ => ?_))
  obtain ⟨a, rfl, tab, q1⟩ := q1
  obtain ⟨t, rfl⟩ := _root_.id r1
  refine wpAny_pyIter_str fun o St W hst => ?_
  have hPlt : P < s1.heap.objs.size := let ⟨_, e, _⟩ := tab; Heap.lt_size (I1.hok P _ e)
  refine ⟨s1, H1, s1.heap.objs.size, [s1.heap.objs.size], [s1.heap.objs.size], a.cps.size, SignAt a, St, trF pb a.cps.toList, rfl, I1, rfl, fun b u e => Heap.get?_push_of_some _ e, Nat.le_of_lt (by rw [Heap.size_push]; exact Nat.lt_succ_self _), W, hst, fun b hb => ?_, fun b hb => ?_, tab, hel a, fun g s5 hG => ?_⟩
  · rw [List.mem_singleton.mp hb]
    exact ⟨by show _ < (s1.heap.push o).objs.size; rw [Heap.size_push]; exact Nat.lt_succ_self _, fun z => Nat.lt_irrefl _ (z ▸ hPlt)⟩
  · rw [List.mem_singleton.mp hb]
    exact Nat.le_refl _
  · obtain ⟨fp, wr, G, F, St, W, hst, htr, hI⟩ := hG
    refine Calls.spliced_nil ?_
    refine call_any_walkS (W.self 0 _ _ _ hst ⟨g, fp, wr, G, _, F, St, _, rfl, W, hst, htr, fun s' hmv => ?_⟩)
    obtain ⟨H2, hT, J⟩ := hI s' hmv
    refine ⟨.bl _, H2, J, rfl, ?_⟩
    rw [any_signs a pb]
    exact q1 H2 hT
end
end GS
set_option Elab.async false
set_option linter.all false
set_option maxRecDepth 100000
set_option maxHeartbeats 4000000
namespace KL9
open PySem PySem.Spec PyProof.Rows L2 KB KC KS KN1 LamX
theorem okC {P : Program} {w : World} {K : PySem.W.Frag} {mg : Str → Option Value} {base : Heap} {x qual : Str} {st : Stmt} {dvs : List V} {f c : Addr} {fd : FuncData} {CX : CXT} {N ps : List Str} {k : Nat} {sp : Sp} (F : FnP K x qual st dvs f fd) (hc : fd.code = .ref c) (S : FnScope N ps (defScope st)) (len : ∀ vs H Q E, sp vs H Q E → vs.length = ps.length)
    (hbody : ∀ (A : Around) (outer : List Env) (s : Shared) (H : Hp) (vs : List V) (Q : VK) (E : XK), Room k (A.deeper (envOfC qual (defScope st) s.heap.objs.size f (.ref c))) → sp vs H Q E →
      ∃ t, PSs (cxOf CX P w K mg base N qual (defScope st) f (.ref c) A outer s H E) (defBody st) t ∧ t { nx := fun _ H' => Q .non H', rt := Q } (start N vs) H) : FnOk P w K mg base CX (k + 1) f fd ps sp := by
  obtain ⟨oc, od, dV, kV, doc, pm, an, cdv, ct, osl, rfl, lk, hcd, hD, hK⟩ := F.ex
  have e : cdv = .ref c := hc
  subst e
  exact fn_of lk hcd S len hbody
def veB : List Value := [.type "ValueError", .type "Exception", .type "BaseException", .type "object"]
structure TxtX (K : PySem.W.Frag) (mg : Str → Option Value) (CR : Addr) : Prop where
  g : mg "RowError" = some (.ref CR)
  x : PySem.W.excIn K CR veB "ValueError.__new__" = true
  k : PySem.W.keepIn K (.ref CR) = true
  b : PySem.W.subIn K (.ref CR) (.type "BaseException") = some true
  t : PySem.W.typeIn K (.ref CR) = some (.type "type")
  e : PySem.W.exmOne K (.ref CR) (.ref CR) = some true
def ltrs : Str := "\n !\"#$&'()*+,-./0123456789:;<=>?@ABCDEFGHIJKLMNOPQRSTUVWXYZ[\\]^_`abcdefghijklmnopqrstuvwxyz{|}~"
structure TxtK (mg : Str → Option Value) : Prop where
  l : ∃ tk, mg "LETTERS" = some (.str ltrs tk)
  bool : mg "bool" = none
  any : mg "any" = none
def badT (a : Str) : Bool := a.cps.toList.any fun c => !decide (c ∈ ltrs.cps.toList)
abbrev qK : Str := "kind_of.<locals>.<genexpr>"
def KindR (CR Ps : Addr) (H : Hp) (Q : VK) (E : XK) : V → Prop
  | .int _ => Q (.str "int") H
  | .bl _ => E (.ref CR) none H
  | .non => E (.ref CR) none H
  | .ref p => (∃ xs, H p = some (.tup xs)) ∧ E (.ref CR) none H
  | .str a => TabS H Ps qK ∧ ∀ H', KH.TabbedS Ps qK H H' → if badT a = true then E (.ref CR) none H' else Q (.str "text") H'
  | _ => False
@[irreducible] def spKind (CR Ps : Addr) : Sp := fun vs H Q E => ∃ v, vs = [v] ∧ KindR CR Ps H Q E v
@[irreducible] def rIsiB (K : PySem.W.Frag) : List V → Hp → VK → Prop := rIsi K
theorem call_isiB {X : Cx} : CallR X (.builtin "isinstance") (rIsiB X.K) := by
  unfold rIsiB
  exact call_isi
theorem isi_ty {K : PySem.W.Frag} {H : Hp} {x : V} {a b : String} {r : Bool} {Q : VK} (ty : TyOf K H x (.type a)) (h : kitB a b = some r) (q : Q (.bl r) H) : rIsiB K [x, .ty b] H Q := by
  unfold rIsiB
  exact ⟨x, .ty b, .type a, .type b, r, rfl, .ty b, .base ty, kit_ty h, q⟩
section
variable {P : Program} {w : World} {K : PySem.W.Frag} {mg : Str → Option Value} {base : Heap} {f cK Ps CR : Addr} {fd : FuncData}
theorem scKind : FnScope ["value"] ["value"] (defScope sKind) := ⟨rfl, rfl, rfl, by decide +kernel, rfl, by decide +kernel, by decide +kernel⟩
theorem ok_kind (F : FnP K "kind_of" "kind_of" sKind [] f fd) (hc : fd.code = .ref cK) (TBs : GxR.TabB base mg cK Ps) (T : TxtL mg) (TK : TxtK mg) (TX : TxtX K mg CR) : FnOk P w K mg base (L2.CX P w) 1 f fd ["value"] (spKind CR Ps) := by
  obtain ⟨tk, hL⟩ := TK.l
  refine okC F hc scKind (fun vs H Q E h => ?_) (fun A outer s H vs Q E hr h => ?_)
  · unfold spKind at h
    obtain ⟨_, rfl, _⟩ := h; rfl
  · unfold spKind at h
    obtain ⟨v, rfl, h⟩ := h
    refine ⟨_, pss_cons (ps_if (pt_val (pe_callB call_isiB (by rfl) T.isi PyProof.Rows.boot_isinstance (pa_cons (pv 0) (pa_cons (pe_bltn (v := .ty "bool") (u := .type "bool") (by rfl) TK.bool (by decide +kernel) rfl) pa_nil))))
        (pss_one (ps_raise rfl (takes_of rfl rfl rfl rfl) (pmk_own PySem.F.excBase_ValueError TX.x TX.g TX.k (raises_own TX.b TX.t) rfl))) pss_nil)
      (pss_cons (ps_if (pt_val (pe_callB call_isiB (by rfl) T.isi PyProof.Rows.boot_isinstance (pa_cons (pv 0) (pa_cons (pe_bltn (v := .ty "int") (u := .type "int") (by rfl) T.int (by decide +kernel) rfl) pa_nil))))
        (pss_one (ps_ret pe_str)) pss_nil)
      (pss_cons (ps_if (PW.pt (pw_or (pt_not (pt_val (pe_callB call_isiB (by rfl) T.isi PyProof.Rows.boot_isinstance (pa_cons (pv 0) (pa_cons (pe_bltn (v := .ty "str") (u := .type "str") (by rfl) T.str (by decide +kernel) rfl) pa_nil)))))
          (pw_or1 (pt_val (GS.pe_anyT (c := cK) (P := Ps) (q := qK) (pb := fun c => !decide (c ∈ ltrs.cps.toList)) (x := "sign") (show (Str.ofString "kind_of" ++ Str.ofString ".<locals>.") ++ Str.ofString "<genexpr>" = qK by decide +kernel) hr (by rfl) TK.any TBs rfl
            ⟨rfl, rfl, by decide +kernel, rfl, rfl, fun y hy e => by
              rcases List.mem_cons.mp hy with rfl | hy
              · cases e
              · rcases List.mem_cons.mp hy with rfl | hy
                · cases e
                · rcases List.mem_cons.mp hy with rfl | hy
                  · cases e
                  · cases hy⟩ (pv 0) (fun a => GS.elt_notInG rfl rfl rfl hL) (fun _ => rfl))))))
        (pss_one (ps_raise rfl (takes_of rfl rfl rfl rfl) (pmk_own PySem.F.excBase_ValueError TX.x TX.g TX.k (raises_own TX.b TX.t) rfl))) pss_nil)
      (pss_one (ps_ret pe_str)))), ?_⟩
    have no : ∀ {b : Bool} {A B : Prop}, b = false → B → if b = true then A else B := fun h q => by rw [h, if_neg (by decide)]; exact q
    cases v with
    | int n =>
      refine ⟨_, rfl, ?_⟩
      show rIsiB K [_, .ty "bool"] H _
      refine isi_ty (.int n) (by decide +kernel) ⟨_, rfl, no rfl ?_⟩
      refine ⟨_, rfl, ?_⟩
      show rIsiB K [_, .ty "int"] H _
      refine isi_ty (.int n) (by decide +kernel) ⟨_, rfl, iteT ?_⟩
      exact h
    | bl b =>
      refine ⟨_, rfl, ?_⟩
      show rIsiB K [_, .ty "bool"] H _
      refine isi_ty (.bl b) (by decide +kernel) ⟨_, rfl, iteT ?_⟩
      exact h
    | non =>
      refine ⟨_, rfl, ?_⟩
      show rIsiB K [_, .ty "bool"] H _
      refine isi_ty .non (by decide +kernel) ⟨_, rfl, no rfl ?_⟩
      refine ⟨_, rfl, ?_⟩
      show rIsiB K [_, .ty "int"] H _
      refine isi_ty .non (by decide +kernel) ⟨_, rfl, no rfl ?_⟩
      refine ⟨_, rfl, ?_⟩
      show rIsiB K [_, .ty "str"] H _
      refine isi_ty (r := false) .non (by decide +kernel) ⟨_, rfl, ?_⟩
      exact h
    | ref p =>
      obtain ⟨⟨xs, hp⟩, h⟩ := h
      refine ⟨_, rfl, ?_⟩
      show rIsiB K [_, .ty "bool"] H _
      refine isi_ty (r := false) (.tup hp) (by decide +kernel) ⟨_, rfl, no rfl ?_⟩
      refine ⟨_, rfl, ?_⟩
      show rIsiB K [_, .ty "int"] H _
      refine isi_ty (.tup hp) (by decide +kernel) ⟨_, rfl, no rfl ?_⟩
      refine ⟨_, rfl, ?_⟩
      show rIsiB K [_, .ty "str"] H _
      refine isi_ty (r := false) (.tup hp) (by decide +kernel) ⟨_, rfl, ?_⟩
      exact h
    | str a =>
      obtain ⟨tab, h⟩ := h
      refine ⟨_, rfl, ?_⟩
      show rIsiB K [_, .ty "bool"] H _
      refine isi_ty (.str a) (by decide +kernel) ⟨_, rfl, no rfl ?_⟩
      refine ⟨_, rfl, ?_⟩
      show rIsiB K [_, .ty "int"] H _
      refine isi_ty (.str a) (by decide +kernel) ⟨_, rfl, no rfl ?_⟩
      refine ⟨_, rfl, ?_⟩
      show rIsiB K [_, .ty "str"] H _
      refine isi_ty (r := true) (.str a) (by decide +kernel) ⟨_, rfl, ?_⟩
      refine no rfl ⟨_, rfl, a, rfl, tab, fun H2 tb => ⟨_, rfl, ?_⟩⟩
      have h2 := h H2 tb
      show if badT a = true then _ else _
      exact h2
    | _ => exact False.elim h
end
end KL9
set_option Elab.async false
set_option linter.all false
set_option maxRecDepth 100000
set_option maxHeartbeats 4000000
namespace KL9
open PySem PySem.Spec PyProof.Rows L2 KB KC KS KN1 LamX
abbrev tabL : List Nat := ltrs.cps.toList
theorem idx_occ : ∀ c ∈ tabL, Builtin.Str.occurrences ltrs ⟨#[c]⟩ 0 ltrs.length 1 = [idx tabL c] := by decide +kernel
abbrev Tb (Ps : Addr) (H H' : Hp) : Prop := KH.TabbedS Ps qK H H'
theorem Tb.refl {Ps : Addr} {H : Hp} (t : TabS H Ps qK) : Tb Ps H H := ⟨t, fun _ _ _ e => e⟩
theorem Tb.trans {Ps : Addr} {H H1 H2 : Hp} (a : Tb Ps H H1) (b : Tb Ps H1 H2) : Tb Ps H H2 := ⟨b.1, fun x o n e => b.2 x o n (a.2 x o n e)⟩
theorem Tb.ex {Ps : Addr} {H H1 H2 : Hp} (a : Tb Ps H H1) (e : Ex H1 H2) : Tb Ps H H2 := ⟨a.1.ext e, fun x o n h => e x o (a.2 x o n h)⟩
def OkV : Key → Prop
  | .inl v => -(2 ^ 1990) < v ∧ v < 2 ^ 1990
  | .inr s => badT s = false ∧ s.cps.toList.length ≤ 1000
@[irreducible] def spVal (CR Ps : Addr) : Sp := fun vs H Q E => ∃ v, vs = [v] ∧ ((∃ b, v = .bl b ∧ E (.ref CR) none H) ∨
  (∃ k, v = kV k ∧ OkV k ∧ TabS H Ps qK ∧ ∀ H' p, Tb Ps H H' → H' p = some (.tup ((valL tabL k).map V.int)) → Q (.ref p) H'))
theorem cat_two {K : PySem.W.Frag} {H : Hp} {a b : Addr} {x y : List Int} {Q : VK} (ha : H a = some (.tup (x.map V.int))) (hb : H b = some (.tup (y.map V.int))) (hl : x.length + y.length ≤ 100000)
    (q : ∀ H' c, Ex H H' → H' c = some (.tup ((x ++ y).map V.int)) → Q (.ref c) H') : rCatA K (.ref a) (.ref b) H Q := by
  refine ⟨a, b, _, _, rfl, rfl, SqT.of ha, SqT.of hb, ?_, fun h => ?_, fun _ h => ?_, fun _ _ p hp => ?_⟩
  · have hz : sizeLine = 16777216 := rfl
    rw [List.length_map, List.length_map]
    omega
  · have e : x = [] := List.map_eq_nil_iff.mp h
    exact q H b (Ex.refl H) (by rw [e]; exact hb)
  · have e : y = [] := List.map_eq_nil_iff.mp h
    exact q H a (Ex.refl H) (by rw [e, List.append_nil]; exact ha)
  · refine q _ p (Ex.upd hp) ?_
    rw [upd_same, List.map_append]
theorem ifT {c A B : Prop} [Decidable c] (h : c) (a : A) : if c then A else B := by rw [if_pos h]; exact a
theorem ifF {c A B : Prop} [Decidable c] (h : ¬ c) (b : B) : if c then A else B := by rw [if_neg h]; exact b
@[irreducible] def tIdx : TE := fun σ H Q => ∃ c, σ[1]? = some (some (.str ⟨#[c]⟩)) ∧ c ∈ tabL ∧ Q (.int ((idx tabL c : Nat) : Int)) H
theorem pe_lidx {X : Cx} {tk : Tok} {p1 p2 p3 p4 : Pos} (hg : Gl X "LETTERS") (hm : X.mg "LETTERS" = some (.str ltrs tk)) (hN : X.N[1]? = some (Str.ofString "sign")) (hv : Vis X.env.scope "sign") (hline : (p2.endLine == p4.line) = true := by rfl) :
    PE X (.Call (.Attribute (.Name "LETTERS" p1) "index" p2) [.Name "sign" p3] [] p4) tIdx := by
  have h := pe_bm (X := X) (cpos := p4) (apos := p2) (name := "index") PySem.F.plainAttrs_str PySem.F.slot_str_index PySem.F.type_str_index mt_sindex (pe_glob (x := "LETTERS") (pos := p1) (v := .str ltrs) hg hm ⟨_, rfl⟩) (pa_cons (pe_var (pos := p3) (i := 1) (x := "sign") hN hv) pa_nil) (hline := hline)
  refine ⟨fun pins s σ H Q I hw => h.run pins s σ H Q I ?_⟩
  unfold tIdx at hw
  obtain ⟨c, h1, h2, q⟩ := hw
  exact ⟨rfl, _, h1, _, _, _, _, rfl, rfl, idx_occ c h2, q⟩
theorem idx_step {σ : L2.St} {H : Hp} {c : Nat} {Q : VK} (h1 : σ[1]? = some (some (.str ⟨#[c]⟩))) (h2 : c ∈ tabL) (q : Q (.int ((idx tabL c : Nat) : Int)) H) : tIdx σ H Q := by
  unfold tIdx
  exact ⟨c, h1, h2, q⟩
theorem kind_step {CR Ps : Addr} {H : Hp} {Q : VK} {E : XK} {v : V} (h : KindR CR Ps H Q E v) : spKind CR Ps [v] H Q E := by
  unfold spKind
  exact ⟨v, rfl, h⟩
theorem okT_mem {s : Str} (h : badT s = false) {c : Nat} (hc : c ∈ s.cps.toList) : c ∈ tabL := by
  unfold badT at h
  have := List.any_eq_false.mp h c hc
  simpa using this
section
variable {P : Program} {w : World} {K : PySem.W.Frag} {mg : Str → Option Value} {base : Heap} {f fK fN cK Ps CR : Addr} {fd fdK fdN : FuncData}
theorem scVal : FnScope ["value", "sign"] ["value"] (defScope sVal) := ⟨rfl, rfl, rfl, by decide +kernel, rfl, by decide +kernel, by decide +kernel⟩
theorem ok_val (F : FnP K "value_bytes" "value_bytes" sVal [] f fd) (FK : FnP K "kind_of" "kind_of" sKind [] fK fdK) (gK : mg "kind_of" = some (.ref fK)) (hc : fdK.code = .ref cK) (TBs : GxR.TabB base mg cK Ps)
    (FN : FnP K "natural_bytes" "natural_bytes" sNat [] fN fdN) (gN : mg "natural_bytes" = some (.ref fN)) (T : TxtL mg) (TK : TxtK mg) (TX : TxtX K mg CR) : FnOk P w K mg base (L2.CX P w) 2 f fd ["value"] (spVal CR Ps) := by
  have GK : FnOk P w K mg base (L2.CX P w) 1 fK fdK ["value"] (spKind CR Ps) := ok_kind FK hc TBs T TK TX
  have GN : FnOk P w K mg base CX0 1 fN fdN ["number"] spNat := ok_nat FN T
  have bK : Binds K fdK ["value"] [] := FK.bindsN fun _ _ _ _ _ _ us hl => match us, hl with | [_], _ => rfl
  have bN : Binds K fdN ["number"] [] := FN.bindsN fun _ _ _ _ _ _ us hl => match us, hl with | [_], _ => rfl
  obtain ⟨tk, hL⟩ := TK.l
  refine F.ok scVal (fun vs H Q E h => ?_) (fun cdv A outer s H vs Q E hr h => ?_)
  · unfold spVal at h
    obtain ⟨_, rfl, _⟩ := h; rfl
  · unfold spVal at h
    obtain ⟨v, rfl, h⟩ := h
    refine ⟨_, pss_cons (ps_if (pt_cmpR op_eq (pe_callS GK hr (by rfl) gK FK.kp bK (fun σ => passAt (takes_of rfl rfl rfl rfl) σ) (pa_cons (pv 0) pa_nil)) pe_str (nomark _))
        (PSs.nox <| pss_one (ps_ret (pe_op op_catA (pe_op op_catA (pe_tup (pa_cons pe_int pa_nil)) (pe_call GN hr (by rfl) gN FN.kp bN .nil pass0 (pa_cons (pe_callB call_len_str (by rfl) T.len (by decide +kernel) (pa_cons (pv 0) pa_nil)) pa_nil)))
          (pe_callTy call_tuple_of (by rfl) T.tuple (by decide +kernel) (pa_cons (pe_lc (own := [("sign", 1)]) (g := gName 1) (tt := tYes) rfl scVal.nd (pi_str (pv 0)) (blkOk_by (N := ["value", "sign"]) (sc := defScope sVal) (by decide +kernel))
            (fun _ _ _ _ _ => pg_name (i := 1) scVal.nd rfl (Or.inl rfl)) (fun _ _ _ _ _ => pts_nil)
            (fun _ _ _ _ _ => pe_lidx rfl hL rfl (.inl rfl))) pa_nil))))) pss_nil)
      (PSs.nox <| pss_cons (ps_if (pt_cmpR op_lt (pv 0) pe_int (nomark _)) (pss_one (ps_ret (pe_op op_catA (pe_tup (pa_cons pe_int pa_nil)) (pe_call GN hr (by rfl) gN FN.kp bN .nil pass0 (pa_cons (pe_op op_sub (pe_un un_neg (pv 0)) pe_int) pa_nil))))) pss_nil)
        (pss_one (ps_ret (pe_op op_catA (pe_tup (pa_cons pe_int pa_nil)) (pe_call GN hr (by rfl) gN FN.kp bN .nil pass0 (pa_cons (pv 0) pa_nil)))))), ?_⟩
    have one : 1 ≤ sizeLine := by decide
    have big : (2 : Int) ^ 1990 < 2 ^ 2000 := by decide +kernel
    rcases h with ⟨b, rfl, h⟩ | ⟨k, rfl, ok, tab, fin⟩
    · exact ⟨_, rfl, kind_step h⟩
    · cases k with
      | inl n =>
        obtain ⟨n1, n2⟩ := ok
        refine ⟨_, rfl, kind_step ?_⟩
        refine ⟨rfl, _, rfl, ifF (by decide +kernel) ?_⟩
        refine ⟨_, rfl, _, _, rfl, rfl, _, rfl, ?_⟩
        by_cases c : n < 0
        · refine ite2 (fun _ => ?_) (fun z => absurd (decide_eq_true c) z)
          refine ⟨one, fun t ht => ⟨_, rfl, _, rfl, _, _, rfl, rfl, nat_step (by omega) (by omega) fun H2 p e2 hp => ?_⟩⟩
          have hl := natL_short (n := -n - 1) (by omega)
          refine cat_two (x := [1]) (e2 _ _ upd_same) hp (by show 1 + _ ≤ _; omega) fun H3 c3 e3 h3 => fin H3 c3 ((Tb.refl tab).ex ((Ex.upd ht).trans (e2.trans e3))) ?_
          rw [valL_neg _ c]
          exact h3
        · refine ite2 (fun z => absurd (of_decide_eq_true z) c) (fun _ => ?_)
          refine ⟨one, fun t ht => ⟨_, rfl, nat_step (by omega) (by omega) fun H2 p e2 hp => ?_⟩⟩
          have hl := natL_short (n := n) (by omega)
          refine cat_two (x := [0]) (e2 _ _ upd_same) hp (by show 1 + _ ≤ _; omega) fun H3 c3 e3 h3 => fin H3 c3 ((Tb.refl tab).ex ((Ex.upd ht).trans (e2.trans e3))) ?_
          rw [valL_pos _ c]
          exact h3
      | inr z =>
        obtain ⟨ok, hz⟩ := ok
        have hz2 : z.length = z.cps.toList.length := by show z.cps.size = _; simp
        have hzl : sizeLine = 16777216 := rfl
        refine ⟨_, rfl, kind_step ⟨tab, fun H1 t1 => ?_⟩⟩
        refine ifF (by rw [ok]; decide) ?_
        refine ⟨rfl, _, rfl, ifT (by decide +kernel) ?_⟩
        have hb : (z.length : Int) < 2 ^ 2000 := by
          have : (1001 : Int) < 2 ^ 2000 := by decide +kernel
          omega
        have hl := natL_short hb
        refine ⟨one, fun t ht => ⟨_, rfl, z, rfl, by omega, nat_step (by omega) hb fun H2 p e2 hp => ?_⟩⟩
        refine cat_two (x := [2]) (e2 _ _ upd_same) hp (by show 1 + _ ≤ _; omega) fun H3 c3 e3 h3 => ?_
        refine ⟨_, rfl, z, rfl, fun D hD => lc_it walk_str (fun i H4 => Ex H3 H4 ∧ H4 D = some (.lst ((z.cps.toList.take i).map fun c => V.int ((idx tabL c : Nat) : Int)))) ⟨Ex.upd hD, upd_same⟩ (fun _ _ _ _ => trivial) ?_ ?_⟩
        · rintro i x H4 H5 hi ⟨e4, hl4⟩ ⟨rfl, c, hc, rfl⟩
          have hi' : i < z.cps.toList.length := by simpa using hi
          have hc' : z.cps.toList[i]? = some c := by rw [Array.getElem?_toList]; exact hc
          refine ⟨rfl, ?_⟩
          show tIdx _ _ _
          refine idx_step rfl (okT_mem ok (List.mem_of_getElem? hc')) ⟨_, hl4, ?_, Ex.on e4 hD, ?_⟩
          · rw [List.length_map, List.length_take]
            omega
          · rw [upd_same, List.take_add_one, hc', List.map_append]
            rfl
        · rintro H4 ⟨e4, hl4⟩
          refine ⟨D, _, rfl, .inl ⟨SqL.of hl4, fun q hq => ?_⟩⟩
          have hs : z.cps.size = z.cps.toList.length := by simp
          refine cat_two (y := z.cps.toList.map fun c => ((idx tabL c : Nat) : Int)) (((Ex.trans e4 (Ex.upd hq))) _ _ h3) ?_ ?_ fun H5 c5 e5 h5 => fin H5 c5 (Tb.ex t1 ((Ex.upd ht).trans (e2.trans (e3.trans (e4.trans ((Ex.upd hq).trans e5)))))) ?_
          · rw [upd_same, hs, List.take_length, List.map_map]
            rfl
          · rw [List.length_append, List.length_map]
            show 1 + _ + _ ≤ _
            omega
          · have e : ((z.length : Int)).toNat = z.cps.toList.length := by omega
            rw [e] at h5
            rw [h5, List.append_assoc]
            rfl
end
end KL9
set_option Elab.async false
set_option linter.all false
set_option maxRecDepth 100000
set_option maxHeartbeats 4000000
namespace PySem
open AutoSeq1
theorem list_extend_tup (l : Addr) (items : Array Value) (n : Nat) (b : Addr) (items2 : Array Value) (n2 : Nat) (dd : Option Addr) (sl : Array (Option Value)) (hs0 : ¬(!items.isEmpty && Builtin.List.listTooLong (items.size + items2.size)) = true) (hs1 : items.size ≤ sizeLine) (hs2 : items.size + items2.size ≤ sizeLine + 1) :
    Meets (Builtin.«list.extend» ⟨[.ref l, .ref b], []⟩) (fun _ R s => s.heap.get? l = some { cls := .type "list", dict := none, data := .seq items n, slots := #[] } ∧ s.heap.get? b = some { cls := .type "tuple", dict := dd, data := .seq items2 n2, slots := sl } ∧ R (.ok (.ret Value.none)) { s with heap := s.heap.update l (Obj.mapSeq fun x => x ++ items2), toks := s.toks }) :=
  .of_wp fun prog w A R s h => by
    obtain ⟨hp, g, d, tk, os⟩ := s; obtain ⟨hl, hb, h⟩ := h; have f1 := idx_int; have f2 := sub_tuple_tuple; have f3 := sub_list_list; have f4 := sub_tuple_list; have f5 := sub_list_tuple;
    have hz' : (items ++ items2).size ≤ sizeLine + 1 := by rw [Array.size_append]; exact hs2
    wp_walk using (wpAny_updateSeq hl rfl (hz := hs1) (_hz' := hz')), wpAny_loadPart' hl, wpAny_loadPart' hb; exact ⟨_, rfl, h⟩
end PySem
namespace KL9
open PySem PySem.Spec PyProof.Rows L2 KB KC KS KN1 LamX
def rExtendT : V → List V → Hp → VK → Prop := fun x vs H Q => ∃ l b xs zs, x = .ref l ∧ vs = [.ref b] ∧ H l = some (.lst xs) ∧ H b = some (.tup zs) ∧ xs.length + zs.length ≤ sizeLine ∧ Q .non (upd H l (.lst (xs ++ zs)))
theorem mt_extendT {X : Cx} : MtM X "list.extend" rExtendT := by
  intro pins s σ H x vs v us Q I rx rv h
  obtain ⟨l, b, xs, zs, rfl, rfl, hH, hB, hz, q⟩ := h
  cases rx
  obtain ⟨u, rfl, ru⟩ := rv.one
  cases ru
  obtain ⟨z, its, n, r, hl, e⟩ := I.lstM hH
  obtain ⟨its2, r2, ⟨o, e2, hc, n2, hd⟩, z2⟩ := I.tuple (SqT.of hB)
  obtain ⟨oc, od, dt, sl⟩ := o
  simp only at hc hd
  subst hc hd
  have l1 := r.length
  have l2 := r2.length
  have hsz : its.toArray.size + its2.toArray.size ≤ sizeLine := by rw [List.size_toArray, List.size_toArray]; omega
  have hlong : ¬ (!its.toArray.isEmpty && Builtin.List.listTooLong (its.toArray.size + its2.toArray.size)) = true := by
    rw [notLongL hsz, Bool.and_false]
    exact Bool.false_ne_true
  refine call_meets F.slot_list_extend ⟨_, e, rfl⟩ F.entry_list_extend (F.args_list_extend_2 _ _)
    (PySem.list_extend_tup l its.toArray n b its2.toArray n2 od sl hlong (by rw [List.size_toArray]; omega) (by omega)) ⟨e, e2, ?_⟩
  refine ⟨.non, _, I.lset (its' := its ++ its2) hH e (by simp) (r.append r2) ?_, rfl, q⟩
  rw [List.length_append]
  omega
theorem tabS_lst {H : Hp} {P l : Addr} {q : Str} {xs ys : List V} (t : TabS H P q) (h : H l = some (.lst xs)) : TabS (upd H l (.lst ys)) P q := by
  obtain ⟨ps, hP, ht, ha⟩ := t
  refine ⟨ps, by rw [L2.upd_ne (fun z => by rw [z, h] at hP; cases hP)]; exact hP, ht, fun pos cv hc => ?_⟩
  obtain ⟨c, e1, e2⟩ := ha pos cv hc
  exact ⟨c, e1, by rw [L2.upd_ne (fun z => by rw [z, h] at e2; cases e2)]; exact e2⟩
theorem valL_len {k : Key} (h : OkV k) : (valL tabL k).length ≤ 1301 := by
  have big : (2 : Int) ^ 1990 < 2 ^ 2000 := by decide +kernel
  cases k with
  | inl n =>
    obtain ⟨n1, n2⟩ := h
    by_cases c : n < 0
    · rw [valL_neg _ c]
      have := natL_short (n := -n - 1) (by omega)
      rw [List.length_cons]
      omega
    · rw [valL_pos _ c]
      have := natL_short (n := n) (by omega)
      rw [List.length_cons]
      omega
  | inr z =>
    have hz := h.2
    have hb : ((z.cps.toList.length : Nat) : Int) < 2 ^ 2000 := by
      have : (1001 : Int) < 2 ^ 2000 := by decide +kernel
      omega
    have := natL_short hb
    rw [Int.toNat_natCast] at this
    show (2 :: (natL z.cps.toList.length ++ _)).length ≤ _
    rw [List.length_cons, List.length_append, List.length_map]
    omega
theorem flat_len : ∀ {l : List Key}, (∀ x ∈ l, OkV x) → (l.flatMap (valL tabL)).length ≤ l.length * 1301
  | [], _ => Nat.le_refl _
  | a :: l, h => by
    rw [List.flatMap_cons, List.length_append, List.length_cons, Nat.succ_mul]
    have h1 := valL_len (h a (List.mem_cons_self ..))
    have h2 := flat_len fun x hx => h x (List.mem_cons_of_mem _ hx)
    omega
theorem val_step {CR Ps : Addr} {H : Hp} {Q : VK} {E : XK} {k : Key} (ok : OkV k) (t : TabS H Ps qK) (fin : ∀ H' p, Tb Ps H H' → H' p = some (.tup ((valL tabL k).map V.int)) → Q (.ref p) H') : spVal CR Ps [kV k] H Q E := by
  unfold spVal
  exact ⟨_, rfl, .inr ⟨k, rfl, ok, t, fin⟩⟩
theorem val_bad {CR Ps : Addr} {H : Hp} {Q : VK} {E : XK} {b : Bool} (h : E (.ref CR) none H) : spVal CR Ps [.bl b] H Q E := by
  unfold spVal
  exact ⟨_, rfl, .inl ⟨b, rfl, h⟩⟩
@[irreducible] def spRow (CR Ps : Addr) : Sp := fun vs H Q E => ∃ r, vs = [.ref r] ∧ ((∃ b, H r = some (.tup [.bl b]) ∧ ∀ H', Ex H H' → E (.ref CR) none H') ∨
  (∃ k : List Key, H r = some (.tup (k.map kV)) ∧ (∀ x ∈ k, OkV x) ∧ k.length ≤ 25 ∧ TabS H Ps qK ∧ ∀ H' p, Tb Ps H H' → H' p = some (.tup ((rowL tabL k).map V.int)) → Q (.ref p) H'))
section
variable {P : Program} {w : World} {K : PySem.W.Frag} {mg : Str → Option Value} {base : Heap} {f fV fK fN cK Ps CR : Addr} {fd fdV fdK fdN : FuncData}
theorem scRow : FnScope ["row", "found", "value"] ["row"] (defScope sRow) := ⟨rfl, rfl, rfl, by decide +kernel, rfl, by decide +kernel, by decide +kernel⟩
theorem ok_row (F : FnP K "row_bytes" "row_bytes" sRow [] f fd) (FV : FnP K "value_bytes" "value_bytes" sVal [] fV fdV) (gV : mg "value_bytes" = some (.ref fV)) (FK : FnP K "kind_of" "kind_of" sKind [] fK fdK) (gK : mg "kind_of" = some (.ref fK)) (hc : fdK.code = .ref cK) (TBs : GxR.TabB base mg cK Ps)
    (FN : FnP K "natural_bytes" "natural_bytes" sNat [] fN fdN) (gN : mg "natural_bytes" = some (.ref fN)) (T : TxtL mg) (TK : TxtK mg) (TX : TxtX K mg CR) : FnOk P w K mg base (L2.CX P w) 3 f fd ["row"] (spRow CR Ps) := by
  have GV : FnOk P w K mg base (L2.CX P w) 2 fV fdV ["value"] (spVal CR Ps) := ok_val FV FK gK hc TBs FN gN T TK TX
  have GN : FnOk P w K mg base CX0 1 fN fdN ["number"] spNat := ok_nat FN T
  have bV : Binds K fdV ["value"] [] := FV.bindsN fun _ _ _ _ _ _ us hl => match us, hl with | [_], _ => rfl
  have bN : Binds K fdN ["number"] [] := FN.bindsN fun _ _ _ _ _ _ us hl => match us, hl with | [_], _ => rfl
  refine F.ok scRow (fun vs H Q E h => ?_) (fun cdv A outer s H vs Q E hr h => ?_)
  · unfold spRow at h
    obtain ⟨_, rfl, _⟩ := h; rfl
  · unfold spRow at h
    obtain ⟨r, rfl, h⟩ := h
    refine ⟨_, pss_cons (ps_set (i := 1) scRow.nd rfl (Or.inl rfl) (pe_callTy call_list_of (by rfl) T.list (by decide +kernel) (pa_cons (pe_call GN (hr.mono (by decide)) (by rfl) gN FN.kp bN .nil pass0 (pa_cons (pe_callB call_len_seq (by rfl) T.len (by decide +kernel) (pa_cons (pv 0) pa_nil)) pa_nil)) pa_nil)))
      (pss_cons (ps_for (passes_of rfl) rfl (pi_tup (pv 0)) (pg_name (i := 2) scRow.nd rfl (Or.inl rfl))
        (pss_one (ps_expr (pe_bm PySem.F.plainAttrs_list PySem.F.slot_list_extend PySem.F.type_list_extend mt_extendT (pv 1) (pa_cons (pe_callS GV hr (by rfl) gV FV.kp bV (fun σ => passAt (takes_of rfl rfl rfl rfl) σ) (pa_cons (pv 2) pa_nil)) pa_nil)))))
      (pss_one (ps_ret (pe_callTy call_tuple_of (by rfl) T.tuple (by decide +kernel) (pa_cons (pv 1) pa_nil))))), ?_⟩
    have hzl : sizeLine = 16777216 := rfl
    rcases h with ⟨b, hR, bad⟩ | ⟨k, hR, ok, hk, tab, fin⟩
    · refine ⟨_, rfl, r, _, rfl, .inr (SqT.of hR), nat_step (show (0 : Int) ≤ 1 by decide) (show (1 : Int) < 2 ^ 2000 by decide +kernel) fun H2 p e2 hp => ?_⟩
      refine ⟨p, _, rfl, .inr (SqT.of hp), fun l hl => ?_⟩
      have e3 : Ex H (upd H2 l (.lst ((natL ((List.length [V.bl b] : Nat) : Int).toNat).map V.int))) := e2.trans (Ex.upd hl)
      refine ⟨_, rfl, r, rfl, ⟨_, SqT.of (e3 _ _ hR)⟩, for_tup (xs := [V.bl b]) (fun i σ H' => (i = 0 ∧ σ = [some (.ref r), some (.ref l), none]) ∧ H' = upd H2 l (.lst ((natL ((List.length [V.bl b] : Nat) : Int).toNat).map V.int))) ⟨⟨rfl, rfl⟩, rfl⟩ ?_ ?_ ?_⟩
      · rintro i σ H' _ ⟨_, rfl⟩
        exact SqT.of (e3 _ _ hR)
      · rintro i x σ H' hx ⟨⟨rfl, rfl⟩, rfl⟩
        cases hx
        exact ⟨_, rfl, .inl ⟨rfl, _, SqL.of upd_same⟩, _, rfl, val_bad (bad _ e3)⟩
      · rintro σ H' ⟨⟨z, _⟩, _⟩
        cases z
    · have hkb : ((k.length : Nat) : Int) < 2 ^ 2000 := by
        have : (26 : Int) < 2 ^ 2000 := by decide +kernel
        omega
      have hkl : (List.length (k.map kV)) = k.length := List.length_map ..
      have hnl := natL_short hkb
      rw [Int.toNat_natCast] at hnl
      refine ⟨_, rfl, r, _, rfl, .inr (SqT.of hR), nat_step (by omega) (by rw [hkl]; exact hkb) fun H2 p e2 hp => ?_⟩
      rw [hkl, Int.toNat_natCast] at hp
      refine ⟨p, _, rfl, .inr (SqT.of hp), fun l hl => ?_⟩
      have e3 : Ex H (upd H2 l (.lst ((natL k.length).map V.int))) := e2.trans (Ex.upd hl)
      have nl : H l = none := by
        cases e : H l with
        | none => rfl
        | some o => rw [e2 _ _ e] at hl; cases hl
      have nP : l ≠ Ps := fun z => by
        obtain ⟨ps, h1, _⟩ := tab
        rw [z, h1] at nl
        cases nl
      have nr : r ≠ Ps := fun z => by
        obtain ⟨ps, h1, _⟩ := tab
        rw [z, h1] at hR
        cases hR
      refine ⟨_, rfl, r, rfl, ⟨_, SqT.of (e3 _ _ hR)⟩, for_tup (xs := k.map kV) (fun i σ H' => (∃ u, σ = [some (.ref r), some (.ref l), u]) ∧ Tb Ps H H' ∧ H' l = some (.lst ((natL k.length ++ (k.take i).flatMap (valL tabL)).map V.int))) ⟨⟨_, rfl⟩, (Tb.refl tab).ex e3, by rw [upd_same]; simp⟩ ?_ ?_ ?_⟩
      · rintro i σ H' _ ⟨_, t', _⟩
        exact SqT.of (t'.2 _ _ nr hR)
      · rintro i x σ H' hx ⟨⟨u, rfl⟩, t', hl'⟩
        rw [List.getElem?_map] at hx
        cases hi : k[i]? with
        | none => rw [hi] at hx; cases hx
        | some key =>
          rw [hi] at hx
          cases hx
          have hm := List.mem_of_getElem? hi
          have h1 := valL_len (ok key hm)
          have h2 := flat_len (l := k.take i) fun x hx => ok x (List.mem_of_mem_take hx)
          have h3 : (k.take i).length ≤ 25 := by rw [List.length_take]; omega
          refine ⟨_, rfl, .inl ⟨rfl, _, SqL.of hl'⟩, _, rfl, val_step (ok key hm) t'.1 fun H5 p5 t5 h5 => ?_⟩
          have hl5 := t5.2 _ _ nP hl'
          refine ⟨l, p5, _, _, rfl, rfl, hl5, h5, ?_, ?_⟩
          · rw [List.length_map, List.length_map, List.length_append]
            omega
          · refine ⟨⟨_, rfl⟩, ⟨tabS_lst t5.1 hl5, fun b o n e => ?_⟩, ?_⟩
            · rw [L2.upd_ne (ne_of_none e nl)]
              exact t5.2 _ _ n (t'.2 _ _ n e)
            · rw [upd_same, ← List.map_append, List.append_assoc, List.take_add_one, hi, List.flatMap_append]
              simp
      · rintro σ H' ⟨⟨u, rfl⟩, t', hl'⟩
        refine ⟨_, rfl, l, _, rfl, .inl ⟨SqL.of hl', fun q hq => fin _ q (t'.ex (Ex.upd hq)) ?_⟩⟩
        rw [upd_same, List.length_map, List.take_length]
        rfl
end
end KL9
set_option Elab.async false
set_option linter.all false
set_option maxRecDepth 100000
set_option maxHeartbeats 4000000
namespace KL9
open PySem PySem.Spec PyProof.Rows L2 KB KC KS KN1 LamX
def hashStep (a b : Int) : Int := (31 * a + b + 1) % 2147483647
def hashL (l : List Int) : Int := l.foldl hashStep 7
theorem row_step {CR Ps : Addr} {H : Hp} {Q : VK} {E : XK} {r : Addr} {k : List Key} (hR : H r = some (.tup (k.map kV))) (ok : ∀ x ∈ k, OkV x) (hk : k.length ≤ 25) (tab : TabS H Ps qK) (fin : ∀ H' p, Tb Ps H H' → H' p = some (.tup ((rowL tabL k).map V.int)) → Q (.ref p) H') : spRow CR Ps [.ref r] H Q E := by
  unfold spRow
  exact ⟨r, rfl, .inr ⟨k, hR, ok, hk, tab, fin⟩⟩
@[irreducible] def spHash (Ps : Addr) : Sp := fun vs H Q _ => ∃ (r : Addr) (k : List Key), vs = [.ref r] ∧ H r = some (.tup (k.map kV)) ∧ (∀ x ∈ k, OkV x) ∧ k.length ≤ 25 ∧ TabS H Ps qK ∧ ∀ H', Tb Ps H H' → Q (.int (hashL (rowL tabL k))) H'
section
variable {P : Program} {w : World} {K : PySem.W.Frag} {mg : Str → Option Value} {base : Heap} {f fR fV fK fN cK Ps CR : Addr} {fd fdR fdV fdK fdN : FuncData}
theorem scHash : FnScope ["row", "found", "byte"] ["row"] (defScope sHash) := ⟨rfl, rfl, rfl, by decide +kernel, rfl, by decide +kernel, by decide +kernel⟩
theorem ok_hash (F : FnP K "hash_of" "hash_of" sHash [] f fd) (FR : FnP K "row_bytes" "row_bytes" sRow [] fR fdR) (gR : mg "row_bytes" = some (.ref fR)) (FV : FnP K "value_bytes" "value_bytes" sVal [] fV fdV) (gV : mg "value_bytes" = some (.ref fV)) (FK : FnP K "kind_of" "kind_of" sKind [] fK fdK) (gK : mg "kind_of" = some (.ref fK)) (hc : fdK.code = .ref cK) (TBs : GxR.TabB base mg cK Ps)
    (FN : FnP K "natural_bytes" "natural_bytes" sNat [] fN fdN) (gN : mg "natural_bytes" = some (.ref fN)) (T : TxtL mg) (TK : TxtK mg) (TX : TxtX K mg CR) : FnOk P w K mg base (L2.CX P w) 4 f fd ["row"] (spHash Ps) := by
  have GR : FnOk P w K mg base (L2.CX P w) 3 fR fdR ["row"] (spRow CR Ps) := ok_row FR FV gV FK gK hc TBs FN gN T TK TX
  have bR : Binds K fdR ["row"] [] := FR.bindsN fun _ _ _ _ _ _ us hl => match us, hl with | [_], _ => rfl
  refine F.ok scHash (fun vs H Q E h => ?_) (fun cdv A outer s H vs Q E hr h => ?_)
  · unfold spHash at h
    obtain ⟨_, _, rfl, _⟩ := h; rfl
  · unfold spHash at h
    obtain ⟨r, k, rfl, hR, ok, hk, tab, fin⟩ := h
    refine ⟨_, pss_cons (ps_set (i := 1) scHash.nd rfl (Or.inl rfl) pe_int)
      (pss_cons (ps_for (passes_of rfl) rfl (pi_tup (pe_callS GR hr (by rfl) gR FR.kp bR (fun σ => passAt (takes_of rfl rfl rfl rfl) σ) (pa_cons (pv 0) pa_nil))) (pg_name (i := 2) scHash.nd rfl (Or.inl rfl))
        (pss_one (ps_set (i := 1) scHash.nd rfl (Or.inl rfl) (pe_op op_mod (pe_op op_add (pe_op op_add (pe_op op_mul pe_int (pv 1)) (pv 2)) pe_int) pe_int))))
      (pss_one (ps_ret (pv 1)))), ?_⟩
    refine ⟨_, rfl, row_step hR ok hk tab fun H2 p t2 hp => ?_⟩
    refine ⟨p, rfl, ⟨_, SqT.of hp⟩, for_tup (xs := (rowL tabL k).map V.int) (fun i σ H' => H' = H2 ∧ ∃ u, σ = [some (.ref r), some (.int (hashL ((rowL tabL k).take i))), u]) ⟨rfl, _, rfl⟩ ?_ ?_ ?_⟩
    · rintro i σ H' _ ⟨rfl, _⟩
      exact SqT.of hp
    · rintro i x σ H' hx ⟨rfl, u, rfl⟩
      rw [List.getElem?_map] at hx
      cases hi : (rowL tabL k)[i]? with
      | none => rw [hi] at hx; cases hx
      | some b =>
        rw [hi] at hx
        cases hx
        refine ⟨_, rfl, _, _, rfl, rfl, .inl ⟨by decide, by decide⟩, _, rfl, _, _, rfl, rfl, _, _, rfl, rfl, _, _, rfl, rfl, by show (0 : Int) < 2147483647; decide, rfl, some (.int b), ?_⟩
        have e : hashL ((rowL tabL k).take (i + 1)) = hashStep (hashL ((rowL tabL k).take i)) b := by
          rw [List.take_add_one, hi]
          unfold hashL
          rw [List.foldl_append]
          rfl
        rw [e]
        rfl
    · rintro σ H' ⟨rfl, u, rfl⟩
      refine ⟨_, rfl, ?_⟩
      rw [List.length_map, List.take_length]
      exact fin _ t2
end
end KL9
set_option linter.all false
namespace Q1
abbrev Sp2 := Int × Int
structure M (g : Int) (ts : List Int) (s : Sp2) : Prop where
  m1 : s.1 ∈ ts
  m2 : ∀ u ∈ ts, ¬ (s.1 - g < u ∧ u < s.1)
  m3 : s.2 - g ∈ ts
  m4 : ∀ u ∈ ts, ¬ (s.2 - g < u ∧ u < s.2)
  m5 : ∀ x, s.1 ≤ x → x < s.2 - g → ∃ u ∈ ts, x < u ∧ u < x + g
  m6 : s.1 + g ≤ s.2
theorem M.apart {g : Int} {ts : List Int} {a b : Sp2} (hg : 0 < g) (ha : M g ts a) (hb : M g ts b) (h : a.1 ≤ b.1) : a = b ∨ a.2 ≤ b.1 := by
  by_cases e : a.2 ≤ b.1
  · exact .inr e
  · left
    have e1 : a.1 = b.1 := by
      by_cases e2 : b.1 ≤ a.2 - g
      · by_cases e3 : a.1 < b.1
        · exfalso
          by_cases e4 : a.1 ≤ b.1 - g
          · obtain ⟨u, hu, h1, h2⟩ := ha.m5 (b.1 - g) e4 (by omega)
            exact hb.m2 u hu ⟨h1, by omega⟩
          · exact hb.m2 a.1 ha.m1 ⟨by omega, e3⟩
        · omega
      · exact absurd ⟨(by omega : a.2 - g < b.1), (by omega : b.1 < a.2)⟩ (ha.m4 b.1 hb.m1)
    have e2 : a.2 = b.2 := by
      have l1 := ha.m6
      have l2 := hb.m6
      rcases Int.lt_trichotomy a.2 b.2 with h1 | h1 | h1
      · obtain ⟨u, hu, h3, h4⟩ := hb.m5 (a.2 - g) (by omega) (by omega)
        exact absurd ⟨h3, by omega⟩ (ha.m4 u hu)
      · exact h1
      · obtain ⟨u, hu, h3, h4⟩ := ha.m5 (b.2 - g) (by omega) (by omega)
        exact absurd ⟨h3, by omega⟩ (hb.m4 u hu)
    exact Prod.ext e1 e2
theorem M.congr {g : Int} {ts us : List Int} (h : ∀ x, x ∈ ts ↔ x ∈ us) {s : Sp2} (m : M g ts s) : M g us s :=
  ⟨(h _).mp m.m1, fun u hu => m.m2 u ((h _).mpr hu), (h _).mp m.m3, fun u hu => m.m4 u ((h _).mpr hu), fun x h1 h2 => by
    obtain ⟨u, hu, h3⟩ := m.m5 x h1 h2
    exact ⟨u, (h _).mp hu, h3⟩, m.m6⟩
structure Spans (g : Int) (ts : List Int) (S : List Sp2) : Prop where
  mem : ∀ s, s ∈ S ↔ M g ts s
  cover : ∀ u ∈ ts, ∃ s ∈ S, s.1 ≤ u ∧ u + g ≤ s.2
  asc : S.Pairwise fun a b => a.2 ≤ b.1
theorem Spans.congr {g : Int} {ts us : List Int} (h : ∀ x, x ∈ ts ↔ x ∈ us) {S : List Sp2} (m : Spans g ts S) : Spans g us S :=
  ⟨fun s => ⟨fun z => ((m.mem s).mp z).congr h, fun z => (m.mem s).mpr (z.congr fun x => (h x).symm)⟩, fun u hu => m.cover u ((h u).mpr hu), m.asc⟩
theorem asc_eq {g : Int} (hg : 0 < g) : ∀ {A B : List Sp2}, (∀ s ∈ A, s.1 + g ≤ s.2) → A.Pairwise (fun a b => a.2 ≤ b.1) → B.Pairwise (fun a b => a.2 ≤ b.1) → (∀ s, s ∈ A ↔ s ∈ B) → A = B
  | [], [], _, _, _, _ => rfl
  | [], b :: B, _, _, _, h => absurd ((h b).mpr List.mem_cons_self) (by simp)
  | a :: A, [], _, _, _, h => absurd ((h a).mp List.mem_cons_self) (by simp)
  | a :: A, b :: B, w, pa, pb, h => by
    have wB : ∀ s ∈ b :: B, s.1 + g ≤ s.2 := fun s hs => w s ((h s).mpr hs)
    rw [List.pairwise_cons] at pa pb
    have wa := w a List.mem_cons_self
    have wb := wB b List.mem_cons_self
    have e : a = b := by
      rcases List.mem_cons.mp ((h a).mp List.mem_cons_self) with z | z
      · exact z
      rcases List.mem_cons.mp ((h b).mpr List.mem_cons_self) with y | y
      · exact y.symm
      have h1 := pb.1 a z
      have h2 := pa.1 b y
      omega
    subst e
    have na : ∀ {C : List Sp2}, (∀ x ∈ C, a.2 ≤ x.1) → a ∉ C := fun hc hm => by
      have := hc a hm
      omega
    rw [asc_eq hg (fun s hs => w s (List.mem_cons_of_mem _ hs)) pa.2 pb.2 fun s => ?_]
    constructor
    · intro hs
      rcases List.mem_cons.mp ((h s).mp (List.mem_cons_of_mem _ hs)) with z | z
      · exact absurd (z ▸ hs) (na pa.1)
      · exact z
    · intro hs
      rcases List.mem_cons.mp ((h s).mpr (List.mem_cons_of_mem _ hs)) with z | z
      · exact absurd (z ▸ hs) (na pb.1)
      · exact z
theorem Spans.uniq {g : Int} (hg : 0 < g) {ts : List Int} {A B : List Sp2} (a : Spans g ts A) (b : Spans g ts B) : A = B :=
  asc_eq hg (fun s hs => ((a.mem s).mp hs).m6) a.asc b.asc fun s => (a.mem s).trans (b.mem s).symm
def ov (g t : Int) (s : Sp2) : Bool := decide (s.1 < t + g) && decide (t < s.2)
def inner (g t : Int) (S : List Sp2) : List Sp2 := S.filter (ov g t)
def others (g t : Int) (S : List Sp2) : List Sp2 := S.filter fun s => decide (s ∉ inner g t S)
theorem ov_iff {g t : Int} {s : Sp2} : ov g t s = true ↔ s.1 < t + g ∧ t < s.2 := by
  unfold ov
  simp
theorem mem_inner {g t : Int} {S : List Sp2} {s : Sp2} : s ∈ inner g t S ↔ s ∈ S ∧ s.1 < t + g ∧ t < s.2 := by
  unfold inner
  rw [List.mem_filter, ov_iff]
theorem mem_others {g t : Int} {S : List Sp2} {s : Sp2} : s ∈ others g t S ↔ s ∈ S ∧ ¬ (s.1 < t + g ∧ t < s.2) := by
  unfold others
  rw [List.mem_filter, decide_eq_true_eq, mem_inner]
  constructor
  · rintro ⟨h1, h2⟩; exact ⟨h1, fun h => h2 ⟨h1, h⟩⟩
  · rintro ⟨h1, h2⟩; exact ⟨h1, fun h => h2 h.2⟩
structure Joint (g t : Int) (S : List Sp2) (b e : Int) : Prop where
  b1 : b = t ∨ ∃ s ∈ inner g t S, b = s.1
  b2 : b ≤ t
  b3 : ∀ s ∈ inner g t S, b ≤ s.1
  e1 : e = t + g ∨ ∃ s ∈ inner g t S, e = s.2
  e2 : t + g ≤ e
  e3 : ∀ s ∈ inner g t S, s.2 ≤ e
section
variable {g t b e : Int} {ts : List Int} {S : List Sp2}
theorem joint_M (hg : 0 < g) (H : Spans g ts S) (J : Joint g t S b e) : M g (t :: ts) (b, e) := by
  have cov := H.cover
  refine ⟨?_, fun u hu => ?_, ?_, fun u hu => ?_, fun x h1 h2 => ?_, ?_⟩
  · rcases J.b1 with h | ⟨s, hs, h⟩
    · show b ∈ t :: ts
      rw [h]; exact List.mem_cons_self
    · show b ∈ t :: ts
      rw [h]
      exact List.mem_cons_of_mem _ ((H.mem s).mp (mem_inner.mp hs).1).m1
  · show ¬ (b - g < u ∧ u < b)
    rintro ⟨h1, h2⟩
    have hb := J.b2
    rcases List.mem_cons.mp hu with rfl | hu
    · omega
    · rcases J.b1 with h | ⟨s, hs, h⟩
      · obtain ⟨s', hs', h3, h4⟩ := cov u hu
        have := J.b3 s' (mem_inner.mpr ⟨hs', by omega, by omega⟩)
        omega
      · exact ((H.mem s).mp (mem_inner.mp hs).1).m2 u hu ⟨by omega, by omega⟩
  · show e - g ∈ t :: ts
    rcases J.e1 with h | ⟨s, hs, h⟩
    · have : e - g = t := by omega
      rw [this]; exact List.mem_cons_self
    · rw [h]
      exact List.mem_cons_of_mem _ ((H.mem s).mp (mem_inner.mp hs).1).m3
  · show ¬ (e - g < u ∧ u < e)
    rintro ⟨h1, h2⟩
    have he := J.e2
    rcases List.mem_cons.mp hu with rfl | hu
    · omega
    · rcases J.e1 with h | ⟨s, hs, h⟩
      · obtain ⟨s', hs', h3, h4⟩ := cov u hu
        have := J.e3 s' (mem_inner.mpr ⟨hs', by omega, by omega⟩)
        omega
      · exact ((H.mem s).mp (mem_inner.mp hs).1).m4 u hu ⟨by omega, by omega⟩
  · have h1 : b ≤ x := h1
    have h2 : x < e - g := h2
    show ∃ u ∈ t :: ts, x < u ∧ u < x + g
    by_cases hx : x < t
    · -- ahead of t: in the inner span that begins at b
      by_cases hx2 : t < x + g
      · exact ⟨t, List.mem_cons_self, hx, hx2⟩
      · rcases J.b1 with h | ⟨s, hs, h⟩
        · omega
        · obtain ⟨hs1, hs2, hs3⟩ := mem_inner.mp hs
          have m := (H.mem s).mp hs1
          obtain ⟨u, hu, h3⟩ := m.m5 x (by omega) (by omega)
          exact ⟨u, List.mem_cons_of_mem _ hu, h3⟩
    · rcases J.e1 with h | ⟨s, hs, h⟩
      · omega
      · obtain ⟨hs1, hs2, hs3⟩ := mem_inner.mp hs
        have m := (H.mem s).mp hs1
        by_cases hx3 : s.1 ≤ x
        · obtain ⟨u, hu, h3⟩ := m.m5 x hx3 (by omega)
          exact ⟨u, List.mem_cons_of_mem _ hu, h3⟩
        · exact ⟨s.1, List.mem_cons_of_mem _ m.m1, by omega, by omega⟩
  · have := J.b2
    have := J.e2
    show b + g ≤ e
    omega
theorem others_M (hg : 0 < g) (H : Spans g ts S) {s : Sp2} (h : s ∈ others g t S) : M g (t :: ts) s := by
  obtain ⟨h1, h2⟩ := mem_others.mp h
  have m := (H.mem s).mp h1
  have l := m.m6
  refine ⟨List.mem_cons_of_mem _ m.m1, fun u hu => ?_, List.mem_cons_of_mem _ m.m3, fun u hu => ?_, fun x h3 h4 => ?_, m.m6⟩
  · rcases List.mem_cons.mp hu with rfl | hu
    · omega
    · exact m.m2 u hu
  · rcases List.mem_cons.mp hu with rfl | hu
    · omega
    · exact m.m4 u hu
  · obtain ⟨u, hu, h5⟩ := m.m5 x h3 h4
    exact ⟨u, List.mem_cons_of_mem _ hu, h5⟩
theorem joint_mem (hg : 0 < g) (H : Spans g ts S) (J : Joint g t S b e) (s : Sp2) : s ∈ others g t S ++ [(b, e)] ↔ M g (t :: ts) s := by
  have mb := joint_M hg H J
  have lb := J.b2
  have le := J.e2
  rw [List.mem_append, List.mem_singleton]
  constructor
  · rintro (h | rfl)
    · exact others_M hg H h
    · exact mb
  · intro m
    have ls := m.m6
    have ap : s = (b, e) ∨ s.2 ≤ b ∨ e ≤ s.1 := by
      rcases Int.le_total s.1 b with h | h
      · rcases m.apart hg mb h with z | z
        · exact .inl z
        · exact .inr (.inl z)
      · rcases mb.apart hg m h with z | z
        · exact .inl z.symm
        · exact .inr (.inr z)
    rcases ap with z | ap
    · exact .inr z
    · left
      have notT : ∀ u, u ∈ t :: ts → s.1 ≤ u → u < s.2 → u ∈ ts := fun u hu h1 h2 => by
        rcases List.mem_cons.mp hu with rfl | hu
        · exfalso; omega
        · exact hu
      refine mem_others.mpr ⟨(H.mem s).mpr ⟨notT _ m.m1 (by omega) (by omega), fun u hu => m.m2 u (List.mem_cons_of_mem _ hu), notT _ m.m3 (by omega) (by omega), fun u hu => m.m4 u (List.mem_cons_of_mem _ hu), fun x h1 h2 => ?_, m.m6⟩, by omega⟩
      obtain ⟨u, hu, h3, h4⟩ := m.m5 x h1 h2
      exact ⟨u, notT u hu (by omega) (by omega), h3, h4⟩
theorem joint_cover (H : Spans g ts S) (J : Joint g t S b e) : ∀ u ∈ t :: ts, ∃ s ∈ others g t S ++ [(b, e)], s.1 ≤ u ∧ u + g ≤ s.2 := by
  intro u hu
  have lb := J.b2
  have le := J.e2
  have hm : (b, e) ∈ others g t S ++ [(b, e)] := List.mem_append.mpr (.inr (List.mem_singleton.mpr rfl))
  rcases List.mem_cons.mp hu with rfl | hu
  · exact ⟨(b, e), hm, lb, le⟩
  · obtain ⟨s, hs, h1, h2⟩ := H.cover u hu
    by_cases h : s.1 < t + g ∧ t < s.2
    · have hi := mem_inner.mpr ⟨hs, h⟩
      have := J.b3 s hi
      have := J.e3 s hi
      exact ⟨(b, e), hm, by show b ≤ u; omega, by show u + g ≤ e; omega⟩
    · exact ⟨s, List.mem_append.mpr (.inl (mem_others.mpr ⟨hs, h⟩)), h1, h2⟩
theorem asc_nodup (hg : 0 < g) : ∀ {A : List Sp2}, (∀ s ∈ A, s.1 + g ≤ s.2) → A.Pairwise (fun a b => a.2 ≤ b.1) → A.Nodup
  | [], _, _ => List.nodup_nil
  | a :: A, w, p => by
    rw [List.pairwise_cons] at p
    refine List.nodup_cons.mpr ⟨fun h => ?_, asc_nodup hg (fun s hs => w s (List.mem_cons_of_mem _ hs)) p.2⟩
    have := p.1 a h
    have := w a List.mem_cons_self
    omega
theorem joint_nodup (hg : 0 < g) (H : Spans g ts S) (J : Joint g t S b e) : (others g t S ++ [(b, e)]).Nodup := by
  have nS := asc_nodup hg (fun s hs => ((H.mem s).mp hs).m6) H.asc
  have lb := J.b2
  have le := J.e2
  refine List.nodup_append.mpr ⟨nS.filter _, by simp, fun x hx y hy => ?_⟩
  rw [List.mem_singleton] at hy
  subst hy
  rintro rfl
  have := (mem_others.mp hx).2
  exact this ⟨by show b < t + g; omega, by show t < e; omega⟩
def lt2 (a b : Sp2) : Bool := decide (a.1 < b.1) || (decide (a.1 = b.1) && decide (a.2 < b.2))
theorem asc_of_sorted (hg : 0 < g) {A : List Sp2} (hm : ∀ s ∈ A, M g ts s) (nd : A.Nodup) (so : A.Pairwise fun a b => lt2 b a = false) : A.Pairwise fun a b => a.2 ≤ b.1 := by
  induction A with
  | nil => exact .nil
  | cons a A ih =>
    rw [List.pairwise_cons] at so
    rw [List.nodup_cons] at nd
    refine List.pairwise_cons.mpr ⟨fun x hx => ?_, ih (fun s hs => hm s (List.mem_cons_of_mem _ hs)) nd.2 so.2⟩
    have h1 := so.1 x hx
    unfold lt2 at h1
    rw [Bool.or_eq_false_iff, decide_eq_false_iff_not] at h1
    rcases (hm a List.mem_cons_self).apart hg (hm x (List.mem_cons_of_mem _ hx)) (by omega) with z | z
    · exact absurd (z ▸ hx) nd.1
    · exact z
theorem joined_spans (hg : 0 < g) (H : Spans g ts S) (J : Joint g t S b e) {A : List Sp2} (pm : A.Perm (others g t S ++ [(b, e)])) (so : A.Pairwise fun a b => lt2 b a = false) : Spans g (t :: ts) A := by
  have hm : ∀ s, s ∈ A ↔ M g (t :: ts) s := fun s => (pm.mem_iff).trans (joint_mem hg H J s)
  refine ⟨hm, fun u hu => ?_, asc_of_sorted hg (fun s hs => (hm s).mp hs) (pm.nodup_iff.mpr (joint_nodup hg H J)) so⟩
  obtain ⟨s, hs, h⟩ := joint_cover H J u hu
  exact ⟨s, pm.mem_iff.mpr hs, h⟩
theorem taken_eq (hg : 0 < g) (H : Spans g ts S) {A : List Sp2} (pm : A.Perm (inner g t S)) (so : A.Pairwise fun a b => lt2 b a = false) : A = inner g t S := by
  have hi : ∀ s ∈ inner g t S, M g ts s := fun s hs => (H.mem s).mp (mem_inner.mp hs).1
  have ai : (inner g t S).Pairwise fun a b => a.2 ≤ b.1 := H.asc.filter _
  have nd : (inner g t S).Nodup := (asc_nodup hg (fun s hs => ((H.mem s).mp hs).m6) H.asc).filter _
  have hA : ∀ s ∈ A, M g ts s := fun s hs => hi s (pm.mem_iff.mp hs)
  exact asc_eq hg (fun s hs => (hA s hs).m6) (asc_of_sorted hg hA (pm.nodup_iff.mpr nd) so) ai fun s => pm.mem_iff
theorem taken_law (hg : 0 < g) (H : Spans g ts S) (J : Joint g t S b e) {A : List Sp2} (pm : A.Perm (others g t S ++ [(b, e)])) : S.filter (fun s => decide (s ∉ A) || decide (s = (b, e))) = inner g t S := by
  unfold inner
  refine List.filter_congr fun s hs => ?_
  have lb := J.b2
  have le := J.e2
  have hA : s ∈ A ↔ s ∈ others g t S ∨ s = (b, e) := by rw [pm.mem_iff, List.mem_append, List.mem_singleton]
  rw [Bool.eq_iff_iff, ov_iff, Bool.or_eq_true, decide_eq_true_eq, decide_eq_true_eq, hA, mem_others]
  constructor
  · rintro (h | rfl)
    · by_cases z : s.1 < t + g ∧ t < s.2
      · exact z
      · exact absurd (.inl ⟨hs, z⟩) h
    · exact ⟨by show b < t + g; omega, by show t < e; omega⟩
  · intro h
    by_cases z : s = (b, e)
    · exact .inr z
    · left
      rintro (y | y)
      · exact y.2 h
      · exact z y
end
def lsStep (g : Int) (acc : List Sp2) (t : Int) : List Sp2 :=
  match acc.getLast? with
  | some l => if t < l.2 then acc.dropLast ++ [(l.1, t + g)] else acc ++ [(t, t + g)]
  | none => [(t, t + g)]
theorem spans_nil {g : Int} : Spans g [] [] := ⟨fun s => ⟨fun h => by simp at h, fun m => absurd m.m1 (by simp)⟩, fun u hu => absurd hu (by simp), .nil⟩
theorem ls_spans {g t : Int} (hg : 0 < g) {ts : List Int} {S : List Sp2} (H : Spans g ts S) (ht : ∀ u ∈ ts, u ≤ t) : Spans g (t :: ts) (lsStep g S t) := by
  have hs1 : ∀ s ∈ S, s.1 ≤ t := fun s hs => ht _ ((H.mem s).mp hs).m1
  have hs2 : ∀ s ∈ S, s.2 ≤ t + g := fun s hs => by have := ht _ ((H.mem s).mp hs).m3; omega
  rcases List.eq_nil_or_concat S with rfl | ⟨init, l, rfl⟩
  · have J : Joint g t [] t (t + g) := ⟨.inl rfl, Int.le_refl _, fun s hs => absurd hs (by simp [inner]), .inl rfl, Int.le_refl _, fun s hs => absurd hs (by simp [inner])⟩
    exact joined_spans hg H J (A := [(t, t + g)]) (List.Perm.refl _) (by simp)
  · rw [List.concat_eq_append] at H hs1 hs2 ⊢
    have asc := H.asc
    rw [List.pairwise_append] at asc
    have hl := hs1 l (by simp)
    have hl2 := hs2 l (by simp)
    have ml := (H.mem l).mp (by simp)
    have noi : ∀ s ∈ init, s.2 ≤ t := fun s hs => by have := asc.2.2 s hs l (by simp); omega
    have w : ∀ s ∈ init ++ [l], s.1 + g ≤ s.2 := fun s hs => ((H.mem s).mp hs).m6
    unfold lsStep
    rw [List.getLast?_concat]
    show Spans g (t :: ts) (if t < l.2 then _ else _)
    by_cases h : t < l.2
    · rw [if_pos h, List.dropLast_concat]
      have hin : ∀ s, s ∈ inner g t (init ++ [l]) ↔ s = l := fun s => by
        rw [mem_inner]
        constructor
        · rintro ⟨h1, h2, h3⟩
          rcases List.mem_append.mp h1 with z | z
          · have := noi s z; omega
          · exact List.mem_singleton.mp z
        · rintro rfl
          exact ⟨by simp, by omega, h⟩
      have J : Joint g t (init ++ [l]) l.1 (t + g) := ⟨.inr ⟨l, (hin l).mpr rfl, rfl⟩, hl, fun s hs => by rw [(hin s).mp hs]; exact Int.le_refl _, .inl rfl, Int.le_refl _, fun s hs => by rw [(hin s).mp hs]; exact hl2⟩
      have eo : others g t (init ++ [l]) = init := by
        unfold others
        rw [List.filter_append, List.filter_eq_self.mpr fun s hs => ?_]
        · rw [List.filter_cons_of_neg (by simpa using (hin l).mpr rfl)]
          simp
        · rw [decide_eq_true_eq, hin]
          rintro rfl
          have h1 := noi s hs
          omega
      refine joined_spans hg H J (by rw [eo]) ?_
      refine List.pairwise_append.mpr ⟨asc.1.imp_of_mem fun {a b} ha hb hab => ?_, by simp, fun a ha b hb => ?_⟩
      · have := w a (by simp [ha])
        unfold lt2
        simp
        omega
      · rw [List.mem_singleton] at hb
        subst hb
        have h1 := asc.2.2 a ha l (by simp)
        have := w a (by simp [ha])
        unfold lt2
        simp
        omega
    · rw [if_neg h]
      have hin : ∀ s, s ∉ inner g t (init ++ [l]) := fun s hs => by
        obtain ⟨h1, h2, h3⟩ := mem_inner.mp hs
        rcases List.mem_append.mp h1 with z | z
        · have := noi s z; omega
        · rw [List.mem_singleton.mp z] at h3
          exact h h3
      have J : Joint g t (init ++ [l]) t (t + g) := ⟨.inl rfl, Int.le_refl _, fun s hs => absurd hs (hin s), .inl rfl, Int.le_refl _, fun s hs => absurd hs (hin s)⟩
      have eo : others g t (init ++ [l]) = init ++ [l] := by
        unfold others
        exact List.filter_eq_self.mpr fun s _ => by rw [decide_eq_true_eq]; exact hin s
      refine joined_spans hg H J (by rw [eo]) ?_
      refine List.pairwise_append.mpr ⟨H.asc.imp_of_mem fun {a b} ha hb hab => ?_, by simp, fun a ha b hb => ?_⟩
      · have := w a ha
        unfold lt2
        simp
        omega
      · rw [List.mem_singleton] at hb
        subst hb
        have h1 := hs1 a ha
        have h2 := hs2 a ha
        have := w a ha
        have h3 : a.2 ≤ t := by
          rcases List.mem_append.mp ha with z | z
          · exact noi a z
          · rw [List.mem_singleton.mp z]; omega
        unfold lt2
        simp
        omega
def lawSp (g : Int) (ts : List Int) : List Sp2 := ts.foldl (lsStep g) []
theorem lawSp_spans {g : Int} (hg : 0 < g) {ts : List Int} (so : ts.Pairwise (· ≤ ·)) : Spans g ts (lawSp g ts) := by
  have go : ∀ (r p : List Int) (S : List Sp2), Spans g p S → (∀ u ∈ p, ∀ v ∈ r, u ≤ v) → r.Pairwise (· ≤ ·) → Spans g (p ++ r) (r.foldl (lsStep g) S) := by
    intro r
    induction r with
    | nil => intro p S h _ _; simpa using h
    | cons t r ih =>
      intro p S h hp hr
      rw [List.pairwise_cons] at hr
      have h1 := ls_spans hg h fun u hu => hp u hu t List.mem_cons_self
      have h2 := ih (p ++ [t]) (lsStep g S t) (h1.congr fun x => by simp [or_comm]) (fun u hu v hv => ?_) hr.2
      · simpa using h2
      · rcases List.mem_append.mp hu with z | z
        · exact hp u z v (List.mem_cons_of_mem _ hv)
        · rw [List.mem_singleton.mp z]; exact hr.1 v hv
  exact go ts [] [] spans_nil (by simp) so
end Q1
set_option Elab.async false
set_option linter.all false
set_option maxRecDepth 100000
set_option maxHeartbeats 4000000
namespace SrtU
open PySem PyProof.Rows Srt SrtO
section
variable {prog : Program} {w : World} {A : Around} {E : Value → Shared → Prop} {s : Shared}
theorem collect_tup {l : Addr} {vs : List Value} {Q : List Value → Shared → Prop} (hl : s.heap.IsTuple l vs.toArray)
    (h : Q vs { s with heap := (s.heap.push (seqObj "list" #[] 0)).update s.heap.objs.size (Obj.mapSeq (· ++ vs.toArray)) }) (hsz : vs.length ≤ sizeLine) :
    wpAny (model prog w) A (collect (.ref l)) Q E s := by
  obtain ⟨o, ho, hc, n, hd⟩ := id hl
  unfold collect
  refine wpAny_bind (wpAny_runValue (codeAny_builtin entry_proto_collect' ?_))
  show wpAny _ _ (do again (.builtin "list.__iadd__" ⟨[← newList [], .ref l], []⟩)) _ _ s
  refine wpAny_bind (wpAny_newList (wpAny_pure ⟨Code.quiet_builtin _ (by decide +kernel), codeAny_builtin entry_list_iadd' ?_⟩))
  show wpAny _ _ (Builtin.List.listExtendWith (.ref s.heap.objs.size) (.ref l) (.ref s.heap.objs.size)) _ _ { s with heap := s.heap.push (seqObj "list" #[] 0) }
  unfold Builtin.List.listExtendWith
  have ho' : (s.heap.push (seqObj "list" #[] 0)).get? l = some o := Heap.get?_push_of_some _ ho
  refine wpAny_bind (wpAny_typeOf (T := "tuple") ⟨o, ho', hc⟩ ?_)
  have ht : (Value.type "tuple" == Value.type "tuple") = true := by rfl
  rw [if_pos (by rw [ht]; simp)]
  refine wpAny_bind (listItems_at ho' hd ?_)
  refine wpAny_bind (listItems_at (xs := #[]) (n := 0) (Heap.get?_push_size _ rfl) rfl ?_)
  rw [if_neg (by simp)]
  refine wpAny_bind (listUpdate_at (xs := #[]) (n := 0) (Heap.get?_push_size _ rfl) rfl ?_ (Nat.zero_le _) (by show (#[] ++ vs.toArray).size ≤ sizeLine + 1; simp only [Array.size_append, List.size_toArray, List.length_nil]; omega))
  refine wpAny_pure ?_
  show wpAny (model prog w) A (do
      let o ← load s.heap.objs.size
      match o.data with
      | .seq xs _ => pure xs.toList
      | _ => unsupported "internal:collect") Q E { s with heap := (s.heap.push (seqObj "list" #[] 0)).update s.heap.objs.size (Obj.mapSeq (· ++ vs.toArray)) }
  refine wpAny_bind (wpAny_load (get?_update_seq (Heap.get?_push_size _ rfl) _) ?_)
  show wpAny _ _ (pure ((#[] : Array Value) ++ vs.toArray).toList) Q E _
  rw [show ((#[] : Array Value) ++ vs.toArray).toList = vs by simp]
  exact wpAny_pure h
theorem sorted_ordT {l : Addr} {vs : List Value} {ltv : Value → Value → Bool} {Q : Value → Shared → Prop} (O : Swo ltv) (hl : s.heap.IsTuple l vs.toArray) (hz : vs.length ≤ sizeLine)
    (hS : 2 ≤ vs.length → ∀ (h₁ : Heap) (a : Addr), h₁.get? a = some (seqObj "list" vs.toArray 0) → (∀ b o, s.heap.get? b = some o → b ≠ a ∧ h₁.get? b = some o) → SortableO prog w A.in1.in1 { s with heap := h₁ } a vs ltv)
    (h : ∀ out : List Value, Srtd ltv out → Stb ltv out vs → Q (.ref (s.heap.objs.size + 1)) { s with heap := sortedAll s.heap vs out.toArray }) :
    wpAny (model prog w) A (call (.builtin "sorted") [.ref l]) Q E s := by
  refine Calls.call_function_entry kind_sorted plain_sorted entry_sorted (args_sorted1 _) ?_
  unfold Builtin.«sorted»
  refine wpAny_bind (m := checkCount "sorted" 1 1 _) (wpAny_pure ?_)
  refine wpAny_bind (collect_tup hl ?_ hz)
  refine wpAny_bind (wpAny_newList ?_ hz)
  have hsz : ((s.heap.push (seqObj "list" #[] 0)).update s.heap.objs.size (Obj.mapSeq (· ++ vs.toArray))).objs.size = s.heap.objs.size + 1 := by
    rw [Heap.size_update, size_push']
  have hoL : (((s.heap.push (seqObj "list" #[] 0)).update s.heap.objs.size (Obj.mapSeq (· ++ vs.toArray))).push (seqObj "list" vs.toArray 0)).get? (s.heap.objs.size + 1) = some (seqObj "list" vs.toArray 0) := by
    rw [← hsz]; exact Heap.get?_push_size _ rfl
  have keep : ∀ b o, s.heap.get? b = some o → b ≠ s.heap.objs.size + 1 ∧ (((s.heap.push (seqObj "list" #[] 0)).update s.heap.objs.size (Obj.mapSeq (· ++ vs.toArray))).push (seqObj "list" vs.toArray 0)).get? b = some o := fun b o q => by
    have hlt : b < s.heap.objs.size := Heap.lt_size q
    refine ⟨Nat.ne_of_lt (Nat.lt_succ_of_lt hlt), Heap.get?_push_of_some _ ?_⟩
    rw [Heap.get?_update_ne _ _ _ _ (Nat.ne_of_lt hlt)]
    exact Heap.get?_push_of_some _ q
  show wpAny _ _ _ _ _ { s with heap := ((s.heap.push (seqObj "list" #[] 0)).update s.heap.objs.size (Obj.mapSeq (· ++ vs.toArray))).push (seqObj "list" vs.toArray 0) }
  rw [hsz]
  refine wpAny_bind (wpAny_holding (wpAny_call_entry slot_list_sort ⟨_, hoL, rfl⟩ entry_list_sort (list_sort_ord O hoL hz (fun h2 => hS h2 _ _ hoL keep) fun out hs hb => ⟨_, rfl, ?_⟩) (args_list_sort _)))
  exact wpAny_pure ⟨_, rfl, h out hs hb⟩
theorem sorted_pairsT {l : Addr} {vs : List Value} {k : Value → Int × Int} {Q : Value → Shared → Prop} (hl : s.heap.IsTuple l vs.toArray) (hz : vs.length ≤ sizeLine) (hp : ∀ v ∈ vs, IsPair s.heap v (k v).1 (k v).2)
    (h : ∀ (h' : Heap) (d : Addr) (out : List Value), Srtd (fun v u => lexB (k v) (k u)) out → Stb (fun v u => lexB (k v) (k u)) out vs → (∀ b o, s.heap.get? b = some o → h'.get? b = some o) → s.heap.objs.size ≤ d → (∃ n, h'.get? d = some (seqObj "list" out.toArray n)) → Q (.ref d) { s with heap := h' }) :
    wpAny (model prog w) A (call (.builtin "sorted") [.ref l]) Q E s := by
  refine sorted_ordT (swo_lex k) hl hz (fun h2 h₁ a ha kk => ?_) fun out hs hb => ?_
  · refine pairs_sortableO (s := { s with heap := h₁ }) (by omega) (fun v hm => (hp v hm).keeps fun b o e _ => (kk b o e).2) fun o e => ?_
    have e' : some o = some (seqObj "list" vs.toArray 0) := e.symm.trans ha
    cases e'
    intro c
    exact absurd (Value.type.inj c) (by decide)
  · exact h _ _ out hs hb (fun b o e => sortedAll_old e) (Nat.le_succ _) (sortedAll_at s.heap vs out.toArray)
end
end SrtU
namespace R8
open PySem PySem.Spec PyProof.Rows L2 KB KC KS Q1
def pD (p : Sp2) : PyData := .tuple [.int p.1, .int p.2]
def Ps (H : Hp) (us : List Addr) (S : List Sp2) : Prop := Paired (fun (t : Addr) (p : Sp2) => H t = some (.tup [.int p.1, .int p.2])) us S
theorem paired_mono {α β : Type} {R R' : α → β → Prop} (f : ∀ a b, R a b → R' a b) : ∀ {l : List α} {m : List β}, Paired R l m → Paired R' l m
  | _, _, .nil => .nil
  | _, _, .cons h t => .cons (f _ _ h) (paired_mono f t)
theorem paired_app {α β : Type} {R : α → β → Prop} : ∀ {l l' : List α} {m m' : List β}, Paired R l m → Paired R l' m' → Paired R (l ++ l') (m ++ m')
  | _, _, _, _, .nil, h => h
  | _, _, _, _, .cons h t, h' => .cons h (paired_app t h')
theorem Ps.ex {H H' : Hp} {us : List Addr} {S : List Sp2} (p : Ps H us S) (e : ∀ b xs, H b = some (.tup xs) → H' b = some (.tup xs)) : Ps H' us S := paired_mono (fun a b h => e a _ h) p
theorem Ps.dp {K : PySem.W.Frag} {H : Hp} : ∀ {us : List Addr} {S : List Sp2}, Ps H us S → DpAll K H (us.map V.ref) (S.map pD)
  | _, _, .nil => .nil
  | _, _, .cons h t => .cons (.tup (SqT.of h) (.cons (.int _) (.cons (.int _) .nil))) (Ps.dp t)
theorem Ps.at {H : Hp} : ∀ {us : List Addr} {S : List Sp2}, Ps H us S → ∀ {i : Nat} {t : Addr}, us[i]? = some t → ∃ p, S[i]? = some p ∧ H t = some (.tup [.int p.1, .int p.2])
  | _, _, .nil, i, t, h => by simp at h
  | _, _, .cons (a := a) (b := b) h r, i, t, e => by
    cases i with
    | zero => cases e; exact ⟨b, rfl, h⟩
    | succ i => exact Ps.at r (i := i) e
theorem Ps.at2 {H : Hp} : ∀ {us : List Addr} {S : List Sp2}, Ps H us S → ∀ {i : Nat} {p : Sp2}, S[i]? = some p → ∃ t, us[i]? = some t ∧ H t = some (.tup [.int p.1, .int p.2])
  | _, _, .nil, i, t, h => by simp at h
  | _, _, .cons (a := a) (b := b) h r, i, t, e => by
    cases i with
    | zero => cases e; exact ⟨a, rfl, h⟩
    | succ i => exact Ps.at2 r (i := i) e
def kH (H : Hp) : V → Int × Int
  | .ref t => match H t with
    | some (.tup [.int i, .int j]) => (i, j)
    | _ => (0, 0)
  | _ => (0, 0)
theorem kH_at {H : Hp} {t : Addr} {p : Sp2} (h : H t = some (.tup [.int p.1, .int p.2])) : kH H (.ref t) = p := by
  unfold kH
  simp only [h]
theorem Ps.kH {H : Hp} : ∀ {us : List Addr} {S : List Sp2}, Ps H us S → (us.map V.ref).map (kH H) = S
  | _, _, .nil => rfl
  | _, _, .cons h t => by rw [List.map_cons, List.map_cons, kH_at h, Ps.kH t]
theorem eqv_pD (a b : Sp2) : PyData.eqv (pD a) (pD b) = decide (a = b) := by
  obtain ⟨a1, a2⟩ := a
  obtain ⟨b1, b2⟩ := b
  unfold pD
  simp only [PyData.eqv, PyData.eqvAll, Bool.and_true, Prod.mk.injEq]
  rw [Bool.eq_iff_iff]
  simp
theorem any_pD (S : List Sp2) (p : Sp2) : ((S.map pD).any fun z => PyData.eqv z (pD p)) = decide (p ∈ S) := by
  rw [Bool.eq_iff_iff, List.any_eq_true, decide_eq_true_eq]
  constructor
  · rintro ⟨z, hz, h⟩
    obtain ⟨q, hq, rfl⟩ := List.mem_map.mp hz
    rw [eqv_pD, decide_eq_true_eq] at h
    exact h ▸ hq
  · intro h
    exact ⟨pD p, List.mem_map.mpr ⟨p, h, rfl⟩, by rw [eqv_pD]; exact decide_eq_true rfl⟩
theorem shaped_pD (p : Sp2) : SeqAt.shaped (pD p) = true := by
  unfold SeqAt.shaped pD
  simp [PyData.canLay0, PyData.canLayAll0, PyData.depth, PyData.depthAll]
theorem lay_pD : ∀ S : List Sp2, PyData.canLayAll0 (S.map pD) = true
  | [] => by simp [PyData.canLayAll0]
  | p :: S => by
    rw [List.map_cons]
    unfold PyData.canLayAll0
    rw [lay_pD S]
    simp [pD, PyData.canLay0, PyData.canLayAll0]
def rInP (neg : Bool) : R2 := fun x y H Q => ∃ (t a : Addr) (p : Sp2) (us : List Addr) (S : List Sp2), x = .ref t ∧ y = .ref a ∧ H t = some (.tup [.int p.1, .int p.2]) ∧ H a = some (.tup (us.map V.ref)) ∧ Ps H us S ∧ Q (.bl (if neg then !decide (p ∈ S) else decide (p ∈ S))) H
section
variable {X : Cx}
theorem op_inP (hu : X.A.units + 65 < cLine) : OpR X (compareOp .In) (rInP false) := by
  intro pins s σ H x y v u Q I rx ry h
  obtain ⟨t, a, p, us, S, rfl, rfl, ht, ha, hp, q⟩ := h
  obtain ⟨as, r1⟩ := Dp.reads I (pD p) (.ref t) v (.tup (SqT.of ht) (.cons (.int _) (.cons (.int _) .nil))) rx
  obtain ⟨bs, r2⟩ := Dp.reads I (.tuple (S.map pD)) (.ref a) u (.tup (SqT.of ha) hp.dp) ry
  refine SeqAt.in_tuple_reads r2 r1 (lay_pD S) (SeqAt.canLay_of_shaped (shaped_pD p)) (room_in_shaped (shaped_pD p) hu) ⟨.bl _, H, I, rfl, ?_⟩
  rw [any_pD]
  exact q
theorem op_notInP (hu : X.A.units + 65 < cLine) : OpR X (compareOp .NotIn) (rInP true) := by
  intro pins s σ H x y v u Q I rx ry h
  obtain ⟨t, a, p, us, S, rfl, rfl, ht, ha, hp, q⟩ := h
  obtain ⟨as, r1⟩ := Dp.reads I (pD p) (.ref t) v (.tup (SqT.of ht) (.cons (.int _) (.cons (.int _) .nil))) rx
  obtain ⟨bs, r2⟩ := Dp.reads I (.tuple (S.map pD)) (.ref a) u (.tup (SqT.of ha) hp.dp) ry
  refine SeqAt.notIn_tuple_reads r2 r1 (lay_pD S) (SeqAt.canLay_of_shaped (shaped_pD p)) (room_in_shaped (shaped_pD p) hu) ⟨.bl _, H, I, rfl, ?_⟩
  rw [any_pD]
  exact q
end
theorem refs_ex : ∀ {l : List V}, (∀ v ∈ l, ∃ t, v = V.ref t) → ∃ us : List Addr, l = us.map V.ref
  | [], _ => ⟨[], rfl⟩
  | v :: l, h => by
    obtain ⟨t, rfl⟩ := h v List.mem_cons_self
    obtain ⟨us, rfl⟩ := refs_ex fun v hv => h v (List.mem_cons_of_mem _ hv)
    exact ⟨t :: us, rfl⟩
theorem ps_of {H : Hp} : ∀ {us : List Addr}, (∀ t ∈ us, ∃ p : Sp2, H t = some (.tup [.int p.1, .int p.2])) → Ps H us ((us.map V.ref).map (kH H))
  | [], _ => .nil
  | t :: us, h => by
    obtain ⟨p, hp⟩ := h t List.mem_cons_self
    refine .cons ?_ (ps_of fun u hu => h u (List.mem_cons_of_mem _ hu))
    rw [kH_at hp]
    exact hp
theorem Ps.mem {H : Hp} : ∀ {us : List Addr} {S : List Sp2}, Ps H us S → ∀ t ∈ us, ∃ p : Sp2, H t = some (.tup [.int p.1, .int p.2])
  | _, _, .nil, t, h => by simp at h
  | _, _, .cons (b := b) h r, t, ht => by
    rcases List.mem_cons.mp ht with rfl | ht
    · exact ⟨b, h⟩
    · exact Ps.mem r t ht
theorem lexB_lt2 {a b : Sp2} (h : SrtO.lexB a b = false) : lt2 a b = false := by
  have := SrtO.lexB_no.mp h
  unfold lt2
  rw [Bool.or_eq_false_iff, Bool.and_eq_false_iff, decide_eq_false_iff_not, decide_eq_false_iff_not, decide_eq_false_iff_not]
  omega
theorem sort_out {H : Hp} {us : List Addr} {S : List Sp2} {ys : List V} (hp : Ps H us S) (so : SrtO.Srtd (ltP (kH H)) ys) (st : SrtO.Stb (ltP (kH H)) ys (us.map V.ref)) :
    ∃ (us' : List Addr) (S' : List Sp2), ys = us'.map V.ref ∧ Ps H us' S' ∧ S'.Perm S ∧ S'.Pairwise (fun a b => lt2 b a = false) := by
  have pm := st.perm
  obtain ⟨us', rfl⟩ := refs_ex (l := ys) fun v hv => by
    obtain ⟨t, _, e⟩ := List.mem_map.mp (pm.mem_iff.mp hv)
    exact ⟨t, e.symm⟩
  refine ⟨us', (us'.map V.ref).map (kH H), rfl, ps_of fun t ht => ?_, ?_, ?_⟩
  · have := pm.mem_iff.mp (List.mem_map.mpr ⟨t, ht, rfl⟩)
    obtain ⟨t', ht', e⟩ := List.mem_map.mp this
    cases e
    exact hp.mem t ht'
  · rw [← hp.kH]
    exact pm.map _
  · refine List.pairwise_map.mpr (so.imp fun {a b} h => lexB_lt2 h)
def rSortPL : List V → Hp → VK → Prop := fun vs H Q => ∃ (a : Addr) (us : List Addr) (S : List Sp2), vs = [.ref a] ∧ (H a = some (.lst (us.map V.ref)) ∨ H a = some (.tup (us.map V.ref))) ∧ Ps H us S ∧
  ∀ (q : Addr) (us' : List Addr) (S' : List Sp2), H q = none → Ps H us' S' → S'.Perm S → S'.Pairwise (fun a b => lt2 b a = false) → Q (.ref q) (upd H q (.lst (us'.map V.ref)))
section
variable {X : Cx}
theorem cr_sortPL : CallR X (.builtin "sorted") rSortPL := by
  intro pins s σ H vs us0 Q I r h
  obtain ⟨a, us, S, rfl, ha | ha, hp, q⟩ := h
  · refine cr_sortedPO pins s σ H _ us0 Q I r ⟨a, us.map V.ref, kH H, rfl, SqL.of ha, fun x hx => ?_, fun ys p so st hn => ?_⟩
    · obtain ⟨t, ht, rfl⟩ := List.mem_map.mp hx
      obtain ⟨p, h⟩ := hp.mem t ht
      exact ⟨t, rfl, by rw [kH_at h]; exact h⟩
    · obtain ⟨us', S', rfl, h1, h2, h3⟩ := sort_out hp so st
      exact q p us' S' hn h1 h2 h3
  · obtain ⟨its, rv, hl, hz⟩ := I.tuple (SqT.of ha)
    obtain ⟨u, rfl, ru⟩ := vals1 r
    obtain rfl : u = Value.ref a := ru
    obtain ⟨e1, e2⟩ := refs_back rv fun x m => by
      obtain ⟨t, _, e⟩ := List.mem_map.mp m
      exact ⟨t, e.symm⟩
    refine SrtU.sorted_pairsT (k := fun u => kH H (backV u)) hl (by rw [← rv.length]; exact hz) (fun v hv => ?_) fun h' d out h1 h2 kp hd hn => ?_
    · obtain ⟨t, rfl⟩ := e2 v hv
      have hm : V.ref t ∈ us.map V.ref := by rw [e1]; exact List.mem_map.mpr ⟨_, hv, rfl⟩
      obtain ⟨t', ht', e⟩ := List.mem_map.mp hm
      cases e
      obtain ⟨p, hpt⟩ := hp.mem t ht'
      obtain ⟨_, its2, r2, o, ho, hc, n, hd⟩ := I.hok _ _ hpt
      obtain ⟨u1, u2, rfl, ri, rj⟩ := vals2 r2
      obtain ⟨t1, rfl⟩ := ri
      obtain ⟨t2, rfl⟩ := rj
      have e : kH H (backV (.ref t)) = p := kH_at hpt
      rw [e]
      exact ⟨t, o, t1, t2, n, rfl, ho, hc, hd⟩
    · have h3 : ∀ u ∈ out, ∃ a, u = Value.ref a := fun u hu => e2 u (h2.perm.mem_iff.mp hu)
      obtain ⟨n, hn⟩ := hn
      have hb : SrtO.Stb (ltP (kH H)) (out.map backV) (us.map V.ref) := by
        rw [e1]
        exact SrtO.Stb.map (ltP_swo (kH H)) backV h2
      obtain ⟨us', S', e, k1, k2, k3⟩ := sort_out hp (SrtO.srtd_map h1) hb
      have hq := q d us' S' (I.hok.fresh hd) k1 k2 k3
      rw [← e] at hq
      refine ⟨.ref d, upd H d (.lst (out.map backV)), I.laid (t' := s.toks) kp hd ⟨?_, out, n, vals_back h3, hn⟩, rfl, hq⟩
      rw [hb.len]
      exact hz
end
def minDef : List Int → Int → Int
  | [], d => d
  | n :: ns, _ => W.minOf n ns
theorem minOf_spec : ∀ (ns : List Int) (n : Int), W.minOf n ns ∈ n :: ns ∧ ∀ y ∈ n :: ns, W.minOf n ns ≤ y
  | [], n => ⟨List.mem_cons_self, fun y hy => by rw [List.mem_singleton.mp hy]; exact Int.le_refl _⟩
  | m :: ns, n => by
    have e : W.minOf n (m :: ns) = W.minOf (if m < n then m else n) ns := by
      unfold W.minOf
      rw [List.foldl_cons]
      have : (W.DatumOrd.lt m n = true) = (m < n) := by
        show (decide (m < n) = true) = _
        simp
      simp only [this]
    obtain ⟨h1, h2⟩ := minOf_spec ns (if m < n then m else n)
    rw [e]
    refine ⟨?_, fun y hy => ?_⟩
    · rcases List.mem_cons.mp h1 with h | h
      · rw [h]
        split
        · simp
        · simp
      · simp [h]
    · have h0 := h2 _ List.mem_cons_self
      rcases List.mem_cons.mp hy with e | hy
      · generalize W.minOf (if m < n then m else n) ns = z at h0
        split at h0 <;> omega
      rcases List.mem_cons.mp hy with e | hy
      · generalize W.minOf (if m < n then m else n) ns = z at h0
        split at h0 <;> omega
      · exact h2 y (List.mem_cons_of_mem _ hy)
theorem minDef_eq {ns : List Int} {d m : Int} (h : m ∈ ns) (hm : ∀ y ∈ ns, m ≤ y) : minDef ns d = m := by
  cases ns with
  | nil => simp at h
  | cons n ns =>
    obtain ⟨h1, h2⟩ := minOf_spec ns n
    show W.minOf n ns = m
    exact Int.le_antisymm (h2 m h) (hm _ h1)
def rMinDef (K : PySem.W.Frag) : List V → List V → Hp → VK → Prop := fun vs zs H Q => ∃ (a : Addr) (ns : List Int) (d : Int), vs = [.ref a] ∧ zs = [.int d] ∧ SqL K H a (ns.map V.int) ∧ Q (.int (minDef ns d)) H
theorem dp_ints {K : PySem.W.Frag} {H : Hp} : ∀ ns : List Int, DpAll K H (ns.map V.int) (ns.map PyData.int)
  | [] => .nil
  | n :: ns => .cons (.int _) (dp_ints ns)
theorem cr_minDef {X : Cx} (hc : X.calm = true) (hu : X.A.units + 66 < cLine) : CallRK X (.builtin "min") [Str.ofString "default"] (rMinDef X.K) := by
  intro pins s σ H xs zs us ws Q I r rz h
  obtain ⟨a, ns, d, rfl, rfl, ha, q⟩ := h
  obtain rfl := Vals.ref1 r
  obtain ⟨u, rfl, t, rfl⟩ := vals1 rz
  obtain ⟨its, rv, hl, hz⟩ := I.list ha
  obtain ⟨as, ra⟩ := Dp.readsAll I (ns.map PyData.int) _ its (dp_ints ns) rv
  show wpAny _ _ (call (.builtin "min") [.ref a] [(Str.ofString "default", .int d t)]) _ _ s
  refine W.min_list_datum_default (α := Int) (xs := ns) (I.ok.hd hc) hl.isList ⟨as, ra⟩ (by show X.A.units + 1 + 0 < cLine; omega) (fun e h' tk hk => ?_) fun y ys i v h' tk e hv hh hk => ?_
  · subst e
    exact ⟨.int d, H, I.kept (t' := tk) hk, ⟨t, rfl⟩, q⟩
  · subst e
    obtain ⟨bs, rb⟩ := hh
    have : ∃ t, v = Value.int (W.minOf y ys) t := by
      cases rb
      exact ⟨_, rfl⟩
    obtain ⟨t2, rfl⟩ := this
    exact ⟨.int _, H, I.kept (t' := tk) hk, ⟨t2, rfl⟩, q⟩
end R8
set_option Elab.async false
set_option linter.all false
set_option maxRecDepth 100000
set_option maxHeartbeats 4000000
namespace CP
open PySem PySem.Spec PyProof.Rows L2 KB KC KD LamX
def CloO (f : Addr) (q : Str) (params : Arguments) (body : Expr) (scope : Scope) (clo : List (Str × Addr)) (c' : Addr) : HO := .ext fun h => ∃ pm ctv, h.get? f = some (PySem.W.kla_obj "<lambda>" q params body scope clo pm c' ctv)
theorem cloO_ok {P : Program} {w : World} {H : Hp} {h : Heap} {f c' : Addr} {q : Str} {params : Arguments} {body : Expr} {scope : Scope} {clo : List (Str × Addr)} {pm ctv : Value} (e : h.get? f = some (PySem.W.kla_obj "<lambda>" q params body scope clo pm c' ctv)) :
    ObjOk P w H h f (CloO f q params body scope clo c') := ⟨⟨pm, ctv, e⟩, ⟨_, e⟩, fun h1 h2 ⟨a, b, z⟩ k => ⟨a, b, k _ z⟩⟩
def tClo (T : List (Addr × Str)) (q : Str) (params : Arguments) (body : Expr) (scope : Scope) (clo : List (Str × Addr)) : TE := fun _ H Q => Tabs T H ∧ ∀ f c' H1, ExtN H H1 → Tabs T H1 → H1 f = some (CloO f q params body scope clo c') → H1 c' = some (CodeO c' q) → H f = none → Q (.ref f) H1
section
variable {X : Cx}
theorem pe_cloV {T : List (Addr × Str)} {c P : Addr} {params : Arguments} {body : Expr} {scope : Scope} {pos : Pos} (TB : TabB X.base X.mg c P) (hcode : X.env.code = .ref c) (hm : (P, X.env.qual ++ "<lambda>") ∈ T) (hu : ∀ p ∈ T, p.1 = P → p.2 = X.env.qual ++ "<lambda>")
    (hdef : defaultsOf params X.env = ([], [])) (hfree : ∀ y ∈ scope.names, y.2 = .free → X.env.scope.names.lookup y.1 = some .cell ∨ X.env.scope.names.lookup y.1 = some .free) : PE X (.Lambda params body scope pos) (tClo T (X.env.qual ++ "<lambda>") params body scope (cloFrom X.env.cells scope.names [])) := by
  refine ⟨fun pins s σ H Q I h => ?_⟩
  obtain ⟨hT, h⟩ := h
  obtain ⟨ps, hP, ht, ha⟩ := hT _ hm
  refine PySem.W.kla_eval hdef ?_
  have bP : s.heap.BuiltinsAt X.mg P := TB.bm.keeps I.bk
  have hP' : s.heap.get? P = some { cls := .none, data := .fields ps } := I.hok P _ hP
  have hcl : closureFor scope X.env = pure (cloFrom X.env.cells scope.names []) := closure_ok fun y hy e => (hfree y hy e).elim (fun z => I.ok.has _ (.inl z)) fun z => I.ok.has _ (.inr z)
  have end_ : ∀ (c' : Addr) (ctv : Value) (H1 : Hp) (h' : Heap) (tk : Nat), Inv X pins σ H1 { s with heap := h', toks := tk } → s.heap.objs.size ≤ h'.objs.size → ExtN H H1 → Tabs T H1 → H1 h'.objs.size = none → H1 c' = some (CodeO c' (X.env.qual ++ "<lambda>")) →
      EP X pins σ Q (.ref h'.objs.size) { s with heap := h'.push (PySem.W.kla_obj "<lambda>" (X.env.qual ++ "<lambda>") params body scope (cloFrom X.env.cells scope.names []) ((X.mg "__name__").getD .none) c' ctv), toks := tk } := by
    intro c' ctv H1 h' tk I1 hz e1 t1 n1 co
    have J : Inv X pins σ (upd H1 h'.objs.size (CloO h'.objs.size (X.env.qual ++ "<lambda>") params body scope (cloFrom X.env.cells scope.names []) c')) { s with heap := h'.push (PySem.W.kla_obj "<lambda>" (X.env.qual ++ "<lambda>") params body scope (cloFrom X.env.cells scope.names []) ((X.mg "__name__").getD .none) c' ctv), toks := tk } :=
      I1.laid (t' := tk) (fun b u e => Heap.get?_push_of_some _ e) (Nat.le_refl _) (cloO_ok (Heap.get?_push_size _ rfl))
    exact ⟨.ref h'.objs.size, _, J, rfl, h h'.objs.size c' _ (e1.trans (extN_upd n1)) (tabs_upd t1 n1) upd_same (by rw [upd_ne (ne_of_none co n1)]; exact co) (I.hok.fresh hz)⟩
  cases hc : codeAmong pos ps.toList with
  | none =>
    refine PySem.W.kla_makeFunction (mg := X.mg) (c := c) (P := P) (ps := ps) hcl I.ok.glob (I.mod.glob.keeps I.bk) hcode (TB.code.keeps I.bk) hP' ht hc TB.gP bP fun c' ctv h' tk hx hge hlt hrec htb => ?_
    obtain ⟨c2, oc, vs, t, e2, hoc, hd, hv⟩ := hrec
    cases e2
    have nC : H c' = none := I.hok.fresh hge
    have nPc : P ≠ c' := ne_of_none hP nC
    have I1 := inv_table (t' := tk) (more := #[rawInt pos.line, rawInt pos.col, .ref c']) (h' := h') I hP hx htb hge ⟨oc, vs, t, hoc, hd, hv⟩
    have hE : ExtN H (upd (upd H P (.tbl (ps ++ #[rawInt pos.line, rawInt pos.col, .ref c']))) c' (CodeO c' (X.env.qual ++ "<lambda>"))) := fun b o e n => by
      rw [upd_ne (ne_of_none e nC), upd_ne (fun z => n ps (Option.some.inj (e.symm.trans (by rw [z]; exact hP))))]
      exact e
    have eL : (ps ++ #[rawInt pos.line, rawInt pos.col, .ref c']).toList = ps.toList ++ [rawInt pos.line, rawInt pos.col, .ref c'] := by simp
    refine end_ c' ctv _ h' tk I1 (Nat.le_trans hge (Nat.le_of_lt hlt)) hE (fun p hp => ?_) ?_ upd_same
    · by_cases hb : p.1 = P
      · rw [hu p hp hb, hb]
        refine ⟨_, by rw [upd_ne nPc, upd_same], by rw [eL]; exact PySem.TriplesOk_snoc _ _ _ _ ht, fun p' cv hcv => ?_⟩
        rw [eL] at hcv
        rcases among_app _ ht hcv with z | z
        · obtain ⟨c0, e1, e2⟩ := ha p' cv z
          exact ⟨c0, e1, hE _ _ e2 codeO_ne⟩
        · exact ⟨c', z, upd_same⟩
      · obtain ⟨ps', a1, a2, a3⟩ := hT p hp
        refine ⟨ps', by rw [upd_ne (ne_of_none a1 nC), upd_ne hb]; exact a1, a2, fun p' cv hcv => ?_⟩
        obtain ⟨c0, e1, e2⟩ := a3 p' cv hcv
        exact ⟨c0, e1, hE _ _ e2 codeO_ne⟩
    · have n1 : h'.objs.size ≠ c' := Nat.ne_of_gt hlt
      have n2 : h'.objs.size ≠ P := Nat.ne_of_gt (Nat.lt_of_lt_of_le (Heap.lt_size hP') (Nat.le_trans hge (Nat.le_of_lt hlt)))
      rw [upd_ne n1, upd_ne n2]
      exact I.hok.fresh (Nat.le_trans hge (Nat.le_of_lt hlt))
  | some cv =>
    obtain ⟨c', e, hco⟩ := ha pos cv hc
    subst e
    refine PySem.W.kla_makeFunctionHit (mg := X.mg) (c := c) (P := P) (ps := ps) hcl I.ok.glob (I.mod.glob.keeps I.bk) hcode (TB.code.keeps I.bk) hP' ht hc bP fun ctv h' tk hx hsz => ?_
    exact end_ c' ctv H h' tk (I.kept (t' := tk) hx) hsz (ExtN.refl H) hT (I.hok.fresh hsz) hco
end
structure LamP (sc scope : Scope) (pn y : Str) : Prop where
  kind : scope.kind = .function
  co : scope.isCoroutine = false
  gen : scope.isGenerator = false
  own : ∀ z ∈ scope.names, z.2 ≠ .cell
  par : scope.names.lookup pn = some .local
  fy : scope.names.lookup y = some .free
  ne : pn ≠ y
  free : ∀ z ∈ scope.names, z.2 = .free → sc.names.lookup z.1 = some .cell ∨ sc.names.lookup z.1 = some .free
def cxP (X : Cx) (A : Around) (s : Shared) (H : Hp) (E : XK) (scope : Scope) (f c' : Addr) (pn y : Str) : Cx := { lamCx X A X.stack s H E scope f c' with N := [pn, y] }
section
variable {X : Cx} {pins : List (Addr × Obj)} {σ : L2.St} {H : Hp} {s : Shared}
theorem clo_start {A : Around} {E : XK} {scope : Scope} {f c' : Addr} {h₁ : Heap} {tk j : Nat} {pn y : Str} {u : Value} {v vy : V} (I : Inv X pins σ H s) (L : LamP X.env.scope scope pn y) (e0 : Env0 X.prog X.w X.K X.mg X.base A X.stack s H) (hd : A.handled = none)
    (hns : h₁.Ns s.heap.objs.size fun z => ([(pn, u)] : List (Str × Value)).reverse.lookup z) (kp : ∀ b o, s.heap.get? b = some o → h₁.get? b = some o) (rv : RelV v u) (hy : X.N[j]? = some y) (hσ : σ[j]? = some (some vy)) :
    Inv (cxP X A s H E scope f c' pn y) [] [some v, some vy] H { s with heap := h₁, toks := tk } := by
  have down : ∀ {z c}, (cloFrom X.env.cells scope.names []).lookup z = some c → X.env.cells.lookup z = some c := fun {z c} e => by
    rcases cloFrom_mem (PySem.mem_of_lookup e) with hm | ⟨h1, h2⟩
    · cases hm
    · have hz : ∃ c1, X.env.cells.lookup z = some c1 := (L.free _ h1 rfl).elim (fun k => I.ok.has _ (.inl k)) fun k => I.ok.has _ (.inr k)
      obtain ⟨c1, hc⟩ := hz
      have e2 : c = c1 := by
        rw [h2, hc] <;> rfl
      rw [e2]
      exact hc
  have upw : ∀ {z}, scope.names.lookup z = some .free → ∃ c, (cloFrom X.env.cells scope.names []).lookup z = some c := fun {z} hl => by
    have hz : (z, NameKind.free) ∈ scope.names := PySem.mem_of_lookup hl
    exact mem_lookup (cloFrom_has (cells := X.env.cells) (acc := []) hz)
  have cellK : ∀ {c : Addr} {w' : Option Value}, s.heap.IsCell c w' → h₁.IsCell c w' := fun {c w'} ⟨o, ho, hd⟩ => ⟨o, kp _ _ ho, hd⟩
  have noA : ∀ b : Addr, b ∉ (cxP X A s H E scope f c' pn y).ex := fun b z => absurd (show b ∈ ([] : List Addr) from z) (by simp)
  have ok : (cxP X A s H E scope f c' pn y).Ok := ⟨e0.mod, L.kind, rfl, rfl, Nat.le_refl _, fun a b c e1 e2 => I.ok.inj a b c (down e1) (down e2), fun a ha => by
      have ha : scope.names.lookup a = some .cell ∨ scope.names.lookup a = some .free := ha
      rcases ha with ha | ha
      · exact absurd rfl (L.own _ (PySem.mem_of_lookup ha))
      · exact upw ha, fun a c z _ => (by
      have z : false = true := z
      cases z), fun _ => hd, Around.frames_deeper e0.frames, .inr ⟨rfl, rfl⟩, fun b z => absurd z (noA b), e0.bs, e0.bsz, fun b _ _ => noA b, fun b z => absurd z (noA b), e0.funs, e0.frf⟩
  refine ⟨ok, rfl, e0.bare, Un.kept kp, ⟨_, hns, fun i z v' e1 e2 e3 => ?_⟩, fun z c e => ?_, e0.hok.fresh (Nat.le_refl _), fun z c e => ?_, fun q hq => absurd (show q ∈ ([] : List (Addr × Obj)) ++ [] from hq) (by simp), e0.hok.kept kp, rfl⟩
  · match i, e1, e2 with
    | 0, e1, e2 =>
      cases e1
      cases e2
      exact ⟨u, rv, .inl ⟨L.par, by simp [List.lookup]⟩⟩
    | 1, e1, e2 =>
      cases e1
      cases e2
      obtain ⟨m, hn, hl⟩ := I.loc
      have hk := L.free _ (PySem.mem_of_lookup L.fy) rfl
      obtain ⟨w', r, q⟩ := hl j y vy hy hσ (hk.elim (fun k => .inr (.inl k)) fun k => .inr (.inr k))
      obtain ⟨c2, h2⟩ := upw L.fy
      refine ⟨w', r, .inr ⟨.inr L.fy, c2, h2, ?_⟩⟩
      have c1 := down h2
      rcases q with ⟨k', _⟩ | ⟨_, c3, e', z⟩
      · have k' : X.env.scope.names.lookup y = some .local := k'
        rcases hk with k2 | k2 <;> rw [show X.env.scope.names.lookup y = _ from k2] at k' <;> cases k'
      · rw [c1] at e'
        cases e'
        exact cellK z
    | i + 2, e1, e2 => cases e1
  · obtain ⟨w', z⟩ := I.cell z c (down e)
    exact ⟨w', cellK z⟩
  · exact I.freeC z c (down e)
theorem clo_run {A : Around} {E : XK} {k j : Nat} {f c' : Addr} {params : Arguments} {body : Expr} {scope : Scope} {pn y : Str} {u : Value} {v vy : V} {Q : VK} (I : Inv X pins σ H s) (L : LamP X.env.scope scope pn y) (hr : Room (k + 1) A) (e0 : Env0 X.prog X.w X.K X.mg X.base A X.stack s H)
    (hf : H f = some (CloO f (X.env.qual ++ "<lambda>") params body scope (cloFrom X.env.cells scope.names []) c')) (hc : H c' = some (CodeO c' (X.env.qual ++ "<lambda>")))
    (hb : ∀ pm ctv, BindsTo s (PySem.W.kla_fn "<lambda>" (X.env.qual ++ "<lambda>") params body scope (cloFrom X.env.cells scope.names []) pm (.ref c') ctv) ⟨[u], []⟩ [(pn, u)]) (rv : RelV v u) (hy : X.N[j]? = some y) (hσ : σ[j]? = some (some vy))
    (hbody : Room k (A.deeper (lamEnv X scope s.heap.objs.size f c')) → ∃ t, PE (cxP X A s H E scope f c' pn y) body t ∧ t [some v, some vy] H Q) :
    codeAny (model X.prog X.w) A (.call (.ref f) ⟨[u], []⟩) (CR (L2.CX X.prog X.w) X.stack X.prog X.w H s Q E) s := by
  obtain ⟨⟨pm, ctv, of1⟩, _, _⟩ := e0.hok f _ hf
  obtain ⟨⟨oc, vsc, t, hoc, hdc, hvc⟩, _, _⟩ := e0.hok c' _ hc
  refine PySem.W.kla_callFunE hr.depth of1 rfl L.co L.gen rfl ⟨c', oc, vsc, t, rfl, hoc, hdc, hvc⟩ ?_
  refine hb pm ctv _ _ _ _ ?_
  refine wpAny_newFunctionEnv (fun z hz => L.own z hz) (fun z hz => ?_) (fun h₁ hns hsb => ⟨I.nolimit.fresh _ hsb, ?_⟩) L.kind
  · rw [List.mem_singleton.mp hz]
    exact L.par
  · show codeAny _ _ (.expr body (lamEnv X scope s.heap.objs.size f c')) _ _
    have kp : ∀ b o, s.heap.get? b = some o → h₁.get? b = some o := fun b o e => hsb.extBut b o (Nat.ne_of_lt (Heap.lt_size e)) (Heap.get?_push_of_some _ e)
    have J : Inv (cxP X A s H E scope f c' pn y) [] [some v, some vy] H { s with heap := h₁, toks := s.toks + ([(pn, u)] : List (Str × Value)).length } := clo_start I L e0 hr.hd hns kp rv hy hσ
    obtain ⟨t, ht, hq⟩ := hbody (hr.deeper _)
    refine PySem.W.kla_codeExpr (wpAny_mono (ht.run [] _ _ H Q J hq) (fun v s' hq => ?_) fun e s' hq => hq)
    obtain ⟨w', H', J', rv, q⟩ := hq
    exact ⟨w', H', J'.os, J'.bare, J'.base, J'.hok, rv, q⟩
end
end CP
set_option Elab.async false
set_option linter.all false
set_option maxRecDepth 100000
set_option maxHeartbeats 4000000
namespace CP
open PySem PySem.Spec PyProof.Rows PySem.Calls L2 KB KC KD KS LamX PySem.SeqAt PySem.W
def KeyI (X : Cx) (σ : L2.St) (f : Addr) (H : Hp) (bs : List Str) (kf : Str → Int) : Prop :=
  ∀ x ∈ bs, ∀ (H1 : Hp), Ex H H1 → ∀ (pins : List (Addr × Obj)) (s1 : Shared) (v : Value) (R : Value → Shared → Prop), RelV (.str x) v → Inv X pins σ H1 s1 →
    (∀ t H2 s2, Inv X pins σ H2 s2 → Ex H1 H2 → Un (frs X.stack) [] H1 H2 s1.heap s2.heap → R (.int (kf x) t) s2) → wpAny (model X.prog X.w) X.A.in1.in1 (call (.ref f) [v]) R (fun _ _ => False) s1
theorem KeyI.ex {X : Cx} {σ : L2.St} {f : Addr} {H H1 : Hp} {bs : List Str} {kf : Str → Int} (k : KeyI X σ f H bs kf) (e : Ex H H1) : KeyI X σ f H1 bs kf := fun x hx H2 e2 => k x hx H2 (e.trans e2)
section
variable {X : Cx} {pins : List (Addr × Obj)} {σ : L2.St}
theorem each_vals {α : Type} {g : α → V} : ∀ {vs : List Value} {bs : List α}, Vals (bs.map g) vs → EachIs (fun v b => RelV (g b) v) vs bs
  | [], [], _ => .nil
  | v :: vs, b :: bs, .cons h r => .cons h (each_vals r)
  | [], _ :: _, r => by cases r
  | _ :: _, [], r => by cases r
theorem vals_each {α : Type} {g : α → V} : ∀ {vs : List Value} {bs : List α}, EachIs (fun v b => RelV (g b) v) vs bs → Vals (bs.map g) vs
  | _, _, .nil => .nil
  | _, _, .cons h r => .cons h (vals_each r)
theorem ints_each {h : Heap} {kf : Str → Int} : ∀ {vs : List Value} {bs : List Str}, EachIs (fun v b => RelV (V.int (kf b)) v) vs bs → EachIs (fun v b => ∃ as, Reads h v (PyData.int (kf b)) as) vs bs
  | _, _, .nil => .nil
  | _, _, .cons a r => by
    obtain ⟨t, rfl⟩ := a
    exact .cons ⟨[], .int _ t⟩ (ints_each r)
theorem sort_bodyI {f D : Addr} {H : Hp} {s : Shared} {h2 : Heap} {tk : Nat} {bs : List Str} {vs : List Value} {kf : Str → Int} {P : PySem.Fin → Shared → Prop} {E : Value → Shared → Prop}
    (I : Inv X pins σ H s) (hk : ∀ b o, s.heap.get? b = some o → h2.get? b = some o) (hD : h2.get? D = some (seqObj "list" vs.toArray 0)) (hsD : s.heap.objs.size ≤ D)
    (rv : Vals (bs.map V.str) vs) (hz : bs.length ≤ sizeLine) (hu : X.A.units + 66 < cLine) (hcall : KeyI X σ f H bs kf)
    (q : ∀ (H' : Hp) (s' : Shared), Inv X pins σ H' s' → Ex H H' → H D = none → H' D = some (.lst ((bs.mergeSort fun a b => decide (kf a ≤ kf b)).map V.str)) → P (.done (.ret .none)) s') :
    wpAny (model X.prog X.w) X.A.in1.in1 (ksk_tree D (.ref f) false) P E { s with heap := h2, toks := tk } := by
  have lv : vs.length = bs.length := by
    have := rv.length
    rw [List.length_map] at this
    exact this.symm
  have szl : vs.toArray.size = bs.length := by rw [List.size_toArray, lv]
  have nD : H D = none := I.hok.fresh hsD
  unfold ksk_tree
  refine wpAny_bind (listItems_at hD rfl ?_)
  refine wpAny_bind (listUpdate_at hD rfl ?_ (by rw [szl]; exact hz) (Nat.zero_le _))
  obtain ⟨e1, ho1⟩ : ∃ e1, (h2.update D (Obj.mapSeq fun _ => (#[] : Array Value))).get? D = some (seqObj "list" #[] e1) := ⟨_, get?_update_seq hD fun _ => #[]⟩
  refine wpAny_bind (seqEpoch_at ho1 rfl ?_)
  refine wpAny_bind (wpAny_newTuple ?_ (by show vs.length ≤ _; omega))
  refine wpAny_bind (wpAny_newList ?_ (Nat.zero_le _))
  refine wpAny_holding ?_
  generalize hh4 : (h2.update D (Obj.mapSeq fun _ => (#[] : Array Value))).push (seqObj "tuple" vs.toArray 0) = h4
  have z4 : h4.objs.size = h2.objs.size + 1 := by rw [← hh4, size_push', Heap.size_update]
  have keep4 : ∀ b o, b ≠ D → h2.get? b = some o → h4.get? b = some o := fun b o hb e => by
    rw [← hh4]
    exact Heap.get?_push_of_some _ ((Heap.get?_update_ne _ _ _ _ hb).trans e)
  have hD4 : h4.get? D = some (seqObj "list" #[] e1) := by rw [← hh4]; exact Heap.get?_push_of_some _ ho1
  have I1 : Inv X pins σ (upd H h4.objs.size (.lst [])) { s with heap := h4.push (seqObj "list" #[] 0), toks := tk } :=
    I.laid (t' := tk) (fun b o e => Heap.get?_push_of_some _ (keep4 b o (fun z => by rw [z] at e; exact absurd (Heap.lt_size e) (Nat.not_lt.mpr hsD)) (hk b o e))) (by rw [z4]; exact Nat.le_succ_of_le (Nat.le_trans hsD (Nat.le_of_lt (Heap.lt_size hD))))
      ⟨Nat.zero_le _, [], 0, .nil, Heap.get?_push_size _ rfl⟩
  have hkn : H h4.objs.size = none := I.hok.fresh (by rw [z4]; exact Nat.le_succ_of_le (Nat.le_trans hsD (Nat.le_of_lt (Heap.lt_size hD))))
  have hDk : D ≠ h4.objs.size := by rw [z4]; exact Nat.ne_of_lt (Nat.lt_succ_of_lt (Heap.lt_size hD))
  have hD2 : (upd H h4.objs.size (.lst [])) D = none := by rw [upd_ne hDk]; exact nD
  have fD : ∀ H', H' D = none → FpOk X pins H' D := fun H' n => I.fpOk hsD n
  have I3 : Inv X (pins ++ [(D, seqObj "list" #[] e1)]) σ (upd H h4.objs.size (.lst [])) { s with heap := h4.push (seqObj "list" #[] 0), toks := tk } := I1.pins_of fun p hp => by
    rcases List.mem_append.mp hp with hp | hp
    · exact I1.pin p (List.mem_append_right _ hp)
    · rw [List.mem_singleton.mp hp]
      obtain ⟨_, f1, f2, _⟩ := fD _ hD2
      exact ⟨Heap.get?_push_of_some _ hD4, hD2, f1, f2, fun v z => by cases z⟩
  unfold ksk_rest
  refine wpAny_bind (wpAny_rule ?_)
  first
    | rw [List.forIn_toArray]
    | (rw [← Array.forIn_toList]; simp only [List.toList_toArray])
  refine wpAny_bind (ksk_fold (fun i s' => ∃ (Hi : Hp), Inv X (pins ++ [(D, seqObj "list" #[] e1)]) σ Hi s' ∧ Ex H Hi ∧ Hi h4.objs.size = some (.lst ((bs.take i).map fun x => V.int (kf x)))) vs 0 _ ⟨_, I3, Ex.upd hkn, upd_same⟩ ?step ?done)
  case step =>
    rintro j v s' hv ⟨Hi, Ii, ei, hki⟩
    simp only [Nat.zero_add] at hki ⊢
    have jl : j < vs.length := (List.getElem?_eq_some_iff.mp hv).1
    obtain ⟨x, hx⟩ : ∃ x, bs[j]? = some x := ⟨_, List.getElem?_eq_getElem (by omega)⟩
    obtain ⟨v', hv', rx⟩ := rv.get (i := j) (x := .str x) (by rw [List.getElem?_map, hx]; rfl)
    obtain rfl : v' = v := Option.some.inj (hv'.symm.trans hv)
    have hxm : x ∈ bs := List.mem_of_getElem? hx
    refine wpAny_bind (wpAny_attempt (wpAny_mono (hcall x hxm Hi ei _ s' v' (fun u s'' => ∃ t H3, u = .int (kf x) t ∧ Inv X (pins ++ [(D, seqObj "list" #[] e1)]) σ H3 s'' ∧ Ex Hi H3) rx Ii fun t H3 s2 J e3 _ => ⟨t, H3, rfl, J, e3⟩) (fun u s'' he => ?_) fun _ _ hF => hF.elim))
    obtain ⟨t, H3, rfl, J, e3⟩ := he
    have hk3 := e3 _ _ hki
    obtain ⟨hzy, its, n, ri, hraw⟩ := lst_raw J hk3
    have il : its.length = j := by
      have := ri.length
      rw [List.length_map, List.length_take] at this
      omega
    try dsimp only
    refine wpAny_bind (listUpdate_at hraw rfl ?_ (by rw [List.size_toArray]; omega) (by rw [Array.size_push, List.size_toArray]; omega))
    have tk1 : (bs.take (j + 1)).map (fun x => V.int (kf x)) = (bs.take j).map (fun x => V.int (kf x)) ++ [V.int (kf x)] := by
      rw [List.take_add_one, hx, List.map_append]
      rfl
    refine wpAny_pure ⟨rfl, _, lst_write (tk := s''.toks) (zs := (bs.take (j + 1)).map fun x => V.int (kf x)) (vs := its ++ [.int (kf x) t]) J hk3 hraw (by rw [List.length_map, List.length_take]; omega) (by rw [tk1]; exact ri.append (.cons ⟨t, rfl⟩ .nil)) (·.push (.int (kf x) t)) (by simp), fun b o e => ?_, upd_same⟩
    rw [upd_ne (ne_of_none e hkn)]
    exact e3 _ _ (ei _ _ e)
  case done =>
    rintro s' ⟨Hi, Ii, ei, hki⟩
    rw [Nat.zero_add, List.take_of_length_le (by omega)] at hki
    obtain ⟨_, its, n, ri, hraw⟩ := lst_raw Ii hki
    have il : its.length = bs.length := by
      have := ri.length
      rw [List.length_map] at this
      exact this.symm
    try dsimp only
    refine wpAny_bind (listItems_at hraw rfl ?_)
    have hal : AllAlike (bs.map fun x => PyData.int (kf x)) := AllAlike.of fun _ _ => rfl
    have hsk : Sortable (bs.map fun x => PyData.int (kf x)) := Sortable.others fun _ => ⟨fun z => (nomatch z), fun _ z => (nomatch z)⟩
    have ek : EachIs (fun v d => ∃ as, Reads s'.heap v d as) its (bs.map fun x => PyData.int (kf x)) := each_map (R := fun v d => ∃ as, Reads s'.heap v d as) (fun x => PyData.int (kf x)) (ints_each (each_vals (g := fun x => V.int (kf x)) ri))
    have S : SortsAt X.prog X.w X.A.in1.in1 s' (dataKind s'.heap (bs.map fun x => PyData.int (kf x))) its := SortsAt.data (s := s') ek hal hsk fun d hd => by
      obtain ⟨x, _, rfl⟩ := List.mem_map.mp hd
      show X.A.units + 1 + 1 + (PyData.int (kf x)).depth < cLine
      have : (PyData.int (kf x)).depth = 0 := rfl
      omega
    obtain ⟨kd, hlt, hkd⟩ := S.kind
    have hK : PyProof.Rows.KeysOf (dataKind s'.heap (bs.map fun x => PyData.int (kf x))) (its.toArray.zip vs.toArray) := keysOf_zip (by rw [List.toList_toArray]; exact S.keys)
    have hss : (its.toArray.zip vs.toArray).size = vs.length := by rw [Array.size_zip, List.size_toArray, List.size_toArray]; omega
    have out_of : ∀ st' : SortSt, (arrOf st').Perm (its.toArray.zip vs.toArray) → SortedToK (dataKind s'.heap (bs.map fun x => PyData.int (kf x))) (arrOf st') (its.toArray.zip vs.toArray).size → Stable (dataKind s'.heap (bs.map fun x => PyData.int (kf x))) (arrOf st') (its.toArray.zip vs.toArray) →
        ((arrOf st').map (·.2)).toList = sortVals (dataKind s'.heap (bs.map fun x => PyData.int (kf x))) false its vs := fun st' hp hs ht => by
      have e := sort_out (rev := false) (keys := its.toArray) (items := vs.toArray) (xs := arrOf st') hK (by simpa using hp) (by simpa using hs) (by simpa using ht)
      simpa using e
    have eout : EachIs (fun v x => RelV (.str x) v) (sortVals (dataKind s'.heap (bs.map fun x => PyData.int (kf x))) false its vs) (bs.mergeSort fun a b => decide (kf a ≤ kf b)) := by
      have h := keyedOut_each (rev := false) (fun x => PyData.int (kf x)) ⟨s'.heap, its, hal, rfl, ek⟩ (each_vals (g := V.str) rv)
      rw [dataLe_int] at h
      exact h
    have vout : Vals ((bs.mergeSort fun a b => decide (kf a ≤ kf b)).map V.str) (sortVals (dataKind s'.heap (bs.map fun x => PyData.int (kf x))) false its vs) := vals_each (g := V.str) eout
    have lout : (bs.mergeSort fun a b => decide (kf a ≤ kf b)).length = bs.length := List.length_mergeSort ..
    have tail : ∀ st' : SortSt, ((arrOf st').map (·.2)).toList = sortVals (dataKind s'.heap (bs.map fun x => PyData.int (kf x))) false its vs → failedOf st' = none →
        wpAny (model X.prog X.w) X.A.in1.in1 (ksk_tail D false e1 (.ref h4.objs.size) st') P E s' := by
      intro st' ho hf
      have osz : ((arrOf st').map (·.2)).size = bs.length := by
        rw [← Array.length_toList, ho, ← vout.length, List.length_map, lout]
      have J1 := lst_write (tk := s'.toks) (zs := []) (vs := []) Ii hki hraw (Nat.zero_le _) .nil (fun _ => (#[] : Array Value)) rfl
      obtain ⟨pD, nD5, _⟩ := J1.pin (D, seqObj "list" #[] e1) (List.mem_append_right _ (List.mem_append_right _ (List.mem_singleton.mpr rfl)))
      unfold ksk_tail
      try dsimp only
      refine wpAny_bind (listUpdate_at hraw rfl ?_ (by rw [List.size_toArray]; omega) (Nat.zero_le _))
      refine wpAny_bind (wpAny_letGo ?_)
      refine wpAny_bind (seqEpoch_at pD rfl ?_)
      refine wpAny_bind (listUpdate_at pD rfl ?_ (Nat.zero_le _) (by simp only [Bool.false_eq_true, if_false]; rw [osz]; omega))
      rw [hf]
      simp only [bne_self_eq_false, Bool.false_eq_true, if_false]
      refine wpAny_pure ?_
      have J2 := J1.pins_of (pins' := pins) fun p hp => J1.pin p (List.mem_append_right _ (List.mem_append_left _ hp))
      have eD := get?_update_seq pD fun _ => (arrOf st').map (·.2)
      have J3 := J2.take (t' := s'.toks) (o := .lst ((bs.mergeSort fun a b => decide (kf a ≤ kf b)).map V.str)) (h' := (s'.heap.update h4.objs.size (Obj.mapSeq fun _ => (#[] : Array Value))).update D (Obj.mapSeq fun _ => (arrOf st').map (·.2))) (fun b u hb e => (Heap.get?_update_ne _ _ _ _ hb).trans e) (fD _ nD5)
        ⟨by rw [List.length_map, lout]; exact hz, _, _, vout, by rw [← ho, Array.toArray_toList]; exact eD⟩
      refine q _ _ J3 (fun b o e => ?_) nD upd_same
      rw [upd_ne (ne_of_none e nD), upd_ne (ne_of_none e hkn)]
      exact ei b o e
    unfold ksk_end
    simp only [Bool.false_eq_true, if_false]
    by_cases h2s : vs.toArray.size < 2
    · rw [if_pos h2s, if_pos h2s]
      refine wpAny_bind (wpAny_pure ?_)
      rw [StateT.run_pure]
      refine wpAny_bind (wpAny_pure ?_)
      try dsimp only
      refine tail (SortSt.mk' general' (its.toArray.zip vs.toArray) #[] 7 none) (out_of _ (Array.Perm.refl _) (fun i j hij hj => ?_) (Stable.refl _)) rfl
      rw [hss] at hj
      rw [List.size_toArray] at h2s
      have : i = j := by omega
      subst this
      exact KeyOrd.kle_refl _
    · rw [if_neg h2s, if_neg h2s]
      rw [List.size_toArray] at h2s
      refine wpAny_bind (hkd (by omega) _ ?_)
      refine wpAny_bind (wpAny_mono (PyProof.Rows.H.wpS_sortRunsSt (kd := kd) (a₀ := its.toArray.zip vs.toArray) (st := SortSt.mk' kd (its.toArray.zip vs.toArray) #[] 7 none)
        (Q := fun _ st' => failedOf st' = none ∧ ((arrOf st').map (·.2)).toList = sortVals (dataKind s'.heap (bs.map fun x => PyData.int (kf x))) false its vs)
        hlt hK ⟨Array.Perm.refl _, rfl, rfl⟩ rfl (Stable.refl _) (by rw [hss]; omega) fun st' a1 a2 a3 a4 => ⟨a2, out_of st' a1 a3 a4⟩) ?_ fun _ _ e => e)
      rintro ⟨⟨⟩, st'⟩ s'' ⟨rfl, hf, ho⟩
      try dsimp only at ho ⊢
      exact tail st' ho hf
end
end CP
set_option Elab.async false
set_option linter.all false
set_option maxRecDepth 100000
set_option maxHeartbeats 4000000
namespace CP
open PySem PySem.Spec PyProof.Rows PySem.Calls L2 KB KC KD KS LamX PySem.SeqAt PySem.W
section
variable {prog : Program} {w : World} {A : Around} {E : Value → Shared → Prop} {s : Shared} {T : String} {r d : Addr} {n : Nat} {P : Nat → Value → Prop} {OK : Heap → Prop}
theorem collect_src {R : List Value → Shared → Prop} (K : KdlSrc prog w T r d n P OK) (hh : A.handled = none) (hok : OK s.heap) (hn : n ≤ sizeLine)
    (h : ∀ (h' : Heap) (tk : Nat) (acc : Array Value), (∀ b o, s.heap.get? b = some o → h'.get? b = some o) → s.heap.objs.size < h'.objs.size → ItemsOf P acc n → R acc.toList { s with heap := h', toks := tk }) :
    wpAny (model prog w) A (collect (.ref r)) R E s := by
  have hlt := K.there _ hok
  unfold collect
  refine wpAny_bind (wpAny_runValue (codeAny_builtin PyProof.Rows.entry_proto_collect' ?_))
  rw [Around.under_plainId PySem.F.plain_proto_collect _]
  show wpAny _ A.in1 (newList [] >>= fun l => again (.builtin "list.__iadd__" ⟨[l, .ref r], []⟩)) _ _ s
  refine wpAny_bind (wpAny_newObj_type ?_)
  refine wpAny_pure ⟨plainId_quiet PySem.F.plain_list_iadd _, codeAny_builtin PyProof.Rows.entry_list_iadd' ?_⟩
  rw [Around.under_plainId PySem.F.plain_list_iadd _]
  have hS₁ : (s.heap.push { cls := .type "list", data := .seq ([] : List Value).toArray }).get? s.heap.objs.size = some { cls := .type "list", data := .seq #[] } := Heap.get?_push_size _ rfl
  show wpAny _ A.in1 (Builtin.List.listExtendWith (.ref s.heap.objs.size) (.ref r) (.ref s.heap.objs.size)) _ _ _
  have key := kdl_extend (A := A) (s := { s with heap := s.heap.push { cls := .type "list", data := .seq ([] : List Value).toArray } })
    (R := fun (q : Result) (s' : Shared) => ∃ (h' : Heap) (tk : Nat) (acc' : Array Value) (c' : Nat), q = .ok (.ret (.ref s.heap.objs.size)) ∧ s' = { s with heap := h', toks := tk } ∧
      (∀ b o, s.heap.get? b = some o → h'.get? b = some o) ∧ h'.get? s.heap.objs.size = some { cls := .type "list", dict := none, data := .seq acc' c', slots := #[] } ∧ ItemsOf P acc' n)
    K hh (K.keep _ _ hok fun b _ o e => Heap.get?_push_of_some _ e) s.heap.objs.size (Nat.ne_of_gt hlt.1) (Nat.ne_of_gt hlt.2) (.ref s.heap.objs.size) 0 hS₁
    (fun h' tk acc' c' hk hS' hacc => ⟨h', tk, acc', c', rfl, rfl, fun b o e => hk b o (Nat.ne_of_lt (Heap.lt_size e)) (Heap.get?_push_of_some _ e), hS', hacc⟩) hn
  refine wpAny_mono key (fun fin s' x => ?_) fun e s' x => ?_
  · cases fin with
    | done f =>
      obtain ⟨h', tk, acc', c', e, rfl, hk, hS', hacc⟩ := x
      cases e
      show wpAny _ A (load s.heap.objs.size >>= _) _ _ _
      refine wpAny_bind (wpAny_load hS' ?_)
      refine wpAny_pure ?_
      exact h h' tk acc' hk (Heap.lt_size hS') hacc
    | again c₁ =>
      refine ⟨x.1, codeAny_mono x.2 fun q s₂ y => ?_⟩
      obtain ⟨h', tk, acc', c', rfl, rfl, hk, hS', hacc⟩ := y
      show wpAny _ A (load s.heap.objs.size >>= _) _ _ _
      refine wpAny_bind (wpAny_load hS' ?_)
      refine wpAny_pure ?_
      exact h h' tk acc' hk (Heap.lt_size hS') hacc
  · obtain ⟨_, _, _, _, e', _⟩ := x
    cases e'
end
theorem vals_keys {prog : Program} {w : World} {kvs : List (Key × V)} {vs : List (Key × Value)} (rk : kvs.map (·.1) = vs.map (·.1)) {acc : Array Value} (hacc : ItemsOf (fun i v => ∃ k x, vs[i]? = some (k, x) ∧ (mixKind prog w).is k v = true) acc vs.length) : Vals (kvs.map fun kv => kV kv.1) acc.toList := by
  have hl : kvs.length = vs.length := by
    have := congrArg List.length rk
    simpa using this
  have el : acc.toList.length = acc.size := by simp
  refine vals_of_at (by rw [List.length_map, el, hacc.1, hl]) fun j x u h1 h2 => ?_
  obtain ⟨k, y, hky, hi⟩ := hacc.2 j u (by rw [← Array.getElem?_toList]; exact h2)
  have e1 : (kvs.map (·.1))[j]? = some k := by
    rw [rk, List.getElem?_map, hky] <;> rfl
  have e2 : (kvs.map fun kv => kV kv.1)[j]? = some (kV k) := by
    have e3 : (kvs.map fun kv => kV kv.1) = (kvs.map (·.1)).map kV := by rw [List.map_map] <;> rfl
    rw [e3, List.getElem?_map, e1] <;> rfl
  rw [e2] at h1
  cases h1
  exact keyIs_rel hi
section
variable {X : Cx} {pins : List (Addr × Obj)} {σ : L2.St}
theorem collect_dK {A : Around} {s : Shared} {H : Hp} {p : Addr} {kvs : List (Key × V)} {R : List Value → Shared → Prop} {E : Value → Shared → Prop} (I : Inv X pins σ H s) (hh : A.handled = none) (hp : H p = some (.dK kvs))
    (h : ∀ (h' : Heap) (tk : Nat) (us : List Value), (∀ b o, s.heap.get? b = some o → h'.get? b = some o) → s.heap.objs.size < h'.objs.size → Vals (kvs.map fun kv => kV kv.1) us → kvs.length ≤ sizeLine → R us { s with heap := h', toks := tk }) :
    wpAny (model X.prog X.w) A (collect (.ref p)) R E s := by
  obtain ⟨z, lo, vs, rk, hd⟩ := (show ObjOk X.prog X.w H s.heap p (.dK kvs) from I.hok p _ hp)
  obtain ⟨ep, hat⟩ := hd.dictAt
  have hl : kvs.length = vs.length := Paired.length rk
  exact collect_src (kdl_dict (knd := mixKind X.prog X.w) (kvs := vs) (ep := ep) lo) hh hat (by rw [← hl]; exact z) fun h' tk acc hk hlt hacc => h h' tk acc.toList hk hlt (vals_keys (KV.keys rk) hacc) z
def rSortDS : List V → Hp → VK → Prop := fun xs H Q => ∃ (p : Addr) (kvs : List (Key × V)) (bs : List Str), xs = [.ref p] ∧ H p = some (.dK kvs) ∧ kvs.map (fun kv => kV kv.1) = bs.map V.str ∧ ∀ D, H D = none → Q (.ref D) (upd H D (.lst ((bs.mergeSort fun a b => decide (a.cps.toList ≤ b.cps.toList)).map V.str)))
def rSortDI : List V → Hp → VK → Prop := fun xs H Q => ∃ (p : Addr) (kvs : List (Key × V)) (bs : List Int), xs = [.ref p] ∧ H p = some (.dK kvs) ∧ kvs.map (fun kv => kV kv.1) = bs.map V.int ∧ ∀ D, H D = none → Q (.ref D) (upd H D (.lst ((bs.mergeSort fun a b => decide (a ≤ b)).map V.int)))
theorem sorted_flat {α : Type} {enc : α → PyData} {g : α → V} {bs : List α} {le : α → α → Bool} {s : Shared} {H : Hp} {p : Addr} {kvs : List (Key × V)} {Q : VK} (hc : X.calm = true) (hu : X.A.units + 66 < cLine) (I : Inv X pins σ H s) (hp : H p = some (.dK kvs)) (hb : kvs.map (fun kv => kV kv.1) = bs.map g)
    (hal : ∀ b b', alike (enc b) (enc b') = true) (hk : ∀ b, enc b ≠ .none ∧ ∀ xs, enc b ≠ .tuple xs) (hd : ∀ b, (enc b).depth ≤ 1) (hle : dataLe false enc = le) (rd : ∀ (h : Heap) (b : α) (v : Value), RelV (g b) v → Reads h v (enc b) [])
    (q : ∀ D, H D = none → Q (.ref D) (upd H D (.lst ((bs.mergeSort le).map g)))) : wpAny (model X.prog X.w) X.A (call (.builtin "sorted") [.ref p]) (EP X pins σ Q) X.xe s := by
  refine call_function_entry kind_sorted plain_sorted entry_sorted (args_sorted1 _) ?_
  unfold Builtin.«sorted»
  refine wpAny_bind (m := checkCount "sorted" 1 1 _) (wpAny_pure ?_)
  refine wpAny_bind (collect_dK (A := X.A.in1) I (I.ok.hd hc) hp fun h' tk us hkp hlt rv hz => ?_)
  rw [hb] at rv
  have lu : bs.length = us.length := by
    have := rv.length
    rw [List.length_map] at this
    exact this
  have lz : bs.length ≤ sizeLine := by
    have := congrArg List.length hb
    rw [List.length_map, List.length_map] at this
    omega
  refine wpAny_bind (wpAny_newList ?_ (by show us.length ≤ _; omega))
  have hoL : (h'.push (seqObj "list" us.toArray 0)).get? h'.objs.size = some (seqObj "list" us.toArray 0) := Heap.get?_push_size _ rfl
  have er : EachIs (fun v b => ∃ as, Reads (h'.push (seqObj "list" us.toArray 0)) v (enc b) as ∧ h'.objs.size ∉ as) us bs := by
    have := each_vals (g := g) rv
    clear hoL rv lu
    exact go this
  refine wpAny_bind (wpAny_holding ?_)
  refine list_sort_data (A := X.A.in1) (s := { s with heap := h'.push (seqObj "list" us.toArray 0), toks := tk }) (a := h'.objs.size) (n := 0) (enc := enc) (R := fun v b => RelV (g b) v) hoL (each_vals (g := g) rv) er (AllAlike.of hal) (Sortable.others hk) lz (fun b _ => by
    have := hd b
    show X.A.units + 1 + 1 + (enc b).depth < cLine
    omega) fun out hol eo => ?_
  rw [hle] at eo
  have vo := vals_each (g := g) eo
  refine wpAny_pure ⟨_, rfl, ?_⟩
  obtain ⟨e, he⟩ := sortedHeap_at (out := (List.toArray out)) (vs := us) hoL
  have J := I.laid (t' := tk) (a := h'.objs.size) (o := .lst ((bs.mergeSort le).map g)) (h' := sortedHeap (h'.push (seqObj "list" us.toArray 0)) h'.objs.size us (List.toArray out)) (fun b u e1 => by
      have e2 := hkp b u e1
      have l2 := Heap.lt_size e2
      rw [sortedHeap_old (Nat.ne_of_lt l2) (by rw [Heap.size_push]; exact Nat.lt_succ_of_lt l2)]
      exact Heap.get?_push_of_some _ e2) (Nat.le_of_lt hlt) ⟨by rw [List.length_map, List.length_mergeSort]; exact lz, out, e, vo, he⟩
  exact ⟨.ref h'.objs.size, _, J, rfl, q _ (I.hok.fresh (Nat.le_of_lt hlt))⟩
where
  go {h' : Heap} {us : List Value} : ∀ {vs : List Value} {cs : List α}, EachIs (fun v b => RelV (g b) v) vs cs → EachIs (fun v b => ∃ as, Reads (h'.push (seqObj "list" us.toArray 0)) v (enc b) as ∧ h'.objs.size ∉ as) vs cs
    | _, _, .nil => .nil
    | _, _, .cons a r => .cons ⟨[], rd _ _ _ a, by simp⟩ (go r)
theorem cr_sortDS (hc : X.calm = true) (hu : X.A.units + 66 < cLine) : CallR X (.builtin "sorted") rSortDS := by
  intro pins s σ H xs us Q I r h
  obtain ⟨p, kvs, bs, rfl, hp, hb, q⟩ := h
  rw [Vals.ref1 r]
  exact sorted_flat (enc := fun x : Str => PyData.str x) hc hu I hp hb (fun _ _ => rfl) (fun _ => ⟨fun z => (nomatch z), fun _ z => (nomatch z)⟩) (fun _ => by simp [PyData.depth]) (dataLe_str fun x => x) (fun h b v ⟨t, e⟩ => by rw [e]; exact .str b t) q
theorem cr_sortDI (hc : X.calm = true) (hu : X.A.units + 66 < cLine) : CallR X (.builtin "sorted") rSortDI := by
  intro pins s σ H xs us Q I r h
  obtain ⟨p, kvs, bs, rfl, hp, hb, q⟩ := h
  rw [Vals.ref1 r]
  exact sorted_flat (enc := fun x : Int => PyData.int x) hc hu I hp hb (fun _ _ => rfl) (fun _ => ⟨fun z => (nomatch z), fun _ z => (nomatch z)⟩) (fun _ => by simp [PyData.depth]) (dataLe_int fun x => x) (fun h b v ⟨t, e⟩ => by rw [e]; exact .int b t) q
end
end CP
set_option Elab.async false
set_option linter.all false
set_option maxRecDepth 100000
set_option maxHeartbeats 4000000
namespace CP
open PySem PySem.Spec PyProof.Rows PySem.Calls L2 KB KC KD KS LamX PySem.SeqAt PySem.W
def CallS (X : Cx) (f : Value) (ks : List Str) (r : L2.St → List V → List V → Hp → VK → Prop) : Prop :=
  ∀ (pins : List (Addr × Obj)) (s : Shared) (σ : L2.St) (H : Hp) (xs zs : List V) (us ws : List Value) (Q : VK), Inv X pins σ H s → Vals xs us → Vals zs ws → r σ xs zs H Q → wpAny (model X.prog X.w) X.A (call f us (ks.zip ws)) (EP X pins σ Q) X.xe s
section
variable {X : Cx}
theorem pe_callS {x : Str} {p pos : Pos} {e : Expr} {es : List Expr} {kws : List Keyword} {t tk : TA} {id : String} {ks : List Str} {r : L2.St → List V → List V → Hp → VK → Prop} (hc : CallS X (.builtin id) ks r) (hg : Gl X x) (hm : X.mg x = none) (hv : bootBuiltins x = some (.builtin id)) (ha : PA X (e :: es) t) (hk : PK X kws tk) (hn : x ≠ "__name__" := by decide) (hdb : (x == ("__debug__" : Str)) = false := by decide)
    (h1 : backTo pos (starEach (e :: es) X.env) = (false, eval e X.env) :: backTo pos (starEach es X.env) := by rfl) (h2 : (backTo pos (starEach (e :: es) X.env)).any (·.1) = false := by rfl)
    (h3 : (backToKw pos (keywordEach kws X.env)).all (·.1.isSome) = true := by rfl) (h4 : (backToKw pos (keywordEach kws X.env)).any (·.1.isNone) = false := by rfl) (h5 : (backToKw pos (keywordEach kws X.env)).filterMap (·.1) = ks := by rfl) :
    PE X (.Call (.Name x p) (e :: es) kws pos) (fun σ H Q => t σ H fun vs H1 => tk σ H1 fun zs H2 => r σ vs zs H2 Q) := by
  refine ⟨fun pins s σ H Q I h => wpAny_Call_Name_kw (ld_blt I hg hm hv ?_ hn hdb)⟩
  refine PyProof.Rows.callWith_kw (thn (ha.run pos pins s σ H _ I h) fun us sA ⟨vs, HA, IA, rA, qA⟩ => thn (hk.run pos pins sA σ HA _ IA qA) fun ws sB ⟨zs, HB, IB, rB, qB⟩ => ?_) h1 h2 h3 h4
  rw [h5]
  exact hc pins sB σ HB vs zs us ws Q IB rA rB qB
def rSortKC (X : Cx) : L2.St → List V → List V → Hp → VK → Prop := fun σ xs zs H Q => ∃ (p f : Addr) (kvs : List (Key × V)) (bs : List Str) (kf : Str → Int), xs = [.ref p] ∧ zs = [.ref f] ∧ H p = some (.dK kvs) ∧ kvs.map (fun kv => kV kv.1) = bs.map V.str ∧ KeyI X σ f H bs kf ∧
  ∀ H' D, Ex H H' → H D = none → H' D = some (.lst ((bs.mergeSort fun a b => decide (kf a ≤ kf b)).map V.str)) → Q (.ref D) H'
theorem cs_sortKC (hc : X.calm = true) (hu : X.A.units + 66 < cLine) : CallS X (.builtin "sorted") [Str.ofString "key"] (rSortKC X) := by
  intro pins s σ H xs zs us ws Q I r rz h
  obtain ⟨p, f, kvs, bs, kf, rfl, rfl, hp, hb, hcall, q⟩ := h
  obtain rfl := Vals.ref1 r
  obtain rfl := Vals.ref1 rz
  show wpAny _ _ (call (.builtin "sorted") [.ref p] [(Str.ofString "key", .ref f)]) _ _ s
  refine call_function_entry_kw kind_sorted plain_sorted entry_sorted (ksk_s1 _ _) ?_
  unfold Builtin.«sorted»
  refine wpAny_bind (m := checkCount "sorted" 1 1 _) (wpAny_pure ?_)
  refine wpAny_bind (collect_dK (A := X.A.in1) I (I.ok.hd hc) hp fun h' tk us hkp hlt rv hz => ?_)
  rw [hb] at rv
  have lu : bs.length = us.length := by
    have := rv.length
    rw [List.length_map] at this
    exact this
  have lz : bs.length ≤ sizeLine := by
    have := congrArg List.length hb
    rw [List.length_map, List.length_map] at this
    omega
  refine wpAny_bind (wpAny_newList ?_ (by show us.length ≤ _; omega))
  have hoL : (h'.push (seqObj "list" us.toArray 0)).get? h'.objs.size = some (seqObj "list" us.toArray 0) := Heap.get?_push_size _ rfl
  refine wpAny_bind (wpAny_holding (wpAny_call_entry_kw slot_list_sort ⟨_, hoL, rfl⟩ entry_list_sort ?body (ksk_l1 _ _)))
  case body =>
    show wpAny (model X.prog X.w) X.A.in1.in1 (Builtin.«list.sort» ⟨[.ref h'.objs.size], [(Str.ofString "key", .ref f)]⟩) _ _ _
    rw [ksk_t1]
    refine sort_bodyI (s := s) (h2 := h'.push (seqObj "list" us.toArray 0)) (tk := tk) I (fun b u e => Heap.get?_push_of_some _ (hkp b u e)) hoL (Nat.le_of_lt hlt) rv lz hu hcall fun H' s' J e1 e2 e3 => ⟨_, rfl, ?_⟩
    exact wpAny_pure ⟨_, rfl, .ref h'.objs.size, H', J, rfl, q H' h'.objs.size e1 e2 e3⟩
def leastF (kf : Str → Int) (x : Str) (xs : List Str) : Str := xs.foldl (fun a y => if decide (kf y < kf a) = true then y else a) x
def rMinKC (X : Cx) : L2.St → List V → List V → Hp → VK → Prop := fun σ xs zs H Q => ∃ (p f : Addr) (x : Str) (bs : List Str) (kf : Str → Int), xs = [.ref p] ∧ zs = [.ref f] ∧ H p = some (.lst ((x :: bs).map V.str)) ∧ KeyI X σ f H (x :: bs) kf ∧ ∀ H', Ex H H' → Q (.str (leastF kf x bs)) H'
theorem walksV {prog : Program} {w : World} {A : Around} (hh : A.handled = none) (I l : Addr) (hne : l ≠ I) (ys : List V) :
    Walks prog w A I [I, l] [I] ys.length (fun i v => ∃ x, ys[i]? = some x ∧ RelV x v) (fun i h => h.IsListIter I l i ∧ ∃ its : List Value, Vals ys its ∧ h.IsList l its.toArray) where
  sub := fun b hb => by simp at hb; simp [hb]
  frame := fun i h h' st hk => by
    obtain ⟨h1, its, rv, h2⟩ := st
    exact ⟨h1.at fun o e => hk I (by simp) o e, its, rv, h2.at fun o e => hk l (by simp) o e⟩
  item := fun i s Q E hi st hQ => by
    obtain ⟨h1, its, rv, h2⟩ := st
    refine (Walks.list hh I l hne its.toArray).item i s Q E (by rw [List.size_toArray, ← rv.length]; exact hi) ⟨h1, h2⟩ fun v h' tk hv st' hk => ?_
    obtain ⟨x, hx⟩ : ∃ x, ys[i]? = some x := ⟨_, List.getElem?_eq_getElem hi⟩
    obtain ⟨u, hu, ru⟩ := rv.get hx
    have e : u = v := Option.some.inj (hu.symm.trans (by simpa using hv))
    rw [e] at ru
    exact hQ v h' tk ⟨x, hx, ru⟩ ⟨st'.1, its, rv, st'.2⟩ hk
  done := fun s Q E st hQ => by
    obtain ⟨h1, its, rv, h2⟩ := st
    refine (Walks.list hh I l hne its.toArray).done s Q E ⟨?_, h2⟩ hQ
    rw [List.size_toArray, ← rv.length]
    exact h1
  self := fun i s Q E st hQ => wpAny_pyIter_listiter st.1 hQ
theorem cs_minKC (hc : X.calm = true) : CallS X (.builtin "min") [Str.ofString "key"] (rMinKC X) := by
  intro pins s σ H xs zs us ws Q I r rz h
  obtain ⟨p, f, x, bs, kf, rfl, rfl, hp, hcall, q⟩ := h
  obtain rfl := Vals.ref1 r
  obtain rfl := Vals.ref1 rz
  obtain ⟨hz, its0, n0, rv0, hraw0⟩ := lst_raw I hp
  have hisl : s.heap.IsList p its0.toArray := ⟨_, hraw0, rfl, n0, rfl⟩
  have hplt : p < s.heap.objs.size := Heap.lt_size hraw0
  show wpAny _ _ (call (.builtin "min") [.ref p] [(Str.ofString "key", .ref f)]) _ _ s
  refine call_min_walkK (wpAny_pyIter_list hisl ?_)
  generalize hoI : ({ cls := .type "list_iterator", data := .fields #[.ref p, .int 0 0] } : Obj) = oI
  have sz2 : (s.heap.push oI).objs.size = s.heap.objs.size + 1 := Heap.size_push _ _
  have I2 : Inv X pins σ H { s with heap := s.heap.push oI } := I.kept (t' := s.toks) fun b o e => Heap.get?_push_of_some _ e
  have nIt : H s.heap.objs.size = none := I.hok.fresh (Nat.le_refl _)
  have nS : H (s.heap.push oI).objs.size = none := by rw [sz2]; exact I.hok.fresh (Nat.le_succ _)
  have fpI : ∀ H', H' s.heap.objs.size = none → FpOk X pins H' s.heap.objs.size := fun H' n => I.fpOk (Nat.le_refl _) n
  have fpS : ∀ H', H' (s.heap.push oI).objs.size = none → FpOk X pins H' (s.heap.push oI).objs.size := fun H' n => I.fpOk (by rw [sz2]; exact Nat.le_succ _) n
  have nfr : ∀ b, s.heap.objs.size ≤ b → b ∉ frs X.stack := fun b hb z => by
    rcases List.mem_cons.mp (I.stkSub _ z) with e | e
    · have h1 := I.lt
      rw [← e] at h1
      exact Nat.lt_irrefl _ (Nat.lt_of_lt_of_le h1 hb)
    · exact I.nofs hb e
  have gd : ∀ {i : Nat} {v : Value}, (∃ y, ((x :: bs).map V.str)[i]? = some y ∧ RelV y v) → ∃ b, (x :: bs)[i]? = some b ∧ (x :: bs).getD i x = b ∧ RelV (.str b) v := fun {i v} ⟨y, hy, ry⟩ => by
    rw [List.getElem?_map] at hy
    obtain ⟨b, hb, rfl⟩ := Option.map_eq_some_iff.mp hy
    exact ⟨b, hb, by rw [List.getD_eq_getElem?_getD, hb]; rfl, ry⟩
  refine ⟨s.heap.objs.size, [s.heap.objs.size, p], [s.heap.objs.size], (fun a b => b = a), ((x :: bs).map V.str).length, (fun i v => ∃ y, ((x :: bs).map V.str)[i]? = some y ∧ RelV y v), (fun i s' => s'.heap.IsListIter s.heap.objs.size p i ∧ ∃ its : List Value, Vals ((x :: bs).map V.str) its ∧ s'.heap.IsList p its.toArray),
    (fun s' => ∃ Hi, Inv X pins σ Hi s' ∧ Ex H Hi ∧ Hi s.heap.objs.size = none ∧ Hi (s.heap.push oI).objs.size = none), (fun i k _ => ∃ t, k = .int (kf ((x :: bs).getD i x)) t), (fun i j => decide (kf ((x :: bs).getD i x) < kf ((x :: bs).getD j x))),
    rfl, (walksV (A := X.A.in1) (I.ok.hd hc) s.heap.objs.size p (Nat.ne_of_lt hplt) ((x :: bs).map V.str)).toS, ⟨⟨oI, Heap.get?_push_size _ (by rw [← hoI]; rfl), by rw [← hoI], by rw [← hoI]; rfl⟩, its0, rv0, hisl.at fun o e => Heap.get?_push_of_some _ e⟩, fun b hb => ?_, by simp, ?_, ⟨H, I2, Ex.refl H, nIt, nS⟩, fun v s' hP hJ => ?_⟩
  · show b < (s.heap.push oI).objs.size
    rw [sz2]
    rcases List.mem_cons.mp hb with e | hb
    · rw [e]
      exact Nat.lt_succ_self _
    · rw [List.mem_singleton.mp hb]
      exact Nat.lt_succ_of_lt hplt
  · refine ⟨fun s1 s' hJ hm => ?_, fun _ _ _ _ h _ => h, fun i v s1 o Q' E' hi hP hJ hst hS hQ => ?_, fun i j ki kj s1 Q' E' _ hi hj hQ => ?_⟩
    · obtain ⟨Hi, J, e, n1, n2⟩ := hJ
      obtain ⟨h1, g1, d1, t1, o1⟩ := s'
      have eg : g1 = s1.gens := hm.gens
      have ed : d1 = s1.drawn := hm.drawn
      have eo : o1 = s1.os := hm.os
      subst eg
      subst ed
      subst eo
      refine ⟨Hi, J.turnedL (t' := t1) (ch := [(s.heap.push oI).objs.size, s.heap.objs.size]) (fun b o hb e => hm.heap b o hb e) (fun b hb => ?_), e, n1, n2⟩
      rcases List.mem_cons.mp hb with z | hb
      · rw [z]
        exact fpS Hi n2
      · rw [List.mem_singleton.mp hb]
        exact fpI Hi n1
    · obtain ⟨Hi, J, e, n1, n2⟩ := hJ
      obtain ⟨b, hb, hbd, rb⟩ := gd hP
      have hS : s1.heap.get? (s.heap.push oI).objs.size = some o := hS
      refine wpAny_of_in1 (wpAny_mono (hcall b (List.mem_of_getElem? hb) Hi e pins s1 v (fun u s2 => Q' u s2) rb J fun t H2 s2 J2 e2 un => ?_) (fun _ _ h => h) fun _ _ (h : False) => h.elim)
      obtain ⟨hit, its, rvi, hli⟩ := hst
      obtain ⟨oi, hoi, hci, hdi⟩ := hit
      have k1 := un.keep _ _ hoi n1 (nfr _ (Nat.le_refl _)) (by simp)
      have k2 := un.keep _ _ hS n2 (nfr _ (by rw [sz2]; exact Nat.le_succ _)) (by simp)
      have f1 := un.free _ _ hoi n1 (by simp)
      have f2 := un.free _ _ hS n2 (by simp)
      obtain ⟨_, its2, n2', rv2, hraw2⟩ := lst_raw J2 (e2 _ _ (e _ _ hp))
      exact hQ (.int (kf b) t) s2 ⟨H2, J2, e.trans e2, f1, f2⟩ ⟨⟨oi, k1, hci, hdi⟩, its2, rv2, ⟨_, hraw2, rfl, n2', rfl⟩⟩ k2 ⟨t, by rw [hbd]⟩ fun _ _ h => h
    · obtain ⟨t, rfl⟩ := hi
      obtain ⟨u, rfl⟩ := hj
      exact CmpOf.ints_lt (prog := X.prog) (w := X.w) (A := X.A.in1) (P := fun i v => ∃ t, v = .int (kf ((x :: bs).getD i x)) t) (fun i => kf ((x :: bs).getD i x)) (fun i v h => h) i j _ _ _ _ _ ⟨t, rfl⟩ ⟨u, rfl⟩ hQ
  · obtain ⟨Hi, J, e, n1, n2⟩ := hJ
    obtain ⟨b, hb, hbd, rb⟩ := gd hP
    have hf := (argBest_fold (fun a y => decide (kf a < kf y)) x x bs bs.length (Nat.le_refl _)).2
    rw [List.take_length] at hf
    have hn : ((x :: bs).map V.str).length - 1 = bs.length := by simp
    rw [hn] at hbd
    have eb : leastF kf x bs = b := by
      rw [← hbd]
      exact hf.symm
    rw [← eb] at rb
    exact ⟨.str (leastF kf x bs), Hi, J, rb, q Hi e⟩
theorem keyI_clo {σ : L2.St} {k j : Nat} {f c' : Addr} {params : Arguments} {body : Expr} {scope : Scope} {pn y : Str} {H : Hp} {bs : List Str} {kf : Str → Int} {vy : V} (L : LamP X.env.scope scope pn y) (hr : Room (k + 3) X.A)
    (hf : H f = some (CloO f (X.env.qual ++ "<lambda>") params body scope (cloFrom X.env.cells scope.names []) c')) (hc : H c' = some (CodeO c' (X.env.qual ++ "<lambda>")))
    (hb : ∀ (s : Shared) (clo : List (Str × Addr)) (pm ctv u : Value), BindsTo s (PySem.W.kla_fn "<lambda>" (X.env.qual ++ "<lambda>") params body scope clo pm (.ref c') ctv) ⟨[u], []⟩ [(pn, u)]) (hy : X.N[j]? = some y) (hσ : σ[j]? = some (some vy))
    (hbody : ∀ (A : Around) (s : Shared) (H1 : Hp) (E : XK), Room k (A.deeper (lamEnv X scope s.heap.objs.size f c')) → ∀ x ∈ bs, Ex H H1 → ∃ tt, PE (cxP X A s H1 E scope f c' pn y) body tt ∧ ∀ Q : VK, (∀ H2, Ex H1 H2 → Q (.int (kf x)) H2) → tt [some (.str x), some vy] H1 Q) : KeyI X σ f H bs kf := by
  intro x hx H1 e1 pins s1 v R rv I hR
  have hr2 : Room (k + 1) X.A.in1.in1 := (show Room (k + 2) X.A.in1 from Room.in1 hr).in1
  have rc := clo_run (Q := fun y H2 => ∃ H', H' = H2 ∧ y = .int (kf x) ∧ Ex H1 H') (E := fun _ _ _ => False) (u := v) (v := .str x) (vy := vy) I L hr2 I.env0.in1.in1 (e1 _ _ hf) (e1 _ _ hc) (fun pm ctv => hb s1 _ pm ctv _) rv hy hσ
    (fun hr' => let ⟨tt, h1, h2⟩ := hbody _ s1 H1 (fun _ _ _ => False) hr' x hx e1; ⟨tt, h1, h2 _ fun H2 e2 => ⟨H2, rfl, rfl, e2⟩⟩)
  refine wpAny_call (codeAny_mono rc fun r s2 hq => ?_)
  cases r with
  | error e =>
    exact (no_err hq).elim
  | ok fl =>
    cases fl with
    | ret u =>
      obtain ⟨w', H2, os, bare, un, hok, rw', H', rfl, rfl, e2⟩ := hq
      obtain ⟨t, rfl⟩ := rw'
      have J := I.call' (s' := s2) os un hok bare (fun b z => absurd z (by simp))
      exact hR t H' s2 J e2 un
    | next => exact False.elim hq
    | brk => exact False.elim hq
    | cont => exact False.elim hq
where
  no_err {H1 : Hp} {s1 s2 : Shared} {e : Value} (h : L2.CX X.prog X.w X.stack H1 s1 (fun _ _ _ => False) e s2) : False := by
    obtain ⟨_, _, _, _, _, _, _, _, _, _, _, _, z⟩ := h
    exact z
end
end CP
set_option Elab.async false
set_option linter.all false
set_option maxRecDepth 100000
set_option maxHeartbeats 4000000
namespace K7
open PySem PySem.Spec PyProof.Rows L2 KB KC KS LamX R8
theorem Ex.on {H H1 : Hp} {a : Addr} {o : HO} (e : Ex H H1) (n : H a = none) : Ex H (upd H1 a o) := fun b u h => by rw [L2.upd_ne (ne_of_none h n)]; exact e b u h
theorem ifT {c A B : Prop} [Decidable c] (h : c) (a : A) : if c then A else B := by rw [if_pos h]; exact a
theorem ifF {c A B : Prop} [Decidable c] (h : ¬ c) (b : B) : if c then A else B := by rw [if_neg h]; exact b
theorem paired_snoc' {α β : Type} {R : α → β → Prop} {l : List α} {m : List β} {a : α} {b : β} (p : Paired R l m) (h : R a b) : Paired R (l ++ [a]) (m ++ [b]) := paired_app p (.cons h .nil)
theorem paired_len {α β : Type} {R : α → β → Prop} : ∀ {l : List α} {m : List β}, Paired R l m → l.length = m.length
  | _, _, .nil => rfl
  | _, _, .cons _ t => by rw [List.length_cons, List.length_cons, paired_len t]
def KT' (H H' : Hp) : Prop := ∀ b xs, H b = some (.tup xs) → H' b = some (.tup xs)
theorem lcG {J : It} {n : Nat} {G : Hp → Prop} {Y : Nat → Hp → V → Hp → Prop} (w : Walk J n G Y) {α : Type} (R : Hp → V → α → Prop) (out : Nat → Option α) (stab : ∀ H H' v a, KT' H H' → R H v a → R H' v a)
    {g : TG} {tt : TT} {te : TE} {vs : List Nat} {σ : L2.St} {HL : Hp} {D : Addr} {Qd : Hp → Prop} (hD : HL D = none) (hz : n ≤ 1000000) (hG : ∀ H, Ex HL H → G H) (hY : ∀ i H x H1, i < n → Ex HL H → Y i H x H1 → Ex H H1)
    (turn : ∀ (i : Nat) (x : V) (H H1 : Hp) (R0 : V → Hp → Prop) (N0 : Hp → Prop), i < n → Ex HL H → Y i H x H1 → (out i = none → ∀ H2, Ex H1 H2 → N0 H2) → (∀ a, out i = some a → ∀ H2 y, Ex H1 H2 → R H2 y a → R0 y H2) →
      g x (wipe σ vs) H1 fun σ2 H2 => wipe σ2 vs = wipe σ vs ∧ tt σ2 H2 fun b H3 => if b = true then te σ2 H3 R0 else N0 H3)
    (fin : ∀ H xs, Ex HL H → H D = some (.lst xs) → Paired (R H) xs ((List.range n).filterMap out) → Qd H) :
    ∃ W : Nat → Nat → Hp → Prop, (∃ m, W 0 m (upd HL D (.lst []))) ∧ ∀ i m H, W i m H →
      (J.stop i H ∧ Qd H) ∨ (J.go i H ∧ ∃ Nx : Hp → Prop, (∀ H', Nx H' → ∃ m', m' < m ∧ W (i + 1) m' H') ∧ ∀ x H', J.yld i H x H' → g x (wipe σ vs) H' fun σ2 H2 => wipe σ2 vs = wipe σ vs ∧ tt σ2 H2 fun b H3 =>
        if b = true then te σ2 H3 fun y H4 => ∃ acc, H4 D = some (.lst acc) ∧ acc.length < sizeLine ∧ Nx (upd H4 D (.lst (acc ++ [y]))) else Nx H3) := by
  refine lc_it w (fun i H => Ex HL H ∧ ∃ xs, H D = some (.lst xs) ∧ Paired (R H) xs ((List.range i).filterMap out)) ⟨Ex.upd hD, [], upd_same, .nil⟩ (fun i H _ h => hG H h.1) ?_ fun H ⟨e, xs, hx, hp⟩ => fin H xs e hx hp
  rintro i x H H1 hi ⟨e, xs, hx, hp⟩ hy
  have e1 := hY i H x H1 hi e hy
  have hs : (List.range (i + 1)).filterMap out = (List.range i).filterMap out ++ (out i).toList := by
    rw [List.range_succ, List.filterMap_append]
    cases h : out i <;> simp [h]
  refine turn i x H H1 _ _ hi e hy (fun hn H2 e2 => ?_) fun a ha H2 y e2 hr => ?_
  · refine ⟨(e.trans e1).trans e2, xs, e2 _ _ (e1 _ _ hx), ?_⟩
    rw [hs, hn]
    simpa using paired_mono (fun v b h => stab _ _ v b (fun b' xs' h' => e2 _ _ (e1 _ _ h')) h) hp
  · have hx2 := e2 _ _ (e1 _ _ hx)
    have kt : KT' H2 (upd H2 D (.lst (xs ++ [y]))) := fun b ys h => by
      rw [L2.upd_ne (fun z => by rw [z, hx2] at h; cases h)]; exact h
    refine ⟨xs, hx2, ?_, Ex.on ((e.trans e1).trans e2) hD, xs ++ [y], upd_same, ?_⟩
    · have l1 := paired_len hp
      have l2 := List.length_filterMap_le out (List.range i)
      rw [List.length_range] at l2
      have : sizeLine = 16777216 := rfl
      omega
    · rw [hs, ha]
      exact paired_snoc' (paired_mono (fun v b h => stab _ _ v b (fun b' xs' h' => kt _ _ (e2 _ _ (e1 _ _ h'))) h) hp) (stab _ _ _ _ kt hr)
def RInt : Hp → V → Int → Prop := fun _ v a => v = .int a
def RStr : Hp → V → Str → Prop := fun _ v a => v = .str a
theorem RInt.stab : ∀ H H' v a, KT' H H' → RInt H v a → RInt H' v a := fun _ _ _ _ _ h => h
theorem RStr.stab : ∀ H H' v a, KT' H H' → RStr H v a → RStr H' v a := fun _ _ _ _ _ h => h
theorem rint_map {H : Hp} : ∀ {xs : List V} {ns : List Int}, Paired (RInt H) xs ns → xs = ns.map V.int
  | _, _, .nil => rfl
  | _, _, .cons h t => by rw [List.map_cons, ← rint_map t]; rw [show _ = _ from h]
theorem rstr_map {H : Hp} : ∀ {xs : List V} {ns : List Str}, Paired (RStr H) xs ns → xs = ns.map V.str
  | _, _, .nil => rfl
  | _, _, .cons h t => by rw [List.map_cons, ← rstr_map t]; rw [show _ = _ from h]
theorem range_fm {α β : Type} (f : α → Option β) : ∀ xs : List α, (List.range xs.length).filterMap (fun i => xs[i]?.bind f) = xs.filterMap f := by
  intro xs
  induction xs with
  | nil => rfl
  | cons a xs ih =>
    rw [List.length_cons, List.range_succ_eq_map, List.filterMap_cons, List.filterMap_map]
    have e : ((fun i => ((a :: xs)[i]?).bind f) ∘ Nat.succ) = fun i => xs[i]?.bind f := by
      funext i
      simp
    rw [e, ih]
    simp [List.filterMap_cons]
theorem yat_ex {xs : List V} {i : Nat} {H H1 : Hp} {x : V} (h : YAt xs i H x H1) : Ex H H1 := by
  obtain ⟨rfl, _⟩ := h
  exact Ex.refl _
theorem yfn_ex {f : Nat → V} {i : Nat} {H H1 : Hp} {x : V} (h : YFn f i H x H1) : Ex H H1 := by
  obtain ⟨rfl, _⟩ := h
  exact Ex.refl _
theorem pf {X : Cx} (i : Nat) {f x : Str} {p1 p2 : Pos} (hN : X.N[i]? = some x := by rfl) (hv : Vis X.env.scope x := by first | exact .inl rfl | exact .inr (.inl rfl) | exact .inr (.inr rfl) | exact .inr rfl) (hd : (x == ("__debug__" : Str)) = false := by decide) (hcd : (x == ("__classdict__" : Str)) = false := by decide)
    (hb : attributeBase (.Name x p1) f X.env (eval (.Name x p1) X.env) = eval (.Name x p1) X.env := by rfl) : PE X (.Attribute (.Name x p1) f p2) (tFld X.K (tVar i) f) :=
  pe_fld (pe_var (i := i) hN hv hd hcd) hb
def veB : List Value := [.type "ValueError", .type "Exception", .type "BaseException", .type "object"]
structure TxtX (K : PySem.W.Frag) (mg : Str → Option Value) (CE : Addr) : Prop where
  g : mg "GroupError" = some (.ref CE)
  x : PySem.W.excIn K CE veB "ValueError.__new__" = true
  k : PySem.W.keepIn K (.ref CE) = true
  b : PySem.W.subIn K (.ref CE) (.type "BaseException") = some true
  t : PySem.W.typeIn K (.ref CE) = some (.type "type")
  e : PySem.W.exmOne K (.ref CE) (.ref CE) = some true
def rIxP : R2 := fun x y H Q => ∃ p xs i v, x = .ref p ∧ y = .int i ∧ H p = some (.tup xs) ∧ atI xs i = some v ∧ Q v H
theorem ix_tupD {X : Cx} : IxR X rIxP := by
  intro value slice pins s σ H x y v u Q I rx ry h hs
  obtain ⟨p, xs, i, z, e1, e2, hq, he, q⟩ := h
  exact ix_tup value slice pins s σ H x y v u Q I rx ry ⟨p, xs, i, z, e1, e2, SqT.of hq, he, q⟩ hs
theorem filt_fm {α : Type} (f : α → Bool) (xs : List α) : xs.filterMap (fun p => if f p = true then some p else none) = xs.filter f := by
  induction xs with
  | nil => rfl
  | cons a xs ih => cases h : f a <;> simp [h, ih]
theorem map_fm {α β : Type} (f : α → β) (xs : List α) : xs.filterMap (fun p => some (f p)) = xs.map f := by
  induction xs with
  | nil => rfl
  | cons a xs ih => simp
theorem at0 {a b : V} : atI [a, b] 0 = some a := rfl
theorem at1 {a b : V} : atI [a, b] 1 = some b := rfl
theorem wipe_set {σ : L2.St} {i : Nat} {x : Option V} : wipe ((wipe σ [i]).set i x) [i] = wipe σ [i] := by
  show ((σ.set i none).set i x).set i none = σ.set i none
  rw [List.set_set, List.set_set]
end K7

namespace K7
open PySem PySem.Spec PyProof.Rows L2 KB KC KS LamX R8
def putA {α : Type} (es : List (Key × α)) (k : Key) (a : α) : List (Key × α) := if (es.any fun e => decide (e.1 = k)) = true then es.map (fun e => if e.1 = k then (e.1, a) else e) else es ++ [(k, a)]
def foldA {α : Type} (es : List (Key × α)) : List (Key × α) := es.foldl (fun acc e => putA acc e.1 e.2) []
abbrev KvR {α : Type} (R : Hp → V → α → Prop) (H : Hp) (kvs : List (Key × V)) (es : List (Key × α)) : Prop := Paired (fun (p : Key × V) (e : Key × α) => p.1 = e.1 ∧ R H p.2 e.2) kvs es
theorem any_eq {α : Type} {R : Hp → V → α → Prop} {H : Hp} {k : Key} : ∀ {kvs : List (Key × V)} {es : List (Key × α)}, KvR R H kvs es → (kvs.any fun e => decide (e.1 = k)) = es.any fun e => decide (e.1 = k)
  | _, _, .nil => rfl
  | _, _, .cons h t => by rw [List.any_cons, List.any_cons, h.1, any_eq t]
theorem kvR_put {α : Type} {R : Hp → V → α → Prop} {H : Hp} {k : Key} {z : V} {a : α} {kvs : List (Key × V)} {es : List (Key × α)} (r : KvR R H kvs es) (hr : R H z a) : KvR R H (putK kvs k z) (putA es k a) := by
  unfold putK putA
  rw [any_eq r]
  split
  · exact go r
  · exact paired_snoc' r ⟨rfl, hr⟩
where
  go : ∀ {kvs : List (Key × V)} {es : List (Key × α)}, KvR R H kvs es → KvR R H (kvs.map fun kv => if kv.1 = k then (kv.1, z) else kv) (es.map fun e => if e.1 = k then (e.1, a) else e)
    | _, _, .nil => .nil
    | _, _, .cons (a := p) (b := e) h t => by
      rw [List.map_cons, List.map_cons]
      refine .cons ?_ (go t)
      by_cases c : p.1 = k
      · rw [if_pos c, if_pos (h.1 ▸ c)]
        exact ⟨h.1, hr⟩
      · rw [if_neg c, if_neg (h.1 ▸ c)]
        exact h
theorem putA_len {α : Type} (es : List (Key × α)) (k : Key) (a : α) : (putA es k a).length ≤ es.length + 1 := by
  unfold putA
  split
  · rw [List.length_map]; omega
  · rw [List.length_append]; simp
theorem foldA_snoc {α : Type} (es : List (Key × α)) (k : Key) (a : α) : foldA (es ++ [(k, a)]) = putA (foldA es) k a := by
  unfold foldA
  rw [List.foldl_append]
  rfl
theorem foldA_len_go {α : Type} : ∀ (es acc : List (Key × α)), (es.foldl (fun acc e => putA acc e.1 e.2) acc).length ≤ acc.length + es.length
  | [], acc => by simp
  | e :: es, acc => by
    rw [List.foldl_cons]
    have := foldA_len_go es (putA acc e.1 e.2)
    have := putA_len acc e.1 e.2
    rw [List.length_cons]
    omega
theorem foldA_len {α : Type} (es : List (Key × α)) : (foldA es).length ≤ es.length := by
  have := foldA_len_go es []
  unfold foldA
  simpa using this
theorem foldA_self_go {α : Type} : ∀ (es acc : List (Key × α)), ((acc ++ es).map (·.1)).Nodup → es.foldl (fun acc e => putA acc e.1 e.2) acc = acc ++ es
  | [], acc, _ => by simp
  | e :: es, acc, h => by
    have ne : ¬ (acc.any fun x => decide (x.1 = e.1)) = true := by
      rw [List.any_eq_true]
      rintro ⟨x, hx, hk⟩
      have hk := of_decide_eq_true hk
      rw [List.map_append, List.nodup_append] at h
      exact h.2.2 x.1 (List.mem_map.mpr ⟨x, hx, rfl⟩) e.1 (by simp) hk
    have ep : putA acc e.1 e.2 = acc ++ [e] := by unfold putA; rw [if_neg ne]
    rw [List.foldl_cons, ep, foldA_self_go es (acc ++ [e])]
    · simp
    · simpa using h
theorem foldA_self {α : Type} {es : List (Key × α)} (h : (es.map (·.1)).Nodup) : foldA es = es := foldA_self_go es [] (by simpa using h)
def KT2 (H H' : Hp) : Prop := ∀ b o, (∀ ks, o ≠ .dK ks) → H b = some o → H' b = some o
theorem dcG {J : It} {n : Nat} {G : Hp → Prop} {Y : Nat → Hp → V → Hp → Prop} (w : Walk J n G Y) {α : Type} (R : Hp → V → α → Prop) (out : Nat → Option (Key × α)) (stab : ∀ H H' v a, KT2 H H' → R H v a → R H' v a)
    {g : TG} {tt : TT} {tk tv : TE} {vs : List Nat} {σ : L2.St} {HL : Hp} {D : Addr} {Qd : Hp → Prop} (hD : HL D = none) (hz : n ≤ 1000000) (hG : ∀ H, Ex HL H → G H) (hY : ∀ i H x H1, i < n → Ex HL H → Y i H x H1 → Ex H H1)
    (turn : ∀ (i : Nat) (x : V) (H H1 : Hp) (R0 : V → V → Hp → Prop) (N0 : Hp → Prop), i < n → Ex HL H → Y i H x H1 → (out i = none → ∀ H2, Ex H1 H2 → N0 H2) → (∀ k a, out i = some (k, a) → ∀ H2 z, Ex H1 H2 → R H2 z a → R0 (kV k) z H2) →
      g x (wipe σ vs) H1 fun σ2 H2 => wipe σ2 vs = wipe σ vs ∧ tt σ2 H2 fun b H3 => if b = true then tk σ2 H3 fun y H4 => tv σ2 H4 fun z H5 => R0 y z H5 else N0 H3)
    (fin : ∀ H kvs, Ex HL H → H D = some (.dK kvs) → KvR R H kvs (foldA ((List.range n).filterMap out)) → Qd H) :
    ∃ W : Nat → Nat → Hp → Prop, (∃ m, W 0 m (upd HL D (.dK []))) ∧ ∀ i m H, W i m H →
      (J.stop i H ∧ Qd H) ∨ (J.go i H ∧ ∃ Nx : Hp → Prop, (∀ H', Nx H' → ∃ m', m' < m ∧ W (i + 1) m' H') ∧ ∀ x H', J.yld i H x H' → g x (wipe σ vs) H' fun σ2 H2 => wipe σ2 vs = wipe σ vs ∧ tt σ2 H2 fun b H3 =>
        if b = true then tk σ2 H3 fun y H4 => tv σ2 H4 fun z H5 => ∃ kvs k, y = kV k ∧ H5 D = some (.dK kvs) ∧ kvs.length < sizeLine ∧ Nx (upd H5 D (.dK (putK kvs k z))) else Nx H3) := by
  refine ⟨fun i m H => m = n - i ∧ i ≤ n ∧ (Ex HL H ∧ ∃ kvs, H D = some (.dK kvs) ∧ KvR R H kvs (foldA ((List.range i).filterMap out))), ⟨n, by simp, Nat.zero_le _, Ex.upd hD, [], upd_same, .nil⟩, ?_⟩
  rintro i m H ⟨rfl, hi, e, kvs, hx, hp⟩
  have q := hG H e
  by_cases hlt : i < n
  · refine .inr ⟨w.goes i H hlt q, (fun H' => i + 1 ≤ n ∧ (Ex HL H' ∧ ∃ kvs, H' D = some (.dK kvs) ∧ KvR R H' kvs (foldA ((List.range (i + 1)).filterMap out)))), fun H' p' => ⟨n - (i + 1), by omega, rfl, p'⟩, fun x H1 y => ?_⟩
    have y := w.yields i H x H1 hlt q y
    have e1 := hY i H x H1 hlt e y
    have hs : (List.range (i + 1)).filterMap out = (List.range i).filterMap out ++ (out i).toList := by
      rw [List.range_succ, List.filterMap_append]
      cases h : out i <;> simp [h]
    refine turn i x H H1 (fun y z H5 => ∃ kvs k, y = kV k ∧ H5 D = some (.dK kvs) ∧ kvs.length < sizeLine ∧ (fun H' => i + 1 ≤ n ∧ (Ex HL H' ∧ ∃ kvs, H' D = some (.dK kvs) ∧ KvR R H' kvs (foldA ((List.range (i + 1)).filterMap out)))) (upd H5 D (.dK (putK kvs k z)))) _ hlt e y (fun hn H2 e2 => ?_) fun k a ha H2 z e2 hr => ?_
    · refine ⟨hlt, (e.trans e1).trans e2, kvs, e2 _ _ (e1 _ _ hx), ?_⟩
      rw [hs, hn]
      simpa using paired_mono (fun v b h => ⟨h.1, stab _ _ v.2 b.2 (fun b' o' _ h' => e2 _ _ (e1 _ _ h')) h.2⟩) hp
    · have hx2 := e2 _ _ (e1 _ _ hx)
      have kt : KT2 H2 (upd H2 D (.dK (putK kvs k z))) := fun b o ho h => by
        rw [L2.upd_ne (fun z => by rw [z, hx2] at h; exact ho _ (Option.some.inj h).symm)]; exact h
      refine ⟨kvs, k, rfl, hx2, ?_, hlt, Ex.on ((e.trans e1).trans e2) hD, putK kvs k z, upd_same, ?_⟩
      · have l1 := paired_len hp
        have l2 := foldA_len ((List.range i).filterMap out)
        have l3 := List.length_filterMap_le out (List.range i)
        rw [List.length_range] at l3
        have : sizeLine = 16777216 := rfl
        omega
      · rw [hs, ha]
        show KvR R _ _ (foldA (_ ++ [(k, a)]))
        rw [foldA_snoc]
        exact kvR_put (paired_mono (fun v b h => ⟨h.1, stab _ _ v.2 b.2 (fun b' o' n' h' => kt _ _ n' (e2 _ _ (e1 _ _ h'))) h.2⟩) hp) (stab _ _ _ _ kt hr)
  · have e' : i = n := by omega
    subst e'
    exact .inl ⟨w.stops H q, fin H kvs e hx hp⟩
def RTrue : Hp → V → Unit → Prop := fun _ v _ => v = .bl true
theorem RInt.stab2 : ∀ H H' v a, KT2 H H' → RInt H v a → RInt H' v a := fun _ _ _ _ _ h => h
theorem RTrue.stab : ∀ H H' v a, KT2 H H' → RTrue H v a → RTrue H' v a := fun _ _ _ _ _ h => h
theorem kvR_keys {α : Type} {R : Hp → V → α → Prop} {H : Hp} : ∀ {kvs : List (Key × V)} {es : List (Key × α)}, KvR R H kvs es → kvs.map (fun kv => kV kv.1) = es.map fun e => kV e.1
  | _, _, .nil => rfl
  | _, _, .cons h t => by rw [List.map_cons, List.map_cons, kvR_keys t, h.1]
end K7

namespace K7
open PySem PySem.Spec PyProof.Rows L2 KB KC KD KS LamX R8 CP
theorem ps_setDc {X : Cx} {i : Nat} {y : Str} {py : Pos} {kx vx tg iter : Expr} {ifs : List Expr} {scope : Scope} {own : List (Str × Nat)} {pos spos : Pos} {wi : TI} {g : TG} {tt : L2.TT} {tk tv : TE} (hc : X.calm = true) (hN : X.N.Nodup) (hy : X.N[i]? = some y) (hyl : X.env.scope.names.lookup y = some .local)
    (hsw : swapsWith (.DictComp kx vx [⟨tg, iter, ifs, 0⟩] scope pos) (some (.Name y py)) spos.line X.env = pure true) (hi : PI X tg iter wi) (ok : BlkOk X.N X.env.scope scope own)
    (hg : ∀ (s : Shared) (H : Hp) (C : Addr) (cl : List (Str × Addr)) (fp : List Addr), PG (X.blk s H scope (compEnvC scope cl C X.env) fp) tg g) (ht : ∀ (s : Shared) (H : Hp) (C : Addr) (cl : List (Str × Addr)) (fp : List Addr), PTs (X.blk s H scope (compEnvC scope cl C X.env) fp) ifs tt)
    (hk : ∀ (s : Shared) (H : Hp) (C : Addr) (cl : List (Str × Addr)) (fp : List Addr), PE (X.blk s H scope (compEnvC scope cl C X.env) fp) kx tk)
    (he : ∀ (s : Shared) (H : Hp) (C : Addr) (cl : List (Str × Addr)) (fp : List Addr), PE (X.blk s H scope (compEnvC scope cl C X.env) fp) vx tv) (hs : ∀ x, foldedSetIterable iter X.env x = pure x := by intro _; rfl) :
    PS X (.Assign [.Name y py] (.DictComp kx vx [⟨tg, iter, ifs, 0⟩] scope pos) spos) (tAsg (tDc wi g tt tk tv (own.map (·.2))) (gName i)) := by
  refine ⟨fun pins s σ H D I h => ?_⟩
  rw [exec_Assign_Name_used _ _ _ _ hsw]
  refine wpAny_bind (wpAny_standAt (wpAny_bind ?_))
  show wpAny _ X.A (do let _ ← comprehension (.DictComp kx vx [⟨tg, iter, ifs, 0⟩] scope pos) scope X.env (firstIterPos [⟨tg, iter, ifs, 0⟩] pos) newDict false (eval iter X.env) (some (assign (.Name y py) X.env))) _ _ s
  have h : tDc wi g tt tk tv (own.map (·.2)) σ H (fun x H1 => gName i x σ H1 D.nx) := h
  refine wpAny_bind (thn (dc_core (Qf := fun _ s' => SP X pins D .next s') hc hN I hi ok hg ht hk he hs h fun L C s' m H' I' q hn f => ?_) fun _ s' hq => wpAny_pure (wpAny_pure hq))
  show wpAny _ _ (assign (.Name y py) X.env (.ref L)) _ _ _
  refine wpAny_assign_Name (store_ok2 (v := V.ref L) I' hN hy (.inl hyl) rfl (fun s2 I2 ⟨a, sb, ha⟩ => ?_) (.inr hyl))
  obtain ⟨f0, f1, f2, f3, f4, f5⟩ := f
  have haC : C ≠ a := by
    rcases ha with z | z
    · rw [z]; exact f1
    · exact fun e => f4 y a z e.symm
  refine ⟨m, hn.sameBut sb haC, fun h3 sb3 => ?_⟩
  exact ⟨_, H', I2.turned (t' := s2.toks) (fun b o hb e => (sb3.2 b hb).trans e) f0 f1 f3 f4 f5, q⟩
theorem sw_dict {kx vx : Expr} {gs : List Comprehension} {scope : Scope} {pos py : Pos} {y : Str} {l : Nat} {env : Env} (hk : env.scope.kind = .function) (hy : env.scope.names.lookup y = some .local) (hl : (py.line == pos.line) = true)
    (ha : (scope.names.any fun (n, k) => n == y && (k == .local || k == .cell)) = false) : swapsWith (.DictComp kx vx gs scope pos) (some (.Name y py)) l env = pure true := by
  have ky : env.kindOf y = some .local := hy
  have hb : env.blockKind = .function := by unfold Env.blockKind; rw [hk]; rfl
  unfold swapsWith
  simp only [hb, ky, ha, Expr.pos, hl]
  rfl
end K7
set_option Elab.async false
set_option linter.all false
set_option maxRecDepth 100000
set_option maxHeartbeats 2000000
namespace RC
open PySem PySem.Spec PyProof.Rows L2
theorem tracedZ_but {h h' B : Heap} {e C : Addr} {Z : Obj → Prop} {fl : Value} {m : Str → Option Value} (t : HandSPX.TracedZ h B e Z fl) (hn : h.Ns C m) (hs : Heap.SameBut C h h') : HandSPX.TracedZ h' B e Z fl := by
  obtain ⟨oe, vs, T, oT, ts, he, hz, hd, h1, hnT, hTe, hT, hdT, h3⟩ := t
  obtain ⟨oC, es, ep, hoC, hdC, _⟩ := hn
  have n1 : e ≠ C := fun z => by
    rw [z, hoC] at he
    cases he
    rw [hdC] at hd; cases hd
  have n2 : T ≠ C := fun z => by
    rw [z, hoC] at hT
    cases hT
    rw [hdC] at hdT; cases hdT
  exact ⟨oe, vs, T, oT, ts, (hs.2 e n1).trans he, hz, hd, h1, hnT, hTe, (hs.2 T n2).trans hT, hdT, h3⟩
def FlyC (X : Cx) (W : WX) (C : Addr) (u : Value) (s' : Shared) : Prop :=
  ∃ (a : Addr) (B : Heap) (sI : Shared) (pins : List (Addr × Obj)) (σ : L2.St) (H : Hp) (cls : Value) (d : Option Addr),
    u = .ref a ∧ Inv X pins σ H sI ∧ (∀ b o, sI.heap.get? b = some o → b ∉ frs X.stack → B.get? b = some o) ∧ sI.heap.UpToSlots s'.heap ∧
      HandSPX.FlyingZ B X.stack a (Zc cls d) s'.heap ∧ H a = none ∧ s'.os = sI.os ∧ AllBare s'.gens ∧ W cls d σ H ∧ B.get? C = none ∧ sI.heap.get? C = none
section
variable {X : Cx} {s' : Shared}
theorem noted {W : WX} {u : Value} {m : Str → Option Value} {cenv : Env} (hs : X.stack = X.env :: X.outer) (hf : X.env.frame = some X.env.locals) (hcf : cenv.frame = X.env.frame) (tk : Takes X W) (x : FlyC X W cenv.locals u s') (hn : s'.heap.Ns cenv.locals m) :
    notedBy (model X.prog X.w) X.A cenv (fun e s'' => CompFails (model X.prog X.w) X.A X.xe cenv e s'') u s' := by
  obtain ⟨a, B, sI, pins, σ, H, cls, d, rfl, I, nb, up, fl, na, os, ag, w, bC, iC⟩ := x
  have hfr : X.A.frames = some (X.env :: X.outer) := by rw [I.ok.frames, hs]
  show wpAny _ X.A (noteFrame (.ref a) cenv) _ _ s'
  rw [noteFrame_env _ hcf]
  rw [hs] at fl
  refine HandSPX.looks_onZ Zc.steady hfr hf fl fun h1 hh1 up1 => ?_
  obtain ⟨k1, k2, k3, k4⟩ := hh1
  have hn1 : h1.Ns cenv.locals m := up1.ns hn
  refine ⟨m, hn1, fun h2 m2 hn2 hs2 => ?_⟩
  have k1' : B.StaysIn h2 := fun b o hb => (hs2.2 b fun q => by rw [q, bC] at hb; cases hb).trans (k1 b o hb)
  have k3' : h2.FunFrames B (X.env :: X.outer) := Heap.FunFrames.sameBut hs2 hn2 k3
  have k4' := tracedZ_but k4 hn1 hs2
  have hh2 : HandSPX.HeldZ B (X.env :: X.outer) a (Zc cls d) X.env.locals h2 := ⟨k1', k2, k3', k4'⟩
  obtain ⟨oe, vs, T, oT, ts, he, hz, hd, e1, _⟩ := id k4'
  unfold PySem.passOn
  refine wpAny_bind (wpAny_field he hd e1 ?_)
  rw [if_neg (show ¬ ((Value.ref T == Value.none) = true) from by simp)]
  rw [hcf, hf]
  refine wpAny_bind (HandSPX.setFlight_onZ hh2 fun h3 hh3 up3 => wpAny_throw (tk _ _ ?_))
  refine ⟨a, B, sI, pins, σ, H, cls, d, rfl, I, nb, fun b o e nf => ?_, .inr (.inr (by rw [hs]; exact hh3)), na, os, ag, w⟩
  obtain ⟨sl, q⟩ := (up.trans up1) b o e nf
  have nC : b ≠ cenv.locals := fun z => by rw [z, iC] at e; cases e
  obtain ⟨sl2, q2⟩ := up3 b _ ((hs2.2 b nC).trans q) nf
  exact ⟨sl2, q2⟩
theorem fly_of {W : WX} {pins : List (Addr × Obj)} {σ : L2.St} {H : Hp} {s sO : Shared} {E : XK} {C : Addr} {oC : Obj} {u : Value} (I : Inv X pins σ H sO) (hO : sO.heap.get? C = none) (kO : ∀ b o, sO.heap.get? b = some o → s.heap.get? b = some o) (osO : sO.os = s.os) (hC : s.heap.get? C = some oC) (nC : H C = none) (fC : C ∉ frs X.stack)
    (hW : ∀ cls d H', E cls d H' → W cls d σ H') (c : L2.CX X.prog X.w X.stack H s E u s') : FlyC X W C u s' := by
  obtain ⟨a, B0, H', cls, d, rfl, fl0, hok0, ub, na, os, ag, hE⟩ := c
  obtain ⟨B, r1, r2⟩ := restrict B0 fun b => decide (b ≠ C)
  have nC' : H' C = none := ub.free C oC hC nC
  have bs : ∀ b o, B.get? b = some o → B0.get? b = some o ∧ b ≠ C := fun b o e => by
    by_cases z : b = C
    · rw [r2 b (by simp [z])] at e; cases e
    · rw [r1 b (by simp [z])] at e
      exact ⟨e, z⟩
  have bn : ∀ b, B0.get? b = none → B.get? b = none := fun b e => by
    cases q : B.get? b with
    | none => rfl
    | some o => rw [(bs b o q).1] at e; cases e
  have fl : HandSPX.FlyingZ B X.stack a (Zc cls d) s'.heap := by
    obtain ⟨f1, f2, f3, oe, vs, T, oT, ts, he, hz, hd, h1, hnT, rest⟩ := fl0
    exact ⟨fun b o e => f1 b o (bs b o e).1, bn _ f2, funFrames_none f3 fun L hL => bn _ (by
      obtain ⟨q, _⟩ := f3.mem hL
      exact q), oe, vs, T, oT, ts, he, hz, hd, h1, bn _ hnT, rest⟩
  have hok : HOk X.prog X.w H' B := fun b o q => (hok0 b o q).stay (fun c u hc r => by
    have z : c ≠ C := fun z => by
      rcases hc with hc | hc
      · rw [hc] at z
        rw [z, nC'] at q; cases q
      · rw [z, nC'] at hc; cases hc
    rw [r1 c (by simp [z])]
    exact r) (fun _ r => r) fun _ _ r => r
  obtain ⟨G, g1, g2⟩ := restrict s'.heap fun b => (B.get? b).isSome || decide (b ∈ frs X.stack)
  have st : B.StaysIn s'.heap := fl.1
  have gB : ∀ b o, B.get? b = some o → G.get? b = some o := fun b o e => by
    rw [g1 b (by simp [e])]
    exact st b o e
  have gF : ∀ b, b ∈ frs X.stack → G.get? b = s'.heap.get? b := fun b hb => g1 b (by simp [hb])
  have og : ∀ b o, G.get? b = some o → s'.heap.get? b = some o ∧ ((B.get? b).isSome = true ∨ b ∈ frs X.stack) := fun b o e => by
    cases q : ((B.get? b).isSome || decide (b ∈ frs X.stack)) with
    | false => rw [g2 b q] at e; cases e
    | true =>
      rw [g1 b q] at e
      exact ⟨e, by simpa [Bool.or_eq_true] using q⟩
  have bC : B.get? C = none := r2 C (by simp)
  have ne : ∀ b o, sO.heap.get? b = some o → b ≠ C := fun b o e z => by rw [z, hO] at e; cases e
  have kB : ∀ b o, B0.get? b = some o → b ≠ C → B.get? b = some o := fun b o e z => by rw [r1 b (by simp [z])]; exact e
  refine ⟨a, B, { sO with heap := G, gens := s'.gens, drawn := s'.drawn, toks := s'.toks }, pins, σ, H', cls, d, rfl, ?_, fun b o e hb => ?_, Heap.UpToSlots.of_keeps fun b o e => (og b o e).1, fl, na, os.trans osO.symm, ag, hW _ _ _ hE, bC, ?_⟩
  · refine I.call (ch := []) ⟨fun b o e n hb _ => gB b o (kB b o (ub.keep b o (kO b o e) n hb) (ne b o e)), fun b o e n hb _ => ?_, fun b o e n _ => ub.free b o (kO b o e) n, fun b o e _ => ?_, ub.tups, ub.frzs, ub.tbls⟩ (hok.kept gB) ag (fun _ z => nomatch z)
    · obtain ⟨sl, q⟩ := ub.slot b o (kO b o e) hb
      exact ⟨sl, by rw [gF b hb]; exact q⟩
    · by_cases hb : b ∈ frs X.stack
      · obtain ⟨sl, q⟩ := ub.slot b o (kO b o e) hb
        exact ⟨_, by rw [gF b hb]; exact q⟩
      · obtain ⟨o', q⟩ := ub.there b o (kO b o e) hb
        exact ⟨o', gB b o' (kB b o' q (ne b o e))⟩
  · obtain ⟨e', h⟩ := og b o e
    rcases h with h | h
    · obtain ⟨o', q⟩ := Option.isSome_iff_exists.mp h
      have z := st b o' q
      rw [e'] at z; cases z
      exact q
    · exact absurd h hb
  · exact g2 C (by rw [bC]; simp [fC])
end
end RC
set_option Elab.async false
set_option linter.all false
set_option maxRecDepth 100000
set_option maxHeartbeats 2000000
namespace RC
open PySem PySem.Spec PyProof.Rows L2
abbrev blkX (X : Cx) (s : Shared) (H : Hp) (scope : Scope) (cenv : Env) (fp : List Addr) (xe : Value → Shared → Prop) : Cx := { X.blk s H scope cenv fp with xe := xe }
theorem inv_blkX {X : Cx} {s : Shared} {H H' : Hp} {scope : Scope} {cenv : Env} {fp : List Addr} {xe : Value → Shared → Prop} {pins : List (Addr × Obj)} {σ : L2.St} {s' : Shared} (I : Inv (X.blk s H scope cenv fp) pins σ H' s') : Inv (blkX X s H scope cenv fp xe) pins σ H' s' :=
  Inv.unwish (X := blkX X s H scope cenv fp xe) (E := fun _ _ => False) I
section
variable {X : Cx}
def PassB (X : Cx) (E : XK) (Y : Cx) : Prop := Passes (L2.CX X.prog X.w) Y E
theorem ns_keeps {h h' : Heap} {C : Addr} {m : Str → Option Value} (n : h.Ns C m) (k : ∀ o, h.get? C = some o → h'.get? C = some o) : h'.Ns C m := by
  obtain ⟨o, es, ep, h1, r⟩ := n
  exact ⟨o, es, ep, k o h1, r⟩
theorem pe_lcX {elt tg iter : Expr} {ifs : List Expr} {scope : Scope} {own : List (Str × Nat)} {pos : Pos} {wi : TI} {g : TG} {tt : TT} {te : TE} {E : XK} (hc : X.calm = true) (hN : X.N.Nodup) (hst : X.stack = X.env :: X.outer) (hf : X.env.frame = some X.env.locals) (tk : Takes X (fun cls d _ H => E cls d H)) (hi : PI X tg iter wi) (ok : BlkOk X.N X.env.scope scope own)
    (hg : ∀ (s : Shared) (H : Hp) (C : Addr) (cl : List (Str × Addr)) (fp : List Addr) (xe : Value → Shared → Prop), PassB X E (blkX X s H scope (compEnvC scope cl C X.env) fp xe) → PG (blkX X s H scope (compEnvC scope cl C X.env) fp xe) tg g)
    (ht : ∀ (s : Shared) (H : Hp) (C : Addr) (cl : List (Str × Addr)) (fp : List Addr) (xe : Value → Shared → Prop), PassB X E (blkX X s H scope (compEnvC scope cl C X.env) fp xe) → PTs (blkX X s H scope (compEnvC scope cl C X.env) fp xe) ifs tt)
    (he : ∀ (s : Shared) (H : Hp) (C : Addr) (cl : List (Str × Addr)) (fp : List Addr) (xe : Value → Shared → Prop), PassB X E (blkX X s H scope (compEnvC scope cl C X.env) fp xe) → PE (blkX X s H scope (compEnvC scope cl C X.env) fp xe) elt te) (hs : ∀ x, foldedSetIterable iter X.env x = pure x := by intro _; rfl) :
    PE X (.ListComp elt [⟨tg, iter, ifs, 0⟩] scope pos) (tLc wi g tt te (own.map (·.2))) := by
  refine ⟨fun pins s σ H Q I h => ?_⟩
  rw [eval_ListComp]
  have hfree : ∀ y ∈ scope.names, y.2 = .free → ∃ c, X.env.cells.lookup y.1 = some c := fun y hy e => (ok.free y hy e).elim (fun k => I.ok.has _ (.inl k)) fun k => I.ok.has _ (.inr k)
  refine comprehension_at (use := none) rfl hs (closure_ok hfree) ok.kind (fun y hy e => by rw [ok.uniq y hy, e]) (thn (hi.run pins s σ H _ I h) fun xv s1 hx => thn hx fun itv s2 ⟨it, fp, tn, J, H2, e, I2, T, st2, f2, q⟩ => ?_)
  subst e
  refine wpAny_newObj_type (newEnv_comp ?_) (by show 0 ≤ sizeLine; decide)
  generalize hD : s2.heap.objs.size = D
  obtain ⟨W, ⟨m0, w0⟩, turn⟩ := q D (I2.hok.fresh (Nat.le_of_eq hD))
  generalize hs3 : ({ s2 with heap := s2.heap.push { cls := .type "list", data := .seq ([] : List Value).toArray } } : Shared) = s3
  have I3 : Inv X pins σ (upd H2 D (.lst [])) s3 := by
    rw [← hs3]
    refine I2.laid (t' := s2.toks) (fun b o e => Heap.get?_push_of_some _ e) (Nat.le_of_eq hD) ⟨Nat.zero_le _, [], 0, .nil, ?_⟩
    rw [← hD]
    exact Heap.get?_push_size _ rfl
  have h3 : s3.heap = s2.heap.push { cls := .type "list", data := .seq ([] : List Value).toArray } := by rw [← hs3]
  have f3 : ∀ b ∈ fp, FpOk X pins (upd H2 D (.lst [])) b ∧ b < s3.heap.objs.size := fun b hb => by
    obtain ⟨o, e, _⟩ := T.obj _ _ st2 b hb
    have hlt := Heap.lt_size e
    refine ⟨⟨?_, (f2 b hb).2⟩, by rw [h3, Heap.size_push]; exact Nat.lt_succ_of_lt hlt⟩
    rw [upd_ne (by rw [← hD]; exact Nat.ne_of_lt hlt)]
    exact (f2 b hb).1
  have st3 : tn 0 s3.heap := T.keep _ _ _ st2 fun b _ o e => by rw [h3]; exact Heap.get?_push_of_some _ e
  have I4 := block_start I3 ok hN f3
  have pg := fun xe => hg s3 (upd H2 D (.lst [])) s3.heap.objs.size (cellsFrom (s3.heap.objs.size + 1) scope.names (cloFrom X.env.cells scope.names [])) fp xe
  have pt := fun xe => ht s3 (upd H2 D (.lst [])) s3.heap.objs.size (cellsFrom (s3.heap.objs.size + 1) scope.names (cloFrom X.env.cells scope.names [])) fp xe
  have pe := fun xe => he s3 (upd H2 D (.lst [])) s3.heap.objs.size (cellsFrom (s3.heap.objs.size + 1) scope.names (cloFrom X.env.cells scope.names [])) fp xe
  show codeAny _ _ (.compStart (.ListComp elt [⟨tg, iter, ifs, 0⟩] scope pos) 0 (.ref it) (.ref D) (compEnvC scope (cellsFrom (s3.heap.objs.size + 1) scope.names (cloFrom X.env.cells scope.names [])) s3.heap.objs.size X.env)) (compEnds (model X.prog X.w) X.A X.xe none (fun v s' => EP X pins σ Q v s') (.ref D) (compEnvC scope (cellsFrom (s3.heap.objs.size + 1) scope.names (cloFrom X.env.cells scope.names [])) s3.heap.objs.size X.env)) { s3 with heap := pushCells (s3.heap.push { cls := .type "dict", data := .dict #[] }) scope.names }
  have nfp : ∀ b ∈ fp, (upd H2 D (.lst [])) b = none := fun b hb => (f3 b hb).1.1
  generalize hce : compEnvC scope (cellsFrom (s3.heap.objs.size + 1) scope.names (cloFrom X.env.cells scope.names [])) s3.heap.objs.size X.env = ce at I4 pg pt pe ⊢
  have cL : ce.locals = s3.heap.objs.size := by subst hce; rfl
  have cF : ce.frame = X.env.frame := by subst hce; rfl
  generalize hH3 : upd H2 D (.lst []) = H3 at I3 I4 pg pt pe w0 nfp f3
  generalize hs4 : ({ s3 with heap := pushCells (s3.heap.push { cls := .type "dict", data := .dict #[] }) scope.names } : Shared) = s4 at I4 ⊢
  have st4 : tn 0 s4.heap := T.keep _ _ _ st3 fun b _ o e => by rw [← hs4]; exact pushCells_keeps _ _ _ _ (Heap.get?_push_of_some _ e)
  generalize hxe : notedBy (model X.prog X.w) X.A ce (fun e s' => CompFails (model X.prog X.w) X.A X.xe ce e s') = xe
  have back : ∀ {pins' : List (Addr × Obj)} {σ' : L2.St} {H' : Hp} {s' : Shared}, Inv (blkX X s3 H3 scope ce fp xe) pins' σ' H' s' → Inv X pins σ H' s' := fun {pins' σ' H' s'} I' => I3.call' (ch := fp) I'.os I'.base I'.hok I'.bare fun b hb => ⟨(f3 b hb).1.2.2.2.1, (f3 b hb).1.2.1, (f3 b hb).1.2.2.2.2.1, (f3 b hb).1.2.2.2.2.2⟩
  have freeC : ∀ {pins' : List (Addr × Obj)} {σ' : L2.St} {H' : Hp} {s' : Shared}, Inv (blkX X s3 H3 scope ce fp xe) pins' σ' H' s' → H' ce.locals = none := fun I' => I'.free
  have pass : PassB X E (blkX X s3 H3 scope ce fp xe) := fun pins' σ' H' s5 u s' I' c => by
    have nC := freeC I'
    have I7 := back I'
    have nC' : H' s3.heap.objs.size = none := by rw [← cL]; exact nC
    obtain ⟨f0, f1, f2', f3', f4', f5'⟩ := I3.fpOk (Nat.le_refl _) nC'
    have fC : ce.locals ∉ frs X.stack := by
      rw [cL, hst]
      intro z
      obtain ⟨en, hen, hz⟩ := List.mem_filterMap.mp z
      rcases List.mem_cons.mp hen with rfl | hen
      · rw [hf] at hz
        exact f1 (Option.some.inj hz).symm
      · exact f2' (List.mem_filterMap.mpr ⟨en, hen, hz⟩)
    obtain ⟨mm, hn, _⟩ := I'.loc
    have hn : s5.heap.Ns ce.locals mm := hn
    obtain ⟨oC, es, ep, hoC, rest⟩ := id hn
    obtain ⟨hO, r1, r2⟩ := restrict s5.heap fun b => decide (b ≠ ce.locals)
    have kO : ∀ b o, hO.get? b = some o → s5.heap.get? b = some o := fun b o e => by
      by_cases z : b = ce.locals
      · rw [r2 b (by simp [z])] at e; cases e
      · rw [r1 b (by simp [z])] at e; exact e
    have IO : Inv X pins σ H' { s5 with heap := hO, toks := s5.toks } := by
      refine I7.turned (it := s3.heap.objs.size) (t' := s5.toks) (fun b o hb e => ?_) f0 f1 f3' f4' f5'
      rw [r1 b (by rw [cL]; simp [hb])]
      exact e
    have fly : FlyC X (fun cls d _ H => E cls d H) ce.locals u s' := fly_of (s := s5) (sO := { s5 with heap := hO, toks := s5.toks }) (oC := oC) IO (r2 _ (by simp)) kO rfl hoC nC fC (fun _ _ _ z => z) c
    have hn' : s'.heap.Ns ce.locals mm := ns_keeps hn fun o ho => by
      obtain ⟨a, B, H6, cls, d, _, fl, _, ub, _⟩ := c
      exact fl.1 _ _ (ub.keep _ _ ho nC fC)
    rw [← hxe]
    exact noted hst hf cF tk fly hn'
  have stat : ∀ {σ' : L2.St} {H' : Hp} {s' : Shared}, Inv (blkX X s3 H3 scope ce fp xe) [] σ' H' s' → (∀ b ∈ fp, H' b = none) → ∀ b ∈ fp, FpOk (blkX X s3 H3 scope ce fp xe) [] H' b := fun {σ' H' s'} I' hn b hb =>
    ⟨hn b hb, (I'.ok.exf b hb).1, I'.ok.exfs b hb, .inl hb, fun x c e => (I'.ok.exf b hb).2 x c e, fun p hp => absurd (show p ∈ ([] : List (Addr × Obj)) ++ [] from hp) (by simp)⟩
  have loop : codeAny (model X.prog X.w) X.A (.compLoop (.ListComp elt [⟨tg, iter, ifs, 0⟩] scope pos) 0 (.ref it) (.ref D) ce) (compEnds (model X.prog X.w) X.A X.xe none (fun v s' => EP X pins σ Q v s') (.ref D) ce) s4 := by
    refine compLoop_any (fun n s' => ∃ i H', Inv (blkX X s3 H3 scope ce fp xe) [] (wipe σ (own.map (·.2))) H' s' ∧ tn i s'.heap ∧ (∀ b ∈ fp, H' b = none) ∧ W i n H') ?_ m0 ⟨0, H3, inv_blkX I4, st4, nfp, w0⟩
    rintro n s5 ⟨i, H5, I5, st5, n5, w5⟩
    have err : ∀ {α : Type} {t : Sem α} {R R' : α → Shared → Prop} {sx : Shared}, wpAny (model X.prog X.w) X.A t R xe sx → (∀ a s', R a s' → R' a s') → wpAny (model X.prog X.w) X.A t R' (notedBy (model X.prog X.w) X.A ce fun e s' => compEnds (model X.prog X.w) X.A X.xe none (fun v s' => EP X pins σ Q v s') (.ref D) ce (.error e) s') sx := fun hw hR => by
      refine wpAny_mono hw hR fun e s' he => ?_
      rw [← hxe] at he
      exact he
    rcases turn i n H5 w5 with ⟨stop, qq⟩ | ⟨go, Nx, hNx, step⟩
    · refine thnF (T.done (blkX X s3 H3 scope ce fp xe) rfl rfl rfl hc i [] s5 _ H5 (fun _ _ => False) I5 (stat I5 n5) st5 stop) fun r s6 ⟨hr, I6⟩ => ?_
      subst hr
      have nC : H5 s3.heap.objs.size = none := by rw [← cL]; exact freeC I6
      obtain ⟨m, hn, _⟩ := I6.loc
      have hn : s6.heap.Ns ce.locals m := hn
      refine ⟨m, hn, fun h'' sb => ?_⟩
      obtain ⟨f0, f1, f2, f3, f4, f5⟩ := I3.fpOk (Nat.le_refl _) nC
      exact ⟨.ref D, H5, (back I6).turned (t' := s6.toks) (fun b o hb e => (sb.2 b (by rw [cL]; exact hb)).trans e) f0 f1 f3 f4 f5, rfl, qq⟩
    · refine thnF (T.item (blkX X s3 H3 scope ce fp xe) rfl rfl rfl hc i [] s5 _ H5 (fun _ _ => False) I5 (stat I5 n5) st5 go) fun r s6 ⟨u, hr, h6⟩ => ?_
      subst hr
      refine thnF h6 fun _ s7 ⟨x, H7, I7, r7, y7, st7, n7⟩ => ?_
      have I7' := I7.pinned (stat I7 n7) (T.obj _ _ st7)
      refine err ((pg xe pass).run _ s7 _ H7 x u _ I7' r7 (step x H7 y7)) fun _ s8 ⟨σ8, H8, I8, hw8, q8⟩ => ?_
      refine err ((pt xe pass).run _ s8 σ8 H8 _ I8 q8) fun b s9 ⟨H9, I9, q9⟩ => ?_
      have fin : ∀ {s' : Shared} {H' : Hp}, Inv (blkX X s3 H3 scope ce fp xe) ([] ++ pinsAt fp s7.heap) σ8 H' s' → Nx H' → ∃ m, m < n ∧ ∃ i H', Inv (blkX X s3 H3 scope ce fp xe) [] (wipe σ (own.map (·.2))) H' s' ∧ tn i s'.heap ∧ (∀ b ∈ fp, H' b = none) ∧ W i m H' := fun {s' H'} I' nx => by
        obtain ⟨m', hm, w'⟩ := hNx H' nx
        have pin' : ∀ b ∈ fp, ∀ o, s7.heap.get? b = some o → s'.heap.get? b = some o ∧ H' b = none := fun b hb o e =>
          let z := I'.pin (b, o) (List.mem_append_right _ (List.mem_append_right _ (mem_pinsAt hb e)))
          ⟨z.1, z.2.1⟩
        refine ⟨m', hm, i + 1, H', (I'.unpinned (pins := [])).weak (by rw [← hw8, wipe_length]) (fun j v e => (wipe_some (by rw [hw8]; exact e)).1), T.keep _ _ _ st7 fun b hb o e => (pin' b hb o e).1, fun b hb => ?_, w'⟩
        obtain ⟨o, e, _⟩ := T.obj _ _ st7 b hb
        exact (pin' b hb o e).2
      cases b with
      | false =>
        simp only [Bool.false_eq_true, if_false] at q9 ⊢
        exact fin I9 q9
      | true =>
        simp only [if_true] at q9 ⊢
        refine err ((pe xe pass).run _ s9 σ8 H9 _ I9 q9) fun z s10 ⟨yv, H10, I10, r10, acc, hD10, hz10, nx⟩ => ?_
        exact app_ok (X := blkX X s3 H3 scope ce fp xe) I10 hD10 hz10 r10 fun s11 I11 => fin I11 nx
  exact codeAny_compStart_list loop (T.self X.A 0 _ _ _ st4 loop)
end
end RC
set_option Elab.async false
set_option linter.all false
set_option maxRecDepth 100000
set_option maxHeartbeats 2000000
namespace RC
open PySem PySem.Spec PyProof.Rows L2
section
variable {X : Cx} {pins : List (Addr × Obj)} {σ : L2.St} {H : Hp} {s : Shared}
theorem inv_drop {ch : List Addr} {hO : Heap} (I : Inv X pins σ H s) (k : ∀ b o, b ∉ ch → s.heap.get? b = some o → hO.get? b = some o) (hn : ∀ b ∈ ch, H b = none) (hb : ∀ b ∈ ch, X.s_0.heap.get? b = none) (hL : ∀ b ∈ ch, b ≠ X.env.locals) (hf : ∀ b ∈ ch, ∃ o vs, s.heap.get? b = some o ∧ o.data = .fields vs) (hp : ∀ p ∈ X.pn ++ pins, p.1 ∉ ch) : Inv X pins σ H { s with heap := hO } := by
  have s0 : ∀ {b : Addr} {o : Obj}, X.s_0.heap.get? b = some o → b ∉ ch := fun {b o} e hc => by rw [hb b hc] at e; cases e
  have cl : ∀ {c : Addr} {v : Option Value}, s.heap.IsCell c v → hO.IsCell c v := fun {c v} ⟨o, ho, hd⟩ => ⟨o, k c o (fun hc => by
    obtain ⟨o', vs, e', hd'⟩ := hf c hc
    rw [ho] at e'
    cases e'
    rw [hd] at hd'; cases hd') ho, hd⟩
  refine ⟨I.ok, I.os, I.bare, ⟨fun b o e n h1 h2 => k b o (s0 e) (I.base.keep b o e n h1 h2), fun b o e n h1 h2 => ?_, I.base.free, fun b o e h1 => ?_, I.base.tups, I.base.frzs, I.base.tbls⟩, ?_, fun x c e => ?_, I.free, I.freeC, fun p q => ?_, fun b u q => ?_, I.len⟩
  · obtain ⟨sl, z⟩ := I.base.slot b o e n h1 h2
    exact ⟨sl, k b _ (s0 e) z⟩
  · obtain ⟨o', z⟩ := I.base.there b o e h1
    exact ⟨o', k b _ (s0 e) z⟩
  · obtain ⟨m, hns, hl⟩ := I.loc
    refine ⟨m, ns_keeps hns fun o ho => k _ o (fun hc => hL _ hc rfl) ho, fun i x v e1 e2 e3 => ?_⟩
    obtain ⟨u, r, q⟩ := hl i x v e1 e2 e3
    refine ⟨u, r, ?_⟩
    rcases q with q | ⟨q1, c, q2, q3⟩
    · exact .inl q
    · exact .inr ⟨q1, c, q2, cl q3⟩
  · obtain ⟨v, z⟩ := I.cell x c e
    exact ⟨v, cl z⟩
  · obtain ⟨z1, z2⟩ := I.pin p q
    exact ⟨k _ _ (hp p q) z1, z2⟩
  · exact (I.hok b u q).stay (fun c v hc r => k c v (fun hch => by
      have z := hn c hch
      rcases hc with hc | hc
      · rw [hc, q] at z; cases z
      · rw [hc] at z; cases z) r) (fun _ r => r) fun _ _ r => r
end
def wAgain (K : PySem.W.Frag) (c : Value) (ts : TS) (Wout : WX) : WX := fun cls d σ H =>
  ∃ b, PySem.W.exmOne K cls c = some b ∧ (b = true → ts { nx := fun σ' H' => Wout cls d σ' H', rt := fun _ _ => False, bk := fun _ _ => False, ct := fun _ _ => False } σ H) ∧ (b = false → Wout cls d σ H)
section
variable {X : Cx} {x : Str} {c : Value} {body : List Stmt} {b₀ : Stmt} {np pos pos' pr : Pos} {tb : WX → TS} {ts : TS} {Wout : WX}
theorem ps_try_again (hs : X.stack = X.env :: X.outer) (hf : X.env.frame = some X.env.locals) (hex : X.ex = []) (hc : Names X x c) (hpa : ∀ hd : Option Value, PassesOwnAt (model X.prog X.w) (X.A.mark hd) X.A X.env X.xe) (tk : Takes X Wout)
    (hb : ∀ (W : WX) (pn : List (Addr × Obj)) (xe : Value → Shared → Prop), Takes (X.tr pn xe) W → PassesOwn (model X.prog X.w) X.A X.env xe → PSs (X.tr pn xe) body (tb W))
    (hsu : ∀ (a : Addr) (pn : List (Addr × Obj)), PS (X.suite a pn) b₀ ts) :
    PS X (.Try body [.ExceptHandler (some (.Name x np)) none [b₀, .Raise none none pr] pos'] [] [] pos) (fun D σ H => tb (wAgain X.K c ts Wout) D σ H) := by
  refine ⟨fun pins s σ H D I h => ?_⟩
  have ok := I.ok
  have hfr : X.A.frames = some (X.env :: X.outer) := by rw [ok.frames, hs]
  refine wpAny_Try_except ?_
  refine wpAny_mono ((hb (wAgain X.K c ts Wout) (X.pn ++ pins) (fun e s₁ => wpAny (model X.prog X.w) X.A (noteFrame e X.env) (fun _ s₂ => wpAny (model X.prog X.w) X.A (setFlight e none) (fun _ s₃ =>
    wpAny (model X.prog X.w) X.A (handleBy e X.env [.ExceptHandler (some (.Name x np)) none [b₀, .Raise none none pr] pos']) (SP X pins D) X.xe s₃) X.xe s₂) X.xe s₁) (fun u s' xx => ?_) PassesOwn.looking).run [] s σ H D (I.toTry _) h) (fun f s1 hsp => ?_) (fun e s1 he => he)
  · obtain ⟨a, B, sI, pins', σ', H', cls, d, rfl, J', nb, up, sky, na, os, ag, b, hb1, hyes, hno⟩ := xx
    have J : Inv X pins σ' H' sI := J'.ofTry ok
    have sky' : Sky B (X.env :: X.outer) a (Zc cls d) X.env.locals s'.heap := by rw [← hs]; exact sky
    show wpAny (model X.prog X.w) X.A (noteFrame (.ref a) X.env) _ _ _
    refine Sky.land Zc.steady hfr hf sky' fun h3 fl3 up3 => ?_
    have J3 : Inv X pins σ' H' { s' with heap := h3 } := J.landed nb fl3.1 (up.trans up3) os ag
    obtain ⟨oe3, vs3, he3, hz3, hd3⟩ := fl3.there
    have notFr : ∀ {h : Heap} {a : Addr} {o : Obj} {vs : Array Value}, h.FunFrames B (X.env :: X.outer) → h.get? a = some o → o.data = .fields vs → a ∉ frs (X.env :: X.outer) := fun {h a o vs} ff e dd hm => by
      obtain ⟨_, o', e', hnf⟩ := ff.mem hm
      rw [e] at e'; cases e'
      exact hnf _ dd
    have nLF : ∀ {b : Addr}, b ∉ frs (X.env :: X.outer) → b ≠ X.env.locals ∧ b ∉ X.fs := fun {b} nfr => ⟨fun z => nfr (List.mem_filterMap.mpr ⟨X.env, List.mem_cons_self, by rw [hf, z]⟩), fun hm => by
      obtain ⟨e, he, q⟩ := List.mem_filterMap.mp hm
      exact nfr (List.mem_filterMap.mpr ⟨e, List.mem_cons_of_mem _ he, q⟩)⟩
    have nfr := notFr fl3.2.2.1 he3 hd3
    obtain ⟨nL, nF⟩ := nLF nfr
    have S3 := J3.suite he3 hd3 na nL nF
    refine wpAny_handleBy_cons (codeAny_handlers_test ?_) (by intro q; cases q)
    have LT : PySem.W.Looks (model X.prog X.w) h3 (typeOf (.ref a)) cls := fun A Q E s k q => wpAny_typeOf_ref (k _ _ he3) (by rw [hz3.1]; exact q)
    have LM := PySem.W.exm_one (M := model X.prog X.w) (J3.kIn) LT hb1
    have test : ∀ {Q : Value → Shared → Prop} {E : Value → Shared → Prop}, Q c { s' with heap := h3 } → wpAny (model X.prog X.w) (X.A.mark (some (.ref a))) (eval (.Name x np) X.env) Q E { s' with heap := h3 } := fun {Q E} q => by
      obtain ⟨hg, hdbg, hm | ⟨hm, hv, hnn⟩⟩ := hc
      · exact ld_glob (X := X.suite a ((a, oe3) :: (X.pn ++ pins))) S3 hg hm q hdbg
      · exact ld_blt (X := X.suite a ((a, oe3) :: (X.pn ++ pins))) S3 hg hm hv q hnn hdbg
    refine test (LM.here ?_)
    have old : ∀ {b : Addr}, B.get? b = none → b ∉ frs (X.env :: X.outer) → X.s_0.heap.get? b = none ∧ ∀ p ∈ X.pn ++ pins, p.1 ≠ b := fun {b} e nf => by
      have e1 : sI.heap.get? b = none := by
        cases q : sI.heap.get? b with
        | none => rfl
        | some o =>
          have := nb b o q (by rw [hs]; exact nf)
          rw [e] at this; cases this
      refine ⟨?_, fun p hp z => ?_⟩
      · cases q : X.s_0.heap.get? b with
        | none => rfl
        | some o =>
          obtain ⟨o', r⟩ := J.base.there b o q (by rw [hex]; simp)
          rw [e1] at r; cases r
      · have := (J.pin p hp).1
        rw [z, e1] at this; cases this
    cases b with
    | true =>
      refine codeAny_handlers_suite ?_
      refine HandSPX.lands_againZ fl3 fun h4 fl4 up4 => ?_
      have J4 : Inv X pins σ' H' { s' with heap := h4 } := J.landed nb fl4.1 ((up.trans up3).trans up4) os ag
      obtain ⟨k1, k2, k3, oe4, vs4, T, oT, ts4, he4, hz4, hd4, h14, hnT, hTe, hT, hdT, h34⟩ := id fl4
      have nfT := notFr k3 hT hdT
      obtain ⟨nLT, nFT⟩ := nLF nfT
      have nT : H' T = none := (J.inGround nb).gone hnT
      have S4 : Inv (X.suite a ((a, oe4) :: (X.pn ++ pins))) [(T, oT)] σ' H' { s' with heap := h4 } := (J4.suite he4 hd4 na nL nF).pins_of fun p hp => by
        rw [List.mem_singleton.mp hp]
        exact ⟨hT, nT, nLT, nFT, fun v z => by rw [show oT.data = .cell v from z] at hdT; cases hdT⟩
      refine wpAny_execs_cons (wpAny_mono ((hsu a ((a, oe4) :: (X.pn ++ pins))).run [(T, oT)] _ _ H' _ S4 (hyes rfl)) (fun f s6 hsp => ?_) (fun _ _ z => False.elim z))
      cases f with
      | brk =>
        obtain ⟨_, _, _, q6⟩ := hsp
        exact False.elim q6
      | cont =>
        obtain ⟨_, _, _, q6⟩ := hsp
        exact False.elim q6
      | ret u =>
        obtain ⟨_, _, _, _, _, q6⟩ := hsp
        exact False.elim q6
      | next =>
        obtain ⟨σ6, H6, S6, q6⟩ := hsp
        obtain ⟨pa, na6, _⟩ := S6.pin (a, oe4) (List.mem_append_left _ List.mem_cons_self)
        obtain ⟨pT, nT6, _⟩ := S6.pin (T, oT) (List.mem_append_right _ (List.mem_singleton.mpr rfl))
        have J6 : Inv X pins σ6 H6 s6 := S6.unsuite ok
        obtain ⟨hO, r1, r2⟩ := restrict s6.heap fun b => decide (b ∉ [a, T])
        have kO : ∀ b o, hO.get? b = some o → s6.heap.get? b = some o ∧ b ∉ [a, T] := fun b o e => by
          by_cases z : b ∈ [a, T]
          · rw [r2 b (decide_eq_false fun h => h z)] at e; cases e
          · rw [r1 b (decide_eq_true z)] at e; exact ⟨e, z⟩
        have kI : ∀ b o, b ∉ [a, T] → s6.heap.get? b = some o → hO.get? b = some o := fun b o z e => by rw [r1 b (decide_eq_true z)]; exact e
        obtain ⟨oa0, oa1⟩ := old k2 nfr
        obtain ⟨oT0, oT1⟩ := old hnT nfT
        have two : ∀ {R : Addr → Prop}, R a → R T → ∀ b ∈ [a, T], R b := fun ha hT b hb => by
          rcases List.mem_cons.mp hb with e | hb
          · rw [e]; exact ha
          · rw [List.mem_singleton.mp hb]; exact hT
        have IO : Inv X pins σ6 H6 { s6 with heap := hO } := inv_drop J6 kI (two na6 nT6) (two oa0 oT0) (two nL nLT) (two ⟨_, _, pa, hd4⟩ ⟨_, _, pT, hdT⟩) fun p hp hm => by
          rcases List.mem_cons.mp hm with e | hm
          · exact oa1 p hp e
          · exact oT1 p hp (List.mem_singleton.mp hm)
        obtain ⟨B6, hB6⟩ : ∃ B6, B6 = PySem.W.hideAll hO (frs X.stack) := ⟨_, rfl⟩
        have hB : ∀ b o, B6.get? b = some o → hO.get? b = some o := fun b o e => by rw [hB6] at e; exact PySem.W.of_hideAll _ e
        have gB : ∀ b o, hO.get? b = some o → b ∉ frs X.stack → B6.get? b = some o := fun b o e hb => by rw [hB6]; exact PySem.W.hideAll_get _ e hb
        have nB : ∀ b ∈ frs X.stack, B6.get? b = none := fun b hb => by rw [hB6]; exact PySem.W.hideAll_none _ hb
        clear hB6
        have bN : ∀ {b : Addr}, b ∈ [a, T] → B6.get? b = none := fun {b} hb => by
          cases q : B6.get? b with
          | none => rfl
          | some o => exact absurd hb (kO b o (hB b o q)).2
        have ff : s6.heap.FunFrames B6 X.stack := Heap.FunFrames.of_keeps (fun b o e _ => ⟨o, (kO b o e).1, rfl⟩) (funFrames_none IO.stack nB)
        have fl6 : HandSPX.FlyingZ B6 (X.env :: X.outer) a (Zc cls d) s6.heap :=
          ⟨fun b o e => (kO b o (hB b o e)).1, bN List.mem_cons_self, by rw [← hs]; exact ff, oe4, vs4, T, oT, ts4, pa, hz4, hd4, h14, bN (List.mem_cons_of_mem _ (List.mem_singleton.mpr rfl)), hTe, pT, hdT, h34⟩
        refine wpAny_execs_cons (wpAny_mono (Q := fun _ _ => False) (E := X.xe) ?_ (fun _ _ z => z.elim) (fun e s z => hpa _ e s z))
        refine wpAny_Raise_bare ?_
        unfold raiseBare raiseStmt
        dsimp only
        refine wpAny_bind (wpAny_handled ?_)
        show wpAny (model X.prog X.w) (X.A.mark (some (.ref a))) _ _ _ _
        rw [show (X.A.mark (some (.ref a))).handled = some (.ref a) from rfl]
        dsimp only
        refine wpAny_bind (wpAny_rule ?_)
        refine wpAny_bind (wpAny_field pa hd4 h14 ?_)
        rw [if_neg (show ¬ ((Value.ref T == Value.none) = true) from by simp)]
        rw [hf]
        have last : ∀ {α : Type}, wpAny (model X.prog X.w) (X.A.mark (some (.ref a))) (setFlight (.ref a) (some X.env.locals)) (fun _ s7 => wpAny (model X.prog X.w) (X.A.mark (some (.ref a))) (throw (.ref a) : Sem α) (fun _ _ => False) X.xe s7) X.xe s6 := fun {α} =>
          HandSPX.setFlight_upZ fl6 fun h7 hh7 up7 => wpAny_throw (tk _ _ ⟨a, _, { s6 with heap := hO }, pins, σ6, H6, cls, d, rfl, IO, gB, (Heap.UpToSlots.of_keeps fun b o e => (kO b o e).1).trans up7, .inr (.inr (by rw [hs]; exact hh7)), na6, rfl, S6.bare, q6⟩)
        first
          | exact wpAny_bind last
          | exact wpAny_bind (wpAny_pure (wpAny_bind last))
    | false =>
      show wpAny _ X.A (handleBy (.ref a) X.env []) _ _ _
      refine wpAny_handleBy_nil ?_
      obtain ⟨k1, k2, k3, oe, vs, T, oT, ts', he, hz, hd, h1, hr⟩ := id fl3
      unfold PySem.passOn
      refine wpAny_bind (wpAny_field he hd h1 ?_)
      rw [if_neg (show ¬ ((Value.ref T == Value.none) = true) from by simp)]
      have fin : wpAny (model X.prog X.w) X.A (setFlight (.ref a) X.env.frame) (fun _ s4 => wpAny (model X.prog X.w) X.A (throw (.ref a) : Sem Flow) (SP X pins D) X.xe s4) X.xe { s' with heap := h3 } := by
        rw [hf]
        refine HandSPX.setFlight_upZ fl3 fun h4 hh4 up4 => wpAny_throw (tk _ _ ?_)
        exact ⟨a, B, sI, pins, σ', H', cls, d, rfl, J, nb, (up.trans up3).trans up4, .inr (.inr (by rw [hs]; exact hh4)), na, os, ag, hno rfl⟩
      first
        | exact wpAny_bind (wpAny_pure (wpAny_bind fin))
        | exact wpAny_bind fin
  · cases f with
    | next =>
      obtain ⟨σ', H', J', q⟩ := hsp
      exact wpAny_execs_nil ⟨σ', H', J'.ofTry ok, q⟩
    | brk =>
      obtain ⟨σ', H', J', q⟩ := hsp
      exact ⟨σ', H', J'.ofTry ok, q⟩
    | cont =>
      obtain ⟨σ', H', J', q⟩ := hsp
      exact ⟨σ', H', J'.ofTry ok, q⟩
    | ret u =>
      obtain ⟨v, σ', H', J', r, q⟩ := hsp
      exact ⟨v, σ', H', J'.ofTry ok, r, q⟩
end
end RC
set_option Elab.async false
set_option linter.all false
set_option maxRecDepth 100000
set_option maxHeartbeats 2000000
namespace KL9
open PySem PySem.Spec L2 KN1
def sumStep (p : Int × Int) (b : Int) : Int × Int := ((p.1 + b) % 65521, (p.2 + (p.1 + b) % 65521) % 65521)
def sumP (l : List Int) : Int × Int := l.foldl sumStep (1, 0)
def sumL (l : List Int) : List Int := [(sumP l).2 / 256, (sumP l).2 % 256, (sumP l).1 / 256, (sumP l).1 % 256]
theorem sumL_len (l : List Int) : (sumL l).length = 4 := rfl
abbrev Rc := List Key × List Key × Nat
def bodyL (x : Rc) : List Int := rowL tabL x.1 ++ (rowL tabL x.2.1 ++ natL x.2.2)
def recL (x : Rc) : List Int := natL (bodyL x).length ++ (bodyL x ++ sumL (bodyL x))
def recsL (xs : List Rc) : List Int := xs.flatMap recL
theorem recsL_cons (x : Rc) (xs : List Rc) : recsL (x :: xs) = recL x ++ recsL xs := rfl
theorem recsL_app (xs ys : List Rc) : recsL (xs ++ ys) = recsL xs ++ recsL ys := List.flatMap_append
structure OkR (x : Rc) : Prop where
  kt : ∀ y ∈ x.1, InTab tabL y
  rt : ∀ y ∈ x.2.1, InTab tabL y
  kl : x.1.length ≤ 20
  rl : x.2.1.length ≤ 20
  len : (bodyL x).length ≤ 20
theorem natL_one {n : Nat} (h : n ≤ 20) : natL n = [(n : Int)] := natL_small (by omega)
theorem recL_eq {x : Rc} (ok : OkR x) : recL x = ((bodyL x).length : Int) :: (bodyL x ++ sumL (bodyL x)) := by
  unfold recL
  rw [natL_one ok.len]; rfl
theorem recL_len {x : Rc} (ok : OkR x) : (recL x).length = (bodyL x).length + 5 := by
  rw [recL_eq ok, List.length_cons, List.length_append, sumL_len]
theorem recL_le {x : Rc} (ok : OkR x) : (recL x).length ≤ 25 := by
  rw [recL_len ok]
  have := ok.len
  omega
end KL9
set_option Elab.async false
set_option linter.all false
set_option maxRecDepth 100000
set_option maxHeartbeats 4000000
namespace KL9
open PySem PySem.Spec PyProof.Rows L2 KB KC KS KN1 LamX K7
@[irreducible] def spSum : Sp := fun vs H Q _ => ∃ (a : Addr) (l : List Int), vs = [.ref a] ∧ H a = some (.tup (l.map V.int)) ∧ ∀ H' p, KS.Ex H H' → H' p = some (.tup ((sumL l).map V.int)) → Q (.ref p) H'
theorem sum_step {H : Hp} {Q : VK} {E : XK} {a : Addr} {l : List Int} (h : H a = some (.tup (l.map V.int))) (fin : ∀ H' p, KS.Ex H H' → H' p = some (.tup ((sumL l).map V.int)) → Q (.ref p) H') : spSum [.ref a] H Q E := by
  unfold spSum
  exact ⟨a, l, rfl, h, fin⟩
structure TxtN (mg : Str → Option Value) : Prop where
  base : ∃ tk, mg "CHECK_BASE" = some (.int 65521 tk)
  parts : ∃ tk, mg "MOST_PARTS" = some (.int 16 tk)
theorem sumP_snoc {l : List Int} {i : Nat} {b : Int} (h : l[i]? = some b) : sumP (l.take (i + 1)) = sumStep (sumP (l.take i)) b := by
  rw [List.take_add_one, h]
  unfold sumP
  rw [List.foldl_append]; rfl
section
variable {P : Program} {w : World} {K : PySem.W.Frag} {mg : Str → Option Value} {base : Heap} {f fS fR fN CR Ps : Addr} {fd fdS fdR fdN : FuncData}
theorem scSum : FnScope ["data", "first", "second", "byte"] ["data"] (defScope sSum) := ⟨rfl, rfl, rfl, by decide +kernel, rfl, by decide +kernel, by decide +kernel⟩
theorem ok_sum (F : FnP K "sum_of_bytes" "sum_of_bytes" sSum [] f fd) (N : TxtN mg) : FnOk P w K mg base CX0 1 f fd ["data"] spSum := by
  obtain ⟨tk, hB⟩ := N.base
  refine F.ok scSum (fun vs H Q E h => ?_) (fun cdv A outer s H vs Q E hr h => ?_)
  · unfold spSum at h
    obtain ⟨_, _, rfl, _⟩ := h; rfl
  · unfold spSum at h
    obtain ⟨a, l, rfl, ha, fin⟩ := h
    refine ⟨_, PSs.nox <| pss_cons (ps_set (i := 1) scSum.nd rfl (Or.inl rfl) pe_int) (pss_cons (ps_set (i := 2) scSum.nd rfl (Or.inl rfl) pe_int)
      (pss_cons (ps_for PassesOwn.never rfl (pi_tup (pv 0)) (pg_name (i := 3) scSum.nd rfl (Or.inl rfl))
        (pss_cons (ps_set (i := 1) scSum.nd rfl (Or.inl rfl) (pe_op op_mod (pe_op op_add (pv 1) (pv 3)) (pe_glob (v := .int 65521) (by rfl) hB ⟨_, rfl⟩)))
        (pss_one (ps_set (i := 2) scSum.nd rfl (Or.inl rfl) (pe_op op_mod (pe_op op_add (pv 2) (pv 1)) (pe_glob (v := .int 65521) (by rfl) hB ⟨_, rfl⟩))))))
      (pss_one (ps_ret (pe_tup (pa_cons (pe_op op_fdiv (pv 2) pe_int) (pa_cons (pe_op op_mod (pv 2) pe_int) (pa_cons (pe_op op_fdiv (pv 1) pe_int) (pa_cons (pe_op op_mod (pv 1) pe_int) pa_nil))))))))), ?_⟩
    refine ⟨_, rfl, a, rfl, ⟨_, SqT.of ha⟩, for_tup (xs := l.map V.int) (fun i σ H' => H' = H ∧ ∃ u, σ = [some (.ref a), some (.int (sumP (l.take i)).1), some (.int (sumP (l.take i)).2), u]) ⟨rfl, _, rfl⟩ ?_ ?_ ?_⟩
    · rintro i σ H' _ ⟨rfl, _⟩
      exact SqT.of ha
    · rintro i x σ H' hx ⟨rfl, u, rfl⟩
      rw [List.getElem?_map] at hx
      obtain ⟨b, hb, rfl⟩ := Option.map_eq_some_iff.mp hx
      rw [sumP_snoc hb]
      exact ⟨_, rfl, _, rfl, _, _, rfl, rfl, _, _, rfl, rfl, (by show (0 : Int) < 65521; decide), _, rfl, _, rfl, _, _, rfl, rfl, _, _, rfl, rfl, (by show (0 : Int) < 65521; decide), rfl, _, rfl⟩
    · rintro σ H' ⟨rfl, u, rfl⟩
      rw [List.length_map, List.take_length]
      refine ⟨_, rfl, _, _, rfl, rfl, ⟨by decide, by decide⟩, _, rfl, _, _, rfl, rfl, (by show (0 : Int) < 256; decide), _, rfl, _, _, rfl, rfl, ⟨by decide, by decide⟩, _, rfl, _, _, rfl, rfl, (by show (0 : Int) < 256; decide), (by show 4 ≤ sizeLine; decide), fun p hp => ?_⟩
      exact fin _ p (Ex.upd hp) upd_same
end
structure OkB (x : Rc) : Prop where
  kv : ∀ y ∈ x.1, OkV y
  rv : ∀ y ∈ x.2.1, OkV y
  kl : x.1.length ≤ 20
  rl : x.2.1.length ≤ 20
  t : (x.2.2 : Int) < 2 ^ 2000
def RecAt (H : Hp) (t : Addr) (x : Rc) : Prop := ∃ a b, H t = some (.tup [.ref a, .ref b, .int (x.2.2 : Nat)]) ∧ H a = some (.tup (x.1.map kV)) ∧ H b = some (.tup (x.2.1.map kV))
theorem RecAt.kt {H H' : Hp} {t : Addr} {x : Rc} (r : RecAt H t x) (e : KT' H H') : RecAt H' t x := by
  obtain ⟨a, b, h1, h2, h3⟩ := r
  exact ⟨a, b, e _ _ h1, e _ _ h2, e _ _ h3⟩
theorem kt_of {H H' : Hp} (e : KS.Ex H H') : KT' H H' := fun b xs h => e b _ h
theorem kt_tb {Ps : Addr} {H H' : Hp} (t : TabS H Ps qK) (e : Tb Ps H H') : KT' H H' := fun b xs h => e.2 b _ (fun z => by
  obtain ⟨ps, hP, _⟩ := t
  rw [z, hP] at h; cases h) h
@[irreducible] def spRec (CR Ps : Addr) : Sp := fun vs H Q E => ∃ (a b : Addr) (x : Rc), vs = [.ref a, .ref b, .int (x.2.2 : Nat)] ∧ H a = some (.tup (x.1.map kV)) ∧ H b = some (.tup (x.2.1.map kV)) ∧ OkB x ∧ TabS H Ps qK ∧ ∀ H' p, Tb Ps H H' → H' p = some (.tup ((recL x).map V.int)) → Q (.ref p) H'
theorem rec_step {CR Ps : Addr} {H : Hp} {Q : VK} {E : XK} {a b : Addr} {x : Rc} (ha : H a = some (.tup (x.1.map kV))) (hb : H b = some (.tup (x.2.1.map kV))) (ok : OkB x) (t : TabS H Ps qK) (fin : ∀ H' p, Tb Ps H H' → H' p = some (.tup ((recL x).map V.int)) → Q (.ref p) H') : spRec CR Ps [.ref a, .ref b, .int (x.2.2 : Nat)] H Q E := by
  unfold spRec
  exact ⟨a, b, x, rfl, ha, hb, ok, t, fin⟩
theorem body_bd {x : Rc} (ok : OkB x) : (bodyL x).length ≤ 60000 ∧ (rowL tabL x.1).length ≤ 27000 ∧ (rowL tabL x.2.1).length ≤ 27000 ∧ (natL x.2.2).length ≤ 300 := by
  have h1 := flat_len ok.kv
  have h2 := flat_len ok.rv
  have hb : ∀ n : Nat, n ≤ 20 → (natL n).length ≤ 300 := fun n hn => by rw [natL_one hn]; show 1 ≤ 300; decide
  have h3 := hb _ ok.kl
  have h4 := hb _ ok.rl
  have h5 := natL_short ok.t
  rw [Int.toNat_natCast] at h5
  have k1 := ok.kl
  have k2 := ok.rl
  unfold bodyL rowL
  rw [List.length_append, List.length_append, List.length_append, List.length_append]
  omega
section
variable {P : Program} {w : World} {K : PySem.W.Frag} {mg : Str → Option Value} {base : Heap} {f fS fR fN CR Ps : Addr} {fd fdS fdR fdN : FuncData}
theorem scRec : FnScope ["key", "row", "time", "body"] ["key", "row", "time"] (defScope sRec) := ⟨rfl, rfl, rfl, by decide +kernel, rfl, by decide +kernel, by decide +kernel⟩
theorem ok_rec (F : FnP K "record_bytes" "record_bytes" sRec [] f fd) (GR : FnOk P w K mg base (L2.CX P w) 3 fR fdR ["row"] (spRow CR Ps)) (gR : mg "row_bytes" = some (.ref fR)) (kR : PySem.W.keepIn K (.ref fR) = true) (bR : Binds K fdR ["row"] [])
    (GN : FnOk P w K mg base CX0 1 fN fdN ["number"] spNat) (gN : mg "natural_bytes" = some (.ref fN)) (kN : PySem.W.keepIn K (.ref fN) = true) (bN : Binds K fdN ["number"] [])
    (GS : FnOk P w K mg base CX0 1 fS fdS ["data"] spSum) (gS : mg "sum_of_bytes" = some (.ref fS)) (kS : PySem.W.keepIn K (.ref fS) = true) (bS : Binds K fdS ["data"] []) (T : TxtL mg) : FnOk P w K mg base CX0 4 f fd ["key", "row", "time"] (spRec CR Ps) := by
  refine F.ok scRec (fun vs H Q E h => ?_) (fun cdv A outer s H vs Q E hr h => ?_)
  · unfold spRec at h
    obtain ⟨_, _, _, rfl, _⟩ := h; rfl
  · unfold spRec at h
    obtain ⟨a, b, x, rfl, ha, hb, ok, tab, fin⟩ := h
    refine ⟨_, PSs.nox <| pss_cons (ps_set (i := 3) scRec.nd rfl (Or.inl rfl) (pe_op op_catA (pe_op op_catA (pe_call GR (hr.mono (by decide)) (by rfl) gR kR bR (E := fun _ _ _ => False) .nil (passes_call L2.takes0 (fun _ _ _ _ h => h)) (pa_cons (pv 0) pa_nil))
        (pe_call GR (hr.mono (by decide)) (by rfl) gR kR bR (E := fun _ _ _ => False) .nil (passes_call L2.takes0 (fun _ _ _ _ h => h)) (pa_cons (pv 1) pa_nil))) (pe_call GN (hr.mono (by decide)) (by rfl) gN kN bN .nil pass0 (pa_cons (pv 2) pa_nil))))
      (pss_one (ps_ret (pe_op op_catA (pe_op op_catA (pe_call GN (hr.mono (by decide)) (by rfl) gN kN bN .nil pass0 (pa_cons (pe_callB call_len_seq (by rfl) T.len (by decide +kernel) (pa_cons (pv 3) pa_nil)) pa_nil)) (pv 3)) (pe_call GS (hr.mono (by decide)) (by rfl) gS kS bS .nil pass0 (pa_cons (pv 3) pa_nil))))), ?_⟩
    obtain ⟨l1, l2, l3, l4⟩ := body_bd ok
    have big : (60001 : Int) < 2 ^ 2000 := by decide +kernel
    refine ⟨_, rfl, row_step ha ok.kv (by have := ok.kl; omega) tab fun H1 p1 t1 h1 => ?_⟩
    have k1 := kt_tb tab t1
    refine ⟨_, rfl, row_step (k1 _ _ hb) ok.rv (by have := ok.rl; omega) t1.1 fun H2 p2 t2 h2 => ?_⟩
    have k2 := kt_tb t1.1 t2
    refine cat_two (k2 _ _ h1) h2 (by omega) fun H3 p3 e3 h3 => ?_
    refine ⟨_, rfl, nat_step (by omega) ok.t fun H4 p4 e4 h4 => ?_⟩
    rw [Int.toNat_natCast] at h4
    refine cat_two (e4 _ _ h3) h4 (by rw [List.length_append]; omega) fun H5 p5 e5 h5 => ?_
    have h5 : H5 p5 = some (.tup ((bodyL x).map V.int)) := by rw [h5]; unfold bodyL; rw [List.append_assoc]
    refine ⟨_, rfl, p5, _, rfl, .inr (SqT.of h5), nat_step (by omega) (by rw [List.length_map]; omega) fun H6 p6 e6 h6 => ?_⟩
    rw [List.length_map, Int.toNat_natCast] at h6
    have ln := natL_short (n := ((bodyL x).length : Int)) (by omega)
    rw [Int.toNat_natCast] at ln
    refine ⟨_, rfl, cat_two h6 (e6 _ _ h5) (by omega) fun H7 p7 e7 h7 => ?_⟩
    refine ⟨_, rfl, sum_step (e7 _ _ (e6 _ _ h5)) fun H8 p8 e8 h8 => ?_⟩
    refine cat_two (e8 _ _ h7) h8 (by rw [List.length_append, sumL_len]; omega) fun H9 p9 e9 h9 => ?_
    refine fin H9 p9 ((t1.trans t2).ex (((((e3.trans e4).trans e5).trans e6).trans e7).trans (e8.trans e9))) ?_
    rw [h9]
    unfold recL
    rw [List.append_assoc]
end
end KL9
set_option Elab.async false
set_option linter.all false
set_option maxRecDepth 100000
set_option maxHeartbeats 4000000
namespace KL9
open PySem PySem.Spec PyProof.Rows L2 KB KC KS KN1 LamX K7
theorem sl_mid {K : PySem.W.Frag} {H : Hp} {Q : VK} {t : Addr} {dat : List Int} {lo hi : Nat} (h : H t = some (.tup (dat.map V.int))) (q : ∀ H' p, KS.Ex H H' → H' p = some (.tup (((dat.drop lo).take (hi - lo)).map V.int)) → Q (.ref p) H') : rSlA K (.ref t) (some (lo : Int)) (some (hi : Int)) H Q := by
  refine ⟨t, _, rfl, SqT.of h, fun ⟨z1, z2⟩ => q H t (Ex.refl H) ?_, fun _ p hp => q _ p (Ex.upd hp) ?_⟩
  · rw [HT.sIx_nat, List.length_map] at z1 z2
    have e : (dat.drop lo).take (hi - lo) = dat := by
      by_cases c : dat = []
      · subst c; simp
      · have : 0 < dat.length := List.length_pos_iff.mpr c
        have l0 : lo = 0 := by omega
        subst l0
        rw [List.drop_zero]
        exact List.take_of_length_le (by omega)
    rw [e]; exact h
  · rw [upd_same]
    unfold cutV
    rw [HT.sIx_nat, HT.sIx_nat, List.length_map]
    by_cases c : lo < dat.length
    · rw [Nat.min_eq_left (Nat.le_of_lt c), ← List.map_drop, ← List.map_take]
      congr 2
      by_cases c2 : hi ≤ dat.length
      · rw [Nat.min_eq_left c2]
      · rw [Nat.min_eq_right (by omega), List.take_of_length_le (by rw [List.length_drop]; omega), List.take_of_length_le (by rw [List.length_drop]; omega)]
    · rw [List.drop_eq_nil_of_le (by rw [List.length_map]; omega), List.drop_eq_nil_of_le (by omega)]
      simp
theorem sl_midI {K : PySem.W.Frag} {H : Hp} {Q : VK} {t : Addr} {dat : List Int} {lo hi : Nat} {a b : Int} (ea : a = (lo : Int)) (eb : b = (hi : Int)) (h : H t = some (.tup (dat.map V.int))) (q : ∀ H' p, KS.Ex H H' → H' p = some (.tup (((dat.drop lo).take (hi - lo)).map V.int)) → Q (.ref p) H') : rSlA K (.ref t) (some a) (some b) H Q := by
  subst ea eb
  exact sl_mid h q
theorem sl_to {K : PySem.W.Frag} {H : Hp} {Q : VK} {t : Addr} {dat : List Int} {hi : Nat} (h : H t = some (.tup (dat.map V.int))) (q : ∀ H' p, KS.Ex H H' → H' p = some (.tup ((dat.take hi).map V.int)) → Q (.ref p) H') : rSlA K (.ref t) none (some (hi : Int)) H Q := by
  refine ⟨t, _, rfl, SqT.of h, fun ⟨_, z2⟩ => q H t (Ex.refl H) ?_, fun _ p hp => q _ p (Ex.upd hp) ?_⟩
  · rw [HT.sIx_nat, List.length_map] at z2
    rw [List.take_of_length_le (by omega)]; exact h
  · rw [upd_same]
    unfold cutV
    rw [HT.sIx_nat, HT.sIx_none, List.length_map, Nat.sub_zero, List.drop_zero, ← List.map_take]
    congr 2
    by_cases c2 : hi ≤ dat.length
    · rw [Nat.min_eq_left c2]
    · rw [Nat.min_eq_right (by omega), List.take_of_length_le (by omega), List.take_of_length_le (by omega)]
theorem sl_from {K : PySem.W.Frag} {H : Hp} {Q : VK} {t : Addr} {dat : List Int} {lo : Nat} (h : H t = some (.tup (dat.map V.int))) (q : ∀ H' p, KS.Ex H H' → H' p = some (.tup ((dat.drop lo).map V.int)) → Q (.ref p) H') : rSlA K (.ref t) (some (lo : Int)) none H Q := by
  refine ⟨t, _, rfl, SqT.of h, fun ⟨z1, _⟩ => q H t (Ex.refl H) ?_, fun _ p hp => q _ p (Ex.upd hp) ?_⟩
  · rw [HT.sIx_nat, List.length_map] at z1
    by_cases c : dat = []
    · subst c
      rw [List.drop_nil]; exact h
    · have : 0 < dat.length := List.length_pos_iff.mpr c
      have l0 : lo = 0 := by omega
      rw [l0, List.drop_zero]; exact h
  · rw [upd_same]
    unfold cutV
    rw [HT.sIx_nat, HT.sIx_none, List.length_map]
    by_cases c : lo < dat.length
    · rw [Nat.min_eq_left (Nat.le_of_lt c), List.take_of_length_le (by rw [List.length_drop, List.length_map]; omega), List.map_drop]
    · rw [List.drop_eq_nil_of_le (as := dat.map V.int) (by rw [List.length_map]; omega), List.drop_eq_nil_of_le (as := dat) (by omega)]
      simp
def iD (l : List Int) : PyData := .tuple (l.map PyData.int)
theorem dp_i {K : PySem.W.Frag} {H : Hp} {q : Addr} {l : List Int} (h : H q = some (.tup (l.map V.int))) : Dp K H (.ref q) (iD l) := by
  refine .tup (SqT.of h) ?_
  clear h
  induction l with
  | nil => exact .nil
  | cons n l ih => exact .cons (.int n) ih
theorem lay_i (l : List Int) : PyData.canLayAll0 (l.map PyData.int) = true ∧ PyData.depthAll (l.map PyData.int) = 0 := by
  induction l with
  | nil => exact ⟨rfl, rfl⟩
  | cons n l ih =>
    refine ⟨?_, ?_⟩
    · show (PyData.canLay0 (.int n) && PyData.canLayAll0 (l.map PyData.int)) = true
      rw [ih.1]; rfl
    · show max (PyData.depth (.int n)) (PyData.depthAll (l.map PyData.int)) = 0
      rw [ih.2]; rfl
theorem shaped_i (l : List Int) : SeqAt.shaped (iD l) = true := by
  obtain ⟨a, b⟩ := lay_i l
  show (PyData.canLayAll0 (l.map PyData.int) && decide (PyData.depthAll (l.map PyData.int) + 1 ≤ 64)) = true
  rw [a, b]; rfl
theorem eqv_int (a b : Int) : PyData.eqv (.int a) (.int b) = decide (a = b) := by
  show (a == b) = _
  rw [Bool.eq_iff_iff, decide_eq_true_eq, beq_iff_eq]
theorem eqv_str (a b : Str) : PyData.eqv (.str a) (.str b) = decide (a = b) := by
  show (a == b) = _
  rw [Bool.eq_iff_iff, decide_eq_true_eq, beq_iff_eq]
theorem eqv_i (a b : List Int) : PyData.eqv (iD a) (iD b) = decide (a = b) := by
  show PyData.eqvAll (a.map PyData.int) (b.map PyData.int) = _
  induction a generalizing b with
  | nil => cases b <;> first | rfl | (rw [decide_eq_false (by simp)]; rfl)
  | cons x r ih =>
    cases b with
    | nil => rw [decide_eq_false (by simp)]; rfl
    | cons y q =>
      show (PyData.eqv (.int x) (.int y) && PyData.eqvAll (r.map PyData.int) (q.map PyData.int)) = _
      rw [ih q, eqv_int, Bool.eq_iff_iff]; simp
theorem ExD.trans {d : Addr} {H H1 H2 : Hp} (a : ExD d H H1) (b : ExD d H1 H2) : ExD d H H2 := fun x o n h => b x o n (a x o n h)
theorem ExD.of {d : Addr} {H H' : Hp} (e : KS.Ex H H') : ExD d H H' := fun b o _ h => e b o h
section
variable {P : Program} {w : World} {K : PySem.W.Frag} {mg : Str → Option Value} {base : Heap} {f fN fR fS CB CR : Addr} {fd fdN fdR fdS : FuncData}
end
end KL9
set_option Elab.async false
set_option linter.all false
set_option maxRecDepth 100000
set_option maxHeartbeats 4000000
namespace KL9
open PySem PySem.Spec PyProof.Rows L2 KB KC KS KN1 LamX K7
def Recs (H : Hp) : List Addr → List Rc → Prop := Paired (RecAt H)
theorem paired_mono {α β : Type} {F G : α → β → Prop} (h : ∀ a b, F a b → G a b) : ∀ {xs : List α} {ys : List β}, Paired F xs ys → Paired G xs ys
  | _, _, .nil => .nil
  | _, _, .cons a r => .cons (h _ _ a) (paired_mono h r)
theorem Recs.kt {H H' : Hp} {ts : List Addr} {xs : List Rc} (r : Recs H ts xs) (e : KT' H H') : Recs H' ts xs := paired_mono (fun _ _ h => h.kt e) r
section
variable {P : Program} {w : World} {K : PySem.W.Frag} {mg : Str → Option Value} {base : Heap} {f fI fR CB CR : Addr} {fd fdI fdR : FuncData}
end
end KL9
set_option Elab.async false
set_option linter.all false
set_option maxRecDepth 100000
set_option maxHeartbeats 2000000
namespace EN
open PySem PySem.Spec
section
variable {prog : Program} {w : World} {A : Around} {E : Value → Shared → Prop} {s : Shared}
theorem held_next {e it l T : Addr} {i : Nat} {c : Int} {items : Array Value} {x old : Value} {f : Bool} {oT : Obj} {Q : Value → Shared → Prop}
    (he : IsEnumHeld s.heap e it c old T f) (hT : s.heap.get? T = some oT) (nTe : T ≠ e) (nTi : T ≠ it) (hit : s.heap.IsListIter it l i) (hl : s.heap.IsList l items) (hx : items[i]? = some x) (ne : e ≠ it)
    (q : ∀ h', IsEnumHeld h' e it (c + 1) old T true → h'.IsListIter it l (i + 1) → h'.get? s.heap.objs.size = some { cls := .type "tuple", data := .seq #[.int c s.toks, x] } → h'.objs.size = s.heap.objs.size + 1 →
      (∀ b o, b ≠ e → b ≠ it → s.heap.get? b = some o → h'.get? b = some o) → Q (.ref s.heap.objs.size) { s with heap := h', toks := s.toks + 1 }) :
    wpAny (model prog w) A (Builtin.«enumerate.__next__» ⟨[.ref e], []⟩) (fun r s' => ∃ v, r = .done (.ret v) ∧ Q v s') E s := by
  obtain ⟨hp, g, d, tk, os⟩ := s
  have lte : e < hp.objs.size := Heap.lt_size he
  show wpAny _ _ (field (.ref e) 2 >>= _) _ _ _
  refine wpAny_bind (wpAny_field he rfl (x := .ref it) rfl (wpAny_bind (wpAny_nextOf_list_item hit hl hx fun h1 it1 k1 => ?_)))
  have k1 : Heap.SameBut it hp h1 := k1
  have e1 : IsEnumHeld h1 e it c old T f := (k1.2 e ne).trans he
  show wpAny _ _ (field (.ref e) 3 >>= _) _ _ ⟨h1, g, d, tk, os⟩
  refine wpAny_bind (wpAny_field e1 rfl (x := rawInt c) rfl ?_)
  show wpAny _ _ (field (.ref e) 4 >>= _) _ _ ⟨h1, g, d, tk, os⟩
  refine wpAny_bind (wpAny_field e1 rfl (x := .none) rfl ?_)
  show wpAny _ _ (mkInt c >>= _) _ _ ⟨h1, g, d, tk, os⟩
  refine wpAny_bind (wpAny_mkInt ?_)
  show wpAny _ _ (setField (.ref e) 3 (rawInt (c + 1)) >>= _) _ _ ⟨h1, g, d, tk + 1, os⟩
  refine wpAny_bind (wpAny_setField_rec e1 (by simp) fun h2 e2 k2 => ?_)
  have k2 : Heap.SameBut e h1 h2 := k2
  have e2 : IsEnumHeld h2 e it (c + 1) old T f := e2
  show wpAny _ _ (setField (.ref e) 4 .none >>= _) _ _ ⟨h2, g, d, tk + 1, os⟩
  refine wpAny_bind (wpAny_setField_rec e2 (by simp) fun h3 e3 k3 => ?_)
  have k3 : Heap.SameBut e h2 h3 := k3
  have e3 : IsEnumHeld h3 e it (c + 1) old T f := e3
  have sz3 : h3.objs.size = hp.objs.size := by rw [k3.1, k2.1, k1.1]
  show wpAny _ _ (newTuple [.int c tk, x] >>= _) _ _ ⟨h3, g, d, tk + 1, os⟩
  refine wpAny_bind (wpAny_newTuple ?_)
  have e4 : IsEnumHeld (h3.push { cls := .type "tuple", data := .seq #[.int c tk, x] }) e it (c + 1) old T f := Heap.get?_push_of_some _ e3
  have t4 : (h3.push { cls := .type "tuple", data := .seq #[.int c tk, x] }).get? hp.objs.size = some { cls := .type "tuple", data := .seq #[.int c tk, x] } := by
    rw [← sz3]; exact Heap.get?_push_size _ rfl
  have z4 : (h3.push { cls := .type "tuple", data := .seq #[.int c tk, x] }).objs.size = hp.objs.size + 1 := by rw [Heap.size_push, sz3]
  have keep4 : ∀ b o, b ≠ e → b ≠ it → hp.get? b = some o → (h3.push { cls := .type "tuple", data := .seq #[.int c tk, x] }).get? b = some o := fun b o n1 n2 hb =>
    Heap.get?_push_of_some _ (k3.extBut b o n1 (k2.extBut b o n1 (k1.extBut b o n2 hb)))
  have it4 : (h3.push { cls := .type "tuple", data := .seq #[.int c tk, x] }).IsListIter it l (i + 1) :=
    ((it1.extBut k2.extBut ne.symm).extBut k3.extBut ne.symm).at fun o ho => Heap.get?_push_of_some _ ho
  rw [sz3]
  generalize h3.push { cls := .type "tuple", data := .seq #[.int c tk, x] } = h4 at e4 t4 z4 keep4 it4
  show wpAny _ _ (Builtin.SmallTypes.ownedTupleIsFree (.ref e) >>= _) _ _ ⟨h4, g, d, tk + 1, os⟩
  refine wpAny_bind (wpAny_tupleHeld_enum (s := ⟨h4, g, d, tk + 1, os⟩) e4 (keep4 T oT nTe nTi hT) fun h5 e5 k5 => ?_)
  have k5 : Heap.SameBut e h4 h5 := k5
  simp only [Bool.false_eq_true, if_false]
  refine wpAny_pure ⟨_, rfl, q h5 e5 (it4.extBut k5.extBut ne.symm) (k5.extBut _ _ (Nat.ne_of_gt lte) t4) ?_ fun b o n1 n2 hb => k5.extBut b o n1 (keep4 b o n1 n2 hb)⟩
  show h5.objs.size = hp.objs.size + 1
  rw [k5.1, z4]
theorem held_pyNext {e it l T : Addr} {i : Nat} {c : Int} {items : Array Value} {x old : Value} {f : Bool} {oT : Obj} {Q : Option Value → Shared → Prop}
    (he : IsEnumHeld s.heap e it c old T f) (hT : s.heap.get? T = some oT) (nTe : T ≠ e) (nTi : T ≠ it) (hit : s.heap.IsListIter it l i) (hl : s.heap.IsList l items) (hx : items[i]? = some x) (ne : e ≠ it)
    (q : ∀ h', IsEnumHeld h' e it (c + 1) old T true → h'.IsListIter it l (i + 1) → h'.get? s.heap.objs.size = some { cls := .type "tuple", data := .seq #[.int c s.toks, x] } → h'.objs.size = s.heap.objs.size + 1 →
      (∀ b o, b ≠ e → b ≠ it → s.heap.get? b = some o → h'.get? b = some o) → Q (some (.ref s.heap.objs.size)) { s with heap := h', toks := s.toks + 1 }) :
    wpAny (model prog w) A (pyNext (.ref e)) Q E s := by
  have ty : s.TypeIs (.ref e) "enumerate" := ⟨_, he, rfl⟩
  unfold pyNext
  exact wpAny_bind (wpAny_attempt (wpAny_callSpecial?_slot (name := Str.ofString "__next__") ty F.slot_enumerate_next
    (wpAny_call_entry F.slot_enumerate_next ty F.entry_enumerate_next (held_next he hT nTe nTi hit hl hx ne fun h' a1 a2 a3 a4 a5 => wpAny_pure (q h' a1 a2 a3 a4 a5)) (F.args_enumerate_next_1 _))))
theorem held_end {e it l T : Addr} {i : Nat} {c : Int} {items : Array Value} {old : Value} {f : Bool} {Q : Option Value → Shared → Prop} (hh : A.handled = none)
    (he : IsEnumHeld s.heap e it c old T f) (hit : s.heap.IsListIter it l i) (hl : s.heap.IsList l items) (hx : items[i]? = none) (q : ∀ h', Heap.ExtBut it s.heap h' → Q none { s with heap := h' }) : wpAny (model prog w) A (pyNext (.ref e)) Q E s := by
  have ty : s.TypeIs (.ref e) "enumerate" := ⟨_, he, rfl⟩
  unfold pyNext
  refine wpAny_bind (wpAny_attempt (wpAny_callSpecial?_slot (name := Str.ofString "__next__") ty F.slot_enumerate_next (wpAny_call_entry F.slot_enumerate_next ty F.entry_enumerate_next ?_ (F.args_enumerate_next_1 _))))
  show wpAny _ _ (field (.ref e) 2 >>= _) _ _ _
  refine wpAny_bind (wpAny_field he rfl (x := .ref it) rfl (wpAny_bind (wpAny_nextOf_list_end hh hit hl hx fun h' x ke kx => ?_)))
  obtain ⟨o, ho, hc⟩ := kx
  exact wpAny_bind (wpAny_isInstance (T := "StopIteration") (b := true) ⟨o, ho, hc⟩ isSubtype_stop (wpAny_pure (q _ ke)))
def PairsAt (h : Heap) (e it S : Addr) (c : Int) (items acc : Array Value) (i : Nat) : Prop :=
  acc.size = i ∧ ∀ j < i, ∃ (T : Addr) (t : Tok) (x : Value), acc[j]? = some (.ref T) ∧ items[j]? = some x ∧ h.get? T = some { cls := .type "tuple", data := .seq #[.int (c + (j : Int)) t, x] } ∧ e < T ∧ T ≠ it ∧ T ≠ S
def EnumAt (h : Heap) (e it l S : Addr) (c : Int) (items : Array Value) (i : Nat) : Prop :=
  h.IsListIter it l i ∧ h.IsList l items ∧ ((i = 0 ∧ ∃ old, IsEnum h e it c old) ∨ ∃ old T f oT, IsEnumHeld h e it (c + (i : Int)) old T f ∧ h.get? T = some oT ∧ T ≠ e ∧ T ≠ it ∧ T ≠ S)
abbrev lstO (acc : Array Value) (k : Nat) : Obj := { cls := .type "list", dict := none, data := .seq acc k, slots := #[] }
theorem enum_loop {e it l S : Addr} {c : Int} {items : Array Value} {R : Result → Shared → Prop} (hh : A.handled = none) (ne : e ≠ it) (nl1 : l ≠ e) (nl2 : l ≠ it) (nSe : S ≠ e) (nSi : S ≠ it) (nSl : S ≠ l) (hn : items.size ≤ sizeLine) (res : Value) :
    ∀ (k i : Nat) (s : Shared) (acc : Array Value) (n : Nat), items.size - i = k → i ≤ items.size → EnumAt s.heap e it l S c items i → s.heap.get? S = some (lstO acc n) → PairsAt s.heap e it S c items acc i →
    (∀ (h' : Heap) (tk : Nat) (acc' : Array Value) (n' : Nat), (∀ b o, b ≠ e → b ≠ it → b ≠ S → s.heap.get? b = some o → h'.get? b = some o) → h'.get? S = some (lstO acc' n') → PairsAt h' e it S c items acc' items.size → R (.ok (.ret res)) { s with heap := h', toks := tk }) →
    codeAny (model prog w) A (.builtin "list.extend.loop" ⟨[.ref S, .ref e, res], []⟩) R s := by
  intro k
  induction k with
  | zero =>
    intro i s acc n hk hi st hS hp q
    have hi2 : i = items.size := by omega
    subst hi2
    obtain ⟨hit, hl, he⟩ := st
    refine codeAny_builtin F.entry_extend_loop ?_
    rw [Around.under_plainId F.plain_extend_loop _]
    show wpAny _ A.in1 (pyNext (.ref e) >>= _) _ _ s
    have out : ∀ h', Heap.ExtBut it s.heap h' → R (.ok (.ret res)) { s with heap := h' } := fun h' x => q h' s.toks acc n (fun b o n1 n2 n3 hb => x b o n2 hb) (x _ _ nSi hS) ⟨hp.1, fun j hj => by
      obtain ⟨T, t, y, p1, p2, p3, p4, p5, p6⟩ := hp.2 j hj
      exact ⟨T, t, y, p1, p2, x _ _ p5 p3, p4, p5, p6⟩⟩
    rcases he with ⟨h0, old, he⟩ | ⟨old, T, f, oT, he, hT, n1, n2, n3⟩
    · refine wpAny_bind (wpAny_pyNext_enum_endD (n := items.size) (P := fun i v => items[i]? = some v) (Draws.list (prog := prog) (w := w) (A := A.in1.in1) hh it l nl2 items) he ⟨hit, hl⟩ fun h' x => wpAny_pure (out h' x))
    · exact wpAny_bind (held_end (A := A.in1) hh he hit hl (by simp) fun h' x => wpAny_pure (out h' x))
  | succ k ih =>
    intro i s acc n hk hi st hS hp q
    have hlt : i < items.size := by omega
    obtain ⟨hit, hl, he⟩ := st
    have hx : items[i]? = some items[i] := by simp [hlt]
    have ltS : S < s.heap.objs.size := Heap.lt_size hS
    have lte : e < s.heap.objs.size := by
      rcases he with ⟨_, old, he⟩ | ⟨old, T, f, oT, he, _⟩
      · exact Heap.lt_size he
      · exact Heap.lt_size he
    have lti : it < s.heap.objs.size := by obtain ⟨_, z, _⟩ := hit; exact Heap.lt_size z
    refine codeAny_builtin F.entry_extend_loop ?_
    rw [Around.under_plainId F.plain_extend_loop _]
    show wpAny _ A.in1 (pyNext (.ref e) >>= _) _ _ s
    have go : ∀ (h' : Heap) (tk : Nat) (t : Tok), EnumAt h' e it l S c items (i + 1) → h'.get? s.heap.objs.size = some { cls := .type "tuple", data := .seq #[.int (c + (i : Int)) t, items[i]] } → (∀ b o, b ≠ e → b ≠ it → s.heap.get? b = some o → h'.get? b = some o) →
        wpAny (model prog w) A.in1 (updateSeq S (·.push (.ref s.heap.objs.size)) >>= fun _ => again (.builtin "list.extend.loop" ⟨[.ref S, .ref e, res], []⟩)) (fun r s' => match r with | .done f => R (.ok f) s' | .again c' => c'.quiet = true ∧ codeAny (model prog w) A c' R s') (fun e s' => R (.error e) s') { s with heap := h', toks := tk } := by
      intro h' tk t st' ht keep
      have hS' : h'.get? S = some (lstO acc n) := keep _ _ nSe nSi hS
      obtain ⟨hit', hl', he'⟩ := st'
      have oth : ∀ b o, b ≠ S → h'.get? b = some o → (h'.update S (Obj.mapSeq (·.push (.ref s.heap.objs.size)))).get? b = some o := fun b o nb hb => (Heap.get?_update_other _ _ (Ne.symm nb)).trans hb
      refine wpAny_bind (wpAny_updateSeq hS' rfl (wpAny_pure ⟨plainId_quiet F.plain_extend_loop _, ih (i + 1) _ (acc.push (.ref s.heap.objs.size)) _ (by omega) hlt ?_ (Heap.get?_update_self _ hS' rfl) ?_ fun h'' tk'' acc'' n'' k'' hS'' p'' => ?_⟩) (by rw [hp.1]; omega) (by show (acc.push _).size ≤ sizeLine + 1; rw [Array.size_push, hp.1]; omega))
      · refine ⟨hit'.at fun o z => oth _ _ nSi.symm z, hl'.at fun o z => oth _ _ nSl.symm z, ?_⟩
        rcases he' with ⟨z, _⟩ | ⟨old, T, f, oT, z1, z2, z3, z4, z5⟩
        · exact absurd z (Nat.succ_ne_zero i)
        · exact .inr ⟨old, T, f, oT, oth _ _ nSe.symm z1, oth _ _ z5 z2, z3, z4, z5⟩
      · refine ⟨by rw [Array.size_push, hp.1], fun j hj => ?_⟩
        by_cases ej : j = i
        · subst ej
          exact ⟨s.heap.objs.size, t, items[j], by rw [← hp.1]; simp, hx, oth _ _ (Nat.ne_of_gt ltS) ht, lte, Nat.ne_of_gt lti, Nat.ne_of_gt ltS⟩
        · obtain ⟨T, t', y, p1, p2, p3, p4, p5, p6⟩ := hp.2 j (by omega)
          refine ⟨T, t', y, ?_, p2, oth _ _ p6 (keep _ _ (Nat.ne_of_gt p4) p5 p3), p4, p5, p6⟩
          rw [Array.getElem?_push, if_neg (by rw [hp.1]; exact ej)]
          exact p1
      · exact q h'' tk'' acc'' n'' (fun b o n1 n2 n3 hb => k'' b o n1 n2 n3 (oth _ _ n3 (keep b o n1 n2 hb))) hS'' p''
    rcases he with ⟨h0, old, he⟩ | ⟨old, T, f, oT, he, hT, n1, n2, n3⟩
    · subst h0
      refine wpAny_bind (wpAny_pyNext_enum_itemC (n := items.size) (P := fun i v => items[i]? = some v) (Draws.list (prog := prog) (w := w) (A := A.in1.in1) hh it l nl2 items) he ⟨hit, hl⟩ hlt ne (by simp [ne, nl1.symm]) fun x h' tk hP ho hs' ht hz hk' => ?_)
      have ex : x = items[0] := by
        have hP : items[0]? = some x := hP
        rw [hx] at hP
        exact (Option.some.inj hP).symm
      subst ex
      exact go h' (tk + 1) tk ⟨hs'.1, hs'.2, .inr ⟨_, s.heap.objs.size, false, _, ho, ht, Nat.ne_of_gt lte, Nat.ne_of_gt lti, Nat.ne_of_gt ltS⟩⟩ (by simpa using ht) hk'
    · refine wpAny_bind (held_pyNext he hT n1 n2 hit hl hx ne fun h' he' hit' ht hz hk' => ?_)
      refine go h' (s.toks + 1) s.toks ⟨hit', hl.at fun o z => hk' _ _ nl1 nl2 z, .inr ⟨old, T, true, oT, ?_, hk' _ _ n1 n2 hT, n1, n2, n3⟩⟩ ht hk'
      have e1 : c + ((i + 1 : Nat) : Int) = c + (i : Int) + 1 := by omega
      rw [e1]; exact he'
end
end EN
set_option Elab.async false
set_option linter.all false
set_option maxRecDepth 100000
set_option maxHeartbeats 2000000
namespace EN
open PySem PySem.Spec PyProof.Rows L2
theorem en_nolen : typeLookup (.type "enumerate") "__len__" = pure none := by rw [typeLookup_type, builtinLookup_eq_fast]; kernel_rfl
theorem en_nohint : typeLookup (.type "enumerate") "__length_hint__" = pure none := by rw [typeLookup_type, builtinLookup_eq_fast]; kernel_rfl
section
variable {prog : Program} {w : World} {A : Around} {E : Value → Shared → Prop} {s : Shared}
structure Fresh (h : Heap) (e it l : Addr) (c : Int) (items : Array Value) : Prop where
  hen : IsEnum h e it c .none
  hit : h.IsListIter it l 0
  hl : h.IsList l items
  hei : e ≠ it
  hle : l ≠ e
  hli : l ≠ it
def Gone (h h' : Heap) (e it : Addr) (c : Int) (items acc : Array Value) : Prop :=
  (∀ b o, b ≠ e → b ≠ it → h.get? b = some o → h'.get? b = some o) ∧ ∃ S, h.get? S = none ∧ PairsAt h' e it S c items acc items.size
theorem collect_enum {e it l : Addr} {c : Int} {items : Array Value} {Q : List Value → Shared → Prop} (hh : A.handled = none) (F0 : Fresh s.heap e it l c items) (hn : items.size ≤ sizeLine)
    (hQ : ∀ (h' : Heap) (tk : Nat) (acc : Array Value), Gone s.heap h' e it c items acc → Q acc.toList { s with heap := h', toks := tk }) :
    wpAny (model prog w) A (collect (.ref e)) Q E s := by
  have le1 : e < s.heap.objs.size := Heap.lt_size F0.hen
  have le2 : it < s.heap.objs.size := by obtain ⟨_, z, _⟩ := F0.hit; exact Heap.lt_size z
  have le3 : l < s.heap.objs.size := by obtain ⟨_, z, _⟩ := F0.hl; exact Heap.lt_size z
  unfold collect
  refine wpAny_bind (wpAny_runValue (codeAny_builtin F.entry_proto_collect ?_))
  rw [Around.under_plainId F.plain_proto_collect _]
  show wpAny _ A.in1 (newList [] >>= fun m => again (.builtin "list.__iadd__" ⟨[m, .ref e], []⟩)) _ _ s
  refine wpAny_bind (wpAny_newObj_type (wpAny_pure ⟨plainId_quiet F.plain_list_iadd _, codeAny_builtin F.entry_list_iadd ?_⟩))
  rw [Around.under_plainId F.plain_list_iadd _]
  have new : (s.heap.push { cls := .type "list", data := .seq ([] : List Value).toArray }).get? s.heap.objs.size = some { cls := .type "list", data := .seq ([] : List Value).toArray } := Heap.get?_push_size _ rfl
  have en1 : IsEnum (s.heap.push { cls := .type "list", data := .seq ([] : List Value).toArray }) e it c .none := Heap.get?_push_of_some _ F0.hen
  have ty : ({ s with heap := s.heap.push { cls := .type "list", data := .seq ([] : List Value).toArray } } : Shared).TypeIs (.ref e) "enumerate" := ⟨_, en1, rfl⟩
  have nSe : (s.heap.objs.size : Nat) ≠ e := Nat.ne_of_gt le1
  have nSi : (s.heap.objs.size : Nat) ≠ it := Nat.ne_of_gt le2
  have nSl : (s.heap.objs.size : Nat) ≠ l := Nat.ne_of_gt le3
  have b1 : Builtin.List.listSameRef (.ref s.heap.objs.size) (.ref e) = false := by simp [Builtin.List.listSameRef, nSe]
  have b2 : (Value.type "enumerate" == Value.type "list") = false := by decide
  have b3 : (Value.type "enumerate" == Value.type "tuple") = false := by decide
  show wpAny _ A.in1 (Builtin.List.listExtendWith (.ref s.heap.objs.size) (.ref e) (.ref s.heap.objs.size)) _ _ _
  unfold Builtin.List.listExtendWith
  refine wpAny_bind (wpAny_typeOf ty ?_)
  simp only [b1, b2, b3, Bool.or_false, Bool.false_eq_true, if_false]
  refine wpAny_bind (wpAny_pyIter_enum en1 (wpAny_bind (wpAny_holding ?_)))
  unfold Builtin.List.listLengthHint
  refine wpAny_bind (wpAny_specialOf ty en_nolen ?_)
  show wpAny _ A.in1 (specialOf (Value.ref e) (Str.ofString "__length_hint__") >>= _) _ _ _
  refine wpAny_bind (wpAny_specialOf ty en_nohint (wpAny_pure ?_))
  show wpAny _ A.in1 (rule "list.extend.makes-room" >>= fun _ => Builtin.List.listTouch (.ref s.heap.objs.size) >>= fun _ => again (.builtin "list.extend.loop" ⟨[.ref s.heap.objs.size, .ref e, .ref s.heap.objs.size], []⟩)) _ _ _
  refine wpAny_bind (wpAny_rule (wpAny_bind ?_))
  show wpAny _ A.in1 (updateSeq s.heap.objs.size (·.push .none) >>= fun _ => updateSeq s.heap.objs.size (·.pop)) _ _ _
  refine wpAny_bind (wpAny_updateSeq new rfl ?_)
  have new2 := Heap.get?_update_self (Obj.mapSeq (·.push Value.none)) new rfl
  refine wpAny_updateSeq new2 rfl ?_
  have new3 := Heap.get?_update_self (Obj.mapSeq (·.pop)) new2 rfl
  have oth : ∀ b o, b ≠ s.heap.objs.size → s.heap.get? b = some o →
      (((s.heap.push { cls := .type "list", data := .seq ([] : List Value).toArray }).update s.heap.objs.size (Obj.mapSeq (·.push Value.none))).update s.heap.objs.size (Obj.mapSeq (·.pop))).get? b = some o :=
    fun b o nb z => (Heap.get?_update_other _ _ (Ne.symm nb)).trans ((Heap.get?_update_other _ _ (Ne.symm nb)).trans (Heap.get?_push_of_some _ z))
  refine wpAny_pure ⟨plainId_quiet F.plain_extend_loop _, enum_loop (A := A) hh F0.hei F0.hle F0.hli nSe nSi nSl hn _ items.size 0 _ #[] _ rfl (Nat.zero_le _)
    ⟨F0.hit.at fun o z => oth _ _ nSi.symm z, F0.hl.at fun o z => oth _ _ nSl.symm z, .inl ⟨rfl, _, oth _ _ nSe.symm F0.hen⟩⟩ new3 ⟨rfl, fun j hj => absurd hj (Nat.not_lt_zero j)⟩ fun h' tk acc n kp hS hp => ?_⟩
  show wpAny _ A (load s.heap.objs.size >>= _) _ _ _
  refine wpAny_bind (wpAny_load (s := { s with heap := h', toks := tk }) hS ?_)
  refine wpAny_pure (hQ h' tk acc ⟨fun b o n1 n2 z => kp b o n1 n2 (fun q => by rw [q] at z; exact Nat.lt_irrefl _ (Heap.lt_size z)) (oth b o (fun q => by rw [q] at z; exact Nat.lt_irrefl _ (Heap.lt_size z)) z), s.heap.objs.size, ?_, hp⟩)
  cases z : s.heap.get? s.heap.objs.size with
  | none => rfl
  | some o => exact absurd (Heap.lt_size z) (Nat.lt_irrefl _)
theorem code_tuple_enum {e it l : Addr} {c : Int} {items : Array Value} {Q₁ : Value → Shared → Prop} (hh : A.handled = none) (F0 : Fresh s.heap e it l c items) (hn : items.size ≤ sizeLine)
    (h : ∀ (h' : Heap) (tk : Nat) (acc : Array Value), Gone s.heap h' e it c items acc → Q₁ (.ref h'.objs.size) { s with heap := h'.push { cls := .type "tuple", data := .seq acc }, toks := tk }) :
    codeAny (model prog w) A (.call (.builtin "tuple.__new__") ⟨[.type "tuple", .ref e], []⟩) (wants Q₁ E) s := by
  refine codeAny_of_tree ?_
  show wpAny _ A.in1 (do checkBuiltinCall "tuple.__new__" ⟨[.type "tuple", .ref e], []⟩; again (.builtin "tuple.__new__" ⟨[.type "tuple", .ref e], []⟩)) _ _ s
  refine wpAny_bind (wpAny_of_eq (F.newCall_tuple_1 _) (wpAny_pure ⟨plainId_quiet F.plain_tuple_new _, codeAny_builtin F.entry_tuple_new ?_⟩))
  rw [Around.under_plainId F.plain_tuple_new _]
  have f1 := sub_tuple_self
  have f2 := init_tuple_lookup
  have f3 := madeHere_tuple
  have ty : s.TypeIs (.ref e) "enumerate" := ⟨_, F0.hen, rfl⟩
  have hh1 : A.in1.handled = none := hh
  wp_walk using wpAny_typeOf ty, collect_enum (A := A.in1) hh1 F0 hn
  intro h' tk acc z
  have hz : acc.size = items.size := by obtain ⟨_, _, _, z, _⟩ := z; exact z
  show wpAny _ _ (Builtin.Tuple.tupleExact acc.toList.toArray >>= fun v => ret v) _ _ _
  unfold Builtin.Tuple.tupleExact
  refine wpAny_bind (wpAny_newObj_type ?_ (by show acc.toList.toArray.size ≤ sizeLine; simp only [Array.toArray_toList]; rw [hz]; exact hn))
  refine wpAny_pure ?_
  have ea : acc.toList.toArray = acc := by simp
  rw [ea]
  exact h h' tk acc z
theorem call_tuple_enum {e it l : Addr} {c : Int} {items : Array Value} {Q : Value → Shared → Prop} (hh : A.handled = none) (F0 : Fresh s.heap e it l c items) (hn : items.size ≤ sizeLine)
    (hQ : ∀ (h' : Heap) (tk : Nat) (acc : Array Value), Gone s.heap h' e it c items acc → Q (.ref h'.objs.size) { s with heap := h'.push { cls := .type "tuple", data := .seq acc }, toks := tk }) :
    wpAny (model prog w) A (call (.type "tuple") [.ref e]) Q E s := by
  refine callType_codes (Q₁ := fun obj s₁ => s₁.TypeIs obj "tuple" ∧ Q obj s₁) F.called_tuple (F.typeCall_tuple_1 _) F.entry_object_init
    (code_tuple_enum (A := A.in1) hh F0 hn fun h' tk acc z => ⟨⟨_, Heap.get?_push_size _ rfl, rfl⟩, hQ h' tk acc z⟩) fun obj s₁ h₁ => ?_
  exact ⟨h₁.1, F.args_object_init_2 obj _, object_init_meets F.called_tuple.init.lookup F.called_tuple.made (by decide) prog w A.in1 _ s₁ ⟨h₁.1, rfl, h₁.2⟩⟩
end
end EN
set_option Elab.async false
set_option linter.all false
set_option maxRecDepth 100000
set_option maxHeartbeats 2000000
namespace EN
open PySem PySem.Spec PyProof.Rows L2
section
variable {M : Model} {A : Around} {E : Value → Shared → Prop} {s : Shared} {env : Env}
theorem callWith_typeK {pos : Pos} {T : String} {e : Expr} {rest : List Expr} {kws : List Keyword} {Q : Value → Shared → Prop}
    (h : wpAny M A (spliced (backTo pos (starEach (e :: rest) env))) (fun vs s₁ => wpAny M A (evalAll ((backToKw pos (keywordEach kws env)).map (·.2)))
      (fun kvs s₂ => wpAny M A (call (.type T) vs (((backToKw pos (keywordEach kws env)).filterMap (·.1)).zip kvs)) Q E s₂) E s₁) E s)
    (he : backTo pos (starEach (e :: rest) env) = (false, eval e env) :: backTo pos (starEach rest env) := by rfl)
    (hplain : (backTo pos (starEach (e :: rest) env)).any (·.1) = false := by rfl)
    (hall : (backToKw pos (keywordEach kws env)).all (·.1.isSome) = true := by rfl)
    (hkw : (backToKw pos (keywordEach kws env)).any (·.1.isNone) = false := by rfl) :
    wpAny M A (callWith pos (.type T) [] (backTo pos (starEach (e :: rest) env)) (backToKw pos (keywordEach kws env))) Q E s := by
  unfold callWith
  have h2 : wpAny M A (evalArgs (.type T) true (backTo pos (starEach (e :: rest) env)) (backToKw pos (keywordEach kws env))) (fun a s₁ => wpAny M A (call (.type T) ([] ++ a.pos) a.kw) Q E s₁) E s := by
    rw [he] at h ⊢
    exact evalArgs_kwB hall h
  refine wpAny_bind (wpAny_holding (wpAny_mono h2 (fun a s₁ h₁ => wpAny_bind (wpAny_standAt ?_)) fun _ _ x => x))
  simp only [hplain, hkw, Bool.or_false]
  refine wpAny_bind (wpAny_pure ?_)
  exact wpAny_bind (wpAny_mono h₁ (fun r s₂ hr => wpAny_bind (wpAny_holding (wpAny_point (wpAny_pure hr)))) fun _ _ x => x)
end
section
def Nums (H : Hp) (k : Int) (ys : List V) (ts : List Addr) : Prop := ts.length = ys.length ∧ ∀ (j : Nat) (y : V), ys[j]? = some y → ∃ t, ts[j]? = some t ∧ H t = some (.tup [.int (k + (j : Int)), y])
theorem lay_pairs {X : Cx} {pins : List (Addr × Obj)} {σ : L2.St} {H : Hp} {s0 s : Shared} {k : Int} {ys : List V} {its : List Value} {acc : Array Value} (I0 : Inv X pins σ H s0) (I : Inv X pins σ H s) (r : Vals ys its)
    (hp : ∀ j < ys.length, ∃ (T : Addr) (t : Tok) (x : Value), acc[j]? = some (.ref T) ∧ its[j]? = some x ∧ s.heap.get? T = some { cls := .type "tuple", data := .seq #[.int (k + (j : Int)) t, x] } ∧ s0.heap.objs.size ≤ T) :
    ∀ n ≤ ys.length, ∃ (H' : Hp) (ts : List Addr), KS.Ex H H' ∧ Inv X pins σ H' s ∧ ts.length = n ∧ (∀ b, H' b = none ∨ H' b = H b ∨ b ∈ ts) ∧ (∀ j < n, ∃ (T : Addr) (t : Tok) (x : Value) (y : V), ts[j]? = some T ∧ acc[j]? = some (.ref T) ∧ ys[j]? = some y ∧ H' T = some (.tup [.int (k + (j : Int)), y]) ∧ s.heap.get? T = some { cls := .type "tuple", data := .seq #[.int (k + (j : Int)) t, x] }) := by
  intro n
  induction n with
  | zero => exact fun _ => ⟨H, [], KS.Ex.refl H, I, rfl, fun b => .inr (.inl rfl), fun j hj => absurd hj (Nat.not_lt_zero j)⟩
  | succ n ih =>
    intro hn
    obtain ⟨H1, ts, e1, I1, hl, ho, hj⟩ := ih (by omega)
    obtain ⟨T, t, x, a1, a2, a3, a4⟩ := hp n (by omega)
    have hy : ys[n]? = some ys[n] := List.getElem?_eq_getElem (by omega)
    obtain ⟨u, u1, u2⟩ := r.get hy
    rw [a2] at u1
    cases u1
    have hT0 : H T = none := I0.hok.fresh a4
    have nin : T ∉ ts := fun hm => by
      obtain ⟨i, hi, e⟩ := List.mem_iff_getElem.mp hm
      obtain ⟨T', t', x', y', b1, b2, b3, b4, b5⟩ := hj i (by omega)
      rw [List.getElem?_eq_getElem hi, e] at b1
      cases b1
      rw [a3] at b5
      injection b5 with b5
      injection b5 with _ _ b5
      injection b5 with b5
      have b5 := congrArg Array.toList b5
      simp only [List.cons.injEq] at b5
      have := b5.1
      injection this with q1 q2
      omega
    have hT : H1 T = none := by
      rcases ho T with q | q | q
      · exact q
      · rw [q]; exact hT0
      · exact absurd q nin
    have e2 : KS.Ex H1 (upd H1 T (.tup [.int (k + (n : Int)), ys[n]])) := KS.Ex.upd hT
    have I2 : Inv X pins σ (upd H1 T (.tup [.int (k + (n : Int)), ys[n]])) s := by
      have := I1.take (h' := s.heap) (t' := s.toks) (it := T) (o := .tup [.int (k + (n : Int)), ys[n]]) (fun b ob _ q => q) (I0.fpOk a4 hT) (show ObjOk X.prog X.w _ _ _ (.tup _) from ⟨by show 2 ≤ sizeLine; decide, [.int (k + (n : Int)) t, x], .cons ⟨t, rfl⟩ (.cons u2 .nil), ⟨_, a3, rfl, 0, rfl⟩⟩)
      exact this
    refine ⟨_, ts ++ [T], e1.trans e2, I2, by rw [List.length_append, hl]; rfl, fun b => ?_, fun j hjn => ?_⟩
    · by_cases c : b = T
      · exact .inr (.inr (by rw [c]; simp))
      · rw [upd_ne c]
        rcases ho b with q | q | q
        · exact .inl q
        · exact .inr (.inl q)
        · exact .inr (.inr (by simp [q]))
    · by_cases c : j = n
      · subst c
        exact ⟨T, t, x, ys[j], by rw [List.getElem?_append_right (by omega), hl, Nat.sub_self]; rfl, a1, hy, upd_same, a3⟩
      · obtain ⟨T', t', x', y', b1, b2, b3, b4, b5⟩ := hj j (by omega)
        exact ⟨T', t', x', y', by rw [List.getElem?_append_left (by omega)]; exact b1, b2, b3, e2 _ _ b4, b5⟩
def tTEnum (K : PySem.W.Frag) (ta tk : TE) : TE := fun σ H Q => ta σ H fun v H1 => tCons tk tNil σ H1 fun zs H2 => ∃ a ys k, v = .ref a ∧ zs = [.int k] ∧ -(2 ^ 63) ≤ k ∧ k < 2 ^ 63 ∧ SqL K H2 a ys ∧
  ∀ H' p ts, KS.Ex H2 H' → H' p = some (.tup (ts.map V.ref)) → Nums H' k ys ts → Q (.ref p) H'
theorem pe_tupleEnum {X : Cx} {xs e : Expr} {ta tk : TE} {p p2 pos pos2 kpos : Pos} (hg : Gl X "tuple") (hm : X.mg "tuple" = none) (hg2 : Gl X "enumerate") (hm2 : X.mg "enumerate" = none) (hc : X.calm = true) (ha : PE X xs ta) (hk : PE X e tk)
    (na : starEach [.Call (.Name "enumerate" p2) [xs] [⟨some "start", e, kpos⟩] pos2] X.env = (false, eval (.Call (.Name "enumerate" p2) [xs] [⟨some "start", e, kpos⟩] pos2) X.env) :: starEach [] X.env := by rfl)
    (na2 : starEach [xs] X.env = (false, eval xs X.env) :: starEach [] X.env := by rfl) (nb2 : backTo pos2 (starEach [xs] X.env) = (false, eval xs X.env) :: backTo pos2 (starEach [] X.env) := by rfl) (np2 : (backTo pos2 (starEach [xs] X.env)).any (·.1) = false := by rfl) :
    PE X (.Call (.Name "tuple" p) [.Call (.Name "enumerate" p2) [xs] [⟨some "start", e, kpos⟩] pos2] [] pos) (tTEnum X.K ta tk) := by
  refine ⟨fun pins s σ H Q I h => ?_⟩
  have hk' : PK X [⟨some "start", e, kpos⟩] (tCons tk tNil) := pk_cons hk pk_nil
  refine Call_ (ld_blt I hg hm boot_tuple (PyProof.Rows.callWith_type1 (args_cons (wpAny_Call_Name_kw (ld_blt I hg2 hm2 boot_enumerate (callWith_typeK (args_cons (thn (ha.run pins s σ H _ I h) fun v s1 ⟨x, H1, I1, r1, q1⟩ => args_nil (thn (hk'.run pos2 pins s1 σ H1 _ I1 q1) fun us s2 hus => ?_)) na2) nb2 np2))) na) na))
  obtain ⟨zs, H2, I2, r2, a, ys, k, ex, ez, k1, k2, hl, q⟩ := hus
  subst ex ez
  obtain rfl : v = .ref a := r1
  obtain ⟨u, rfl, r3⟩ := vals1 r2
  obtain ⟨t, rfl⟩ := r3
  obtain ⟨its, rv, pl, hz⟩ := I2.list hl
  have hl0 := pl.isList
  have lta : a < s2.heap.objs.size := by obtain ⟨_, z, _⟩ := hl0; exact Heap.lt_size z
  refine enum_begins_start (begins_list a its.toArray) hl0 k1 k2 fun h' he hi hsz hk => args_nil ?_
  have F0 : Fresh h' (s2.heap.objs.size + 1) s2.heap.objs.size a k its.toArray := ⟨he, ⟨_, hi, rfl, rfl⟩, hl0.at fun o z => hk _ _ z, Nat.succ_ne_self _, Nat.ne_of_lt (Nat.lt_succ_of_lt lta), Nat.ne_of_lt lta⟩
  have I3 : Inv X pins σ H2 { s2 with heap := h' } := I2.kept (t' := s2.toks) hk
  have lr := rv.length
  refine call_tuple_enum (s := { s2 with heap := h' }) (I2.ok.hd hc) F0 (by rw [List.size_toArray, ← lr]; exact hz) fun h2 tk acc ⟨g1, S, gS, gsz, gp⟩ => ?_
  simp only [List.size_toArray] at gsz gp
  have hk2 : ∀ b o, s2.heap.get? b = some o → h2.get? b = some o := fun b o z => by
    have := Heap.lt_size z
    exact g1 b o (Nat.ne_of_lt (Nat.lt_succ_of_lt this)) (Nat.ne_of_lt this) (hk b o z)
  have I4 : Inv X pins σ H2 { s2 with heap := h2, toks := tk } := I2.kept (t' := tk) hk2
  obtain ⟨H3, ts, e3, I5, hts, _, hj⟩ := lay_pairs (k := k) (acc := acc) I2 I4 rv (fun j hj => by
    obtain ⟨T, t', y, p1, p2, p3, p4, p5, p6⟩ := gp j (by omega)
    exact ⟨T, t', y, p1, by simpa using p2, p3, Nat.le_of_lt (Nat.lt_of_succ_lt p4)⟩) ys.length (Nat.le_refl _)
  have ea : acc.toList = ts.map Value.ref := by
    apply List.ext_getElem?
    intro j
    rw [Array.getElem?_toList, List.getElem?_map]
    by_cases c : j < ys.length
    · obtain ⟨T, t', y, y', b1, b2, _⟩ := hj j c
      rw [b1, b2]; rfl
    · rw [Array.getElem?_eq_none (by omega), List.getElem?_eq_none (by omega)]; rfl
  have I6 : Inv X pins σ (upd H3 h2.objs.size (.tup (ts.map V.ref))) { s2 with heap := h2.push { cls := .type "tuple", data := .seq acc }, toks := tk } :=
    I5.laid (t' := tk) (fun b o e => Heap.get?_push_of_some _ e) (Nat.le_refl _) (show ObjOk X.prog X.w _ _ _ (.tup _) from ⟨by rw [List.length_map, hts]; exact hz, ts.map Value.ref, vals_refs ts, by
      rw [← ea]; exact IsTup.new _ _⟩)
  have hp0 : H3 h2.objs.size = none := I5.hok.fresh (Nat.le_refl _)
  have e4 : KS.Ex H3 (upd H3 h2.objs.size (.tup (ts.map V.ref))) := KS.Ex.upd hp0
  refine ⟨.ref h2.objs.size, _, I6, rfl, q _ h2.objs.size ts (e3.trans e4) upd_same ⟨hts, fun j y hy => ?_⟩⟩
  have hlt : j < ys.length := (List.getElem?_eq_some_iff.mp hy).1
  obtain ⟨T, t', x', y', b1, b2, b3, b4, b5⟩ := hj j hlt
  rw [hy] at b3
  cases b3
  exact ⟨T, b1, e4 _ _ b4⟩
end
end EN
set_option Elab.async false
set_option linter.all false
set_option maxRecDepth 100000
set_option maxHeartbeats 4000000
namespace KL9
open PySem PySem.Spec PyProof.Rows L2 KB KC KS KN1 LamX K7
def gFld (K : PySem.W.Frag) (to : TE) (f : Str) : TG := fun v σ H Q => to σ H fun x H2 => ∃ a C dx fs, x = .ref a ∧ H2 a = some (.ins C dx fs) ∧ Cls K C ∧ NoAttr K C f ∧ fs.length < 1000 ∧ Q σ (upd H2 a (.ins C dx (putF f v fs)))
theorem pg_fld {X : Cx} {o : Expr} {to : TE} {f : Str} {pos : Pos} (ho : PE X o to) : PG X (.Attribute o f pos) (gFld X.K to f) := by
  refine ⟨fun pins s σ H v u Q I r h => ?_⟩
  rw [assign_Attribute]
  refine wpAny_bind (wpAny_holding (thn (ho.run pins s σ H _ I h) fun ov s2 ⟨x, H2, I2, rx, a, C, dx, fs, ex, ea, c, n, l, q2⟩ => ?_))
  subst ex
  obtain rfl : ov = Value.ref a := rx
  refine wpAny_bind (wpAny_standAt (wpAny_bind (wpAny_holding (setattr_ok I2 ea c n l r fun s3 I3 => ?_))))
  exact wpAny_release ⟨σ, _, I3, q2⟩
structure TxtP (K : PySem.W.Frag) (mg : Str → Option Value) (CP : Addr) : Prop where
  cl : Cls K CP
  k : NoAttr K CP "kept"
  w : NoAttr K CP "waiting"
  r : NoAttr K CP "records"
  f : NoAttr K CP "first"
  g : mg "Part" = some (.ref CP)
structure TxtG (K : PySem.W.Frag) (mg : Str → Option Value) (CG : Addr) : Prop where
  g : mg "LogError" = some (.ref CG)
  x : PySem.W.excIn K CG veB "ValueError.__new__" = true
  k : PySem.W.keepIn K (.ref CG) = true
  b : PySem.W.subIn K (.ref CG) (.type "BaseException") = some true
  t : PySem.W.typeIn K (.ref CG) = some (.type "type")
  e : PySem.W.exmOne K (.ref CG) (.ref CG) = some true
abbrev pF (k w l : Addr) (fi : Nat) : List (Str × V) := [("kept", .ref k), ("waiting", .ref w), ("records", .ref l), ("first", .int ((fi : Nat) : Int))]
theorem put_kept {k w l c : Addr} {fi : Nat} : putF "kept" (.ref c) (pF k w l fi) = pF c w l fi := rfl
theorem put_wait {k w l c : Addr} {fi : Nat} : putF "waiting" (.ref c) (pF k w l fi) = pF k c l fi := rfl
theorem put_recs {k w l c : Addr} {fi : Nat} : putF "records" (.ref c) (pF k w l fi) = pF k w c fi := rfl
theorem put_first {k w l : Addr} {fi c : Nat} : putF "first" (.int ((c : Nat) : Int)) (pF k w l fi) = pF k w l c := rfl
def PtA (CP p l : Addr) (kb wb : List Int) (xs : List Rc) (fi : Nat) (H : Hp) : Prop := ∃ dx k w ts, H p = some (.ins CP dx (pF k w l fi)) ∧ H k = some (.tup (kb.map V.int)) ∧ H w = some (.tup (wb.map V.int)) ∧ H l = some (.lst (ts.map V.ref)) ∧ Recs H ts xs
theorem PtA.ex {CP p l : Addr} {kb wb : List Int} {xs : List Rc} {fi : Nat} {H H' : Hp} (x : PtA CP p l kb wb xs fi H) (e : KS.Ex H H') : PtA CP p l kb wb xs fi H' := by
  obtain ⟨dx, k, w, ts, h1, h2, h3, h4, h5⟩ := x
  exact ⟨dx, k, w, ts, e _ _ h1, e _ _ h2, e _ _ h3, e _ _ h4, h5.kt (kt_of e)⟩
theorem PtA.tb {CP Ps p l : Addr} {kb wb : List Int} {xs : List Rc} {fi : Nat} {H H' : Hp} (x : PtA CP p l kb wb xs fi H) (t : TabS H Ps qK) (e : Tb Ps H H') : PtA CP p l kb wb xs fi H' := by
  obtain ⟨dx, k, w, ts, h1, h2, h3, h4, h5⟩ := x
  obtain ⟨ps, hP, _⟩ := id t
  have ne : ∀ {b : Addr} {o : HO}, H b = some o → o ≠ .tbl ps → H' b = some o := fun {b o} h n => e.2 b o (fun z => n (by rw [z, hP] at h; exact (Option.some.inj h).symm)) h
  exact ⟨dx, k, w, ts, ne h1 (by simp), ne h2 (by simp), ne h3 (by simp), ne h4 (by simp), h5.kt (kt_tb t e)⟩
def FrP (Ps p l : Addr) (H H' : Hp) : Prop := TabS H' Ps qK ∧ ∀ b o, b ≠ Ps → b ≠ p → b ≠ l → H b = some o → H' b = some o
theorem FrP.trans {Ps p l : Addr} {H H1 H2 : Hp} (a : FrP Ps p l H H1) (b : FrP Ps p l H1 H2) : FrP Ps p l H H2 := ⟨b.1, fun x o n1 n2 n3 h => b.2 x o n1 n2 n3 (a.2 x o n1 n2 n3 h)⟩
theorem FrP.tb {Ps p l : Addr} {H H' : Hp} (e : Tb Ps H H') : FrP Ps p l H H' := ⟨e.1, fun b o n _ _ h => e.2 b o n h⟩
theorem FrP.ex {Ps p l : Addr} {H H' : Hp} (t : TabS H Ps qK) (e : KS.Ex H H') : FrP Ps p l H H' := FrP.tb ((Tb.refl t).ex e)
theorem tab_upd {Ps a : Addr} {H : Hp} {u o : HO} (t : TabS H Ps qK) (h : H a = some u) (n1 : ∀ ps, u ≠ .tbl ps) (n2 : ∀ φ, u ≠ .ext φ) : TabS (upd H a o) Ps qK := by
  obtain ⟨ps, h1, h2, h3⟩ := t
  refine ⟨ps, ?_, h2, fun pos cv hc => ?_⟩
  · rw [L2.upd_ne (fun z => n1 ps (by rw [z, h] at h1; exact Option.some.inj h1))]; exact h1
  · obtain ⟨c, e1, e2⟩ := h3 pos cv hc
    refine ⟨c, e1, ?_⟩
    rw [L2.upd_ne (fun z => by rw [z, h] at e2; exact n2 _ (Option.some.inj e2))]; exact e2
theorem FrP.wr {Ps p l a : Addr} {H : Hp} {u o : HO} (t : TabS H Ps qK) (h : H a = some u) (n1 : ∀ ps, u ≠ .tbl ps) (n2 : ∀ φ, u ≠ .ext φ) (ha : a = p ∨ a = l) : FrP Ps p l H (upd H a o) :=
  ⟨tab_upd t h n1 n2, fun b q _ np nl hb => by
    rw [L2.upd_ne (fun z => by rcases ha with e | e
                               · exact np (z.trans e)
                               · exact nl (z.trans e))]; exact hb⟩
theorem recL_bd {x : Rc} (ok : OkB x) : (recL x).length ≤ 70000 := by
  obtain ⟨l1, l2, l3, l4⟩ := body_bd ok
  have big : (60001 : Int) < 2 ^ 2000 := by decide +kernel
  have ln := natL_short (n := ((bodyL x).length : Int)) (by omega)
  rw [Int.toNat_natCast] at ln
  unfold recL
  rw [List.length_append, List.length_append, sumL_len]
  omega
@[irreducible] def spPI (CP : Addr) : Sp := fun vs H Q _ => ∃ (p dx : Addr), vs = [.ref p] ∧ H p = some (.ins CP dx []) ∧ ∀ H' l, H l = none → (∀ b o, b ≠ p → H b = some o → H' b = some o) → PtA CP p l [] [] [] 0 H' → Q .non H'
theorem pi_step {CP p dx : Addr} {H : Hp} {Q : VK} {E : XK} (h : H p = some (.ins CP dx [])) (fin : ∀ H' l, H l = none → (∀ b o, b ≠ p → H b = some o → H' b = some o) → PtA CP p l [] [] [] 0 H' → Q .non H') : spPI CP [.ref p] H Q E := by
  unfold spPI
  exact ⟨p, dx, rfl, h, fin⟩
@[irreducible] def spPE (CP : Addr) : Sp := fun vs H Q _ => ∃ (p l : Addr) (kb wb : List Int) (xs : List Rc) (fi : Nat), vs = [.ref p] ∧ PtA CP p l kb wb xs fi H ∧ Q (.int ((fi + xs.length : Nat) : Int)) H
theorem pe_step {CP p l : Addr} {kb wb : List Int} {xs : List Rc} {fi : Nat} {H : Hp} {Q : VK} {E : XK} (h : PtA CP p l kb wb xs fi H) (fin : Q (.int ((fi + xs.length : Nat) : Int)) H) : spPE CP [.ref p] H Q E := by
  unfold spPE
  exact ⟨p, l, kb, wb, xs, fi, rfl, h, fin⟩
@[irreducible] def spPA (CP CG CR Ps : Addr) : Sp := fun vs H Q E => (∃ (p a b : Addr) (t : Int), vs = [.ref p, .ref a, .ref b, .int t] ∧ t < 0 ∧ E (.ref CG) none H) ∨
  ∃ (p l a b : Addr) (kb wb : List Int) (xs : List Rc) (fi : Nat) (x : Rc), vs = [.ref p, .ref a, .ref b, .int (x.2.2 : Nat)] ∧ PtA CP p l kb wb xs fi H ∧ wb.length ≤ 10000 ∧ xs.length ≤ 10000 ∧ H a = some (.tup (x.1.map kV)) ∧ H b = some (.tup (x.2.1.map kV)) ∧ OkB x ∧ TabS H Ps qK ∧
    ∀ H', FrP Ps p l H H' → PtA CP p l kb (wb ++ recL x) (xs ++ [x]) fi H' → Q (.int ((fi + xs.length : Nat) : Int)) H'
theorem app_bad {CP CG CR Ps p a b : Addr} {t : Int} {H : Hp} {Q : VK} {E : XK} (ht : t < 0) (e : E (.ref CG) none H) : spPA CP CG CR Ps [.ref p, .ref a, .ref b, .int t] H Q E := by
  unfold spPA
  exact .inl ⟨p, a, b, t, rfl, ht, e⟩
theorem app_step {CP CG CR Ps p l a b : Addr} {kb wb : List Int} {xs : List Rc} {fi : Nat} {x : Rc} {H : Hp} {Q : VK} {E : XK} (h : PtA CP p l kb wb xs fi H) (hw : wb.length ≤ 10000) (hx : xs.length ≤ 10000) (ha : H a = some (.tup (x.1.map kV))) (hb : H b = some (.tup (x.2.1.map kV))) (ok : OkB x) (t : TabS H Ps qK)
    (fin : ∀ H', FrP Ps p l H H' → PtA CP p l kb (wb ++ recL x) (xs ++ [x]) fi H' → Q (.int ((fi + xs.length : Nat) : Int)) H') : spPA CP CG CR Ps [.ref p, .ref a, .ref b, .int (x.2.2 : Nat)] H Q E := by
  unfold spPA
  exact .inr ⟨p, l, a, b, kb, wb, xs, fi, x, rfl, h, hw, hx, ha, hb, ok, t, fin⟩
abbrev sPM (j : Nat) : Stmt := inClass sPart j
section
variable {P : Program} {w : World} {K : PySem.W.Frag} {mg : Str → Option Value} {base : Heap} {f fE fR CP CG CR Ps : Addr} {fd fdE fdR : FuncData}
theorem scPI : FnScope ["self"] ["self"] (defScope (sPM 0)) := ⟨rfl, rfl, rfl, by decide +kernel, rfl, by decide +kernel, by decide +kernel⟩
theorem ok_pinit (F : FnP K "__init__" "Part.__init__" (sPM 0) [] f fd) (T : TxtP K mg CP) : FnOk P w K mg base CX0 1 f fd ["self"] (spPI CP) := by
  refine F.ok scPI (fun vs H Q E h => ?_) (fun cdv A outer s H vs Q E hr h => ?_)
  · unfold spPI at h
    obtain ⟨_, _, rfl, _⟩ := h; rfl
  · unfold spPI at h
    obtain ⟨p, dx, rfl, h1, fin⟩ := h
    refine ⟨_, PSs.nox <| pss_cons (ps_fld (pv 0) (pe_tup pa_nil) rfl) (pss_cons (ps_fld (pv 0) (pe_tup pa_nil) rfl) (pss_cons (ps_fld (pv 0) (pe_lst pa_nil) rfl) (pss_one (ps_fld (pv 0) pe_int rfl)))), ?_⟩
    refine ⟨by decide, fun k hk => ⟨_, rfl, p, CP, dx, _, rfl, (Ex.upd hk) _ _ h1, T.cl, T.k, (by show 0 < 1000; decide), ?_⟩⟩
    have nkp : k ≠ p := fun z => by rw [z, h1] at hk; cases hk
    have e1 : ∀ b o, b ≠ p → H b = some o → (upd (upd H k (.tup [])) p (.ins CP dx [("kept", .ref k)])) b = some o := fun b o nb h => by rw [L2.upd_ne nb]; exact Ex.upd hk _ _ h
    have k1 : (upd (upd H k (.tup [])) p (.ins CP dx [("kept", .ref k)])) k = some (.tup []) := by rw [L2.upd_ne nkp]; exact upd_same
    have p1 : (upd (upd H k (.tup [])) p (.ins CP dx [("kept", .ref k)])) p = some (.ins CP dx [("kept", .ref k)]) := upd_same
    show tSeq _ _ _ [some (.ref p)] (upd (upd H k (.tup [])) p (.ins CP dx [("kept", .ref k)]))
    generalize upd (upd H k (.tup [])) p (.ins CP dx [("kept", .ref k)]) = H1 at e1 k1 p1
    refine ⟨by decide, fun v hv => ⟨_, rfl, p, CP, dx, _, rfl, (Ex.upd hv) _ _ p1, T.cl, T.w, (by show 1 < 1000; decide), ?_⟩⟩
    have nvp : v ≠ p := fun z => by rw [z, p1] at hv; cases hv
    have e2 : ∀ b o, b ≠ p → H b = some o → (upd (upd H1 v (.tup [])) p (.ins CP dx [("kept", .ref k), ("waiting", .ref v)])) b = some o := fun b o nb h => by rw [L2.upd_ne nb]; exact Ex.upd hv _ _ (e1 b o nb h)
    have k2 : (upd (upd H1 v (.tup [])) p (.ins CP dx [("kept", .ref k), ("waiting", .ref v)])) k = some (.tup []) := by rw [L2.upd_ne nkp]; exact Ex.upd hv _ _ k1
    have v2 : (upd (upd H1 v (.tup [])) p (.ins CP dx [("kept", .ref k), ("waiting", .ref v)])) v = some (.tup []) := by rw [L2.upd_ne nvp]; exact upd_same
    have p2 : (upd (upd H1 v (.tup [])) p (.ins CP dx [("kept", .ref k), ("waiting", .ref v)])) p = some (.ins CP dx [("kept", .ref k), ("waiting", .ref v)]) := upd_same
    show tSeq _ _ _ [some (.ref p)] (upd (upd H1 v (.tup [])) p (.ins CP dx [("kept", .ref k), ("waiting", .ref v)]))
    generalize upd (upd H1 v (.tup [])) p (.ins CP dx [("kept", .ref k), ("waiting", .ref v)]) = H2 at e2 k2 v2 p2
    refine ⟨by decide, fun l hl => ⟨_, rfl, p, CP, dx, _, rfl, (Ex.upd hl) _ _ p2, T.cl, T.r, (by show 2 < 1000; decide), ?_⟩⟩
    have nlp : l ≠ p := fun z => by rw [z, p2] at hl; cases hl
    refine ⟨_, rfl, p, CP, dx, _, rfl, upd_same, T.cl, T.f, (by show 3 < 1000; decide), ?_⟩
    rw [upd2]
    have hl0 : H l = none := by
      cases q : H l with
      | none => rfl
      | some o => rw [e2 _ _ nlp q] at hl; cases hl
    refine fin _ l hl0 (fun b o nb h => by rw [L2.upd_ne nb]; exact Ex.upd hl _ _ (e2 b o nb h)) ⟨dx, k, v, [], upd_same, by rw [L2.upd_ne nkp]; exact Ex.upd hl _ _ k2, by rw [L2.upd_ne nvp]; exact Ex.upd hl _ _ v2, by rw [L2.upd_ne nlp]; exact upd_same, .nil⟩
theorem scPE : FnScope ["self"] ["self"] (defScope (sPM 3)) := ⟨rfl, rfl, rfl, by decide +kernel, rfl, by decide +kernel, by decide +kernel⟩
theorem ok_pend (F : FnP K "end" "Part.end" (sPM 3) [] f fd) (T : TxtP K mg CP) (TL : TxtL mg) : FnOk P w K mg base CX0 1 f fd ["self"] (spPE CP) := by
  refine F.ok scPE (fun vs H Q E h => ?_) (fun cdv A outer s H vs Q E hr h => ?_)
  · unfold spPE at h
    obtain ⟨_, _, _, _, _, _, rfl, _⟩ := h; rfl
  · unfold spPE at h
    obtain ⟨p, l, kb, wb, xs, fi, rfl, ⟨dx, k, v, ts, h1, h2, h3, h4, h5⟩, fin⟩ := h
    refine ⟨_, PSs.nox <| pss_one (ps_ret (pe_op op_add (pf 0) (pe_callB call_len_seq (by rfl) TL.len (by decide +kernel) (pa_cons (pf 0) pa_nil)))), ?_⟩
    refine ⟨_, rfl, p, CP, dx, _, _, rfl, h1, T.cl, T.f, rfl, _, rfl, p, CP, dx, _, _, rfl, h1, T.cl, T.r, rfl, l, _, rfl, .inl (SqL.of h4), ?_⟩
    refine ⟨_, _, rfl, rfl, ?_⟩
    have := paired_len h5
    rw [List.length_map, this]
    exact fin
theorem scPA : FnScope ["self", "key", "row", "time"] ["self", "key", "row", "time"] (defScope (sPM 1)) := ⟨rfl, rfl, rfl, by decide +kernel, rfl, by decide +kernel, by decide +kernel⟩
theorem ok_papp (F : FnP K "append" "Part.append" (sPM 1) [] f fd) (T : TxtP K mg CP) (G : TxtG K mg CG) (GR : FnOk P w K mg base CX0 4 fR fdR ["key", "row", "time"] (spRec CR Ps)) (gR : mg "record_bytes" = some (.ref fR)) (kR : PySem.W.keepIn K (.ref fR) = true) (bR : Binds K fdR ["key", "row", "time"] [])
    (mE : Meth K CP "end" fE) (GE : FnOk P w K mg base CX0 1 fE fdE ["self"] (spPE CP)) (bE : Binds K fdE ["self"] []) : FnOk P w K mg base (L2.CX P w) 5 f fd ["self", "key", "row", "time"] (spPA CP CG CR Ps) := by
  refine F.ok scPA (fun vs H Q E h => ?_) (fun cdv A outer s H vs Q E hr h => ?_)
  · unfold spPA at h
    rcases h with ⟨_, _, _, _, rfl, _⟩ | ⟨_, _, _, _, _, _, _, _, _, rfl, _⟩ <;> rfl
  · unfold spPA at h
    refine ⟨_, pss_cons (ps_if (pt_cmpR op_lt (pv 3) pe_int (nomark _)) (pss_one (ps_raise rfl (takes_of rfl rfl rfl rfl) (pmk_own PySem.F.excBase_ValueError G.x G.g G.k (raises_own G.b G.t) rfl))) pss_nil)
      (pss_cons (ps_fld (pv 0) (pe_op op_catA (pf 0) (pe_call GR (hr.mono (by decide)) (by rfl) gR kR bR .nil pass0 (pa_cons (pv 1) (pa_cons (pv 2) (pa_cons (pv 3) pa_nil))))) rfl)
      (pss_cons (ps_expr (pe_bm PySem.F.plainAttrs_list PySem.F.slot_list_append PySem.F.type_list_append mt_append (pf 0) (pa_cons (pe_tup (pa_cons (pv 1) (pa_cons (pv 2) (pa_cons (pv 3) pa_nil)))) pa_nil)))
      (pss_one (ps_ret (pe_op op_sub (pe_meth0 (pv 0) T.cl mE GE (hr.mono (by decide)) bE .nil pass0) pe_int))))), ?_⟩
    rcases h with ⟨p, a, b, t, rfl, ht, e⟩ | ⟨p, l, a, b, kb, wb, xs, fi, x, rfl, pt, hw, hx, ha, hb, ok, tab, fin⟩
    · exact ⟨_, rfl, _, _, rfl, rfl, _, rfl, ifT (by simp; omega) e⟩
    · refine ⟨_, rfl, _, _, rfl, rfl, _, rfl, ifF (by simp) ?_⟩
      obtain ⟨dx, k, v, ts, h1, h2, h3, h4, h5⟩ := pt
      have hz0 : sizeLine = 16777216 := rfl
      have lts := paired_len h5
      refine ⟨_, rfl, p, CP, dx, _, _, rfl, h1, T.cl, T.w, rfl, _, rfl, _, rfl, _, rfl, rec_step ha hb ok tab fun H1 q t1 hq => ?_⟩
      have k1 := kt_tb tab t1
      have rb := recL_bd ok
      refine cat_two (k1 _ _ h3) hq (by omega) fun H2 c e2 hc => ?_
      have t2 := t1.ex e2
      have k2 := kt_tb tab t2
      obtain ⟨ps, hP, _⟩ := id tab
      have ne : ∀ {b : Addr} {o : HO}, H b = some o → o ≠ .tbl ps → H2 b = some o := fun {b o} h n => t2.2 b o (fun z => n (by rw [z, hP] at h; exact (Option.some.inj h).symm)) h
      have p2 := ne h1 (by simp)
      have l2 := ne h4 (by simp)
      refine ⟨_, rfl, p, CP, dx, _, rfl, p2, T.cl, T.w, (by show 4 < 1000; decide), ?_⟩
      have ncp : c ≠ p := fun z => by rw [z, p2] at hc; cases hc
      have nlp : l ≠ p := fun z => by rw [z, h1] at h4; cases h4
      have hp3 : (upd H2 p (.ins CP dx (pF k c l fi))) p = some (.ins CP dx (pF k c l fi)) := upd_same
      have f3 : FrP Ps p l H (upd H2 p (.ins CP dx (pF k c l fi))) := (FrP.tb t2).trans (FrP.wr t2.1 p2 (fun _ z => by cases z) (fun _ z => by cases z) (.inl rfl))
      have hc3 : (upd H2 p (.ins CP dx (pF k c l fi))) c = some (.tup ((wb ++ recL x).map V.int)) := by rw [L2.upd_ne ncp]; exact hc
      have hl3 : (upd H2 p (.ins CP dx (pF k c l fi))) l = some (.lst (ts.map V.ref)) := by rw [L2.upd_ne nlp]; exact l2
      have k3 : KT' H (upd H2 p (.ins CP dx (pF k c l fi))) := fun b ys h => by rw [L2.upd_ne (fun z => by rw [z, h1] at h; cases h)]; exact k2 _ _ h
      rw [put_wait]
      generalize upd H2 p (.ins CP dx (pF k c l fi)) = H3 at hp3 f3 hc3 hl3 k3
      refine ⟨_, rfl, p, CP, dx, _, _, rfl, hp3, T.cl, T.r, rfl, .inl ⟨rfl, _, SqL.of hl3⟩, _, rfl, _, rfl, _, rfl, (by show 3 ≤ sizeLine; decide), fun z hz => ⟨l, _, _, rfl, rfl, Ex.upd hz _ _ hl3, by rw [List.length_map]; omega, ?_⟩⟩
      have e4 : KS.Ex H3 (upd H3 z (.tup [.ref a, .ref b, .int (x.2.2 : Nat)])) := Ex.upd hz
      have hz4 : (upd H3 z (.tup [.ref a, .ref b, .int (x.2.2 : Nat)])) z = some (.tup [.ref a, .ref b, .int (x.2.2 : Nat)]) := upd_same
      generalize upd H3 z (.tup [.ref a, .ref b, .int (x.2.2 : Nat)]) = H4 at e4 hz4
      rw [show ts.map V.ref ++ [V.ref z] = (ts ++ [z]).map V.ref by rw [List.map_append]; rfl]
      have l4 := e4 _ _ hl3
      have p5 : (upd H4 l (.lst ((ts ++ [z]).map V.ref))) p = some (.ins CP dx (pF k c l fi)) := by rw [L2.upd_ne nlp.symm]; exact e4 _ _ hp3
      have k5 : KT' H4 (upd H4 l (.lst ((ts ++ [z]).map V.ref))) := fun b ys h => by rw [L2.upd_ne (fun y => by rw [y, l4] at h; cases h)]; exact h
      have f5 : FrP Ps p l H (upd H4 l (.lst ((ts ++ [z]).map V.ref))) := f3.trans ((FrP.ex f3.1 e4).trans (FrP.wr (f3.1.ext e4) l4 (fun _ z => by cases z) (fun _ z => by cases z) (.inr rfl)))
      have ra : RecAt H4 z x := ⟨a, b, hz4, e4 _ _ (k3 _ _ ha), e4 _ _ (k3 _ _ hb)⟩
      have pt5 : PtA CP p l kb (wb ++ recL x) (xs ++ [x]) fi (upd H4 l (.lst ((ts ++ [z]).map V.ref))) := ⟨dx, k, c, ts ++ [z], p5, k5 _ _ (e4 _ _ (k3 _ _ h2)), k5 _ _ (e4 _ _ hc3), upd_same, paired_snoc' ((h5.kt k3).kt (fun b ys h => k5 _ _ (e4 _ _ h))) (ra.kt k5)⟩
      refine ⟨_, rfl, p, dx, _, rfl, p5, rfl, pe_step pt5 ⟨_, _, rfl, rfl, ?_⟩⟩
      have fq := fin _ f5 pt5
      show Q (V.int (((fi + (xs ++ [x]).length : Nat) : Int) - 1)) _
      rw [List.length_append, show (((fi + (xs.length + [x].length) : Nat) : Int) - 1) = ((fi + xs.length : Nat) : Int) by show (((fi + (xs.length + 1) : Nat) : Int) - 1) = _; omega]
      exact fq
end
end KL9
set_option Elab.async false
set_option linter.all false
set_option maxRecDepth 100000
set_option maxHeartbeats 4000000
namespace KL9
open PySem PySem.Spec PyProof.Rows L2 KB KC KS KN1 LamX K7
theorem cut_mid {α : Type} (f : α → V) (ts : List α) (lo hi : Nat) : cutV (ts.map f) (some (lo : Int)) (some (hi : Int)) = ((ts.drop lo).take (hi - lo)).map f := by
  unfold cutV
  rw [HT.sIx_nat, HT.sIx_nat, List.length_map]
  by_cases c : lo < ts.length
  · rw [Nat.min_eq_left (Nat.le_of_lt c), ← List.map_drop, ← List.map_take]
    congr 1
    by_cases c2 : hi ≤ ts.length
    · rw [Nat.min_eq_left c2]
    · rw [Nat.min_eq_right (by omega), List.take_of_length_le (by rw [List.length_drop]; omega), List.take_of_length_le (by rw [List.length_drop]; omega)]
  · rw [List.drop_eq_nil_of_le (by rw [List.length_map]; omega), List.drop_eq_nil_of_le (as := ts) (by omega)]
    simp
theorem cut_from {α : Type} (f : α → V) (ts : List α) (lo : Nat) : cutV (ts.map f) (some (lo : Int)) none = (ts.drop lo).map f := by
  unfold cutV
  rw [HT.sIx_nat, HT.sIx_none, List.length_map]
  by_cases c : lo < ts.length
  · rw [Nat.min_eq_left (Nat.le_of_lt c), List.take_of_length_le (by rw [List.length_drop, List.length_map]; omega), List.map_drop]
  · rw [List.drop_eq_nil_of_le (as := ts.map f) (by rw [List.length_map]; omega), List.drop_eq_nil_of_le (as := ts) (by omega)]
    simp
theorem cut_to {α : Type} (f : α → V) (ts : List α) (hi : Nat) : cutV (ts.map f) none (some (hi : Int)) = (ts.take hi).map f := by
  unfold cutV
  rw [HT.sIx_nat, HT.sIx_none, List.length_map, Nat.sub_zero, List.drop_zero, ← List.map_take]
  congr 1
  by_cases c2 : hi ≤ ts.length
  · rw [Nat.min_eq_left c2]
  · rw [Nat.min_eq_right (by omega), List.take_of_length_le (by omega), List.take_of_length_le (by omega)]
theorem paired_drop {α β : Type} {F : α → β → Prop} : ∀ {xs : List α} {ys : List β} (n : Nat), Paired F xs ys → Paired F (xs.drop n) (ys.drop n)
  | _, _, 0, h => h
  | _, _, _ + 1, .nil => .nil
  | _, _, n + 1, .cons _ r => paired_drop n r
theorem paired_take {α β : Type} {F : α → β → Prop} : ∀ {xs : List α} {ys : List β} (n : Nat), Paired F xs ys → Paired F (xs.take n) (ys.take n)
  | _, _, 0, _ => .nil
  | _, _, _ + 1, .nil => .nil
  | _, _, n + 1, .cons a r => .cons a (paired_take n r)
theorem max0 (m : Int) : (if (0 : Int) > m then (0 : Int) else m) = ((m.toNat : Nat) : Int) := by
  by_cases c : (0 : Int) > m
  · rw [if_pos c]; omega
  · rw [if_neg c]; omega
theorem sl_toI {K : PySem.W.Frag} {H : Hp} {Q : VK} {t : Addr} {dat : List Int} {hi : Nat} {b : Int} (eb : b = (hi : Int)) (h : H t = some (.tup (dat.map V.int))) (q : ∀ H' p, KS.Ex H H' → H' p = some (.tup ((dat.take hi).map V.int)) → Q (.ref p) H') : rSlA K (.ref t) none (some b) H Q := by
  subst eb
  exact sl_to h q
structure TxtM (mg : Str → Option Value) : Prop where
  max : mg "max" = none
  min : mg "min" = none
  sum : mg "sum" = none
  enu : mg "enumerate" = none
section
variable {P : Program} {w : World} {K : PySem.W.Frag} {mg : Str → Option Value} {base : Heap} {f fE fR CP CG CR Ps : Addr} {fd fdE fdR : FuncData}
end
end KL9
set_option Elab.async false
set_option linter.all false
set_option maxRecDepth 100000
set_option maxHeartbeats 4000000
namespace KL9
open PySem PySem.Spec PyProof.Rows L2 KB KC KS KN1 LamX K7
theorem txt_len {t : Int} (h0 : -1 ≤ t) (h1 : t < 100000) : (Str.ofString (toString t)).length ≤ 10 := by
  by_cases c : t = -1
  · subst c; decide +kernel
  · have := PyProof.Rows.toString_length_le (v := t) (by omega) (k := 5) (by decide) (by omega)
    omega
theorem txt_log {t : Int} (h0 : -1 ≤ t) (h1 : t < 100000) : t.natAbs.log2 < 1920 := by
  have a : t.natAbs < 100000 := by omega
  by_cases z : t.natAbs = 0
  · rw [z]; decide +kernel
  · exact (Nat.log2_lt z).mpr (Nat.lt_of_lt_of_le a (by decide +kernel))
theorem js_int {i : Nat} {txt : Str} {t : Int} {σ : L2.St} {H : Hp} {R : Str → Hp → Prop} (hs : σ[i]? = some (some (.int t))) (h0 : -1 ≤ t) (h1 : t < 100000) (ht : txt.length ≤ 100) (r : ∀ out, R out H) : tJs [tC (V.str txt), tFmt (tVar i)] Str.empty σ H R := by
  have e := txt_len h0 h1
  have hz : sizeLine = 16777216 := rfl
  have l0 : (Str.empty ++ txt).length = txt.length := by rw [Str.length_append]; show 0 + _ = _; omega
  refine ⟨txt, rfl, by rw [l0]; omega, _, hs, .inr ⟨t, rfl, txt_log h0 h1, _, rfl, ?_, r _⟩⟩
  show (Str.empty ++ txt ++ Str.ofString (toString t)).length ≤ sizeLine
  rw [show (Str.empty ++ txt ++ Str.ofString (toString t)).length = (Str.empty ++ txt).length + (Str.ofString (toString t)).length from Str.length_append .., l0]
  omega
theorem lst_mid {K : PySem.W.Frag} {H : Hp} {Q : VK} {l : Addr} {ts : List Addr} {lo hi : Nat} {a b : Int} (ea : a = (lo : Int)) (eb : b = (hi : Int)) (h : H l = some (.lst (ts.map V.ref))) (q : ∀ H' p, KS.Ex H H' → H' p = some (.lst (((ts.drop lo).take (hi - lo)).map V.ref)) → H p = none → Q (.ref p) H') : rSlL K (.ref l) (some a) (some b) H Q := by
  subst ea eb
  refine ⟨l, _, rfl, SqL.of h, fun p hp => ?_⟩
  rw [cut_mid]
  exact q _ p (Ex.upd hp) upd_same hp
theorem lst_from {K : PySem.W.Frag} {H : Hp} {Q : VK} {l : Addr} {ts : List Addr} {lo : Nat} {a : Int} (ea : a = (lo : Int)) (h : H l = some (.lst (ts.map V.ref))) (q : ∀ H' p, KS.Ex H H' → H' p = some (.lst ((ts.drop lo).map V.ref)) → H p = none → Q (.ref p) H') : rSlL K (.ref l) (some a) none H Q := by
  subst ea
  refine ⟨l, _, rfl, SqL.of h, fun p hp => ?_⟩
  rw [cut_from]
  exact q _ p (Ex.upd hp) upd_same hp
theorem lst_to {K : PySem.W.Frag} {H : Hp} {Q : VK} {l : Addr} {ts : List Addr} {hi : Nat} {b : Int} (eb : b = (hi : Int)) (h : H l = some (.lst (ts.map V.ref))) (q : ∀ H' p, KS.Ex H H' → H' p = some (.lst ((ts.take hi).map V.ref)) → H p = none → Q (.ref p) H') : rSlL K (.ref l) none (some b) H Q := by
  subst eb
  refine ⟨l, _, rfl, SqL.of h, fun p hp => ?_⟩
  rw [cut_to]
  exact q _ p (Ex.upd hp) upd_same hp
@[irreducible] def spPR (CP CG : Addr) : Sp := fun vs H Q E => ∃ (p l : Addr) (kb wb : List Int) (xs : List Rc) (fi : Nat) (place most : Int), vs = [.ref p, .int place, .int most] ∧ PtA CP p l kb wb xs fi H ∧ -1 ≤ place ∧ place < 100000 ∧
  (¬ ((fi : Int) ≤ place ∧ place ≤ (fi + xs.length : Nat)) → E (.ref CG) none H) ∧
  (((fi : Int) ≤ place ∧ place ≤ (fi + xs.length : Nat)) → ∀ H' q ts rs, KS.Ex H H' → H' q = some (.tup (ts.map V.ref)) → EN.Nums H' place (rs.map V.ref) ts → Recs H' rs ((xs.drop (place - fi).toNat).take most.toNat) → Q (.ref q) H')
theorem pr_step {CP CG p l : Addr} {kb wb : List Int} {xs : List Rc} {fi : Nat} {place most : Int} {H : Hp} {Q : VK} {E : XK} (h : PtA CP p l kb wb xs fi H) (h0 : -1 ≤ place) (h1 : place < 100000) (bad : ¬ ((fi : Int) ≤ place ∧ place ≤ (fi + xs.length : Nat)) → E (.ref CG) none H)
    (good : ((fi : Int) ≤ place ∧ place ≤ (fi + xs.length : Nat)) → ∀ H' q ts rs, KS.Ex H H' → H' q = some (.tup (ts.map V.ref)) → EN.Nums H' place (rs.map V.ref) ts → Recs H' rs ((xs.drop (place - fi).toNat).take most.toNat) → Q (.ref q) H') : spPR CP CG [.ref p, .int place, .int most] H Q E := by
  unfold spPR
  exact ⟨p, l, kb, wb, xs, fi, place, most, rfl, h, h0, h1, bad, good⟩
section
variable {P : Program} {w : World} {K : PySem.W.Frag} {mg : Str → Option Value} {base : Heap} {f fE fR CP CG CR Ps : Addr} {fd fdE fdR : FuncData}
theorem scPR : FnScope ["self", "place", "most", "begin"] ["self", "place", "most"] (defScope (sPM 5)) := ⟨rfl, rfl, rfl, by decide +kernel, rfl, by decide +kernel, by decide +kernel⟩
theorem ok_pread (F : FnP K "read" "Part.read" (sPM 5) [] f fd) (T : TxtP K mg CP) (G : TxtG K mg CG) (TL : TxtL mg) (M : TxtM mg) (mE : Meth K CP "end" fE) (GE : FnOk P w K mg base CX0 1 fE fdE ["self"] (spPE CP)) (bE : Binds K fdE ["self"] []) : FnOk P w K mg base (L2.CX P w) 2 f fd ["self", "place", "most"] (spPR CP CG) := by
  refine F.ok scPR (fun vs H Q E h => ?_) (fun cdv A outer s H vs Q E hr h => ?_)
  · unfold spPR at h
    obtain ⟨_, _, _, _, _, _, _, _, rfl, _⟩ := h; rfl
  · unfold spPR at h
    obtain ⟨p, l, kb, wb, xs, fi, place, most, rfl, pt, h0, h1', bad, good⟩ := h
    refine ⟨_, pss_cons (ps_if (pt_not (pt_chain op_le op_le (pf 0) (pv 1) (pe_meth0 (pv 0) T.cl mE GE (hr.mono (by decide)) bE .nil pass0))) (pss_one (ps_raise rfl (takes_of rfl rfl rfl rfl) (SkE.pmk_own1 PySem.F.excBase_ValueError G.x G.g G.k (raises_own G.b G.t) rfl (pe_joined (.cons pe_str (.cons (pe_fmt (pv 1)) .nil)))))) pss_nil)
      (pss_cons (ps_set (i := 3) scPR.nd rfl (Or.inl rfl) (pe_op op_sub (pv 1) (pf 0)))
      (pss_one (ps_ret (EN.pe_tupleEnum (by rfl) TL.tuple (by rfl) M.enu rfl (pe_slice sl_list (pf 0) (po_some (pv 3)) (po_some (pe_op op_add (pv 3) (pe_callB (call_max2 rfl) (by rfl) M.max (by decide +kernel) (pa_cons (pv 2) (pa_cons pe_int pa_nil)))))) (pv 1))))), ?_⟩
    obtain ⟨dx, k, v, ts, h1, h2, h3, h4, h5⟩ := id pt
    have hz0 : sizeLine = 16777216 := rfl
    refine ⟨_, rfl, p, CP, dx, _, _, rfl, h1, T.cl, T.f, rfl, _, rfl, _, _, rfl, rfl, _, rfl, ?_⟩
    by_cases c : (fi : Int) ≤ place ∧ place ≤ ((fi + xs.length : Nat) : Int)
    · refine ifT (by simp; exact c.1) ⟨_, rfl, p, dx, _, rfl, h1, rfl, pe_step pt ⟨_, _, rfl, rfl, _, rfl, ifF (by simp; exact c.2) ?_⟩⟩
      refine ⟨_, rfl, _, rfl, p, CP, dx, _, _, rfl, h1, T.cl, T.f, rfl, _, _, rfl, rfl, ?_⟩
      obtain ⟨b, hb⟩ : ∃ b : Nat, place = (fi : Int) + (b : Nat) := ⟨(place - fi).toNat, by omega⟩
      subst hb
      have e1 : ((fi : Int) + (b : Nat)) - (fi : Int) = (b : Nat) := by omega
      have e2 : (((fi : Int) + (b : Nat)) - (fi : Int)).toNat = b := by omega
      have good := good c
      rw [e2] at good
      refine ⟨_, rfl, p, CP, dx, _, _, rfl, h1, T.cl, T.r, rfl, _, rfl, _, rfl, _, rfl, _, rfl, _, _, rfl, _, _, rfl, rfl, _, rfl, lst_mid (lo := b) (hi := b + most.toNat) e1 (by show _ + _ = _; rw [max0]; omega) h4 fun H2 q e hq _ => ?_⟩
      rw [show b + most.toNat - b = most.toNat by omega] at hq
      refine ⟨_, rfl, q, _, (fi : Int) + (b : Nat), rfl, rfl, by omega, by omega, SqL.of hq, fun H' z ts' e' hz hn => ?_⟩
      exact good H' z ts' _ (e.trans e') hz hn (paired_take _ (paired_drop _ (h5.kt (kt_of (e.trans e')))))
    · by_cases c1 : (fi : Int) ≤ place
      · refine ifT (by simp; exact c1) ⟨_, rfl, p, dx, _, rfl, h1, rfl, pe_step pt ⟨_, _, rfl, rfl, _, rfl, ifT ?_ (js_int rfl h0 h1' (by decide) fun out => bad c)⟩⟩
        have : ¬ place ≤ ((fi + xs.length : Nat) : Int) := fun z => c ⟨c1, z⟩
        simp only [this, decide_false, Bool.not_false]
      · exact ifF (by simp; omega) ⟨_, rfl, ifT (by rfl) (js_int rfl h0 h1' (by decide) fun out => bad c)⟩
end
end KL9
set_option Elab.async false
set_option linter.all false
set_option maxRecDepth 100000
set_option maxHeartbeats 4000000
namespace KL9
open PySem PySem.Spec PyProof.Rows L2 KB KC KS KN1 LamX K7
structure TxtO (K : PySem.W.Frag) (mg : Str → Option Value) (CL : Addr) : Prop where
  cl : Cls K CL
  p : NoAttr K CL "parts"
  g : mg "Log" = some (.ref CL)
abbrev PS := List Int × List Int × List Rc
abbrev ps0 : PS := ([], [], [])
def Parts (CP : Addr) (H : Hp) : List (Addr × Addr) → List PS → Prop := Paired fun pl st => PtA CP pl.1 pl.2 st.1 st.2.1 st.2.2 0 H
theorem Parts.of {CP : Addr} {H H' : Hp} {ps : List (Addr × Addr)} {sts : List PS} (h : Parts CP H ps sts) (f : ∀ (pl : Addr × Addr) (st : PS), pl ∈ ps → PtA CP pl.1 pl.2 st.1 st.2.1 st.2.2 0 H → PtA CP pl.1 pl.2 st.1 st.2.1 st.2.2 0 H') : Parts CP H' ps sts := by
  unfold Parts at h ⊢
  induction h with
  | nil => exact .nil
  | cons a r ih => exact .cons (f _ _ List.mem_cons_self a) (ih fun pl st hm => f pl st (List.mem_cons_of_mem _ hm))
theorem Parts.ex {CP : Addr} {H H' : Hp} {ps : List (Addr × Addr)} {sts : List PS} (h : Parts CP H ps sts) (e : KS.Ex H H') : Parts CP H' ps sts := Parts.of h fun _ _ _ x => x.ex e
theorem PtA.apart {CP p l a : Addr} {kb wb : List Int} {xs : List Rc} {fi : Nat} {H H' : Hp} (x : PtA CP p l kb wb xs fi H) (e : ∀ b o, b ≠ a → H b = some o → H' b = some o) (ha : ∃ C d fs, H a = some (.ins C d fs)) (n : p ≠ a) : PtA CP p l kb wb xs fi H' := by
  obtain ⟨dx, k, v, ts, h1, h2, h3, h4, h5⟩ := x
  obtain ⟨C, d, fs, ha⟩ := ha
  refine ⟨dx, k, v, ts, e _ _ n h1, e _ _ (fun z => by rw [z, ha] at h2; cases h2) h2, e _ _ (fun z => by rw [z, ha] at h3; cases h3) h3, e _ _ (fun z => by rw [z, ha] at h4; cases h4) h4, h5.kt fun b ys h => e _ _ (fun z => by rw [z, ha] at h; cases h) h⟩
structure LogA (CL CP o q : Addr) (ps : List (Addr × Addr)) (sts : List PS) (H : Hp) : Prop where
  ob : ∃ dx, H o = some (.ins CL dx [("parts", .ref q)])
  ql : H q = some (.lst (ps.map fun pl => V.ref pl.1))
  pt : Parts CP H ps sts
  n1 : (ps.map (·.1)).Nodup
  n2 : (ps.map (·.2)).Nodup
  n3 : q ∉ ps.map (·.2)
  n4 : o ∉ ps.map (·.1)
@[irreducible] def spLI (CL CP CG : Addr) : Sp := fun vs H Q E => ∃ (o dx : Addr) (many : Int), vs = [.ref o, .int many] ∧ H o = some (.ins CL dx []) ∧ -1 ≤ many ∧ many < 100000 ∧
  (¬ (0 < many ∧ many ≤ 16) → E (.ref CG) none H) ∧
  ((0 < many ∧ many ≤ 16) → ∀ H' q ps, (∀ b x, b ≠ o → H b = some x → H' b = some x) → LogA CL CP o q ps (List.replicate many.toNat ps0) H' → H q = none → (∀ pl ∈ ps, H pl.1 = none ∧ H pl.2 = none) → Q .non H')
theorem li_step {CL CP CG o dx : Addr} {many : Int} {H : Hp} {Q : VK} {E : XK} (h : H o = some (.ins CL dx [])) (h0 : -1 ≤ many) (h1 : many < 100000) (bad : ¬ (0 < many ∧ many ≤ 16) → E (.ref CG) none H)
    (good : (0 < many ∧ many ≤ 16) → ∀ H' q ps, (∀ b x, b ≠ o → H b = some x → H' b = some x) → LogA CL CP o q ps (List.replicate many.toNat ps0) H' → H q = none → (∀ pl ∈ ps, H pl.1 = none ∧ H pl.2 = none) → Q .non H') : spLI CL CP CG [.ref o, .int many] H Q E := by
  unfold spLI
  exact ⟨o, dx, many, rfl, h, h0, h1, bad, good⟩
theorem js_int3 {i : Nat} {txt txt2 : Str} {t : Int} {σ : L2.St} {H : Hp} {R : Str → Hp → Prop} (hs : σ[i]? = some (some (.int t))) (h0 : -1 ≤ t) (h1 : t < 100000) (ht : txt.length ≤ 100) (ht2 : txt2.length ≤ 100) (r : ∀ out, R out H) : tJs [tC (V.str txt), tFmt (tVar i), tC (V.str txt2)] Str.empty σ H R := by
  have e := txt_len h0 h1
  have hz : sizeLine = 16777216 := rfl
  have l0 : (Str.empty ++ txt).length = txt.length := by rw [Str.length_append]; show 0 + _ = _; omega
  have l1 : (Str.empty ++ txt ++ Str.ofString (toString t)).length = (Str.empty ++ txt).length + (Str.ofString (toString t)).length := Str.length_append ..
  refine ⟨txt, rfl, by rw [l0]; omega, _, hs, .inr ⟨t, rfl, txt_log h0 h1, _, rfl, ?_, txt2, rfl, ?_, r _⟩⟩
  · show (Str.empty ++ txt ++ Str.ofString (toString t)).length ≤ sizeLine
    rw [l1, l0]
    omega
  · show ((Str.empty ++ txt ++ Str.ofString (toString t)) ++ txt2).length ≤ sizeLine
    rw [show ((Str.empty ++ txt ++ Str.ofString (toString t)) ++ txt2).length = (Str.empty ++ txt ++ Str.ofString (toString t)).length + txt2.length from Str.length_append .., l1, l0]
    omega
abbrev sOM (j : Nat) : Stmt := inClass sLog j
section
variable {P : Program} {w : World} {K : PySem.W.Frag} {mg : Str → Option Value} {base : Heap} {f fI CL CP CG : Addr} {fd fdI : FuncData}
theorem scLI : FnScope ["self", "many", "_"] ["self", "many"] (defScope (sOM 0)) := ⟨rfl, rfl, rfl, by decide +kernel, rfl, by decide +kernel, by decide +kernel⟩
theorem ok_linit (F : FnP K "__init__" "Log.__init__" (sOM 0) [] f fd) (O : TxtO K mg CL) (T : TxtP K mg CP) (G : TxtG K mg CG) (TL : TxtL mg) (N : TxtN mg) (M : Mk K CP fI) (GI : FnOk P w K mg base CX0 1 fI fdI ["self"] (spPI CP)) (bI : Binds K fdI ["self"] []) : FnOk P w K mg base (L2.CX P w) 3 f fd ["self", "many"] (spLI CL CP CG) := by
  obtain ⟨tk, hP⟩ := N.parts
  refine F.ok scLI (fun vs H Q E h => ?_) (fun cdv A outer s H vs Q E hr h => ?_)
  · unfold spLI at h
    obtain ⟨_, _, _, rfl, _⟩ := h; rfl
  · unfold spLI at h
    obtain ⟨o, dx, many, rfl, h1, b0, b1, bad, good⟩ := h
    refine ⟨_, pss_cons (ps_if (pt_not (pt_chain op_lt op_le pe_int (pv 1) (pe_glob (v := .int 16) (by rfl) hP ⟨_, rfl⟩))) (pss_one (ps_raise rfl (takes_of rfl rfl rfl rfl) (SkE.pmk_own1 PySem.F.excBase_ValueError G.x G.g G.k (raises_own G.b G.t) rfl (pe_joined (.cons pe_str (.cons (pe_fmt (pv 1)) (.cons pe_str .nil))))))) pss_nil)
      (pss_one (ps_fld (pv 0) (pe_lc (own := [("_", 2)]) (g := gName 2) (tt := tYes) rfl scLI.nd (pi_range1 (by rfl) TL.range (pa_cons (pv 1) pa_nil)) (blkOk_by (N := ["self", "many", "_"]) (sc := defScope (sOM 0)) (by decide +kernel))
        (fun _ _ _ _ _ => pg_name (i := 2) scLI.nd rfl (Or.inl rfl)) (fun _ _ _ _ _ => pts_nil)
        (fun _ _ _ _ _ => pe_make0 M GI (hr.mono (by decide)) (by rfl) T.g bI .nil pass0)) rfl)), ?_⟩
    refine ⟨_, rfl, _, _, rfl, rfl, _, rfl, ?_⟩
    by_cases c : 0 < many ∧ many ≤ 16
    · refine ifT (by simp; exact c.1) ⟨_, _, rfl, rfl, _, rfl, ifF (by simp; exact c.2) ?_⟩
      have good := good c
      refine ⟨_, rfl, many, rfl, by omega, by omega, fun D hD => ?_⟩
      have hw : many.toNat ≤ 16 := by omega
      generalize many.toNat = n at good hw
      refine lc_range (fun i H' => KS.Ex H H' ∧ ∃ ps : List (Addr × Addr), H' D = some (.lst (ps.map fun pl => V.ref pl.1)) ∧ Parts CP H' ps (List.replicate i ps0) ∧ (ps.map (·.1)).Nodup ∧ (ps.map (·.2)).Nodup ∧ D ∉ ps.map (·.2) ∧ (∀ pl ∈ ps, H pl.1 = none ∧ H pl.2 = none) ∧ o ∉ ps.map (·.1)) ⟨Ex.upd hD, [], upd_same, .nil, .nil, .nil, (by simp), (fun _ h => nomatch h), by simp⟩ ?_ ?_
      · rintro i H1 hi ⟨e1, ps, hD1, hps, m1, m2, m3, m4, m5⟩
        refine ⟨rfl, ?_⟩
        refine fun x d hx hd nd => ?_
        have hx2 : (upd (upd H1 d (.own x)) x (.ins CP d [])) x = some (.ins CP d []) := upd_same
        have e2 : KS.Ex H1 (upd (upd H1 d (.own x)) x (.ins CP d [])) := (Ex.upd hd).trans (Ex.upd (by rw [L2.upd_ne nd.symm]; exact hx))
        show spPI CP [.ref x] _ _ _
        generalize upd (upd H1 d (.own x)) x (.ins CP d []) = H2 at hx2 e2
        refine pi_step hx2 fun H3 l hl0 e3 pt3 => ⟨rfl, ps.map (fun pl => V.ref pl.1), ?_, ?_, ?_⟩
        · exact e3 _ _ (ne_of_none hD1 hx) (e2 _ _ hD1)
        · rw [List.length_map]
          have := paired_len hps
          rw [List.length_replicate] at this
          have hz0 : sizeLine = 16777216 := rfl
          omega
        · have hD3 := e3 _ _ (ne_of_none hD1 hx) (e2 _ _ hD1)
          have hlH1 : H1 l = none := by
            cases z : H1 l with
            | none => rfl
            | some u => rw [e2 _ _ z] at hl0; cases hl0
          have lD : l ≠ D := fun z => by rw [z, hD1] at hlH1; cases hlH1
          have xnew : x ∉ ps.map (·.1) := fun hm => by
            obtain ⟨pl, hpl, e⟩ := List.mem_map.mp hm
            obtain ⟨j, hj, ej⟩ := List.mem_iff_getElem.mp hpl
            obtain ⟨y, hy, q⟩ := paired_get (G := fun (pl : Addr × Addr) (st : PS) => PtA CP pl.1 pl.2 st.1 st.2.1 st.2.2 0 H1) hps (List.getElem?_eq_getElem hj)
            obtain ⟨_, _, _, _, z, _⟩ := q
            rw [ej, e, hx] at z; cases z
          have lnew : l ∉ ps.map (·.2) := fun hm => by
            obtain ⟨pl, hpl, e⟩ := List.mem_map.mp hm
            obtain ⟨j, hj, ej⟩ := List.mem_iff_getElem.mp hpl
            obtain ⟨y, hy, q⟩ := paired_get (G := fun (pl : Addr × Addr) (st : PS) => PtA CP pl.1 pl.2 st.1 st.2.1 st.2.2 0 H1) hps (List.getElem?_eq_getElem hj)
            obtain ⟨_, _, _, _, _, _, _, z, _⟩ := q
            rw [ej, e, hlH1] at z; cases z
          have eH3 : KS.Ex H (upd H3 D (.lst (ps.map (fun pl => V.ref pl.1) ++ [V.ref x]))) := fun b u h => by
            rw [L2.upd_ne (ne_of_none h hD)]
            exact e3 _ _ (ne_of_none (e1 _ _ h) hx) (e2 _ _ (e1 _ _ h))
          have out : ∀ b, H1 b = none → H b = none := fun b hb => by
            cases z : H b with
            | none => rfl
            | some u => rw [e1 _ _ z] at hb; cases hb
          have pt1 : ∀ (pl : Addr × Addr) (st : PS), pl.2 ≠ D → PtA CP pl.1 pl.2 st.1 st.2.1 st.2.2 0 H3 → PtA CP pl.1 pl.2 st.1 st.2.1 st.2.2 0 (upd H3 D (.lst (ps.map (fun pl => V.ref pl.1) ++ [V.ref x]))) := fun pl st nD ⟨dy, k, v, ts, g1, g2, g3, g4, g5⟩ => by
            refine ⟨dy, k, v, ts, ?_, ?_, ?_, ?_, g5.kt fun b ys h => ?_⟩
            · rw [L2.upd_ne (fun z => by rw [z, hD3] at g1; cases g1)]; exact g1
            · rw [L2.upd_ne (fun z => by rw [z, hD3] at g2; cases g2)]; exact g2
            · rw [L2.upd_ne (fun z => by rw [z, hD3] at g3; cases g3)]; exact g3
            · rw [L2.upd_ne nD]; exact g4
            · rw [L2.upd_ne (fun z => by rw [z, hD3] at h; cases h)]; exact h
          refine ⟨eH3, ps ++ [(x, l)], ?_, ?_, ?_, ?_, ?_, ?_, ?_⟩
          · rw [upd_same, List.map_append]; rfl
          · rw [List.replicate_succ']
            refine paired_snoc' (Parts.of (H := H1) hps fun pl st hm q => ?_) (pt1 (x, l) ps0 lD pt3)
            refine pt1 pl st (fun z => m3 (by rw [← z]; exact List.mem_map_of_mem hm)) ?_
            exact (q.ex e2).apart e3 ⟨_, _, _, hx2⟩ fun z => xnew (by rw [← z]; exact List.mem_map_of_mem hm)
          · rw [List.map_append, List.nodup_append]
            exact ⟨m1, by simp, fun a ha b hb => by
              simp at hb
              rw [hb]
              exact fun z => xnew (by rw [← z]; exact ha)⟩
          · rw [List.map_append, List.nodup_append]
            exact ⟨m2, by simp, fun a ha b hb => by
              simp at hb
              rw [hb]
              exact fun z => lnew (by rw [← z]; exact ha)⟩
          · rw [List.map_append, List.mem_append]
            rintro (z | z)
            · exact m3 z
            · simp at z
              exact lD z.symm
          · intro pl hpl
            rcases List.mem_append.mp hpl with z | z
            · exact m4 pl z
            · simp at z
              rw [z]
              exact ⟨out _ hx, out _ hlH1⟩
          · rw [List.map_append, List.mem_append]
            rintro (z | z)
            · exact m5 z
            · simp at z
              rw [← z, e1 _ _ h1] at hx
              cases hx
      · rintro H1 ⟨e1, ps, hD1, hps, m1, m2, m3, m4, m5⟩
        refine ⟨_, rfl, o, CL, dx, _, rfl, e1 _ _ h1, O.cl, O.p, (by show 0 < 1000; decide), ?_⟩
        have nDo : D ≠ o := fun z => by rw [z, h1] at hD; cases hD
        refine good _ D ps (fun b u nb h => by rw [L2.upd_ne nb]; exact e1 _ _ h) ⟨⟨dx, upd_same⟩, by rw [L2.upd_ne nDo]; exact hD1, ?_, m1, m2, m3, m5⟩ hD m4
        exact Parts.of hps fun pl st hm q => q.apart (fun b u nb h => by rw [L2.upd_ne nb]; exact h) ⟨_, _, _, e1 _ _ h1⟩ fun z => m5 (by rw [← z]; exact List.mem_map_of_mem hm)
    · by_cases c1 : 0 < many
      · refine ifT (by simp; exact c1) ⟨_, _, rfl, rfl, _, rfl, ifT ?_ (js_int3 rfl b0 b1 (by decide) (by decide) fun out => bad c)⟩
        have : ¬ many ≤ 16 := fun z => c ⟨c1, z⟩
        simp only [this, decide_false, Bool.not_false]
      · exact ifF (by simp; omega) ⟨_, rfl, ifT (by rfl) (js_int3 rfl b0 b1 (by decide) (by decide) fun out => bad c)⟩
end
end KL9
set_option Elab.async false
set_option linter.all false
set_option maxRecDepth 100000
set_option maxHeartbeats 4000000
namespace KL9
open PySem PySem.Spec PyProof.Rows L2 KB KC KS KN1 LamX K7
theorem PtA.other {CP Ps p l p' l' : Addr} {kb wb : List Int} {xs : List Rc} {fi : Nat} {H H' : Hp} (x : PtA CP p' l' kb wb xs fi H) (t : TabS H Ps qK) (hp : ∃ C d fs, H p = some (.ins C d fs)) (hl : ∃ ys, H l = some (.lst ys)) (f : FrP Ps p l H H') (n1 : p' ≠ p) (n2 : l' ≠ l) : PtA CP p' l' kb wb xs fi H' := by
  obtain ⟨dx, k, v, ts, h1, h2, h3, h4, h5⟩ := x
  obtain ⟨C, d, fs, hp⟩ := hp
  obtain ⟨ys, hl⟩ := hl
  obtain ⟨ps, hP, _⟩ := t
  have tup : KT' H H' := fun b zs h => f.2 b _ (fun z => by rw [z, hP] at h; cases h) (fun z => by rw [z, hp] at h; cases h) (fun z => by rw [z, hl] at h; cases h) h
  exact ⟨dx, k, v, ts, f.2 _ _ (fun z => by rw [z, hP] at h1; cases h1) n1 (fun z => by rw [z, hl] at h1; cases h1) h1, tup _ _ h2, tup _ _ h3, f.2 _ _ (fun z => by rw [z, hP] at h4; cases h4) (fun z => by rw [z, hp] at h4; cases h4) n2 h4, h5.kt tup⟩
def FrL (Ps : Addr) (ps : List (Addr × Addr)) (H H' : Hp) : Prop := TabS H' Ps qK ∧ ∀ b u, b ≠ Ps → b ∉ ps.map (·.1) → b ∉ ps.map (·.2) → H b = some u → H' b = some u
theorem FrL.trans {Ps : Addr} {ps : List (Addr × Addr)} {H H1 H2 : Hp} (a : FrL Ps ps H H1) (b : FrL Ps ps H1 H2) : FrL Ps ps H H2 := ⟨b.1, fun x o n1 n2 n3 h => b.2 x o n1 n2 n3 (a.2 x o n1 n2 n3 h)⟩
theorem FrL.tb {Ps : Addr} {ps : List (Addr × Addr)} {H H' : Hp} (e : Tb Ps H H') : FrL Ps ps H H' := ⟨e.1, fun b o n _ _ h => e.2 b o n h⟩
theorem FrL.ex {Ps : Addr} {ps : List (Addr × Addr)} {H H' : Hp} (t : TabS H Ps qK) (e : KS.Ex H H') : FrL Ps ps H H' := FrL.tb ((Tb.refl t).ex e)
theorem FrL.fp {Ps p l : Addr} {ps : List (Addr × Addr)} {H H' : Hp} (f : FrP Ps p l H H') (hm : (p, l) ∈ ps) : FrL Ps ps H H' := ⟨f.1, fun b u n n1 n2 h => f.2 b u n (fun z => n1 (by rw [z]; exact List.mem_map_of_mem (f := (·.1)) hm)) (fun z => n2 (by rw [z]; exact List.mem_map_of_mem (f := (·.2)) hm)) h⟩
theorem paired_set {α β : Type} {F : α → β → Prop} {b : β} : ∀ {xs : List α} {ys : List β} {j : Nat} {a : α}, Paired F xs ys → xs[j]? = some a → F a b → Paired F xs (ys.set j b)
  | _, _, _, _, .nil, h, _ => by cases h
  | _, _, 0, _, .cons _ r, h, f => by cases h; exact .cons f r
  | _, _, j + 1, _, .cons x r, h, f => .cons x (paired_set r h f)
theorem nodup_ne {α β : Type} {f : α → β} {xs : List α} (h : (xs.map f).Nodup) {i j : Nat} {a b : α} (ha : xs[i]? = some a) (hb : xs[j]? = some b) (n : i ≠ j) : f a ≠ f b := fun z => by
  obtain ⟨hi, ea⟩ := List.getElem?_eq_some_iff.mp ha
  obtain ⟨hj, eb⟩ := List.getElem?_eq_some_iff.mp hb
  refine n ((List.getElem_inj (h₀ := by rw [List.length_map]; exact hi) (h₁ := by rw [List.length_map]; exact hj) h).mp ?_)
  rw [List.getElem_map, List.getElem_map, ea, eb]
  exact z
theorem LogA.len {CL CP o q : Addr} {ps : List (Addr × Addr)} {sts : List PS} {H : Hp} (x : LogA CL CP o q ps sts H) : ps.length = sts.length := paired_len x.pt
theorem LogA.get {CL CP o q : Addr} {ps : List (Addr × Addr)} {sts : List PS} {H : Hp} (x : LogA CL CP o q ps sts H) {j : Nat} {st : PS} (hj : sts[j]? = some st) : ∃ p l, ps[j]? = some (p, l) ∧ PtA CP p l st.1 st.2.1 st.2.2 0 H := by
  have hlt : j < ps.length := by rw [x.len]; exact (List.getElem?_eq_some_iff.mp hj).1
  obtain ⟨y, hy, q⟩ := paired_get (G := fun (pl : Addr × Addr) (st : PS) => PtA CP pl.1 pl.2 st.1 st.2.1 st.2.2 0 H) x.pt (List.getElem?_eq_getElem hlt)
  rw [hj] at hy
  cases hy
  exact ⟨_, _, List.getElem?_eq_getElem hlt, q⟩
theorem LogA.set {CL CP Ps o q p l : Addr} {ps : List (Addr × Addr)} {sts : List PS} {st : PS} {j : Nat} {H H' : Hp} (x : LogA CL CP o q ps sts H) (t : TabS H Ps qK) (hj : ps[j]? = some (p, l)) (f : FrP Ps p l H H') (n : PtA CP p l st.1 st.2.1 st.2.2 0 H') : LogA CL CP o q ps (sts.set j st) H' := by
  obtain ⟨dx, ob⟩ := x.ob
  have hlt : j < sts.length := by rw [← x.len]; exact (List.getElem?_eq_some_iff.mp hj).1
  obtain ⟨p1, l1, e1, y1⟩ := x.get (List.getElem?_eq_getElem hlt)
  rw [hj] at e1
  cases e1
  obtain ⟨dy, k, v, ts, g1, g2, g3, g4, g5⟩ := id y1
  obtain ⟨tb, hP, _⟩ := id t
  have hm : (p, l) ∈ ps := List.mem_of_getElem? hj
  have nop : o ≠ p := fun z => x.n4 (by rw [z]; exact List.mem_map_of_mem (f := (·.1)) hm)
  have nql : q ≠ l := fun z => x.n3 (by rw [z]; exact List.mem_map_of_mem (f := (·.2)) hm)
  refine ⟨⟨dx, f.2 _ _ (fun z => by rw [z, hP] at ob; cases ob) nop (fun z => by rw [z, g4] at ob; cases ob) ob⟩, f.2 _ _ (fun z => by have := x.ql; rw [z, hP] at this; cases this) (fun z => by have := x.ql; rw [z, g1] at this; cases this) nql x.ql, ?_, x.n1, x.n2, x.n3, x.n4⟩
  have others : Paired (fun (pl : Addr × Addr) (st : PS) => pl ≠ (p, l) → PtA CP pl.1 pl.2 st.1 st.2.1 st.2.2 0 H') ps sts := by
    refine paired_of x.len fun i pl s1 h1 h2 np => ?_
    obtain ⟨p2, l2, e2, y2⟩ := x.get h2
    rw [h1] at e2
    cases e2
    have ij : i ≠ j := fun z => np (by rw [z, hj] at h1; exact (Option.some.inj h1).symm)
    exact y2.other t ⟨_, _, _, g1⟩ ⟨_, g4⟩ f (nodup_ne x.n1 h1 hj ij) (nodup_ne x.n2 h1 hj ij)
  refine paired_of (by rw [List.length_set]; exact x.len) fun i pl s1 h1 h2 => ?_
  by_cases ij : i = j
  · subst ij
    rw [List.getElem?_set_self hlt] at h2
    cases h2
    rw [hj] at h1
    cases h1
    exact n
  · rw [List.getElem?_set_ne (fun z => ij z.symm)] at h2
    obtain ⟨y, hy, q⟩ := paired_get others h1
    rw [h2] at hy
    cases hy
    exact q fun z => nodup_ne x.n1 h1 hj ij (by rw [z])
theorem LogA.ex {CL CP o q : Addr} {ps : List (Addr × Addr)} {sts : List PS} {H H' : Hp} (x : LogA CL CP o q ps sts H) (e : KS.Ex H H') : LogA CL CP o q ps sts H' := by
  obtain ⟨dx, ob⟩ := x.ob
  exact ⟨⟨dx, e _ _ ob⟩, e _ _ x.ql, Parts.ex x.pt e, x.n1, x.n2, x.n3, x.n4⟩
theorem LogA.tb {CL CP Ps o q : Addr} {ps : List (Addr × Addr)} {sts : List PS} {H H' : Hp} (x : LogA CL CP o q ps sts H) (t : TabS H Ps qK) (e : Tb Ps H H') : LogA CL CP o q ps sts H' := by
  obtain ⟨dx, ob⟩ := x.ob
  obtain ⟨tb, hP, _⟩ := id t
  have ql := x.ql
  exact ⟨⟨dx, e.2 _ _ (fun z => by rw [z, hP] at ob; cases ob) ob⟩, e.2 _ _ (fun z => by rw [z, hP] at ql; cases ql) ql, Parts.of x.pt fun _ _ _ y => y.tb t e, x.n1, x.n2, x.n3, x.n4⟩
def app1 (st : PS) (x : Rc) : PS := (st.1, st.2.1 ++ recL x, st.2.2 ++ [x])
def numK (k : List Key) (n : Nat) : Nat := (hashL (rowL tabL k) % (n : Int)).toNat
theorem numK_eq {k : List Key} {n : Nat} (h : 0 < n) : hashL (rowL tabL k) % (n : Int) = ((numK k n : Nat) : Int) ∧ numK k n < n := by
  have h1 := Int.emod_nonneg (hashL (rowL tabL k)) (b := (n : Int)) (by omega)
  have h2 := Int.emod_lt_of_pos (hashL (rowL tabL k)) (b := (n : Int)) (by omega)
  unfold numK
  omega
@[irreducible] def spPO (CL CP Ps : Addr) : Sp := fun vs H Q _ => ∃ (o q a : Addr) (ps : List (Addr × Addr)) (sts : List PS) (k : List Key), vs = [.ref o, .ref a] ∧ LogA CL CP o q ps sts H ∧ 0 < ps.length ∧ H a = some (.tup (k.map kV)) ∧ (∀ x ∈ k, OkV x) ∧ k.length ≤ 25 ∧ TabS H Ps qK ∧ ∀ H', Tb Ps H H' → Q (.int ((numK k ps.length : Nat) : Int)) H'
theorem po_step {CL CP Ps o q a : Addr} {ps : List (Addr × Addr)} {sts : List PS} {k : List Key} {H : Hp} {Q : VK} {E : XK} (x : LogA CL CP o q ps sts H) (hn : 0 < ps.length) (ha : H a = some (.tup (k.map kV))) (ok : ∀ x ∈ k, OkV x) (hk : k.length ≤ 25) (t : TabS H Ps qK) (fin : ∀ H', Tb Ps H H' → Q (.int ((numK k ps.length : Nat) : Int)) H') : spPO CL CP Ps [.ref o, .ref a] H Q E := by
  unfold spPO
  exact ⟨o, q, a, ps, sts, k, rfl, x, hn, ha, ok, hk, t, fin⟩
theorem hash_step {Ps r : Addr} {k : List Key} {H : Hp} {Q : VK} {E : XK} (h : H r = some (.tup (k.map kV))) (ok : ∀ x ∈ k, OkV x) (hk : k.length ≤ 25) (t : TabS H Ps qK) (fin : ∀ H', Tb Ps H H' → Q (.int (hashL (rowL tabL k))) H') : spHash Ps [.ref r] H Q E := by
  unfold spHash
  exact ⟨r, k, rfl, h, ok, hk, t, fin⟩
@[irreducible] def spLA (CL CP Ps : Addr) : Sp := fun vs H Q _ => ∃ (o q a b : Addr) (ps : List (Addr × Addr)) (sts : List PS) (st : PS) (x : Rc), vs = [.ref o, .ref a, .ref b, .int (x.2.2 : Nat)] ∧ LogA CL CP o q ps sts H ∧ 0 < ps.length ∧ sts[numK x.1 ps.length]? = some st ∧ st.2.1.length ≤ 10000 ∧ st.2.2.length ≤ 10000 ∧
  H a = some (.tup (x.1.map kV)) ∧ H b = some (.tup (x.2.1.map kV)) ∧ OkB x ∧ TabS H Ps qK ∧ ∀ H' z, FrL Ps ps H H' → LogA CL CP o q ps (sts.set (numK x.1 ps.length) (app1 st x)) H' → H' z = some (.tup [.int ((numK x.1 ps.length : Nat) : Int), .int ((st.2.2.length : Nat) : Int)]) → Q (.ref z) H'
theorem la_step {CL CP Ps o q a b : Addr} {ps : List (Addr × Addr)} {sts : List PS} {st : PS} {x : Rc} {H : Hp} {Q : VK} {E : XK} (y : LogA CL CP o q ps sts H) (hn : 0 < ps.length) (hs : sts[numK x.1 ps.length]? = some st) (b1 : st.2.1.length ≤ 10000) (b2 : st.2.2.length ≤ 10000)
    (ha : H a = some (.tup (x.1.map kV))) (hb : H b = some (.tup (x.2.1.map kV))) (ok : OkB x) (t : TabS H Ps qK) (fin : ∀ H' z, FrL Ps ps H H' → LogA CL CP o q ps (sts.set (numK x.1 ps.length) (app1 st x)) H' → H' z = some (.tup [.int ((numK x.1 ps.length : Nat) : Int), .int ((st.2.2.length : Nat) : Int)]) → Q (.ref z) H') : spLA CL CP Ps [.ref o, .ref a, .ref b, .int (x.2.2 : Nat)] H Q E := by
  unfold spLA
  exact ⟨o, q, a, b, ps, sts, st, x, rfl, y, hn, hs, b1, b2, ha, hb, ok, t, fin⟩
section
variable {P : Program} {w : World} {K : PySem.W.Frag} {mg : Str → Option Value} {base : Heap} {f fH fO fA fS CL CP CG CR Ps : Addr} {fd fdH fdO fdA fdS : FuncData}
theorem scPO : FnScope ["self", "key"] ["self", "key"] (defScope (sOM 1)) := ⟨rfl, rfl, rfl, by decide +kernel, rfl, by decide +kernel, by decide +kernel⟩
theorem ok_partof (F : FnP K "part_of" "Log.part_of" (sOM 1) [] f fd) (O : TxtO K mg CL) (TL : TxtL mg) (GH : FnOk P w K mg base (L2.CX P w) 4 fH fdH ["row"] (spHash Ps)) (gH : mg "hash_of" = some (.ref fH)) (kH : PySem.W.keepIn K (.ref fH) = true) (bH : Binds K fdH ["row"] []) : FnOk P w K mg base CX0 5 f fd ["self", "key"] (spPO CL CP Ps) := by
  refine F.ok scPO (fun vs H Q E h => ?_) (fun cdv A outer s H vs Q E hr h => ?_)
  · unfold spPO at h
    obtain ⟨_, _, _, _, _, _, rfl, _⟩ := h; rfl
  · unfold spPO at h
    obtain ⟨o, q, a, ps, sts, k, rfl, x, hn, ha, ok, hk, t, fin⟩ := h
    refine ⟨_, PSs.nox <| pss_one (ps_ret (pe_op op_mod (pe_call GH hr (by rfl) gH kH bH (E := fun _ _ _ => False) .nil (passes_call L2.takes0 (fun _ _ _ _ h => h)) (pa_cons (pv 1) pa_nil)) (pe_callB call_len_seq (by rfl) TL.len (by decide +kernel) (pa_cons (pf 0) pa_nil)))), ?_⟩
    refine ⟨_, rfl, hash_step ha ok hk t fun H1 t1 => ?_⟩
    have x1 := x.tb t t1
    obtain ⟨dx, ob⟩ := x1.ob
    refine ⟨_, rfl, o, CL, dx, _, _, rfl, ob, O.cl, O.p, rfl, q, _, rfl, .inl (SqL.of x1.ql), _, _, rfl, rfl, ?_, ?_⟩
    · show (0 : Int) < _
      rw [List.length_map]
      omega
    · have e := (numK_eq (k := k) hn).1
      rw [List.length_map]
      show Q (V.int (hashL (rowL tabL k) % (ps.length : Int))) H1
      rw [e]
      exact fin H1 t1
theorem scLA : FnScope ["self", "key", "row", "time", "number"] ["self", "key", "row", "time"] (defScope (sOM 2)) := ⟨rfl, rfl, rfl, by decide +kernel, rfl, by decide +kernel, by decide +kernel⟩
theorem ok_lapp (F : FnP K "append" "Log.append" (sOM 2) [] f fd) (O : TxtO K mg CL) (T : TxtP K mg CP) (mO : Meth K CL "part_of" fO) (GO : FnOk P w K mg base CX0 5 fO fdO ["self", "key"] (spPO CL CP Ps)) (bO : Binds K fdO ["self", "key"] [])
    (mA : Meth K CP "append" fA) (GA : FnOk P w K mg base (L2.CX P w) 5 fA fdA ["self", "key", "row", "time"] (spPA CP CG CR Ps)) (bA : Binds K fdA ["self", "key", "row", "time"] []) : FnOk P w K mg base CX0 6 f fd ["self", "key", "row", "time"] (spLA CL CP Ps) := by
  refine F.ok scLA (fun vs H Q E h => ?_) (fun cdv A outer s H vs Q E hr h => ?_)
  · unfold spLA at h
    obtain ⟨_, _, _, _, _, _, _, _, rfl, _⟩ := h; rfl
  · unfold spLA at h
    obtain ⟨o, q, a, b, ps, sts, st, x, rfl, y, hn, hs, b1, b2, ha, hb, ok, t, fin⟩ := h
    refine ⟨_, PSs.nox <| pss_cons (ps_set (i := 4) scLA.nd rfl (Or.inl rfl) (pe_meth (pv 0) O.cl mO GO hr bO .nil pass0 (pa_cons (pv 1) pa_nil)))
      (pss_one (ps_ret (pe_tup (pa_cons (pv 4) (pa_cons (pe_meth (pe_ix ix_listD (pf 0) (pv 4) (fun _ _ => rfl)) T.cl mA GA hr bA (E := fun _ _ _ => False) .nil (passes_call L2.takes0 (fun _ _ _ _ h => h)) (pa_cons (pv 1) (pa_cons (pv 2) (pa_cons (pv 3) pa_nil)))) pa_nil))))), ?_⟩
    obtain ⟨dx, ob⟩ := y.ob
    have hk := ok.kl
    refine ⟨_, rfl, o, dx, _, rfl, ob, rfl, _, rfl, po_step y hn ha ok.kv (by omega) t fun H1 t1 => ?_⟩
    have y1 := y.tb t t1
    obtain ⟨dx1, ob1⟩ := y1.ob
    have k1 := kt_tb t t1
    obtain ⟨p, l, hj, pt⟩ := y1.get hs
    obtain ⟨dp, k, v', ts, h1, _⟩ := id pt
    refine ⟨_, rfl, _, rfl, o, CL, dx1, _, _, rfl, ob1, O.cl, O.p, rfl, _, rfl, q, _, _, _, rfl, rfl, y1.ql, atI_nat (v := V.ref p) (by rw [List.getElem?_map, hj]; rfl), p, dp, _, rfl, h1, rfl, _, rfl, _, rfl, _, rfl, ?_⟩
    refine app_step pt b1 b2 (k1 _ _ ha) (k1 _ _ hb) ok t1.1 fun H2 f2 pt2 => ?_
    refine ⟨(by show 2 ≤ sizeLine; decide), fun z hz => ?_⟩
    have f3 : FrL Ps ps H H2 := (FrL.tb t1).trans (FrL.fp f2 (List.mem_of_getElem? hj))
    have y2 : LogA CL CP o q ps (sts.set (numK x.1 ps.length) (app1 st x)) H2 := y1.set t1.1 hj f2 pt2
    have e4 : KS.Ex H2 (upd H2 z (.tup [.int ((numK x.1 ps.length : Nat) : Int), .int ((0 + st.2.2.length : Nat) : Int)])) := Ex.upd hz
    have hz4 : (upd H2 z (.tup [.int ((numK x.1 ps.length : Nat) : Int), .int ((0 + st.2.2.length : Nat) : Int)])) z = some (.tup [.int ((numK x.1 ps.length : Nat) : Int), .int ((st.2.2.length : Nat) : Int)]) := by rw [upd_same, Nat.zero_add]
    exact fin _ z (f3.trans (FrL.ex f3.1 e4)) (y2.ex e4) hz4
end
end KL9
set_option Elab.async false
set_option linter.all false
set_option maxRecDepth 100000
set_option maxHeartbeats 4000000
namespace KL9
open PySem PySem.Spec PyProof.Rows L2 KB KC KS KN1 LamX K7
theorem LogA.lists {CL CP o q : Addr} {ps : List (Addr × Addr)} {sts : List PS} {H : Hp} (x : LogA CL CP o q ps sts H) {l : Addr} (hl : l ∈ ps.map (·.2)) : ∃ ys, H l = some (.lst ys) := by
  obtain ⟨pl, hpl, e⟩ := List.mem_map.mp hl
  obtain ⟨j, hj, ej⟩ := List.mem_iff_getElem.mp hpl
  obtain ⟨y, _, _, _, _, _, _, _, _, z, _⟩ := paired_get (G := fun (pl : Addr × Addr) (st : PS) => PtA CP pl.1 pl.2 st.1 st.2.1 st.2.2 0 H) x.pt (List.getElem?_eq_getElem hj)
  exact ⟨_, by rw [← e, ← ej]; exact z⟩
theorem LogA.insts {CL CP o q : Addr} {ps : List (Addr × Addr)} {sts : List PS} {H : Hp} (x : LogA CL CP o q ps sts H) {p : Addr} (hp : p ∈ ps.map (·.1)) : ∃ C d fs, H p = some (.ins C d fs) := by
  obtain ⟨pl, hpl, e⟩ := List.mem_map.mp hp
  obtain ⟨j, hj, ej⟩ := List.mem_iff_getElem.mp hpl
  obtain ⟨y, _, _, _, _, _, z, _⟩ := paired_get (G := fun (pl : Addr × Addr) (st : PS) => PtA CP pl.1 pl.2 st.1 st.2.1 st.2.2 0 H) x.pt (List.getElem?_eq_getElem hj)
  exact ⟨_, _, _, by rw [← e, ← ej]; exact z⟩
section
variable {CL CP Ps o q : Addr} {ps : List (Addr × Addr)} {sts sts' : List PS} {H H' : Hp}
theorem FrL.keepO (f : FrL Ps ps H H') (x : LogA CL CP o q ps sts H) (t : TabS H Ps qK) {b : Addr} {u : HO} (h : H b = some u) (n1 : ∀ tb, u ≠ .tbl tb) (n2 : ∀ C d fs, u ≠ .ins C d fs) (n3 : ∀ ys, u ≠ .lst ys) : H' b = some u := by
  obtain ⟨tb, hP, _⟩ := t
  refine f.2 b u (fun z => by rw [z, hP] at h; exact n1 _ (Option.some.inj h).symm) (fun z => ?_) (fun z => ?_) h
  · obtain ⟨C, d, fs, e⟩ := x.insts z
    rw [h] at e; exact n2 _ _ _ (Option.some.inj e)
  · obtain ⟨ys, e⟩ := x.lists z
    rw [h] at e; exact n3 _ (Option.some.inj e)
theorem FrL.keepI (f : FrL Ps ps H H') (x : LogA CL CP o q ps sts H) (t : TabS H Ps qK) {b C d : Addr} {fs : List (Str × V)} (h : H b = some (.ins C d fs)) (n : b ∉ ps.map (·.1)) : H' b = some (.ins C d fs) := by
  obtain ⟨tb, hP, _⟩ := t
  refine f.2 b _ (fun z => by rw [z, hP] at h; cases h) n (fun z => ?_) h
  obtain ⟨ys, e⟩ := x.lists z
  rw [h] at e; cases e
theorem FrL.keepL (f : FrL Ps ps H H') (x : LogA CL CP o q ps sts H) (t : TabS H Ps qK) {b : Addr} {ys : List V} (h : H b = some (.lst ys)) (n : b ∉ ps.map (·.2)) : H' b = some (.lst ys) := by
  obtain ⟨tb, hP, _⟩ := t
  refine f.2 b _ (fun z => by rw [z, hP] at h; cases h) (fun z => ?_) n h
  obtain ⟨_, _, _, e⟩ := x.insts z
  rw [h] at e; cases e
theorem FrL.kt (f : FrL Ps ps H H') (x : LogA CL CP o q ps sts H) (t : TabS H Ps qK) : KT' H H' := fun b xs h => f.keepO x t h (fun _ z => by cases z) (fun _ _ _ z => by cases z) (fun _ z => by cases z)
theorem FrL.back (f : FrL Ps ps H H') (y : LogA CL CP o q ps sts' H') {b : Addr} (h : H' b = none) : H b = none := by
  cases e : H b with
  | none => rfl
  | some u =>
    exfalso
    by_cases c1 : b = Ps
    · obtain ⟨tb, hP, _⟩ := f.1
      rw [c1, hP] at h; cases h
    · by_cases c2 : b ∈ ps.map (·.1)
      · obtain ⟨_, _, _, z⟩ := y.insts c2
        rw [h] at z; cases z
      · by_cases c3 : b ∈ ps.map (·.2)
        · obtain ⟨_, z⟩ := y.lists c3
          rw [h] at z; cases z
        · rw [f.2 b u c1 c2 c3 e] at h; cases h
theorem LogA.keep (x : LogA CL CP o q ps sts H) (hi : ∀ b C d fs, H b = some (.ins C d fs) → H' b = some (.ins C d fs)) (ht : KT' H H') (hl : ∀ b ys, b = q ∨ b ∈ ps.map (·.2) → H b = some (.lst ys) → H' b = some (.lst ys)) : LogA CL CP o q ps sts H' := by
  obtain ⟨dx, ob⟩ := x.ob
  refine ⟨⟨dx, hi _ _ _ _ ob⟩, hl _ _ (.inl rfl) x.ql, Parts.of x.pt fun pl st hm ⟨dy, k, v, ts, h1, h2, h3, h4, h5⟩ => ⟨dy, k, v, ts, hi _ _ _ _ h1, ht _ _ h2, ht _ _ h3, hl _ _ (.inr (List.mem_map_of_mem hm)) h4, h5.kt ht⟩, x.n1, x.n2, x.n3, x.n4⟩
end
section
variable {P : Program} {w : World} {K : PySem.W.Frag} {mg : Str → Option Value} {base : Heap} {f fA CD CL CP CG Ps : Addr} {fd fdA : FuncData}
end
end KL9
set_option Elab.async false
set_option linter.all false
set_option maxRecDepth 100000
set_option maxHeartbeats 4000000
namespace KL9
open PySem PySem.Spec PyProof.Rows L2 KB KC KS KN1 LamX K7
inductive Smp : Nat → PyData → Prop
  | int {n : Nat} (i : Int) : Smp n (.int i)
  | str {n : Nat} {z : Str} : PyData.strOk z = true → Smp n (.str z)
  | lst {n : Nat} {xs : List PyData} : (∀ x ∈ xs, Smp n x) → Smp (n + 1) (.list xs)
  | tup {n : Nat} {xs : List PyData} : (∀ x ∈ xs, Smp n x) → Smp (n + 1) (.tuple xs)
theorem lay_all {xs : List PyData} {n : Nat} (h : ∀ x ∈ xs, PyData.canLay0 x = true ∧ PyData.depth x ≤ n) : PyData.canLayAll0 xs = true ∧ PyData.depthAll xs ≤ n := by
  induction xs with
  | nil => exact ⟨rfl, Nat.zero_le _⟩
  | cons x r ih =>
    obtain ⟨a, b⟩ := h x List.mem_cons_self
    obtain ⟨c, d⟩ := ih fun y hy => h y (List.mem_cons_of_mem _ hy)
    refine ⟨?_, ?_⟩
    · show (PyData.canLay0 x && PyData.canLayAll0 r) = true
      rw [a, c]; rfl
    · show max (PyData.depth x) (PyData.depthAll r) ≤ n
      omega
theorem Smp.lay {n : Nat} {d : PyData} (h : Smp n d) : PyData.canLay0 d = true ∧ PyData.depth d ≤ n := by
  induction h with
  | int i => exact ⟨rfl, Nat.zero_le _⟩
  | str hz => exact ⟨by show PyData.strOk _ = true; exact hz, Nat.zero_le _⟩
  | lst _ ih =>
    obtain ⟨a, b⟩ := lay_all ih
    exact ⟨a, by show PyData.depthAll _ + 1 ≤ _; omega⟩
  | tup _ ih =>
    obtain ⟨a, b⟩ := lay_all ih
    exact ⟨a, by show PyData.depthAll _ + 1 ≤ _; omega⟩
theorem Smp.shaped {n : Nat} {d : PyData} (h : Smp n d) (hn : n ≤ 64) : SeqAt.shaped d = true := by
  obtain ⟨a, b⟩ := h.lay
  unfold SeqAt.shaped
  rw [a, decide_eq_true (by omega)]; rfl
theorem no_iff {a : Bool} {P : Prop} (ha : a = false) (hp : ¬ P) : a = true ↔ P := ⟨fun z => (by rw [ha] at z; cases z), fun z => absurd z hp⟩
theorem eqvAll_iff {xs : List PyData} (h : ∀ x ∈ xs, ∀ e, (∃ m, Smp m e) → (PyData.eqv x e = true ↔ x = e)) : ∀ ys : List PyData, (∀ y ∈ ys, ∃ m, Smp m y) → (PyData.eqvAll xs ys = true ↔ xs = ys) := by
  induction xs with
  | nil =>
    intro ys _
    cases ys with
    | nil => exact ⟨fun _ => rfl, fun _ => rfl⟩
    | cons y r => exact no_iff rfl (fun z => by cases z)
  | cons x r ih =>
    intro ys hy
    cases ys with
    | nil => exact no_iff rfl (fun z => by cases z)
    | cons y q =>
      show (PyData.eqv x y && PyData.eqvAll r q) = true ↔ _
      rw [Bool.and_eq_true, h x List.mem_cons_self y (hy y List.mem_cons_self), ih (fun z hz => h z (List.mem_cons_of_mem _ hz)) q fun z hz => hy z (List.mem_cons_of_mem _ hz)]
      constructor
      · rintro ⟨rfl, rfl⟩; rfl
      · intro e; injection e with e1 e2; exact ⟨e1, e2⟩
theorem Smp.eqv {n : Nat} {d : PyData} (h : Smp n d) : ∀ e : PyData, (∃ m, Smp m e) → (PyData.eqv d e = true ↔ d = e) := by
  induction h with
  | int i =>
    rintro e ⟨m, he⟩
    cases he with
    | int j => rw [eqv_int, decide_eq_true_eq]; exact ⟨fun z => by rw [z], fun z => by injection z⟩
    | str _ => exact no_iff rfl (fun z => by cases z)
    | lst _ => exact no_iff rfl (fun z => by cases z)
    | tup _ => exact no_iff rfl (fun z => by cases z)
  | str hz =>
    rintro e ⟨m, he⟩
    cases he with
    | int j => exact no_iff rfl (fun z => by cases z)
    | str _ => rw [eqv_str, decide_eq_true_eq]; exact ⟨fun z => by rw [z], fun z => by injection z⟩
    | lst _ => exact no_iff rfl (fun z => by cases z)
    | tup _ => exact no_iff rfl (fun z => by cases z)
  | lst _ ih =>
    rintro e ⟨m, he⟩
    cases he with
    | int j => exact no_iff rfl (fun z => by cases z)
    | str _ => exact no_iff rfl (fun z => by cases z)
    | lst hy =>
      show PyData.eqvAll _ _ = true ↔ _
      rw [eqvAll_iff ih _ fun y hm => ⟨_, hy y hm⟩]
      exact ⟨fun z => by rw [z], fun z => by injection z⟩
    | tup _ => exact no_iff rfl (fun z => by cases z)
  | tup _ ih =>
    rintro e ⟨m, he⟩
    cases he with
    | int j => exact no_iff rfl (fun z => by cases z)
    | str _ => exact no_iff rfl (fun z => by cases z)
    | lst _ => exact no_iff rfl (fun z => by cases z)
    | tup hy =>
      show PyData.eqvAll _ _ = true ↔ _
      rw [eqvAll_iff ih _ fun y hm => ⟨_, hy y hm⟩]
      exact ⟨fun z => by rw [z], fun z => by injection z⟩
theorem Smp.refl {n : Nat} {d : PyData} (h : Smp n d) : PyData.eqv d d = true := (h.eqv d ⟨n, h⟩).mpr rfl
theorem Smp.ne {n m : Nat} {d e : PyData} (h : Smp n d) (k : Smp m e) (ne : d ≠ e) : PyData.eqv d e = false := by
  cases z : PyData.eqv d e with
  | false => rfl
  | true => exact absurd ((h.eqv e ⟨m, k⟩).mp z) ne
theorem ne_same {K : PySem.W.Frag} {H : Hp} {Q : VK} {x y : V} {d : PyData} {n : Nat} (hx : Dp K H x d) (hy : Dp K H y d) (h : Smp n d) (hn : n ≤ 64) (q : Q (.bl false) H) : rNeD K x y H Q :=
  ⟨d, d, hx, hy, h.shaped hn, h.shaped hn, by rw [h.refl]; exact q⟩
end KL9
set_option Elab.async false
set_option linter.all false
set_option maxRecDepth 100000
set_option maxHeartbeats 4000000
namespace KL9
open PySem PySem.Spec PyProof.Rows L2 KB KC KS KN1 LamX K7
theorem int_ok {n : Nat} (h : n ≤ 1000) : -(2 ^ 1990) < (n : Int) ∧ (n : Int) < 2 ^ 1990 := by
  have big : (1001 : Int) < 2 ^ 1990 := by decide +kernel
  omega
theorem valL_int {n : Nat} (h : n < 128) : valL tabL (.inl (n : Int)) = [0, (n : Int)] := by
  rw [valL_pos tabL (by omega), Int.toNat_natCast, natL_small h]
theorem natL_two {n : Nat} (h : n < 300) : (natL n).length ≤ 2 := by
  by_cases c : n < 128
  · rw [natL_small c]; show 1 ≤ 2; decide
  · rw [natL_big c, natL_small (by omega)]; show 2 ≤ 2; decide
def dK : Key → PyData
  | .inl i => .int i
  | .inr s => .str s
def rD (k : List Key) : PyData := .tuple (k.map dK)
def rcD (x : Rc) : PyData := .tuple [rD x.1, rD x.2.1, .int (x.2.2 : Nat)]
theorem dp_kV (K : PySem.W.Frag) (H : Hp) (x : Key) : Dp K H (kV x) (dK x) := by
  cases x with
  | inl i => exact .int i
  | inr s => exact .str s
theorem dp_r (K : PySem.W.Frag) {H : Hp} {q : Addr} {k : List Key} (h : H q = some (.tup (k.map kV))) : Dp K H (.ref q) (rD k) := by
  refine .tup (SqT.of h) ?_
  have go : ∀ r : List Key, DpAll K H (r.map kV) (r.map dK) := fun r => by
    induction r with
    | nil => exact .nil
    | cons y r ih => exact .cons (dp_kV K H y) ih
  exact go k
theorem dp_rc (K : PySem.W.Frag) {H : Hp} {t : Addr} {x : Rc} (h : RecAt H t x) : Dp K H (.ref t) (rcD x) := by
  obtain ⟨a, b, h1, h2, h3⟩ := h
  exact .tup (SqT.of h1) (.cons (dp_r K h2) (.cons (dp_r K h3) (.cons (.int _) .nil)))
theorem dp_recs (K : PySem.W.Frag) {H : Hp} {ts : List Addr} {xs : List Rc} (h : Recs H ts xs) : DpAll K H (ts.map V.ref) (xs.map rcD) := by
  unfold Recs at h
  induction h with
  | nil => exact .nil
  | cons a r ih => exact .cons (dp_rc K a) ih
theorem smp_int (n : Nat) (k : Int) : Smp n (dK (.inl k)) := .int k
theorem roll_step {H : Hp} {d : Addr} {m : Int} {Q : VK} {E : XK} (i : IsDice H d) (h0 : 0 < m) (h1 : m ≤ 100000000) (q : ∀ r H', 0 ≤ r → r < m → ExD d H H' → IsDice H' d → Q (.int r) H') : spRoll [.ref d, .int m] H Q E := by
  unfold spRoll
  exact ⟨d, m, rfl, i, h0, h1, fun r a b k l u => q r _ l u (fun c o n e => by rw [L2.upd_ne n]; exact e) ⟨a, b, k, upd_same⟩⟩
theorem rounds_step {K : PySem.W.Frag} {H : Hp} {s : Addr} {ns : List Int} {Q : VK} {E : XK} (h : SqL K H s (ns.map V.int)) (fin : ∀ H' p d, Ex H H' → H' p = some (.lst [.ref d]) → IsDice H' d → Q (.ref p) H') : spRounds K [.ref s, .int 1] H Q E := by
  unfold spRounds
  exact ⟨s, ns, rfl, h, fin⟩
theorem IsDice.ex {H H' : Hp} {d : Addr} (h : IsDice H d) (e : KS.Ex H H') : IsDice H' d := by
  obtain ⟨x, y, z, hd⟩ := h
  exact ⟨x, y, z, e _ _ hd⟩
section
variable {P : Program} {w : World} {K : PySem.W.Frag} {mg : Str → Option Value} {base : Heap} {f fR : Addr} {fd fdR : FuncData}
end
end KL9
set_option Elab.async false
set_option linter.all false
set_option maxRecDepth 100000
set_option maxHeartbeats 2000000
namespace Q9
open PySem L2
abbrev Id := Str × Nat × Nat
inductive Ev where
  | add (k : List Key) (s : List Key × Nat) (d : Id)
  | mark (w : Nat) (d : Id)
  deriving DecidableEq
def stat (L : List Ev) (d : Id) : Nat := if Ev.mark 1 d ∈ L then 1 else if Ev.mark 2 d ∈ L then 2 else 0
def isOpen (L : List Ev) (i : Nat) : Bool := match L[i]? with
  | some (.add _ _ d) => decide (stat L d = 0)
  | _ => false
def opens (L : List Ev) : List Nat := (List.range L.length).filter (isOpen L)
def endL (L : List Ev) : Nat := (opens L).head?.getD L.length
def dueAt (L : List Ev) (i : Nat) : Option (Nat × List Key × List Key × Nat) := match L[i]? with
  | some (.add k s d) => if stat L d = 1 then some (i, k, s) else none
  | _ => none
def dueL (L : List Ev) (e : Nat) : List (Nat × List Key × List Key × Nat) := (List.range e).filterMap (dueAt L)
theorem mem_opens {L : List Ev} {i : Nat} : i ∈ opens L ↔ isOpen L i = true := by
  unfold opens
  rw [List.mem_filter, List.mem_range]
  constructor
  · exact fun h => h.2
  · intro h
    refine ⟨?_, h⟩
    unfold isOpen at h
    cases e : L[i]? with
    | none => rw [e] at h; cases h
    | some x => exact (List.getElem?_eq_some_iff.mp e).1
theorem opens_asc (L : List Ev) : (opens L).Pairwise (· < ·) := List.pairwise_lt_range.filter _
theorem endL_le_of {L : List Ev} {i : Nat} (h : isOpen L i = true) : endL L ≤ i := by
  have hm := mem_opens.mpr h
  have ha := opens_asc L
  unfold endL
  cases e : opens L with
  | nil => rw [e] at hm; cases hm
  | cons a r =>
    rw [e] at hm ha
    show a ≤ i
    rcases List.mem_cons.mp hm with z | z
    · omega
    · have := (List.pairwise_cons.mp ha).1 i z
      omega
theorem endL_cases (L : List Ev) : (isOpen L (endL L) = true) ∨ (opens L = [] ∧ endL L = L.length) := by
  unfold endL
  cases e : opens L with
  | nil => exact .inr ⟨rfl, rfl⟩
  | cons a r => exact .inl (mem_opens.mp (by rw [e]; exact List.mem_cons_self))
theorem isOpen_lt {L : List Ev} {i : Nat} (h : isOpen L i = true) : i < L.length := by
  have := mem_opens.mpr h
  unfold opens at this
  exact List.mem_range.mp (List.mem_filter.mp this).1
theorem endL_le (L : List Ev) : endL L ≤ L.length := by
  rcases endL_cases L with h | ⟨_, h⟩
  · exact Nat.le_of_lt (isOpen_lt h)
  · exact Nat.le_of_eq h
theorem endL_min {L : List Ev} {m : Nat} (h1 : m = L.length ∨ isOpen L m = true) (h2 : m ≤ L.length) (h3 : ∀ i, isOpen L i = true → m ≤ i) : m = endL L := by
  rcases endL_cases L with h | ⟨h, e⟩
  · have := h3 _ h
    rcases h1 with z | z
    · have := isOpen_lt h; omega
    · have := endL_le_of z; omega
  · rcases h1 with z | z
    · omega
    · have := mem_opens.mpr z
      rw [h] at this; cases this
structure Marks (L : List Ev) : Prop where
  one : ∀ d w w', Ev.mark w d ∈ L → Ev.mark w' d ∈ L → w = w'
  kind : ∀ d w, Ev.mark w d ∈ L → w = 1 ∨ w = 2
theorem stat_of {L : List Ev} (m : Marks L) {d : Id} {w : Nat} (h : Ev.mark w d ∈ L) : stat L d = w := by
  unfold stat
  rcases m.kind _ _ h with z | z
  · subst z; rw [if_pos h]
  · subst z
    rw [if_neg (fun y => by have := m.one _ _ _ h y; omega), if_pos h]
theorem stat_zero {L : List Ev} (m : Marks L) {d : Id} : stat L d = 0 ↔ ∀ w, Ev.mark w d ∉ L := by
  constructor
  · intro h w hw
    have := stat_of m hw
    rcases m.kind _ _ hw with z | z <;> omega
  · intro h
    unfold stat
    rw [if_neg (h 1), if_neg (h 2)]
theorem stat_ext {L L' : List Ev} (m : Marks L) (m' : Marks L') (hp : ∀ x, x ∈ L → x ∈ L') {d : Id} (h : stat L d ≠ 0) : stat L' d = stat L d := by
  by_cases c : ∃ w, Ev.mark w d ∈ L
  · obtain ⟨w, hw⟩ := c
    rw [stat_of m hw, stat_of m' (hp _ hw)]
  · exact absurd ((stat_zero m).mpr fun w hw => c ⟨w, hw⟩) h
theorem get_pre {L M : List Ev} {i : Nat} (h : i < L.length) : (L ++ M)[i]? = L[i]? := List.getElem?_append_left h
theorem open_back {L M : List Ev} (m : Marks L) (m' : Marks (L ++ M)) {i : Nat} (hi : i < L.length) (h : isOpen (L ++ M) i = true) : isOpen L i = true := by
  unfold isOpen at h ⊢
  rw [get_pre hi] at h
  cases e : L[i]? with
  | none => rw [e] at h; cases h
  | some x =>
    rw [e] at h
    cases x with
    | mark w d => cases h
    | add k s d =>
      simp only [decide_eq_true_eq] at h ⊢
      rw [stat_zero m]
      rw [stat_zero m'] at h
      exact fun w hw => h w (List.mem_append_left _ hw)
theorem endL_mono {L M : List Ev} (m : Marks L) (m' : Marks (L ++ M)) : endL L ≤ endL (L ++ M) := by
  have hl := endL_le L
  rcases endL_cases (L ++ M) with h | ⟨_, h⟩
  · by_cases c : endL (L ++ M) < L.length
    · exact endL_le_of (open_back m m' c h)
    · omega
  · rw [h, List.length_append]; omega
theorem due_pre {L M : List Ev} (m : Marks L) (m' : Marks (L ++ M)) {i : Nat} (hi : i < endL L) : dueAt (L ++ M) i = dueAt L i := by
  have hl := endL_le L
  unfold dueAt
  rw [get_pre (by omega)]
  cases e : L[i]? with
  | none => rfl
  | some x =>
    cases x with
    | mark w d => rfl
    | add k s d =>
      simp only
      have hn : stat L d ≠ 0 := fun z => by
        have : isOpen L i = true := by unfold isOpen; rw [e]; simpa using z
        have := endL_le_of this
        omega
      rw [stat_ext m m' (fun x hx => List.mem_append_left _ hx) hn]
theorem fm_congr {α β : Type} {f g : α → Option β} : ∀ {l : List α}, (∀ x ∈ l, f x = g x) → l.filterMap f = l.filterMap g
  | [], _ => rfl
  | x :: r, h => by rw [List.filterMap_cons, List.filterMap_cons, h x List.mem_cons_self, fm_congr fun y hy => h y (List.mem_cons_of_mem _ hy)]
theorem dueL_take {L M : List Ev} (m : Marks L) (m' : Marks (L ++ M)) : (dueL (L ++ M) (endL (L ++ M))).take (dueL L (endL L)).length = dueL L (endL L) := by
  have hm := endL_mono m m'
  obtain ⟨k, hk⟩ : ∃ k, endL (L ++ M) = endL L + k := ⟨endL (L ++ M) - endL L, by omega⟩
  have e : dueL (L ++ M) (endL (L ++ M)) = dueL L (endL L) ++ ((List.range k).map (endL L + ·)).filterMap (dueAt (L ++ M)) := by
    unfold dueL
    rw [hk, List.range_add, List.filterMap_append]
    congr 1
    exact fm_congr fun i hi => due_pre m m' (List.mem_range.mp hi)
  rw [e, List.take_left]
abbrev Dl := Nat × Nat × List (Nat × Nat)
structure Good (many : Nat) (nums : Str → Option Nat) (deals : Str → Option Dl) (L : Nat → List Ev) : Prop where
  at_ : ∀ n x, deals n = some x → ∀ p i, (p, i) ∈ x.2.2 ↔ p < many ∧ ∃ k s, (L p)[i]? = some (Ev.add k s (n, x.1, x.2.1))
  nomark : ∀ n x, deals n = some x → ∀ p w, Ev.mark w (n, x.1, x.2.1) ∉ L p
  num : ∀ p d, ((∃ k s, Ev.add k s d ∈ L p) ∨ ∃ w, Ev.mark w d ∈ L p) → ∃ c, nums d.1 = some c ∧ d.2.2 ≤ c
  cur : ∀ n x, deals n = some x → nums n = some x.2.1
  closed : ∀ p k s d, Ev.add k s d ∈ L p → (∃ x, deals d.1 = some x ∧ d = (d.1, x.1, x.2.1)) ∨ ∃ w, Ev.mark w d ∈ L p
  asc : ∀ n x, deals n = some x → x.2.2.Pairwise fun a b => a.1 = b.1 → a.2 < b.2
  marks : ∀ p, Marks (L p)
  out : ∀ p, many ≤ p → L p = []
section
variable {many : Nat} {nums : Str → Option Nat} {deals : Str → Option Dl} {L : Nat → List Ev}
theorem Good.nil : Good many (fun _ => none) (fun _ => none) (fun _ => []) :=
  ⟨(fun _ _ h => nomatch h), (fun _ _ h => nomatch h), (fun p d h => by rcases h with ⟨_, _, h⟩ | ⟨_, h⟩ <;> cases h), (fun _ _ h => nomatch h), (fun _ _ _ _ h => nomatch h), (fun _ _ h => nomatch h), (fun p => ⟨(fun _ _ _ h => nomatch h), (fun _ _ h => nomatch h)⟩), fun _ _ => rfl⟩
def putF {α : Type} (f : Str → Option α) (n : Str) (x : Option α) : Str → Option α := fun j => if j = n then x else f j
theorem putF_same {α : Type} (f : Str → Option α) (n : Str) (x : Option α) : putF f n x n = x := if_pos rfl
theorem putF_ne {α : Type} (f : Str → Option α) {n j : Str} (x : Option α) (h : j ≠ n) : putF f n x j = f j := if_neg h
theorem Good.begin (g : Good many nums deals L) {n : Str} {a : Nat} (h : deals n = none) : Good many (putF nums n (some ((nums n).getD 0 + 1))) (putF deals n (some (a, (nums n).getD 0 + 1, []))) L := by
  have old : ∀ p d, ((∃ k s, Ev.add k s d ∈ L p) ∨ ∃ w, Ev.mark w d ∈ L p) → d.1 = n → d.2.2 ≤ (nums n).getD 0 := fun p d hd e => by
    obtain ⟨c, h1, h2⟩ := g.num p d hd
    rw [← e, h1]; exact h2
  refine ⟨fun j x hj p i => ?_, fun j x hj p w hw => ?_, fun p d hd => ?_, fun j x hj => ?_, fun p k s d hd => ?_, fun j x hj => ?_, g.marks, g.out⟩
  · by_cases c : j = n
    · subst c
      rw [putF_same] at hj
      cases hj
      refine ⟨(fun z => nomatch z), fun ⟨_, k, s, z⟩ => ?_⟩
      have := old p _ (.inl ⟨k, s, List.mem_of_getElem? z⟩) rfl
      simp only at this
      omega
    · rw [putF_ne _ _ c] at hj
      exact g.at_ j x hj p i
  · by_cases c : j = n
    · subst c
      rw [putF_same] at hj
      cases hj
      have := old p _ (.inr ⟨w, hw⟩) rfl
      simp only at this
      omega
    · rw [putF_ne _ _ c] at hj
      exact g.nomark j x hj p w hw
  · obtain ⟨c, h1, h2⟩ := g.num p d hd
    by_cases e : d.1 = n
    · refine ⟨(nums n).getD 0 + 1, by rw [e, putF_same], ?_⟩
      have := old p d hd e
      omega
    · exact ⟨c, by rw [putF_ne _ _ e]; exact h1, h2⟩
  · by_cases c : j = n
    · subst c
      rw [putF_same] at hj ⊢
      cases hj
      rfl
    · rw [putF_ne _ _ c] at hj ⊢
      exact g.cur j x hj
  · rcases g.closed p k s d hd with ⟨x, h1, h2⟩ | h
    · left
      refine ⟨x, ?_, h2⟩
      rw [putF_ne _ _ (fun z => by rw [z, h] at h1; cases h1)]
      exact h1
    · exact .inr h
  · by_cases c : j = n
    · subst c
      rw [putF_same] at hj
      cases hj
      exact .nil
    · rw [putF_ne _ _ c] at hj
      exact g.asc j x hj
def setL (L : Nat → List Ev) (p : Nat) (l : List Ev) : Nat → List Ev := fun j => if j = p then l else L j
theorem setL_same (L : Nat → List Ev) (p : Nat) (l : List Ev) : setL L p l p = l := if_pos rfl
theorem setL_ne (L : Nat → List Ev) {p j : Nat} (l : List Ev) (h : j ≠ p) : setL L p l j = L j := if_neg h
theorem Good.add (g : Good many nums deals L) {n : Str} {a m p : Nat} {k : List Key} {s : List Key × Nat} {pl : List (Nat × Nat)} (h : deals n = some (a, m, pl)) (hp : p < many) :
    Good many nums (putF deals n (some (a, m, pl ++ [(p, (L p).length)]))) (setL L p (L p ++ [Ev.add k s (n, a, m)])) := by
  have memL : ∀ q e, e ∈ setL L p (L p ++ [Ev.add k s (n, a, m)]) q ↔ e ∈ L q ∨ (q = p ∧ e = Ev.add k s (n, a, m)) := fun q e => by
    by_cases c : q = p
    · subst c; rw [setL_same, List.mem_append, List.mem_singleton]; simp
    · rw [setL_ne _ _ c]; simp [c]
  have getL : ∀ q i e, (setL L p (L p ++ [Ev.add k s (n, a, m)]) q)[i]? = some e ↔ (L q)[i]? = some e ∨ (q = p ∧ i = (L p).length ∧ e = Ev.add k s (n, a, m)) := fun q i e => by
    by_cases c : q = p
    · subst c
      rw [setL_same]
      by_cases h1 : i < (L q).length
      · rw [List.getElem?_append_left h1]
        exact ⟨.inl, fun z => z.elim id fun ⟨_, z, _⟩ => by omega⟩
      · rw [List.getElem?_append_right (by omega)]
        by_cases h2 : i = (L q).length
        · subst h2
          rw [Nat.sub_self, List.getElem?_eq_none (Nat.le_refl _)]
          simp [eq_comm]
        · rw [List.getElem?_eq_none (by simp; omega), List.getElem?_eq_none (by omega)]
          simp [h2]
    · rw [setL_ne _ _ c]; simp [c]
  refine ⟨fun j x hj q i => ?_, fun j x hj q w hw => ?_, fun q d hd => ?_, fun j x hj => ?_, fun q k' s' d hd => ?_, fun j x hj => ?_, fun q => ⟨fun d w w' h1 h2 => ?_, fun d w h1 => ?_⟩, fun q hq => by rw [setL_ne _ _ (by omega)]; exact g.out q hq⟩
  · by_cases c : j = n
    · subst c
      rw [putF_same] at hj
      cases hj
      show (q, i) ∈ pl ++ [(p, (L p).length)] ↔ _
      rw [List.mem_append, List.mem_singleton, show ((q, i) ∈ pl ↔ _) from g.at_ j _ h q i]
      constructor
      · rintro (⟨h1, k', s', h2⟩ | z)
        · exact ⟨h1, k', s', (getL _ _ _).mpr (.inl h2)⟩
        · cases z
          exact ⟨hp, k, s, (getL _ _ _).mpr (.inr ⟨rfl, rfl, rfl⟩)⟩
      · rintro ⟨h1, k', s', h2⟩
        rcases (getL _ _ _).mp h2 with z | ⟨z1, z2, _⟩
        · exact .inl ⟨h1, k', s', z⟩
        · exact .inr (by rw [z1, z2])
    · rw [putF_ne _ _ c] at hj
      rw [g.at_ j x hj q i]
      constructor
      · rintro ⟨h1, k', s', h2⟩
        exact ⟨h1, k', s', (getL _ _ _).mpr (.inl h2)⟩
      · rintro ⟨h1, k', s', h2⟩
        rcases (getL _ _ _).mp h2 with z | ⟨_, _, z⟩
        · exact ⟨h1, k', s', z⟩
        · injection z with _ _ z
          injection z with z _
          exact absurd z c
  · have hw' : Ev.mark w (j, x.1, x.2.1) ∈ L q := by
      rcases (memL _ _).mp hw with z | ⟨_, z⟩
      · exact z
      · cases z
    by_cases c : j = n
    · subst c
      rw [putF_same] at hj
      cases hj
      exact g.nomark j _ h q w hw'
    · rw [putF_ne _ _ c] at hj
      exact g.nomark j x hj q w hw'
  · rcases hd with ⟨k', s', hd⟩ | ⟨w, hd⟩
    · rcases (memL _ _).mp hd with z | ⟨_, z⟩
      · exact g.num q d (.inl ⟨k', s', z⟩)
      · injection z with _ _ z
        rw [z]
        exact ⟨m, g.cur n _ h, Nat.le_refl _⟩
    · rcases (memL _ _).mp hd with z | ⟨_, z⟩
      · exact g.num q d (.inr ⟨w, z⟩)
      · cases z
  · by_cases c : j = n
    · subst c
      rw [putF_same] at hj
      cases hj
      exact g.cur j (a, m, pl) h
    · rw [putF_ne _ _ c] at hj
      exact g.cur j x hj
  · rcases (memL _ _).mp hd with z | ⟨_, z⟩
    · rcases g.closed q k' s' d z with ⟨x, h1, h2⟩ | ⟨w, hw⟩
      · left
        by_cases c : d.1 = n
        · rw [c] at h1 h2 ⊢
          rw [h] at h1
          cases h1
          exact ⟨_, putF_same _ _ _, h2⟩
        · exact ⟨x, by rw [putF_ne _ _ c]; exact h1, h2⟩
      · exact .inr ⟨w, (memL _ _).mpr (.inl hw)⟩
    · injection z with _ _ z
      rw [z]
      exact .inl ⟨_, putF_same _ _ _, rfl⟩
  · by_cases c : j = n
    · subst c
      rw [putF_same] at hj
      cases hj
      show (pl ++ [(p, (L p).length)]).Pairwise _
      rw [List.pairwise_append]
      refine ⟨g.asc j _ h, by simp, fun y hy z hz e => ?_⟩
      rw [List.mem_singleton.mp hz] at e ⊢
      obtain ⟨p', i'⟩ := y
      have e : p' = p := e
      subst e
      obtain ⟨_, k', s', h2⟩ := (g.at_ j _ h p' i').mp hy
      exact (List.getElem?_eq_some_iff.mp h2).1
    · rw [putF_ne _ _ c] at hj
      exact g.asc j x hj
  · rcases (memL _ _).mp h1 with z1 | ⟨_, z1⟩
    · rcases (memL _ _).mp h2 with z2 | ⟨_, z2⟩
      · exact (g.marks q).one d w w' z1 z2
      · cases z2
    · cases z1
  · rcases (memL _ _).mp h1 with z1 | ⟨_, z1⟩
    · exact (g.marks q).kind d w z1
    · cases z1
def hasP (pl : List (Nat × Nat)) (p : Nat) : Prop := ∃ i, (p, i) ∈ pl
instance (pl : List (Nat × Nat)) (p : Nat) : Decidable (hasP pl p) := decidable_of_iff (∃ x ∈ pl, x.1 = p) ⟨fun ⟨x, h1, h2⟩ => ⟨x.2, by rw [← h2]; exact h1⟩, fun ⟨i, h⟩ => ⟨_, h, rfl⟩⟩
def endF (L : Nat → List Ev) (pl : List (Nat × Nat)) (w : Nat) (d : Id) : Nat → List Ev := fun p => if hasP pl p then L p ++ [Ev.mark w d] else L p
theorem Good.done (g : Good many nums deals L) {n : Str} {a m w : Nat} {pl : List (Nat × Nat)} (h : deals n = some (a, m, pl)) (hw : w = 1 ∨ w = 2) : Good many nums (putF deals n none) (endF L pl w (n, a, m)) := by
  have memL : ∀ q e, e ∈ endF L pl w (n, a, m) q ↔ e ∈ L q ∨ (hasP pl q ∧ e = Ev.mark w (n, a, m)) := fun q e => by
    unfold endF
    split
    · rename_i c
      rw [List.mem_append, List.mem_singleton]; simp [c]
    · rename_i c
      simp [c]
  have getL : ∀ q i k s d, (endF L pl w (n, a, m) q)[i]? = some (Ev.add k s d) ↔ (L q)[i]? = some (Ev.add k s d) := fun q i k s d => by
    unfold endF
    split
    · by_cases h1 : i < (L q).length
      · rw [List.getElem?_append_left h1]
      · rw [List.getElem?_append_right (by omega), List.getElem?_eq_none (l := L q) (by omega)]
        by_cases h2 : i - (L q).length = 0
        · rw [h2]; simp
        · rw [List.getElem?_eq_none (by simp; omega)]
    · exact Iff.rfl
  refine ⟨fun j x hj q i => ?_, fun j x hj q w' hw' => ?_, fun q d hd => ?_, fun j x hj => ?_, fun q k' s' d hd => ?_, fun j x hj => ?_, fun q => ⟨fun d w1 w2 h1 h2 => ?_, fun d w1 h1 => ?_⟩, fun q hq => ?_⟩
  · have c : j ≠ n := fun z => by rw [z, putF_same] at hj; cases hj
    rw [putF_ne _ _ c] at hj
    rw [g.at_ j x hj q i]
    exact and_congr Iff.rfl ⟨fun ⟨k, s, z⟩ => ⟨k, s, (getL _ _ _ _ _).mpr z⟩, fun ⟨k, s, z⟩ => ⟨k, s, (getL _ _ _ _ _).mp z⟩⟩
  · have c : j ≠ n := fun z => by rw [z, putF_same] at hj; cases hj
    rw [putF_ne _ _ c] at hj
    rcases (memL _ _).mp hw' with z | ⟨_, z⟩
    · exact g.nomark j x hj q w' z
    · injection z with _ z
      injection z with z _
      exact c z
  · rcases hd with ⟨k', s', hd⟩ | ⟨w', hd⟩
    · rcases (memL _ _).mp hd with z | ⟨_, z⟩
      · exact g.num q d (.inl ⟨k', s', z⟩)
      · cases z
    · rcases (memL _ _).mp hd with z | ⟨_, z⟩
      · exact g.num q d (.inr ⟨w', z⟩)
      · injection z with _ z
        rw [z]
        exact ⟨m, g.cur n _ h, Nat.le_refl _⟩
  · have c : j ≠ n := fun z => by rw [z, putF_same] at hj; cases hj
    rw [putF_ne _ _ c] at hj
    exact g.cur j x hj
  · rcases (memL _ _).mp hd with z | ⟨_, z⟩
    · rcases g.closed q k' s' d z with ⟨x, h1, h2⟩ | ⟨w', hw'⟩
      · by_cases c : d.1 = n
        · right
          refine ⟨w, (memL _ _).mpr (.inr ⟨?_, ?_⟩)⟩
          · rw [c, h] at h1
            cases h1
            rw [c] at h2
            obtain ⟨i, hi⟩ := List.getElem?_of_mem z
            by_cases hq : q < many
            · exact ⟨i, (g.at_ n _ h q i).mpr ⟨hq, k', s', by rw [← h2]; exact hi⟩⟩
            · rw [g.out q (by omega)] at z; cases z
          · rw [c, h] at h1
            cases h1
            rw [h2, c]
        · exact .inl ⟨x, by rw [putF_ne _ _ c]; exact h1, h2⟩
      · exact .inr ⟨w', (memL _ _).mpr (.inl hw')⟩
    · cases z
  · have c : j ≠ n := fun z => by rw [z, putF_same] at hj; cases hj
    rw [putF_ne _ _ c] at hj
    exact g.asc j x hj
  · rcases (memL _ _).mp h1 with z1 | ⟨_, z1⟩
    · rcases (memL _ _).mp h2 with z2 | ⟨_, z2⟩
      · exact (g.marks q).one d w1 w2 z1 z2
      · injection z2 with _ z2
        rw [z2] at z1
        exact absurd z1 (g.nomark n _ h q w1)
    · rcases (memL _ _).mp h2 with z2 | ⟨_, z2⟩
      · injection z1 with _ z1
        rw [z1] at z2
        exact absurd z2 (g.nomark n _ h q w2)
      · injection z1 with z1 _
        injection z2 with z2 _
        rw [z1, z2]
  · rcases (memL _ _).mp h1 with z1 | ⟨_, z1⟩
    · exact (g.marks q).kind d w1 z1
    · injection z1 with z1 _
      rw [z1]; exact hw
  · unfold endF
    rw [if_neg, g.out q hq]
    rintro ⟨i, hi⟩
    have := ((g.at_ n _ h q i).mp hi).1
    omega
end
end Q9
set_option Elab.async false
set_option linter.all false
set_option maxRecDepth 100000
set_option maxHeartbeats 2000000
namespace Q9
open PySem L2
def firstOf (pl : List (Nat × Nat)) (p : Nat) : Option Nat := (pl.find? fun x => decide (x.1 = p)).map (·.2)
theorem firstOf_mem {pl : List (Nat × Nat)} {p v : Nat} (h : firstOf pl p = some v) : (p, v) ∈ pl := by
  unfold firstOf at h
  obtain ⟨x, hx, rfl⟩ := Option.map_eq_some_iff.mp h
  have h1 := List.find?_some hx
  have h1 : x.1 = p := by simpa using h1
  rw [← h1]
  exact List.mem_of_find?_eq_some hx
theorem firstOf_le {pl : List (Nat × Nat)} (ha : pl.Pairwise fun a b => a.1 = b.1 → a.2 < b.2) {p i : Nat} (h : (p, i) ∈ pl) : ∃ v, firstOf pl p = some v ∧ v ≤ i := by
  induction pl with
  | nil => cases h
  | cons x r ih =>
    rw [List.pairwise_cons] at ha
    unfold firstOf
    by_cases c : x.1 = p
    · rw [List.find?_cons_of_pos (by simpa using c)]
      refine ⟨x.2, rfl, ?_⟩
      rcases List.mem_cons.mp h with z | z
      · rw [← z]; exact Nat.le_refl _
      · exact Nat.le_of_lt (ha.1 _ z c)
    · rw [List.find?_cons_of_neg (by simpa using c)]
      rcases List.mem_cons.mp h with z | z
      · rw [← z] at c; exact absurd rfl c
      · exact ih ha.2 z
theorem firstOf_snoc (pl : List (Nat × Nat)) (x : Nat × Nat) (p : Nat) : firstOf (pl ++ [x]) p = match firstOf pl p with
  | some v => some v
  | none => if x.1 = p then some x.2 else none := by
  unfold firstOf
  rw [List.find?_append]
  cases e : pl.find? fun x => decide (x.1 = p) with
  | some v => rfl
  | none =>
    simp only [Option.none_or, Option.map_none]
    by_cases c : x.1 = p
    · rw [if_pos c, List.find?_cons_of_pos (by simpa using c)]; rfl
    · rw [if_neg c, List.find?_cons_of_neg (by simpa using c)]; rfl
theorem firstOf_none {pl : List (Nat × Nat)} {p : Nat} : firstOf pl p = none ↔ ¬ hasP pl p := by
  unfold firstOf hasP
  rw [Option.map_eq_none_iff, List.find?_eq_none]
  constructor
  · rintro h ⟨i, hi⟩
    exact h _ hi (by simp)
  · rintro h x hx z
    have z : x.1 = p := by simpa using z
    exact h ⟨x.2, by rw [← z]; exact hx⟩
section
variable {many : Nat} {nums : Str → Option Nat} {deals : Str → Option Dl} {L : Nat → List Ev}
theorem Good.open_iff (g : Good many nums deals L) {p i : Nat} (hp : p < many) : isOpen (L p) i = true ↔ ∃ n x, deals n = some x ∧ (p, i) ∈ x.2.2 := by
  constructor
  · intro h
    unfold isOpen at h
    cases e : (L p)[i]? with
    | none => rw [e] at h; cases h
    | some ev =>
      rw [e] at h
      cases ev with
      | mark w d => cases h
      | add k s d =>
        have h : stat (L p) d = 0 := by simpa using h
        rw [stat_zero (g.marks p)] at h
        rcases g.closed p k s d (List.mem_of_getElem? e) with ⟨x, h1, h2⟩ | ⟨w, hw⟩
        · exact ⟨d.1, x, h1, (g.at_ _ _ h1 p i).mpr ⟨hp, k, s, by rw [← h2]; exact e⟩⟩
        · exact absurd hw (h w)
  · rintro ⟨n, x, h1, h2⟩
    obtain ⟨_, k, s, e⟩ := (g.at_ _ _ h1 p i).mp h2
    unfold isOpen
    rw [e]
    have := (stat_zero (g.marks p)).mpr fun w => g.nomark _ _ h1 p w
    simpa using this
theorem Good.firm (g : Good many nums deals L) {p : Nat} (hp : p < many) {vals : List Nat} (h1 : ∀ v ∈ vals, ∃ n x, deals n = some x ∧ firstOf x.2.2 p = some v) (h2 : ∀ n x v, deals n = some x → firstOf x.2.2 p = some v → v ∈ vals) {m : Nat}
    (hm : (vals = [] ∧ m = (L p).length) ∨ (m ∈ vals ∧ ∀ v ∈ vals, m ≤ v)) : m = endL (L p) := by
  have low : ∀ i, isOpen (L p) i = true → ∃ v ∈ vals, v ≤ i := fun i hi => by
    obtain ⟨n, x, e1, e2⟩ := (g.open_iff hp).mp hi
    obtain ⟨v, f1, f2⟩ := firstOf_le (g.asc _ _ e1) e2
    exact ⟨v, h2 _ _ _ e1 f1, f2⟩
  have op : ∀ v ∈ vals, isOpen (L p) v = true := fun v hv => by
    obtain ⟨n, x, e1, e2⟩ := h1 v hv
    exact (g.open_iff hp).mpr ⟨n, x, e1, firstOf_mem e2⟩
  rcases hm with ⟨e, rfl⟩ | ⟨e1, e2⟩
  · refine endL_min (.inl rfl) (Nat.le_refl _) fun i hi => ?_
    obtain ⟨v, hv, _⟩ := low i hi
    rw [e] at hv; cases hv
  · refine endL_min (.inr (op m e1)) (Nat.le_of_lt (isOpen_lt (op m e1))) fun i hi => ?_
    obtain ⟨v, hv, h⟩ := low i hi
    exact Nat.le_trans (e2 v hv) h
def wordS : Nat → Str
  | 0 => "open"
  | 1 => "kept"
  | _ => "dropped"
def wordE (L : List Ev) : Ev → Str
  | .add _ _ d => wordS (stat L d)
  | .mark _ _ => "end"
theorem stat_same {L L' : List Ev} {d : Id} (h : ∀ w, Ev.mark w d ∈ L' ↔ Ev.mark w d ∈ L) : stat L' d = stat L d := by
  unfold stat
  simp only [h]
theorem Good.word_add (g : Good many nums deals L) {n : Str} {a m : Nat} {k : List Key} {s : List Key × Nat} {pl : List (Nat × Nat)} (h : deals n = some (a, m, pl)) (p q : Nat) (e : Ev) : wordE (setL L p (L p ++ [Ev.add k s (n, a, m)]) q) e = wordE (L q) e := by
  cases e with
  | mark w d => rfl
  | add k' s' d =>
    show wordS _ = wordS _
    congr 1
    refine stat_same fun w => ?_
    by_cases c : q = p
    · subst c; rw [setL_same, List.mem_append, List.mem_singleton]; simp
    · rw [setL_ne _ _ c]
theorem Good.word_new (g : Good many nums deals L) {n : Str} {a m : Nat} {k : List Key} {s : List Key × Nat} {pl : List (Nat × Nat)} (h : deals n = some (a, m, pl)) (p : Nat) : wordE (L p) (Ev.add k s (n, a, m)) = "open" := by
  show wordS (stat _ _) = _
  rw [(stat_zero (g.marks p)).mpr fun w => g.nomark _ _ h p w]
  rfl
theorem Good.word_done (g : Good many nums deals L) {n : Str} {a m w : Nat} {pl : List (Nat × Nat)} (h : deals n = some (a, m, pl)) (hw : w = 1 ∨ w = 2) {p i : Nat} {e : Ev} (he : (L p)[i]? = some e) :
    wordE (endF L pl w (n, a, m) p) e = if (p, i) ∈ pl then wordS w else wordE (L p) e := by
  have gd := g.done h hw
  have at_ := g.at_ n _ h p i
  cases e with
  | mark w' d =>
    rw [if_neg]
    · rfl
    · intro z
      obtain ⟨_, k, s, y⟩ := at_.mp z
      rw [he] at y; cases y
  | add k s d =>
    by_cases c : d = (n, a, m)
    · subst c
      have hp : p < many := by
        by_cases q : p < many
        · exact q
        · rw [g.out p (by omega)] at he; cases he
      have hin : (p, i) ∈ pl := at_.mpr ⟨hp, k, s, he⟩
      rw [if_pos hin]
      show wordS (stat _ _) = _
      rw [stat_of (gd.marks p) (w := w)]
      unfold endF
      rw [if_pos ⟨i, hin⟩]
      exact List.mem_append_right _ (List.mem_singleton.mpr rfl)
    · rw [if_neg]
      · show wordS _ = wordS _
        congr 1
        refine stat_same fun w' => ?_
        unfold endF
        split
        · rw [List.mem_append, List.mem_singleton]
          exact ⟨fun z => z.elim id fun z => by injection z with _ z; exact absurd z c, .inl⟩
        · exact Iff.rfl
      · intro z
        obtain ⟨_, k', s', y⟩ := at_.mp z
        rw [he] at y
        injection y with y
        injection y with _ _ y
        exact c y
end
end Q9
set_option Elab.async false
set_option linter.all false
set_option maxRecDepth 100000
set_option maxHeartbeats 4000000
namespace KL9
open PySem PySem.Spec PyProof.Rows L2 KB KC KS KN1 LamX K7 Q9
section
variable {κ α : Type} [DecidableEq κ]
structure Tab (nm : List κ) (kk : κ → Key) (R : κ → V → α → Prop) (kvs : List (Key × V)) (f : κ → Option α) : Prop where
  nd : (kvs.map (·.1)).Nodup
  ks : ∀ kv ∈ kvs, ∃ k ∈ nm, kv.1 = kk k
  at_ : ∀ k, (f k = none ∧ valV kvs (kk k) = none) ∨ ∃ a v, f k = some a ∧ valV kvs (kk k) = some v ∧ R k v a
def putG (f : κ → Option α) (n : κ) (x : Option α) : κ → Option α := fun j => if j = n then x else f j
theorem putG_same (f : κ → Option α) (n : κ) (x : Option α) : putG f n x n = x := if_pos rfl
theorem putG_ne (f : κ → Option α) {n j : κ} (x : Option α) (h : j ≠ n) : putG f n x j = f j := if_neg h
theorem valV_mem {kvs : List (Key × V)} (nd : (kvs.map (·.1)).Nodup) {kv : Key × V} (h : kv ∈ kvs) : valV kvs kv.1 = some kv.2 := by
  induction kvs with
  | nil => cases h
  | cons p r ih =>
    rw [List.map_cons, List.nodup_cons] at nd
    rcases List.mem_cons.mp h with z | z
    · rw [z]; exact valV_pos rfl
    · rw [valV_neg (fun e => nd.1 (by rw [e]; exact List.mem_map_of_mem z))]
      exact ih nd.2 z
theorem valV_key {kvs : List (Key × V)} {k : Key} {v : V} (h : valV kvs k = some v) : (k, v) ∈ kvs := by
  unfold valV at h
  obtain ⟨x, hx, rfl⟩ := Option.map_eq_some_iff.mp h
  have h1 := List.find?_some hx
  have h1 : x.1 = k := by simpa using h1
  rw [← h1]
  exact List.mem_of_find?_eq_some hx
theorem valV_dropK (kvs : List (Key × V)) (k j : Key) : valV (dropK kvs k) j = if j = k then none else valV kvs j := by
  induction kvs with
  | nil => unfold dropK; rw [List.filter_nil]; split <;> rfl
  | cons p r ih =>
    unfold dropK at ih ⊢
    by_cases c : p.1 = k
    · rw [List.filter_cons_of_neg (by simpa using c), ih]
      by_cases e : j = k
      · rw [if_pos e, if_pos e]
      · rw [if_neg e, if_neg e, valV_neg (fun z => e (z.symm.trans c))]
    · rw [List.filter_cons_of_pos (by simpa using c)]
      by_cases e : p.1 = j
      · rw [valV_pos e, valV_pos e, if_neg (fun z => c (e.trans z))]
      · rw [valV_neg e, valV_neg e, ih]
theorem nd_putK {kvs : List (Key × V)} {k : Key} {v : V} (h : (kvs.map (·.1)).Nodup) : ((putK kvs k v).map (·.1)).Nodup := by
  unfold putK
  split
  · rw [List.map_map]
    have e : (Prod.fst ∘ fun (kv : Key × V) => if kv.1 = k then (kv.1, v) else kv) = Prod.fst := by
      funext kv
      show (if kv.1 = k then (kv.1, v) else kv).1 = kv.1
      split <;> rfl
    rw [e]; exact h
  · rename_i c
    rw [List.map_append, List.nodup_append]
    refine ⟨h, by simp, fun a ha b hb z => ?_⟩
    rw [List.map_singleton, List.mem_singleton] at hb
    obtain ⟨kv, hkv, e⟩ := List.mem_map.mp ha
    refine c (List.any_eq_true.mpr ⟨kv, hkv, ?_⟩)
    rw [decide_eq_true_eq, e, z, hb]
variable {nm : List κ} {kk : κ → Key} {R : κ → V → α → Prop} {kvs : List (Key × V)} {f : κ → Option α}
theorem Tab.nil : Tab nm kk R [] (fun _ => none) := ⟨.nil, (fun _ h => nomatch h), fun _ => .inl ⟨rfl, rfl⟩⟩
theorem Tab.none (t : Tab nm kk R kvs f) {k : κ} (h : f k = Option.none) : valV kvs (kk k) = Option.none := by
  rcases t.at_ k with ⟨_, h2⟩ | ⟨a, v, h1, _⟩
  · exact h2
  · rw [h] at h1; cases h1
theorem Tab.some (t : Tab nm kk R kvs f) {k : κ} {a : α} (h : f k = Option.some a) : ∃ v, valV kvs (kk k) = Option.some v ∧ R k v a := by
  rcases t.at_ k with ⟨h1, _⟩ | ⟨a', v, h1, h2, h3⟩
  · rw [h] at h1; cases h1
  · rw [h] at h1
    cases h1
    exact ⟨v, h2, h3⟩
theorem Tab.isSome (t : Tab nm kk R kvs f) (k : κ) : (valV kvs (kk k)).isSome = (f k).isSome := by
  rcases t.at_ k with ⟨h1, h2⟩ | ⟨a, v, h1, h2, _⟩ <;> rw [h1, h2] <;> rfl
theorem Tab.mem (t : Tab nm kk R kvs f) {kv : Key × V} (h : kv ∈ kvs) : ∃ k a, k ∈ nm ∧ kv.1 = kk k ∧ f k = Option.some a ∧ R k kv.2 a := by
  obtain ⟨k, hk, e⟩ := t.ks kv h
  have hv := valV_mem t.nd h
  rw [e] at hv
  rcases t.at_ k with ⟨_, h2⟩ | ⟨a, v, h1, h2, h3⟩
  · rw [hv] at h2; cases h2
  · rw [hv] at h2
    cases h2
    exact ⟨k, a, hk, e, h1, h3⟩
theorem Tab.key (t : Tab nm kk R kvs f) (inj : ∀ a b, kk a = kk b → a = b) {k : κ} {a : α} (h : f k = Option.some a) : k ∈ nm := by
  obtain ⟨v, h1, _⟩ := t.some h
  obtain ⟨j, hj, e⟩ := t.ks _ (valV_key h1)
  rw [inj _ _ e]; exact hj
theorem nodup_len' {β : Type} [DecidableEq β] : ∀ {l m : List β}, l.Nodup → (∀ x ∈ l, x ∈ m) → l.length ≤ m.length
  | [], _, _, _ => Nat.zero_le _
  | x :: l, m, h, k => by
    rw [List.nodup_cons] at h
    have := nodup_len' (m := m.erase x) h.2 fun y hy => (List.mem_erase_of_ne (fun z => h.1 (by rw [← z]; exact hy))).mpr (k y (List.mem_cons_of_mem _ hy))
    rw [List.length_erase, if_pos (k x List.mem_cons_self)] at this
    have : 0 < m.length := List.length_pos_of_mem (k x List.mem_cons_self)
    rw [List.length_cons]
    omega
theorem Tab.len (t : Tab nm kk R kvs f) : kvs.length ≤ nm.length := by
  have := nodup_len' (m := nm.map kk) t.nd fun x hx => by
    obtain ⟨kv, hkv, rfl⟩ := List.mem_map.mp hx
    obtain ⟨k, hk, e⟩ := t.ks kv hkv
    rw [e]; exact List.mem_map_of_mem hk
  rw [List.length_map, List.length_map] at this
  exact this
theorem Tab.mono {R' : κ → V → α → Prop} (t : Tab nm kk R kvs f) (h : ∀ k v a, f k = Option.some a → R k v a → R' k v a) : Tab nm kk R' kvs f := ⟨t.nd, t.ks, fun k => by
  rcases t.at_ k with h1 | ⟨a, v, h1, h2, h3⟩
  · exact .inl h1
  · exact .inr ⟨a, v, h1, h2, h _ _ _ h1 h3⟩⟩
theorem Tab.put (inj : ∀ a b, kk a = kk b → a = b) {R' : κ → V → α → Prop} {k : κ} {v : V} {a : α} (t : Tab nm kk R kvs f) (hk : k ∈ nm) (hv : R' k v a) (h : ∀ j v a, j ≠ k → f j = Option.some a → R j v a → R' j v a) : Tab nm kk R' (putK kvs (kk k) v) (putG f k (Option.some a)) := by
  refine ⟨nd_putK t.nd, fun kv hkv => ?_, fun j => ?_⟩
  · have hx := valV_mem (nd_putK (k := kk k) (v := v) t.nd) hkv
    rw [valV_put] at hx
    by_cases c : kv.1 = kk k
    · exact ⟨k, hk, c⟩
    · rw [if_neg c] at hx
      exact t.ks _ (valV_key hx) 
  · rw [valV_put]
    by_cases c : j = k
    · subst c
      exact .inr ⟨a, v, putG_same _ _ _, if_pos rfl, hv⟩
    · rw [putG_ne _ _ c, if_neg (fun z => c (inj _ _ z))]
      rcases t.at_ j with h1 | ⟨a', v', h1, h2, h3⟩
      · exact .inl h1
      · exact .inr ⟨a', v', h1, h2, h _ _ _ c h1 h3⟩
theorem Tab.drop (inj : ∀ a b, kk a = kk b → a = b) {R' : κ → V → α → Prop} {k : κ} (t : Tab nm kk R kvs f) (h : ∀ j v a, j ≠ k → f j = Option.some a → R j v a → R' j v a) : Tab nm kk R' (dropK kvs (kk k)) (putG f k Option.none) := by
  refine ⟨?_, fun kv hkv => t.ks kv (List.mem_filter.mp hkv).1, fun j => ?_⟩
  · unfold dropK
    exact (List.Sublist.map _ (List.filter_sublist)).nodup t.nd
  · rw [valV_dropK]
    by_cases c : j = k
    · subst c
      exact .inl ⟨putG_same _ _ _, if_pos rfl⟩
    · rw [putG_ne _ _ c, if_neg (fun z => c (inj _ _ z))]
      rcases t.at_ j with h1 | ⟨a', v', h1, h2, h3⟩
      · exact .inl h1
      · exact .inr ⟨a', v', h1, h2, h _ _ _ c h1 h3⟩
end
theorem putG_putF {α : Type} (f : Str → Option α) (n : Str) (x : Option α) : putG f n x = putF f n x := rfl
def kS : Str → Key := Sum.inr
def kN : Nat → Key := fun n => Sum.inl (n : Int)
theorem kS_inj : ∀ a b, kS a = kS b → a = b := fun _ _ => Sum.inr.inj
theorem kN_inj : ∀ a b, kN a = kN b → a = b := fun _ _ h => Int.ofNat.inj (Sum.inl.inj h)
def RNat {κ : Type} : κ → V → Nat → Prop := fun _ v x => v = .int (x : Int)
end KL9
set_option Elab.async false
set_option linter.all false
set_option maxRecDepth 100000
set_option maxHeartbeats 4000000
namespace KL9
open PySem PySem.Spec PyProof.Rows L2 KB KC KS KN1 LamX K7 Q9
structure TxtE (K : PySem.W.Frag) (mg : Str → Option Value) (CD : Addr) : Prop where
  cl : Cls K CD
  l : NoAttr K CD "log"
  a : NoAttr K CD "ages"
  n : NoAttr K CD "numbers"
  o : NoAttr K CD "open_deals"
  f : NoAttr K CD "firsts"
  g : mg "DealDoor" = some (.ref CD)
structure TxtW (mg : Str → Option Value) : Prop where
  mv : ∃ tk, mg "MOST_VALUES" = some (.int 16 tk)
  od : ∃ tk, mg "OF_DEAL" = some (.int 0 tk)
  kp : ∃ tk, mg "KEPT" = some (.int 1 tk)
  dr : ∃ tk, mg "DROPPED" = some (.int 2 tk)
def recE : Ev → Rc
  | .add k s d => (k, [.inl 0, .inr d.1, .inl (d.2.1 : Int), .inl (d.2.2 : Int)] ++ s.1, s.2)
  | .mark w d => ([.inr d.1], [.inl (w : Int), .inr d.1, .inl (d.2.1 : Int), .inl (d.2.2 : Int)], 0)
def EvOk (e : Ev) : Prop := OkB (recE e) ∧ (recL (recE e)).length ≤ 100
structure LS (many : Nat) (sts : List PS) (L : Nat → List Ev) : Prop where
  len : sts.length = many
  at_ : ∀ p st, sts[p]? = some st → st.2.1.length ≤ 100 * (L p).length ∧ st.2.2 = (L p).map recE
  ok : ∀ p e, e ∈ L p → EvOk e
structure DA where
  (d o q a1 a2 a3 a4 : Addr)
  ps : List (Addr × Addr)
structure DV where
  (ages nums : Str → Option Nat)
  deals : Str → Option Dl
  L : Nat → List Ev
  inn : Str → Addr
abbrev dF (o a1 a2 a3 a4 : Addr) : List (Str × V) := [("log", .ref o), ("ages", .ref a1), ("numbers", .ref a2), ("open_deals", .ref a3), ("firsts", .ref a4)]
def RDeal (H : Hp) : Str → V → Dl → Prop := fun n w x => ∃ t, w = .ref t ∧ H t = some (.tup [.str n, .int ((x.1 : Nat) : Int), .int ((x.2.1 : Nat) : Int)])
def RInn (inn : Str → Addr) : Str → V → Dl → Prop := fun n w _ => w = .ref (inn n)
structure DoorA (CD CL CP : Addr) (many : Nat) (nm : List Str) (a : DA) (v : DV) (H : Hp) : Prop where
  ob : ∃ dx, H a.d = some (.ins CD dx (dF a.o a.a1 a.a2 a.a3 a.a4))
  lg : ∃ sts, LogA CL CP a.o a.q a.ps sts H ∧ LS many sts v.L
  t1 : ∃ kvs, H a.a1 = some (.dK kvs) ∧ Tab nm kS RNat kvs v.ages
  t2 : ∃ kvs, H a.a2 = some (.dK kvs) ∧ Tab nm kS RNat kvs v.nums
  t3 : ∃ kvs, H a.a3 = some (.dK kvs) ∧ Tab nm kS (RDeal H) kvs v.deals
  t4 : ∃ kvs, H a.a4 = some (.dK kvs) ∧ Tab nm kS (RInn v.inn) kvs v.deals
  t5 : ∀ n x, v.deals n = some x → ∃ kvs, H (v.inn n) = some (.dK kvs) ∧ Tab (List.range many) kN RNat kvs (firstOf x.2.2)
  nj : (a.a1 ≠ a.a2 ∧ a.a1 ≠ a.a3 ∧ a.a1 ≠ a.a4) ∧ a.a2 ≠ a.a3 ∧ a.a2 ≠ a.a4 ∧ a.a3 ≠ a.a4
  ni : ∀ n, v.deals n ≠ none → v.inn n ≠ a.a1 ∧ v.inn n ≠ a.a2 ∧ v.inn n ≠ a.a3 ∧ v.inn n ≠ a.a4
  nn : ∀ n m, n ≠ m → v.deals n ≠ none → v.deals m ≠ none → v.inn n ≠ v.inn m
  nd : a.d ∉ a.ps.map (·.1)
  nz : many ≤ 16
def DR (a : DA) (v : DV) (b : Addr) : Prop := b ∈ a.ps.map (·.1) ∨ b ∈ a.ps.map (·.2) ∨ b = a.a1 ∨ b = a.a2 ∨ b = a.a3 ∨ b = a.a4 ∨ ∃ n, v.deals n ≠ none ∧ b = v.inn n
section
variable {CD CL CP Ps : Addr} {many : Nat} {nm : List Str} {a : DA} {v : DV} {H H' : Hp}
theorem DoorA.keep (x : DoorA CD CL CP many nm a v H) (i : ∀ b C dx fs, H b = some (.ins C dx fs) → H' b = some (.ins C dx fs)) (k : KT' H H') (l : ∀ b u, b = a.q ∨ DR a v b → H b = some u → H' b = some u) : DoorA CD CL CP many nm a v H' := by
  obtain ⟨dx, ob⟩ := x.ob
  obtain ⟨sts, lg, ls⟩ := x.lg
  have dr : ∀ {b : Addr} {u : HO}, DR a v b → H b = some u → H' b = some u := fun {b u} h => l b u (.inr h)
  obtain ⟨k1, g1, h1⟩ := x.t1
  obtain ⟨k2, g2, h2⟩ := x.t2
  obtain ⟨k3, g3, h3⟩ := x.t3
  obtain ⟨k4, g4, h4⟩ := x.t4
  refine ⟨⟨dx, i _ _ _ _ ob⟩, ⟨sts, lg.keep i k fun b ys hb h => l b _ (hb.elim .inl fun z => .inr (.inr (.inl z))) h, ls⟩, ⟨k1, dr (.inr (.inr (.inl rfl))) g1, h1⟩, ⟨k2, dr (.inr (.inr (.inr (.inl rfl)))) g2, h2⟩, ⟨k3, dr (.inr (.inr (.inr (.inr (.inl rfl))))) g3, h3.mono fun n w y _ => ?_⟩, ⟨k4, dr (.inr (.inr (.inr (.inr (.inr (.inl rfl)))))) g4, h4⟩, fun n y hn => ?_, x.nj, x.ni, x.nn, x.nd, x.nz⟩
  · rintro ⟨t, e1, e2⟩
    exact ⟨t, e1, k _ _ e2⟩
  · obtain ⟨kvs, e1, e2⟩ := x.t5 n y hn
    exact ⟨kvs, dr (.inr (.inr (.inr (.inr (.inr (.inr ⟨n, by rw [hn]; simp, rfl⟩)))))) e1, e2⟩
theorem DoorA.ex (x : DoorA CD CL CP many nm a v H) (e : KS.Ex H H') : DoorA CD CL CP many nm a v H' := x.keep (fun b _ _ _ h => e _ _ h) (kt_of e) fun b u _ h => e _ _ h
theorem DoorA.len (x : DoorA CD CL CP many nm a v H) : a.ps.length = many := by
  obtain ⟨sts, lg, ls⟩ := x.lg
  rw [lg.len, ls.len]
theorem DoorA.kind (x : DoorA CD CL CP many nm a v H) {b : Addr} (h : DR a v b) : (∃ C d fs, H b = some (.ins C d fs)) ∨ (∃ ys, H b = some (.lst ys)) ∨ ∃ kvs, H b = some (.dK kvs) := by
  obtain ⟨sts, lg, ls⟩ := x.lg
  obtain ⟨k1, g1, h1⟩ := x.t1
  obtain ⟨k2, g2, h2⟩ := x.t2
  obtain ⟨k3, g3, h3⟩ := x.t3
  obtain ⟨k4, g4, h4⟩ := x.t4
  rcases h with h | h | h | h | h | h | ⟨n, h1, h2⟩
  · exact .inl (lg.insts h)
  · exact .inr (.inl (lg.lists h))
  · exact .inr (.inr ⟨_, by rw [h]; exact g1⟩)
  · exact .inr (.inr ⟨_, by rw [h]; exact g2⟩)
  · exact .inr (.inr ⟨_, by rw [h]; exact g3⟩)
  · exact .inr (.inr ⟨_, by rw [h]; exact g4⟩)
  · cases e : v.deals n with
    | none => exact absurd e h1
    | some y =>
      obtain ⟨kvs, e1, _⟩ := x.t5 n y e
      exact .inr (.inr ⟨_, by rw [h2]; exact e1⟩)
theorem DoorA.notTbl (x : DoorA CD CL CP many nm a v H) {b : Addr} {u : HO} (hb : H b = some u) (n1 : ∀ C d fs, u ≠ .ins C d fs) (n2 : ∀ ys, u ≠ .lst ys) (n3 : ∀ kvs, u ≠ .dK kvs) : ¬ DR a v b := fun h => by
  rcases x.kind h with ⟨_, _, _, e⟩ | ⟨_, e⟩ | ⟨_, e⟩ <;> rw [hb] at e
  · exact n1 _ _ _ (Option.some.inj e)
  · exact n2 _ (Option.some.inj e)
  · exact n3 _ (Option.some.inj e)
theorem DoorA.dne (x : DoorA CD CL CP many nm a v H) : ¬ DR a v a.d ∧ ¬ DR a v a.o ∧ ¬ DR a v a.q := by
  obtain ⟨dx, ob⟩ := x.ob
  obtain ⟨sts, lg, ls⟩ := x.lg
  obtain ⟨dx2, ob2⟩ := lg.ob
  have ql := lg.ql
  obtain ⟨k1, g1, h1⟩ := x.t1
  obtain ⟨k2, g2, h2⟩ := x.t2
  obtain ⟨k3, g3, h3⟩ := x.t3
  obtain ⟨k4, g4, h4⟩ := x.t4
  have dic : ∀ {b : Addr} {u : HO}, H b = some u → (∀ kvs, u ≠ .dK kvs) → ¬ (b = a.a1 ∨ b = a.a2 ∨ b = a.a3 ∨ b = a.a4 ∨ ∃ n, v.deals n ≠ none ∧ b = v.inn n) := fun {b u} hb n z => by
    rcases z with z | z | z | z | ⟨m, z1, z2⟩
    · rw [z, g1] at hb; exact n _ (Option.some.inj hb).symm
    · rw [z, g2] at hb; exact n _ (Option.some.inj hb).symm
    · rw [z, g3] at hb; exact n _ (Option.some.inj hb).symm
    · rw [z, g4] at hb; exact n _ (Option.some.inj hb).symm
    · cases e : v.deals m with
      | none => exact z1 e
      | some y =>
        obtain ⟨kvs, e1, _⟩ := x.t5 m y e
        rw [z2, e1] at hb; exact n _ (Option.some.inj hb).symm
  refine ⟨fun z => ?_, fun z => ?_, fun z => ?_⟩
  · rcases z with z | z | z
    · exact x.nd z
    · obtain ⟨_, e⟩ := lg.lists z
      rw [ob] at e; cases e
    · exact dic ob (fun _ z => nomatch z) z
  · rcases z with z | z | z
    · exact lg.n4 z
    · obtain ⟨_, e⟩ := lg.lists z
      rw [ob2] at e; cases e
    · exact dic ob2 (fun _ z => nomatch z) z
  · rcases z with z | z | z
    · obtain ⟨_, _, _, e⟩ := lg.insts z
      rw [ql] at e; cases e
    · exact lg.n3 z
    · exact dic ql (fun _ z => nomatch z) z
end
def FrD (Ps : Addr) (a : DA) (v : DV) (H H' : Hp) : Prop := TabS H' Ps qK ∧ ∀ b u, b ≠ Ps → ¬ DR a v b → H b = some u → H' b = some u
theorem FrD.ex {Ps : Addr} {a : DA} {v : DV} {H H' : Hp} (t : TabS H Ps qK) (e : KS.Ex H H') : FrD Ps a v H H' := ⟨t.ext e, fun b u _ _ h => e _ _ h⟩
def Grow (a : DA) (v v' : DV) (H : Hp) : Prop := ∀ b, DR a v' b → DR a v b ∨ H b = none
theorem Grow.refl (a : DA) (v : DV) (H : Hp) : Grow a v v H := fun _ h => .inl h
theorem FrD.trans {Ps : Addr} {a : DA} {v v1 : DV} {H H1 H2 : Hp} (x : FrD Ps a v H H1) (g : Grow a v v1 H) (y : FrD Ps a v1 H1 H2) : FrD Ps a v H H2 := ⟨y.1, fun b u n1 n2 h => y.2 b u n1 (fun z => by
  rcases g b z with z | z
  · exact n2 z
  · rw [z] at h; cases h) (x.2 b u n1 n2 h)⟩
theorem Grow.trans {Ps : Addr} {a : DA} {v v1 v2 : DV} {H H1 : Hp} (x : FrD Ps a v H H1) (g1 : Grow a v v1 H) (g2 : Grow a v1 v2 H1) (t : ∀ b, b = Ps → H b ≠ none) : Grow a v v2 H := fun b h => by
  by_cases c : DR a v b
  · exact .inl c
  · right
    rcases g2 b h with z | z
    · rcases g1 b z with z | z
      · exact absurd z c
      · exact z
    · cases e : H b with
      | none => rfl
      | some u =>
        by_cases q : b = Ps
        · exfalso
          obtain ⟨tb, hP, _⟩ := x.1
          rw [q, hP] at z; cases z
        · rw [x.2 b u q c e] at z; cases z
end KL9
set_option Elab.async false
set_option linter.all false
set_option maxRecDepth 100000
set_option maxHeartbeats 4000000
namespace KL9
open PySem PySem.Spec PyProof.Rows L2 KB KC KS KN1 LamX K7 Q9
theorem js_name {i : Nat} {txt n : Str} {σ : L2.St} {H : Hp} {R : Str → Hp → Prop} (hs : σ[i]? = some (some (.str n))) (hn : n.length ≤ 900) (ht : txt.length ≤ 100) (r : ∀ out, R out H) : tJs [tFmt (tVar i), tC (V.str txt)] Str.empty σ H R := by
  have hsl : sizeLine = 16777216 := rfl
  have e0 : Str.empty.length = 0 := rfl
  have h1 : (Str.empty ++ n).length = n.length := by rw [Str.length_append, e0]; omega
  have h2 : ((Str.empty ++ n) ++ txt).length = (Str.empty ++ n).length + txt.length := Str.length_append ..
  exact ⟨_, hs, .inl ⟨n, rfl, by omega, n, rfl, by omega, _, rfl, by omega, r _⟩⟩
theorem eqI (a b : Int) : decide (V.int a = V.int b) = decide (a = b) := by simp
abbrev sEM (j : Nat) : Stmt := inClass sDeal j
@[irreducible] def spEI (CD : Addr) : Sp := fun vs H Q _ => ∃ (d dx o : Addr), vs = [.ref d, .ref o] ∧ H d = some (.ins CD dx []) ∧ ∀ H' a1 a2 a3 a4, (∀ b u, b ≠ d → H b = some u → H' b = some u) → H' d = some (.ins CD dx (dF o a1 a2 a3 a4)) →
  (H' a1 = some (.dK []) ∧ H' a2 = some (.dK []) ∧ H' a3 = some (.dK []) ∧ H' a4 = some (.dK [])) → (H a1 = none ∧ H a2 = none ∧ H a3 = none ∧ H a4 = none) → ((a1 ≠ a2 ∧ a1 ≠ a3 ∧ a1 ≠ a4) ∧ a2 ≠ a3 ∧ a2 ≠ a4 ∧ a3 ≠ a4) → Q .non H'
theorem ei_step {CD d dx o : Addr} {H : Hp} {Q : VK} {E : XK} (h : H d = some (.ins CD dx [])) (fin : ∀ H' a1 a2 a3 a4, (∀ b u, b ≠ d → H b = some u → H' b = some u) → H' d = some (.ins CD dx (dF o a1 a2 a3 a4)) →
  (H' a1 = some (.dK []) ∧ H' a2 = some (.dK []) ∧ H' a3 = some (.dK []) ∧ H' a4 = some (.dK [])) → (H a1 = none ∧ H a2 = none ∧ H a3 = none ∧ H a4 = none) → ((a1 ≠ a2 ∧ a1 ≠ a3 ∧ a1 ≠ a4) ∧ a2 ≠ a3 ∧ a2 ≠ a4 ∧ a3 ≠ a4) → Q .non H') : spEI CD [.ref d, .ref o] H Q E := by
  unfold spEI
  exact ⟨d, dx, o, rfl, h, fin⟩
@[irreducible] def spEN (CD CL CP CG : Addr) : Sp := fun vs H Q E => ∃ (many : Nat) (nm : List Str) (a : DA) (v : DV) (n : Str) (g : Int), vs = [.ref a.d, .str n, .int g] ∧ DoorA CD CL CP many nm a v H ∧ n.length ≤ 900 ∧ ((v.ages n).map (fun z => (z : Int)) ≠ some g → E (.ref CG) none H) ∧ ((v.ages n).map (fun z => (z : Int)) = some g → Q .non H)
theorem en_step {CD CL CP CG : Addr} {many : Nat} {nm : List Str} {a : DA} {v : DV} {n : Str} {g : Int} {H : Hp} {Q : VK} {E : XK} (x : DoorA CD CL CP many nm a v H) (hn : n.length ≤ 900) (bad : (v.ages n).map (fun z => (z : Int)) ≠ some g → E (.ref CG) none H) (good : (v.ages n).map (fun z => (z : Int)) = some g → Q .non H) : spEN CD CL CP CG [.ref a.d, .str n, .int g] H Q E := by
  unfold spEN
  exact ⟨many, nm, a, v, n, g, rfl, x, hn, bad, good⟩
@[irreducible] def spEO (CD CL CP CG : Addr) : Sp := fun vs H Q E => ∃ (many : Nat) (nm : List Str) (a : DA) (v : DV) (n : Str) (g : Int), vs = [.ref a.d, .str n, .int g] ∧ DoorA CD CL CP many nm a v H ∧ n.length ≤ 900 ∧ (¬ ((v.ages n).map (fun z => (z : Int)) = some g ∧ v.deals n ≠ none) → E (.ref CG) none H) ∧ ((v.ages n).map (fun z => (z : Int)) = some g ∧ v.deals n ≠ none → Q .non H)
theorem eo_step {CD CL CP CG : Addr} {many : Nat} {nm : List Str} {a : DA} {v : DV} {n : Str} {g : Int} {H : Hp} {Q : VK} {E : XK} (x : DoorA CD CL CP many nm a v H) (hn : n.length ≤ 900) (bad : ¬ ((v.ages n).map (fun z => (z : Int)) = some g ∧ v.deals n ≠ none) → E (.ref CG) none H) (good : (v.ages n).map (fun z => (z : Int)) = some g ∧ v.deals n ≠ none → Q .non H) : spEO CD CL CP CG [.ref a.d, .str n, .int g] H Q E := by
  unfold spEO
  exact ⟨many, nm, a, v, n, g, rfl, x, hn, bad, good⟩
section
variable {P : Program} {w : World} {K : PySem.W.Frag} {mg : Str → Option Value} {base : Heap} {f fN CD CL CP CG : Addr} {fd fdN : FuncData}
theorem scEI : FnScope ["self", "log"] ["self", "log"] (defScope (sEM 0)) := ⟨rfl, rfl, rfl, by decide +kernel, rfl, by decide +kernel, by decide +kernel⟩
theorem ok_einit (F : FnP K "__init__" "DealDoor.__init__" (sEM 0) [] f fd) (T : TxtE K mg CD) : FnOk P w K mg base CX0 1 f fd ["self", "log"] (spEI CD) := by
  refine F.ok scEI (fun vs H Q E h => ?_) (fun cdv A outer s H vs Q E hr h => ?_)
  · unfold spEI at h
    obtain ⟨_, _, _, rfl, _⟩ := h; rfl
  · unfold spEI at h
    obtain ⟨d, dx, o, rfl, h0, fin⟩ := h
    refine ⟨_, PSs.nox <| pss_cons (ps_fld (pv 0) (pv 1) rfl) (pss_cons (ps_fld (pv 0) pe_dnewK rfl) (pss_cons (ps_fld (pv 0) pe_dnewK rfl) (pss_cons (ps_fld (pv 0) pe_dnewK rfl) (pss_one (ps_fld (pv 0) pe_dnewK rfl))))), ?_⟩
    have mk : ∀ {H' : Hp} {fs fs' : List (Str × V)} {z : Addr}, (∀ b u, b ≠ d → H b = some u → H' b = some u) → H' d = some (.ins CD dx fs) → H' z = none →
        (∀ b u, b ≠ d → H b = some u → (upd (upd H' z (.dK [])) d (.ins CD dx fs')) b = some u) ∧ (upd (upd H' z (.dK [])) d (.ins CD dx fs')) d = some (.ins CD dx fs') ∧ (upd (upd H' z (.dK [])) d (.ins CD dx fs')) z = some (.dK []) ∧ z ≠ d ∧ H z = none ∧ ∀ b, b ≠ d → H' b ≠ none → (upd (upd H' z (.dK [])) d (.ins CD dx fs')) b = H' b := fun {H' fs fs' z} k hd hz => by
      have nz : z ≠ d := fun e => by rw [e, hd] at hz; cases hz
      refine ⟨fun b u nb hb => by rw [L2.upd_ne nb]; exact Ex.upd hz _ _ (k b u nb hb), upd_same, by rw [L2.upd_ne nz]; exact upd_same, nz, ?_, fun b nb hb => by rw [L2.upd_ne nb, L2.upd_ne (fun e => by rw [e] at hb; exact hb hz)]⟩
      cases q : H z with
      | none => rfl
      | some u => rw [k z u nz q] at hz; cases hz
    refine ⟨_, rfl, _, rfl, d, CD, dx, _, rfl, h0, T.cl, T.l, (by show 0 < 1000; decide), ?_⟩
    have k0 : ∀ b u, b ≠ d → H b = some u → (upd H d (.ins CD dx [("log", .ref o)])) b = some u := fun b u nb h => by rw [L2.upd_ne nb]; exact h
    have d0 : (upd H d (.ins CD dx [("log", .ref o)])) d = some (.ins CD dx [("log", .ref o)]) := upd_same
    show tSeq _ _ _ [some (.ref d), some (.ref o)] (upd H d (.ins CD dx [("log", .ref o)]))
    generalize upd H d (.ins CD dx [("log", .ref o)]) = H0 at k0 d0
    refine fun a1 z1 => ⟨_, rfl, d, CD, dx, _, rfl, Ex.upd z1 _ _ d0, T.cl, T.a, (by show 1 < 1000; decide), ?_⟩
    obtain ⟨k1, d1, p1, n1, e1, f1⟩ := mk (fs' := [("log", .ref o), ("ages", .ref a1)]) k0 d0 z1
    show tSeq _ _ _ [some (.ref d), some (.ref o)] (upd (upd H0 a1 (.dK [])) d (.ins CD dx [("log", .ref o), ("ages", .ref a1)]))
    generalize upd (upd H0 a1 (.dK [])) d (.ins CD dx [("log", .ref o), ("ages", .ref a1)]) = H1 at k1 d1 p1 f1
    refine fun a2 z2 => ⟨_, rfl, d, CD, dx, _, rfl, Ex.upd z2 _ _ d1, T.cl, T.n, (by show 2 < 1000; decide), ?_⟩
    obtain ⟨k2, d2, p2, n2, e2, f2⟩ := mk (fs' := [("log", .ref o), ("ages", .ref a1), ("numbers", .ref a2)]) k1 d1 z2
    show tSeq _ _ _ [some (.ref d), some (.ref o)] (upd (upd H1 a2 (.dK [])) d (.ins CD dx [("log", .ref o), ("ages", .ref a1), ("numbers", .ref a2)]))
    generalize upd (upd H1 a2 (.dK [])) d (.ins CD dx [("log", .ref o), ("ages", .ref a1), ("numbers", .ref a2)]) = H2 at k2 d2 p2 f2
    refine fun a3 z3 => ⟨_, rfl, d, CD, dx, _, rfl, Ex.upd z3 _ _ d2, T.cl, T.o, (by show 3 < 1000; decide), ?_⟩
    obtain ⟨k3, d3, p3, n3, e3, f3⟩ := mk (fs' := [("log", .ref o), ("ages", .ref a1), ("numbers", .ref a2), ("open_deals", .ref a3)]) k2 d2 z3
    have pf3 : L2.putF "open_deals" (V.ref a3) (([("log", V.ref o), ("ages", V.ref a1), ("numbers", V.ref a2)] : List (Str × V))) = (([("log", V.ref o), ("ages", V.ref a1), ("numbers", V.ref a2), ("open_deals", V.ref a3)] : List (Str × V))) := rfl
    rw [pf3]
    generalize upd (upd H2 a3 (.dK [])) d (.ins CD dx [("log", .ref o), ("ages", .ref a1), ("numbers", .ref a2), ("open_deals", .ref a3)]) = H3 at k3 d3 p3 f3
    refine fun a4 z4 => ⟨_, rfl, d, CD, dx, _, rfl, Ex.upd z4 _ _ d3, T.cl, T.f, (by show 4 < 1000; decide), ?_⟩
    obtain ⟨k4, d4, p4, n4, e4, f4⟩ := mk (fs' := dF o a1 a2 a3 a4) k3 d3 z4
    have s1 : H2 a1 = some (.dK []) := by rw [f2 a1 n1 (by rw [p1]; simp)]; exact p1
    have s2 : H3 a1 = some (.dK []) := by rw [f3 a1 n1 (by rw [s1]; simp)]; exact s1
    have s3 : H3 a2 = some (.dK []) := by rw [f3 a2 n2 (by rw [p2]; simp)]; exact p2
    refine fin _ a1 a2 a3 a4 k4 d4 ⟨(f4 a1 n1 (by rw [s2]; simp)).trans s2, (f4 a2 n2 (by rw [s3]; simp)).trans s3, (f4 a3 n3 (by rw [p3]; simp)).trans p3, p4⟩ ⟨e1, e2, e3, e4⟩
      ⟨⟨fun z => (by rw [← z, p1] at z2; cases z2), fun z => (by rw [← z, s1] at z3; cases z3), fun z => (by rw [← z, s2] at z4; cases z4)⟩, fun z => (by rw [← z, p2] at z3; cases z3), fun z => (by rw [← z, s3] at z4; cases z4), fun z => (by rw [← z, p3] at z4; cases z4)⟩
theorem scEN : FnScope ["self", "name", "age"] ["self", "name", "age"] (defScope (sEM 2)) := ⟨rfl, rfl, rfl, by decide +kernel, rfl, by decide +kernel, by decide +kernel⟩
theorem ok_need (F : FnP K "need" "DealDoor.need" (sEM 2) [] f fd) (T : TxtE K mg CD) (G : TxtG K mg CG) : FnOk P w K mg base (L2.CX P w) 1 f fd ["self", "name", "age"] (spEN CD CL CP CG) := by
  refine F.ok scEN (fun vs H Q E h => ?_) (fun cdv A outer s H vs Q E hr h => ?_)
  · unfold spEN at h
    obtain ⟨_, _, _, _, _, _, rfl, _⟩ := h; rfl
  · unfold spEN at h
    obtain ⟨many, nm, a, v, n, g, rfl, x, hn, bad, good⟩ := h
    have hu := hr.units
    have hu1 := Nat.lt_trans (Nat.add_lt_add_left (by decide : 1 < 64) _) hu
    refine ⟨_, pss_one (ps_if (pt_cmpR op_ne (pe_dget1 hu1 (pf 0) (pv 1) ⟨rfl, rfl, rfl, rfl⟩) (pv 2) (nomark _)) (pss_one (ps_raise rfl (takes_of rfl rfl rfl rfl) (SkE.pmk_own1 PySem.F.excBase_ValueError G.x G.g G.k (raises_own G.b G.t) rfl (pe_joined (.cons (pe_fmt (pv 1)) (.cons pe_str .nil)))))) pss_nil), ?_⟩
    obtain ⟨dx, ob⟩ := x.ob
    obtain ⟨kvs, g1, t1⟩ := x.t1
    refine ⟨_, rfl, a.d, CD, dx, _, _, rfl, ob, T.cl, T.a, rfl, a.a1, rfl, .inl ⟨_, .inl g1⟩, _, rfl, _, DGet.k (k := kS n) g1, _, rfl, ?_⟩
    cases e : v.ages n with
    | none =>
      rw [e] at bad
      rw [t1.none e]
      refine ⟨rfl, _, rfl, ifT (by simp) (js_name rfl hn (by decide) fun out => bad (by simp))⟩
    | some z =>
      obtain ⟨u, h1, h2⟩ := t1.some e
      have h2 : u = .int (z : Int) := h2
      subst h2
      rw [h1]
      rw [e] at bad good
      refine ⟨rfl, _, rfl, ?_⟩
      rw [Option.getD_some, eqI]
      by_cases c : (z : Int) = g
      · exact ifF (by simp [c]) (good (by simp [c]))
      · exact ifT (by simp [c]) (js_name rfl hn (by decide) fun out => bad (by simpa using c))
theorem scEO : FnScope ["self", "name", "age"] ["self", "name", "age"] (defScope (sEM 7)) := ⟨rfl, rfl, rfl, by decide +kernel, rfl, by decide +kernel, by decide +kernel⟩
theorem ok_needopen (F : FnP K "need_open" "DealDoor.need_open" (sEM 7) [] f fd) (T : TxtE K mg CD) (G : TxtG K mg CG) (mN : Meth K CD "need" fN) (GN : FnOk P w K mg base (L2.CX P w) 1 fN fdN ["self", "name", "age"] (spEN CD CL CP CG)) (bN : Binds K fdN ["self", "name", "age"] []) : FnOk P w K mg base (L2.CX P w) 2 f fd ["self", "name", "age"] (spEO CD CL CP CG) := by
  refine F.ok scEO (fun vs H Q E h => ?_) (fun cdv A outer s H vs Q E hr h => ?_)
  · unfold spEO at h
    obtain ⟨_, _, _, _, _, _, rfl, _⟩ := h; rfl
  · unfold spEO at h
    obtain ⟨many, nm, a, v, n, g, rfl, x, hn, bad, good⟩ := h
    have hu := hr.units
    have hu1 := Nat.lt_trans (Nat.add_lt_add_left (by decide : 1 < 64) _) hu
    refine ⟨_, pss_cons (ps_expr (pe_meth (pv 0) T.cl mN GN hr bN .nil (passes_call (takes_of rfl rfl rfl rfl) (fun _ _ _ _ h => h)) (pa_cons (pv 1) (pa_cons (pv 2) pa_nil))))
      (pss_one (ps_if (pt_cmp (pc_dnotin hu1 (pv 1) (pf 0))) (pss_one (ps_raise rfl (takes_of rfl rfl rfl rfl) (SkE.pmk_own1 PySem.F.excBase_ValueError G.x G.g G.k (raises_own G.b G.t) rfl (pe_joined (.cons (pe_fmt (pv 1)) (.cons pe_str .nil)))))) pss_nil)), ?_⟩
    obtain ⟨dx, ob⟩ := x.ob
    obtain ⟨kvs, g1, t1⟩ := x.t3
    refine ⟨_, rfl, a.d, dx, _, rfl, ob, rfl, _, rfl, _, rfl, en_step x hn (fun c => bad fun z => c z.1) fun c => ?_⟩
    refine ⟨_, rfl, _, rfl, a.d, CD, dx, _, _, rfl, ob, T.cl, T.o, rfl, a.a3, _, rfl, DGet.k (k := kS n) g1, _, rfl, ?_⟩
    rw [t1.isSome n]
    cases e : v.deals n with
    | none => exact ifT (by decide) (js_name rfl hn (by decide) fun out => bad fun z => z.2 e)
    | some z => exact ifF (by simp) (good ⟨c, by rw [e]; simp⟩)
end
end KL9
set_option Elab.async false
set_option linter.all false
set_option maxRecDepth 100000
set_option maxHeartbeats 4000000
namespace KL9
open PySem PySem.Spec PyProof.Rows L2 KB KC KS KN1 LamX K7 Q9
section
variable {CD CL CP CG CR Ps : Addr} {many : Nat} {nm : List Str} {a : DA} {v : DV} {H H' : Hp}
theorem DoorA.frl (x : DoorA CD CL CP many nm a v H) (t : TabS H Ps qK) (f : FrL Ps a.ps H H') {sts' : List PS} {L' : Nat → List Ev} (lg' : LogA CL CP a.o a.q a.ps sts' H') (ls' : LS many sts' L') : DoorA CD CL CP many nm a { v with L := L' } H' := by
  obtain ⟨dx, ob⟩ := x.ob
  obtain ⟨sts, lg, ls⟩ := x.lg
  have kt := f.kt lg t
  have dk : ∀ {b : Addr} {kvs : List (Key × V)}, H b = some (.dK kvs) → H' b = some (.dK kvs) := fun h => f.keepO lg t h (fun _ z => nomatch z) (fun _ _ _ z => nomatch z) (fun _ z => nomatch z)
  obtain ⟨k1, g1, h1⟩ := x.t1
  obtain ⟨k2, g2, h2⟩ := x.t2
  obtain ⟨k3, g3, h3⟩ := x.t3
  obtain ⟨k4, g4, h4⟩ := x.t4
  refine ⟨⟨dx, f.keepI lg t ob x.nd⟩, ⟨sts', lg', ls'⟩, ⟨k1, dk g1, h1⟩, ⟨k2, dk g2, h2⟩, ⟨k3, dk g3, h3.mono fun n w y _ => ?_⟩, ⟨k4, dk g4, h4⟩, fun n y hn => ?_, x.nj, x.ni, x.nn, x.nd, x.nz⟩
  · rintro ⟨t', e1, e2⟩
    exact ⟨t', e1, kt _ _ e2⟩
  · obtain ⟨kvs, e1, e2⟩ := x.t5 n y hn
    exact ⟨kvs, dk e1, e2⟩
theorem FrL.frD (f : FrL Ps a.ps H H') : FrD Ps a v H H' := ⟨f.1, fun b u n1 n2 h => f.2 b u n1 (fun z => n2 (.inl z)) (fun z => n2 (.inr (.inl z))) h⟩
theorem LS.add {sts : List PS} {L : Nat → List Ev} (ls : LS many sts L) {p : Nat} {st : PS} {e : Ev} (h : sts[p]? = some st) (ok : EvOk e) : LS many (sts.set p (app1 st (recE e))) (setL L p (L p ++ [e])) := by
  have hlt : p < sts.length := (List.getElem?_eq_some_iff.mp h).1
  refine ⟨by rw [List.length_set]; exact ls.len, fun j s1 hj => ?_, fun j e1 he => ?_⟩
  · by_cases c : j = p
    · subst c
      rw [List.getElem?_set_self hlt] at hj
      cases hj
      obtain ⟨h1, h2⟩ := ls.at_ _ _ h
      rw [setL_same, List.length_append]
      have := ok.2
      refine ⟨?_, ?_⟩
      · show (st.2.1 ++ recL (recE e)).length ≤ 100 * ((L j).length + 1)
        rw [List.length_append]; omega
      · show st.2.2 ++ [recE e] = _
        rw [h2, List.map_append]; rfl
    · rw [List.getElem?_set_ne (fun z => c z.symm)] at hj
      rw [setL_ne _ _ c]
      exact ls.at_ _ _ hj
  · by_cases c : j = p
    · subst c
      rw [setL_same] at he
      rcases List.mem_append.mp he with z | z
      · exact ls.ok _ _ z
      · rw [List.mem_singleton.mp z]; exact ok
    · rw [setL_ne _ _ c] at he
      exact ls.ok _ _ he
def begV (v : DV) (n : Str) (g : Nat) (i : Addr) : DV := { v with nums := putF v.nums n (some ((v.nums n).getD 0 + 1)), deals := putF v.deals n (some (g, (v.nums n).getD 0 + 1, [])), inn := fun j => if j = n then i else v.inn j }
@[irreducible] def spEB (CD CL CP CG Ps : Addr) : Sp := fun vs H Q E => ∃ (many : Nat) (nm : List Str) (a : DA) (v : DV) (n : Str) (g : Int), vs = [.ref a.d, .str n, .int g] ∧ DoorA CD CL CP many nm a v H ∧ TabS H Ps qK ∧ n.length ≤ 900 ∧ nm.length ≤ 100 ∧ n ∈ nm ∧
  (¬ ((v.ages n).map (fun z => (z : Int)) = some g ∧ v.deals n = none) → E (.ref CG) none H) ∧
  (∀ gN : Nat, v.ages n = some gN → g = (gN : Int) → v.deals n = none → ∀ H' i, H i = none → FrD Ps a v H H' → Grow a v (begV v n gN i) H → DoorA CD CL CP many nm a (begV v n gN i) H' → Q (.int (((v.nums n).getD 0 + 1 : Nat) : Int)) H')
theorem eb_step {n : Str} {g : Int} {Q : VK} {E : XK} (x : DoorA CD CL CP many nm a v H) (t : TabS H Ps qK) (hn : n.length ≤ 900) (hm : nm.length ≤ 100) (hi : n ∈ nm) (bad : ¬ ((v.ages n).map (fun z => (z : Int)) = some g ∧ v.deals n = none) → E (.ref CG) none H)
    (good : ∀ gN : Nat, v.ages n = some gN → g = (gN : Int) → v.deals n = none → ∀ H' i, H i = none → FrD Ps a v H H' → Grow a v (begV v n gN i) H → DoorA CD CL CP many nm a (begV v n gN i) H' → Q (.int (((v.nums n).getD 0 + 1 : Nat) : Int)) H') : spEB CD CL CP CG Ps [.ref a.d, .str n, .int g] H Q E := by
  unfold spEB
  exact ⟨many, nm, a, v, n, g, rfl, x, t, hn, hm, hi, bad, good⟩
theorem DoorA.begun (x : DoorA CD CL CP many nm a v H) {n : Str} {gN m : Nat} {i t : Addr} {k2 k3 k4 : List (Key × V)} (hi : n ∈ nm) (hd : v.deals n = none) (hm : m = (v.nums n).getD 0 + 1) (g2 : H a.a2 = some (.dK k2)) (t2 : Tab nm kS RNat k2 v.nums) (g3 : H a.a3 = some (.dK k3)) (t3 : Tab nm kS (RDeal H) k3 v.deals) (g4 : H a.a4 = some (.dK k4)) (t4 : Tab nm kS (RInn v.inn) k4 v.deals)
    (fresh : H i = none) (kp : ∀ b u, b ≠ a.a2 → b ≠ a.a3 → b ≠ a.a4 → H b = some u → H' b = some u) (e2 : H' a.a2 = some (.dK (putK k2 (kS n) (.int (m : Nat))))) (e3 : H' a.a3 = some (.dK (putK k3 (kS n) (.ref t)))) (e4 : H' a.a4 = some (.dK (putK k4 (kS n) (.ref i)))) (et : H' t = some (.tup [.str n, .int (gN : Nat), .int (m : Nat)])) (ei : H' i = some (.dK [])) : DoorA CD CL CP many nm a (begV v n gN i) H' ∧ Grow a v (begV v n gN i) H := by
  subst hm
  obtain ⟨dx, ob⟩ := x.ob
  obtain ⟨sts, lg, ls⟩ := x.lg
  obtain ⟨k1, g1, t1⟩ := x.t1
  obtain ⟨⟨j12, j13, j14⟩, j23, j24, j34⟩ := x.nj
  have nd : ∀ {b : Addr} {u : HO}, H b = some u → (∀ kvs, u ≠ .dK kvs) → H' b = some u := fun {b u} h nk => kp b u (fun z => by rw [z, g2] at h; exact nk _ (Option.some.inj h).symm) (fun z => by rw [z, g3] at h; exact nk _ (Option.some.inj h).symm) (fun z => by rw [z, g4] at h; exact nk _ (Option.some.inj h).symm) h
  have kt : KT' H H' := fun b ys h => nd h (fun _ z => nomatch z)
  have dn : ∀ {j : Str}, j ≠ n → putF v.deals n (some (gN, (v.nums n).getD 0 + 1, [])) j = v.deals j := fun h => putF_ne _ _ h
  have inn_n : ∀ {j : Str}, j ≠ n → (if j = n then i else v.inn j) = v.inn j := fun h => if_neg h
  have some_of : ∀ {j : Str}, j ≠ n → (begV v n gN i).deals j ≠ none → v.deals j ≠ none := fun h z => by rw [show (begV v n gN i).deals _ = _ from dn h] at z; exact z
  have live : ∀ {j : Str}, v.deals j ≠ none → H (v.inn j) ≠ none := fun {j} h => by
    cases e : v.deals j with
    | none => exact absurd e h
    | some y =>
      obtain ⟨kvs, q, _⟩ := x.t5 j y e
      rw [q]; simp
  refine ⟨⟨⟨dx, nd ob (fun _ z => nomatch z)⟩, ⟨sts, lg.keep (fun b C d fs h => nd h (fun _ z => nomatch z)) kt (fun b ys _ h => nd h (fun _ z => nomatch z)), ls⟩, ⟨k1, kp _ _ j12 j13 j14 g1, t1⟩, ⟨_, e2, t2.put kS_inj hi rfl fun _ _ _ _ _ h => h⟩, ⟨_, e3, t3.put kS_inj hi ⟨t, rfl, et⟩ fun _ _ _ _ _ h => ?_⟩, ⟨_, e4, t4.put (R' := RInn _) kS_inj hi (show V.ref i = V.ref (if n = n then i else v.inn n) from by rw [if_pos rfl]) fun j w y hj _ h => ?_⟩, fun j y hj => ?_, x.nj, fun j hj => ?_, fun j l hjl hj hl => ?_, x.nd, x.nz⟩, fun b h => ?_⟩
  · obtain ⟨t', q1, q2⟩ := h
    exact ⟨t', q1, kt _ _ q2⟩
  · have h : w = V.ref (v.inn j) := h
    show w = V.ref (if j = n then i else v.inn j)
    rw [inn_n hj]; exact h
  · by_cases c : j = n
    · subst c
      have hj : putF v.deals j _ j = some y := hj
      rw [putF_same] at hj
      cases hj
      refine ⟨[], ?_, Tab.nil⟩
      show H' (if j = j then i else _) = _
      rw [if_pos rfl]; exact ei
    · have hj' : v.deals j = some y := by rw [← dn c]; exact hj
      obtain ⟨kvs, q1, q2⟩ := x.t5 j y hj'
      obtain ⟨n1, n2, n3, n4⟩ := x.ni j (by rw [hj']; simp)
      refine ⟨kvs, ?_, q2⟩
      show H' (if j = n then i else v.inn j) = _
      rw [inn_n c]
      exact kp _ _ n2 n3 n4 q1
  · show (if j = n then i else v.inn j) ≠ _ ∧ (if j = n then i else v.inn j) ≠ _ ∧ (if j = n then i else v.inn j) ≠ _ ∧ (if j = n then i else v.inn j) ≠ _
    by_cases c : j = n
    · rw [if_pos c]
      exact ⟨fun z => (by rw [z, g1] at fresh; cases fresh), fun z => (by rw [z, g2] at fresh; cases fresh), fun z => (by rw [z, g3] at fresh; cases fresh), fun z => (by rw [z, g4] at fresh; cases fresh)⟩
    · rw [if_neg c]
      exact x.ni j (some_of c hj)
  · show (if j = n then i else v.inn j) ≠ (if l = n then i else v.inn l)
    by_cases c : j = n
    · have c2 : l ≠ n := fun z => hjl (c.trans z.symm)
      rw [if_pos c, if_neg c2]
      intro z
      exact live (some_of c2 hl) (by rw [← z]; exact fresh)
    · rw [if_neg c]
      by_cases c2 : l = n
      · rw [if_pos c2]
        intro z
        exact live (some_of c hj) (by rw [z]; exact fresh)
      · rw [if_neg c2]
        exact x.nn j l hjl (some_of c hj) (some_of c2 hl)
  · rcases h with h | h | h | h | h | h | ⟨j, h1, h2⟩
    · exact .inl (.inl h)
    · exact .inl (.inr (.inl h))
    · exact .inl (.inr (.inr (.inl h)))
    · exact .inl (.inr (.inr (.inr (.inl h))))
    · exact .inl (.inr (.inr (.inr (.inr (.inl h)))))
    · exact .inl (.inr (.inr (.inr (.inr (.inr (.inl h))))))
    · have h2 : b = if j = n then i else v.inn j := h2
      by_cases c : j = n
      · rw [if_pos c] at h2
        exact .inr (by rw [h2]; exact fresh)
      · rw [if_neg c] at h2
        exact .inl (.inr (.inr (.inr (.inr (.inr (.inr ⟨j, some_of c h1, h2⟩))))))
end
section
variable {P : Program} {w : World} {K : PySem.W.Frag} {mg : Str → Option Value} {base : Heap} {f fN CD CL CP CG Ps : Addr} {fd fdN : FuncData}
theorem scEB : FnScope ["self", "name", "age", "number"] ["self", "name", "age"] (defScope (sEM 3)) := ⟨rfl, rfl, rfl, by decide +kernel, rfl, by decide +kernel, by decide +kernel⟩
theorem ok_begin (F : FnP K "begin" "DealDoor.begin" (sEM 3) [] f fd) (T : TxtE K mg CD) (G : TxtG K mg CG) (mN : Meth K CD "need" fN) (GN : FnOk P w K mg base (L2.CX P w) 1 fN fdN ["self", "name", "age"] (spEN CD CL CP CG)) (bN : Binds K fdN ["self", "name", "age"] []) : FnOk P w K mg base (L2.CX P w) 2 f fd ["self", "name", "age"] (spEB CD CL CP CG Ps) := by
  refine F.ok scEB (fun vs H Q E h => ?_) (fun cdv A outer s H vs Q E hr h => ?_)
  · unfold spEB at h
    obtain ⟨_, _, _, _, _, _, rfl, _⟩ := h; rfl
  · unfold spEB at h
    obtain ⟨many, nm, a, v, n, g, rfl, x, tb, hn, hm, hi, bad, good⟩ := h
    have hu := hr.units
    have hu1 := Nat.lt_trans (Nat.add_lt_add_left (by decide : 1 < 64) _) hu
    have hz0 : sizeLine = 16777216 := rfl
    refine ⟨_, pss_cons (ps_expr (pe_meth (pv 0) T.cl mN GN hr bN .nil (passes_call (takes_of rfl rfl rfl rfl) (fun _ _ _ _ h => h)) (pa_cons (pv 1) (pa_cons (pv 2) pa_nil))))
      (pss_cons (ps_if (pt_cmp (pc_din hu1 (pv 1) (pf 0))) (pss_one (ps_raise rfl (takes_of rfl rfl rfl rfl) (SkE.pmk_own1 PySem.F.excBase_ValueError G.x G.g G.k (raises_own G.b G.t) rfl (pe_joined (.cons (pe_fmt (pv 1)) (.cons pe_str .nil)))))) pss_nil)
      (pss_cons (ps_set (i := 3) scEB.nd rfl (Or.inl rfl) (pe_op op_add (pe_dget2 hu1 (pf 0) (pv 1) pe_int ⟨rfl, rfl, rfl, rfl⟩) pe_int))
      (pss_cons (ps_dput hu1 (pf 0) (pv 1) (pv 3) rfl)
      (pss_cons (ps_dput hu1 (pf 0) (pv 1) (pe_tup (pa_cons (pv 1) (pa_cons (pv 2) (pa_cons (pv 3) pa_nil)))) rfl)
      (pss_cons (ps_dput hu1 (pf 0) (pv 1) pe_dnewK rfl)
      (pss_one (ps_ret (pv 3)))))))), ?_⟩
    obtain ⟨dx, ob⟩ := x.ob
    obtain ⟨k2, g2, t2⟩ := x.t2
    obtain ⟨k3, g3, t3⟩ := x.t3
    obtain ⟨k4, g4, t4⟩ := x.t4
    obtain ⟨⟨j12, j13, j14⟩, j23, j24, j34⟩ := x.nj
    refine ⟨_, rfl, a.d, dx, _, rfl, ob, rfl, _, rfl, _, rfl, en_step x hn (fun c => bad fun z => c z.1) fun c => ?_⟩
    obtain ⟨gN, hg, rfl⟩ : ∃ gN : Nat, v.ages n = some gN ∧ g = (gN : Int) := by
      cases e : v.ages n with
      | none => rw [e] at c; cases c
      | some z => rw [e] at c; cases c; exact ⟨z, rfl, rfl⟩
    refine ⟨_, rfl, _, rfl, a.d, CD, dx, _, _, rfl, ob, T.cl, T.o, rfl, a.a3, _, rfl, DGet.k (k := kS n) g3, _, rfl, ?_⟩
    rw [t3.isSome n]
    cases e : v.deals n with
    | some z => exact ifT (by simp) (js_name rfl hn (by decide) fun out => bad fun z => by rw [e] at z; cases z.2)
    | none =>
      refine ifF (by simp) ?_
      refine ⟨_, rfl, a.d, CD, dx, _, _, rfl, ob, T.cl, T.n, rfl, a.a2, rfl, .inl ⟨_, .inl g2⟩, _, rfl, _, DGet.k (k := kS n) g2, ?_⟩
      have hnum : (valV k2 (kS n)).getD (V.int 0) = .int (((v.nums n).getD 0 : Nat) : Int) := by
        cases q : v.nums n with
        | none => rw [t2.none q]; rfl
        | some z =>
          obtain ⟨u, h1, h2⟩ := t2.some q
          have h2 : u = .int (z : Int) := h2
          rw [h1, h2]; rfl
      rw [hnum]
      obtain ⟨m, hm'⟩ : ∃ m, m = (v.nums n).getD 0 + 1 := ⟨_, rfl⟩
      refine ⟨_, _, rfl, rfl, ?_⟩
      show tSeq _ _ _ [some (.ref a.d), some (.str n), some (.int (gN : Nat)), some (.int ((((v.nums n).getD 0 : Nat) : Int) + 1))] H
      rw [show (((v.nums n).getD 0 : Nat) : Int) + 1 = (m : Int) by omega]
      refine ⟨_, rfl, _, rfl, a.d, CD, dx, _, _, rfl, ob, T.cl, T.n, rfl, _, rfl, a.a2, _, rfl, DPut.k (k := kS n) g2 (by have := t2.len; omega), ?_⟩
      have up : ∀ {b c : Addr} {u o : HO} {H' : Hp}, H' b = some u → b ≠ c → (upd H' c o) b = some u := fun h n => by rw [L2.upd_ne n]; exact h
      have k1 : ∀ b u, b ≠ a.a2 → b ≠ a.a3 → b ≠ a.a4 → H b = some u → (upd H a.a2 (.dK (putK k2 (kS n) (.int (m : Nat))))) b = some u := fun b u n1 _ _ h => up h n1
      have ob1 := up (o := .dK (putK k2 (kS n) (.int (m : Nat)))) ob (show a.d ≠ a.a2 from fun z => by rw [z, g2] at ob; cases ob)
      have e21 : (upd H a.a2 (.dK (putK k2 (kS n) (.int (m : Nat))))) a.a2 = some (.dK (putK k2 (kS n) (.int (m : Nat)))) := upd_same
      have e31 := up (o := .dK (putK k2 (kS n) (.int (m : Nat)))) g3 j23.symm
      have e41 := up (o := .dK (putK k2 (kS n) (.int (m : Nat)))) g4 j24.symm
      have tb1 : TabS (upd H a.a2 (.dK (putK k2 (kS n) (.int (m : Nat))))) Ps qK := tab_upd tb g2 (fun _ z => nomatch z) (fun _ z => nomatch z)
      generalize upd H a.a2 (.dK (putK k2 (kS n) (.int (m : Nat)))) = H1 at k1 ob1 e21 e31 e41 tb1
      refine ⟨_, rfl, _, rfl, _, rfl, (by show 3 ≤ sizeLine; decide), fun t ht => ?_⟩
      have ob2 := Ex.upd ht (o := .tup [.str n, .int (gN : Nat), .int (m : Nat)]) _ _ ob1
      have e32 := Ex.upd ht (o := .tup [.str n, .int (gN : Nat), .int (m : Nat)]) _ _ e31
      refine ⟨_, rfl, a.d, CD, dx, _, _, rfl, ob2, T.cl, T.o, rfl, _, rfl, a.a3, _, rfl, DPut.k (k := kS n) e32 (by have := t3.len; omega), ?_⟩
      have n3t : t ≠ a.a3 := fun z => by rw [z, e31] at ht; cases ht
      have tb3 : TabS (upd (upd H1 t (.tup [.str n, .int (gN : Nat), .int (m : Nat)])) a.a3 (.dK (putK k3 (kS n) (.ref t)))) Ps qK := tab_upd (tb1.ext (Ex.upd ht)) e32 (fun _ z => nomatch z) (fun _ z => nomatch z)
      have k3' : ∀ b u, b ≠ a.a3 → H1 b = some u → (upd (upd H1 t (.tup [.str n, .int (gN : Nat), .int (m : Nat)])) a.a3 (.dK (putK k3 (kS n) (.ref t)))) b = some u := fun b u nb h => up (Ex.upd ht _ _ h) nb
      have et3 : (upd (upd H1 t (.tup [.str n, .int (gN : Nat), .int (m : Nat)])) a.a3 (.dK (putK k3 (kS n) (.ref t)))) t = some (.tup [.str n, .int (gN : Nat), .int (m : Nat)]) := up upd_same n3t
      have e33 : (upd (upd H1 t (.tup [.str n, .int (gN : Nat), .int (m : Nat)])) a.a3 (.dK (putK k3 (kS n) (.ref t)))) a.a3 = some (.dK (putK k3 (kS n) (.ref t))) := upd_same
      show tSeq _ _ _ [some (.ref a.d), some (.str n), some (.int (gN : Nat)), some (.int (m : Int))] (upd (upd H1 t (.tup [.str n, .int (gN : Nat), .int (m : Nat)])) a.a3 (.dK (putK k3 (kS n) (.ref t))))
      generalize upd (upd H1 t (.tup [.str n, .int (gN : Nat), .int (m : Nat)])) a.a3 (.dK (putK k3 (kS n) (.ref t))) = H3 at tb3 k3' et3 e33
      have ob3 := k3' _ _ (show a.d ≠ a.a3 from fun z => by rw [z, g3] at ob; cases ob) ob1
      have e43 := k3' _ _ j34.symm e41
      refine fun i hi3 => ?_
      have n4i : i ≠ a.a4 := fun z => by rw [z, e43] at hi3; cases hi3
      refine ⟨_, rfl, a.d, CD, dx, _, _, rfl, Ex.upd hi3 _ _ ob3, T.cl, T.f, rfl, _, rfl, a.a4, _, rfl, DPut.k (k := kS n) (Ex.upd hi3 _ _ e43) (by have := t4.len; omega), ?_⟩
      have iH : H i = none := by
        cases q : H i with
        | none => rfl
        | some u =>
          exfalso
          by_cases c2 : i = a.a2
          · rw [c2, k3' _ _ j23 e21] at hi3; cases hi3
          by_cases c3 : i = a.a3
          · rw [c3, e33] at hi3; cases hi3
          · rw [k3' _ _ c3 (k1 i u c2 c3 n4i q)] at hi3; cases hi3
      have k5 : ∀ b u, b ≠ a.a2 → b ≠ a.a3 → b ≠ a.a4 → H b = some u → (upd (upd H3 i (.dK [])) a.a4 (.dK (putK k4 (kS n) (.ref i)))) b = some u := fun b u n2 n3 n4 h => up (Ex.upd hi3 _ _ (k3' b u n3 (k1 b u n2 n3 n4 h))) n4
      obtain ⟨y, gr⟩ := x.begun (gN := gN) hi e hm' g2 t2 g3 t3 g4 t4 iH k5 (up (Ex.upd hi3 _ _ (k3' _ _ j23 e21)) j24) (up (Ex.upd hi3 _ _ e33) j34) upd_same (up (Ex.upd hi3 _ _ et3) (fun z => by rw [z, e43] at et3; cases et3)) (up upd_same n4i)
      have q := good gN hg rfl e _ i iH ⟨tab_upd (tb3.ext (Ex.upd hi3)) (Ex.upd hi3 _ _ e43) (fun _ z => nomatch z) (fun _ z => nomatch z), fun b u _ nb h => k5 b u (fun z => nb (.inr (.inr (.inr (.inl z))))) (fun z => nb (.inr (.inr (.inr (.inr (.inl z)))))) (fun z => nb (.inr (.inr (.inr (.inr (.inr (.inl z))))))) h⟩ gr y
      rw [← hm'] at q
      exact ⟨_, rfl, q⟩
end
end KL9
set_option Elab.async false
set_option linter.all false
set_option maxRecDepth 100000
set_option maxHeartbeats 4000000
namespace KL9
open PySem PySem.Spec PyProof.Rows L2 KB KC KS KN1 LamX K7 Q9
theorem tab_sorted {α : Type} {many : Nat} {R : Nat → V → α → Prop} {kvs : List (Key × V)} {f : Nat → Option α} (t : Tab (List.range many) kN R kvs f) : ∃ (bs : List Int) (ks : List Nat), kvs.map (fun kv => kV kv.1) = bs.map V.int ∧ (bs.mergeSort fun a b => decide (a ≤ b)) = ks.map (fun (k : Nat) => (k : Int)) ∧ ks.Nodup ∧ (∀ p, p ∈ ks ↔ f p ≠ none) ∧ ∀ p ∈ ks, p < many := by
  let g : Key × V → Int := fun kv => match kv.1 with
    | .inl i => i
    | .inr _ => 0
  have gk : ∀ kv ∈ kvs, ∃ k, k < many ∧ kv.1 = kN k ∧ g kv = (k : Int) := fun kv h => by
    obtain ⟨k, a, h1, h2, _⟩ := t.mem h
    refine ⟨k, List.mem_range.mp h1, h2, ?_⟩
    show (match kv.1 with | .inl i => i | .inr _ => 0) = _
    rw [h2]; rfl
  have pm := List.mergeSort_perm (kvs.map g) fun a b => decide (a ≤ b)
  have mem : ∀ i, i ∈ ((kvs.map g).mergeSort fun a b => decide (a ≤ b)) ↔ ∃ kv ∈ kvs, g kv = i := fun i => by rw [pm.mem_iff, List.mem_map]
  have nn : ∀ i ∈ ((kvs.map g).mergeSort fun a b => decide (a ≤ b)), ((i.toNat : Nat) : Int) = i := fun i hi => by
    obtain ⟨kv, h1, h2⟩ := (mem i).mp hi
    obtain ⟨k, _, _, e⟩ := gk kv h1
    rw [← h2, e]; rfl
  have fn : ∀ p, f p ≠ none ↔ (p : Int) ∈ ((kvs.map g).mergeSort fun a b => decide (a ≤ b)) := fun p => by
    rw [mem]
    constructor
    · intro h
      cases e : f p with
      | none => exact absurd e h
      | some a =>
        obtain ⟨v, h1, _⟩ := t.some e
        exact ⟨_, valV_key h1, rfl⟩
    · rintro ⟨kv, h1, h2⟩ z
      obtain ⟨k, a, _, h3, h4, _⟩ := t.mem h1
      obtain ⟨k', _, h5, h6⟩ := gk kv h1
      have : k' = k := kN_inj _ _ (h5.symm.trans h3)
      rw [h2] at h6
      have : p = k := by omega
      rw [this, h4] at z; cases z
  refine ⟨kvs.map g, ((kvs.map g).mergeSort fun a b => decide (a ≤ b)).map Int.toNat, ?_, ?_, ?_, fun p => ?_, fun p hp => ?_⟩
  · rw [List.map_map]
    refine List.map_congr_left fun kv h => ?_
    obtain ⟨k, _, h2, h3⟩ := gk kv h
    show kV kv.1 = V.int (g kv)
    rw [h3, h2]; rfl
  · rw [List.map_map]
    conv => lhs; rw [← List.map_id ((kvs.map g).mergeSort fun a b => decide (a ≤ b))]
    exact List.map_congr_left fun i hi => (nn i hi).symm
  · have hnd : (kvs.map g).Nodup := by
      have := t.nd
      have e : kvs.map (·.1) = (kvs.map g).map (Sum.inl : Int → Key) := by
        rw [List.map_map]
        refine List.map_congr_left fun kv h => ?_
        obtain ⟨k, _, h2, h3⟩ := gk kv h
        show kv.1 = Sum.inl (g kv)
        rw [h3, h2]; rfl
      rw [e] at this
      exact (List.pairwise_map.mp this).imp fun h z => h (congrArg _ z)
    have := pm.nodup_iff.mpr hnd
    rw [List.Nodup, List.pairwise_map]
    refine this.imp_of_mem fun {a b} ha hb n z => n ?_
    rw [← nn a ha, ← nn b hb, z]
  · rw [fn, List.mem_map]
    exact ⟨fun ⟨i, h1, h2⟩ => by rw [← h2, nn i h1]; exact h1, fun h => ⟨_, h, rfl⟩⟩
  · obtain ⟨i, h1, rfl⟩ := List.mem_map.mp hp
    obtain ⟨kv, h2, h3⟩ := (mem i).mp h1
    obtain ⟨k, h4, _, h5⟩ := gk kv h2
    rw [← h3, h5]; exact h4
def endJ (L : Nat → List Ev) (ks : List Nat) (w : Nat) (d : Id) (j : Nat) : Nat → List Ev := fun p => if p ∈ ks.take j then L p ++ [Ev.mark w d] else L p
theorem endJ_succ {L : Nat → List Ev} {ks : List Nat} {w : Nat} {d : Id} {j p : Nat} (nd : ks.Nodup) (h : ks[j]? = some p) : endJ L ks w d j p = L p ∧ setL (endJ L ks w d j) p (endJ L ks w d j p ++ [Ev.mark w d]) = endJ L ks w d (j + 1) := by
  have hn : p ∉ ks.take j := fun z => by
    obtain ⟨hj, e⟩ := List.getElem?_eq_some_iff.mp h
    have : ks = ks.take j ++ ks.drop j := (List.take_append_drop j ks).symm
    rw [this, List.nodup_append] at nd
    exact nd.2.2 p z p (by rw [List.drop_eq_getElem_cons hj, e]; exact List.mem_cons_self) rfl
  have e0 : endJ L ks w d j p = L p := if_neg hn
  refine ⟨e0, ?_⟩
  funext i
  by_cases c : i = p
  · subst c
    rw [setL_same, e0]
    unfold endJ
    rw [if_pos (by rw [List.take_add_one, h]; simp)]
  · rw [setL_ne _ _ c]
    unfold endJ
    rw [List.take_add_one, h]
    have : (i ∈ ks.take j ++ (some p).toList) ↔ i ∈ ks.take j := by simp [c]
    by_cases q : i ∈ ks.take j
    · rw [if_pos q, if_pos (this.mpr q)]
    · rw [if_neg q, if_neg (fun z => q (this.mp z))]
theorem endJ_all {L : Nat → List Ev} {ks : List Nat} {pl : List (Nat × Nat)} {w : Nat} {d : Id} (h : ∀ p, p ∈ ks ↔ firstOf pl p ≠ none) : endJ L ks w d ks.length = endF L pl w d := by
  funext p
  unfold endJ endF
  rw [List.take_length]
  have e : p ∈ ks ↔ hasP pl p := by
    rw [h]
    exact ⟨fun z => Classical.byContradiction fun c => z (firstOf_none.mpr c), fun z c => firstOf_none.mp c z⟩
  by_cases c : hasP pl p
  · rw [if_pos c, if_pos (e.mpr c)]
  · rw [if_neg c, if_neg (fun z => c (e.mp z))]
def doneV (v : DV) (n : Str) (x : Dl) (w : Nat) : DV := { v with deals := putF v.deals n none, L := endF v.L x.2.2 w (n, x.1, x.2.1) }
section
variable {CD CL CP CG CR Ps : Addr} {many : Nat} {nm : List Str} {a : DA} {v : DV} {H H' : Hp}
theorem DoorA.dropped (x : DoorA CD CL CP many nm a v H) {n : Str} {k3 k4 : List (Key × V)} (g3 : H a.a3 = some (.dK k3)) (t3 : Tab nm kS (RDeal H) k3 v.deals) (g4 : H a.a4 = some (.dK k4)) (t4 : Tab nm kS (RInn v.inn) k4 v.deals) :
    DoorA CD CL CP many nm a { v with deals := putF v.deals n none } (upd (upd H a.a3 (.dK (dropK k3 (kS n)))) a.a4 (.dK (dropK k4 (kS n)))) ∧ Grow a v { v with deals := putF v.deals n none } H := by
  obtain ⟨dx, ob⟩ := x.ob
  obtain ⟨sts, lg, ls⟩ := x.lg
  obtain ⟨k1, g1, t1⟩ := x.t1
  obtain ⟨k2, g2, t2⟩ := x.t2
  obtain ⟨⟨j12, j13, j14⟩, j23, j24, j34⟩ := x.nj
  have kp : ∀ b u, b ≠ a.a3 → b ≠ a.a4 → H b = some u → (upd (upd H a.a3 (.dK (dropK k3 (kS n)))) a.a4 (.dK (dropK k4 (kS n)))) b = some u := fun b u n3 n4 h => by rw [L2.upd_ne n4, L2.upd_ne n3]; exact h
  have nd : ∀ {b : Addr} {u : HO}, H b = some u → (∀ kvs, u ≠ .dK kvs) → (upd (upd H a.a3 (.dK (dropK k3 (kS n)))) a.a4 (.dK (dropK k4 (kS n)))) b = some u := fun {b u} h nk => kp b u (fun z => by rw [z, g3] at h; exact nk _ (Option.some.inj h).symm) (fun z => by rw [z, g4] at h; exact nk _ (Option.some.inj h).symm) h
  have kt : KT' H (upd (upd H a.a3 (.dK (dropK k3 (kS n)))) a.a4 (.dK (dropK k4 (kS n)))) := fun b ys h => nd h (fun _ z => nomatch z)
  have old : ∀ {j : Str}, (putF v.deals n none) j ≠ none → j ≠ n ∧ v.deals j ≠ none := fun {j} h => by
    have c : j ≠ n := fun z => h (by rw [z]; exact putF_same _ _ _)
    rw [putF_ne _ _ c] at h
    exact ⟨c, h⟩
  refine ⟨⟨⟨dx, nd ob (fun _ z => nomatch z)⟩, ⟨sts, lg.keep (fun b C d fs h => nd h (fun _ z => nomatch z)) kt (fun b ys _ h => nd h (fun _ z => nomatch z)), ls⟩, ⟨k1, kp _ _ j13 j14 g1, t1⟩, ⟨k2, kp _ _ j23 j24 g2, t2⟩, ⟨_, by rw [L2.upd_ne j34]; exact upd_same, t3.drop kS_inj fun _ _ _ _ _ h => ?_⟩, ⟨_, upd_same, t4.drop kS_inj fun _ _ _ _ _ h => h⟩, fun j y hj => ?_, x.nj, fun j hj => x.ni j (old hj).2, fun j l hjl hj hl => x.nn j l hjl (old hj).2 (old hl).2, x.nd, x.nz⟩, fun b h => .inl ?_⟩
  · obtain ⟨t', q1, q2⟩ := h
    exact ⟨t', q1, kt _ _ q2⟩
  · have hj : putF v.deals n none j = some y := hj
    obtain ⟨c, c2⟩ := old (j := j) (by rw [hj]; simp)
    rw [putF_ne _ _ c] at hj
    obtain ⟨kvs, q1, q2⟩ := x.t5 j y hj
    obtain ⟨_, _, n3, n4⟩ := x.ni j c2
    exact ⟨kvs, kp _ _ n3 n4 q1, q2⟩
  · rcases h with h | h | h | h | h | h | ⟨j, h1, h2⟩
    · exact .inl h
    · exact .inr (.inl h)
    · exact .inr (.inr (.inl h))
    · exact .inr (.inr (.inr (.inl h)))
    · exact .inr (.inr (.inr (.inr (.inl h))))
    · exact .inr (.inr (.inr (.inr (.inr (.inl h)))))
    · exact .inr (.inr (.inr (.inr (.inr (.inr ⟨j, (old h1).2, h2⟩)))))
@[irreducible] def spEE (CD CL CP Ps : Addr) : Sp := fun vs H Q _ => ∃ (many : Nat) (nm : List Str) (a : DA) (v : DV) (n : Str) (w : Nat) (x : Dl), vs = [.ref a.d, .str n, .int (w : Int)] ∧ DoorA CD CL CP many nm a v H ∧ TabS H Ps qK ∧ v.deals n = some x ∧ EvOk (Ev.mark w (n, x.1, x.2.1)) ∧ (∀ p, (v.L p).length < 90) ∧
  ∀ H', FrD Ps a v H H' → Grow a v (doneV v n x w) H → DoorA CD CL CP many nm a (doneV v n x w) H' → Q .non H'
theorem ee_step {n : Str} {w : Nat} {x : Dl} {Q : VK} {E : XK} (y : DoorA CD CL CP many nm a v H) (t : TabS H Ps qK) (h : v.deals n = some x) (ok : EvOk (Ev.mark w (n, x.1, x.2.1))) (bd : ∀ p, (v.L p).length < 90)
    (fin : ∀ H', FrD Ps a v H H' → Grow a v (doneV v n x w) H → DoorA CD CL CP many nm a (doneV v n x w) H' → Q .non H') : spEE CD CL CP Ps [.ref a.d, .str n, .int (w : Int)] H Q E := by
  unfold spEE
  exact ⟨many, nm, a, v, n, w, x, rfl, y, t, h, ok, bd, fin⟩
end
section
variable {P : Program} {w : World} {K : PySem.W.Frag} {mg : Str → Option Value} {base : Heap} {f fA CD CL CP CG CR Ps : Addr} {fd fdA : FuncData}
theorem u66 {k : Nat} {A : Around} (r : Room k A) : A.units + 66 < cLine := by have := r.un; omega
theorem scEE : FnScope ["self", "name", "word", "row", "part"] ["self", "name", "word"] (defScope (sEM 8)) := ⟨rfl, rfl, rfl, by decide +kernel, rfl, by decide +kernel, by decide +kernel⟩
theorem ok_end (F : FnP K "end" "DealDoor.end" (sEM 8) [] f fd) (T : TxtE K mg CD) (O : TxtO K mg CL) (TP : TxtP K mg CP) (TL : TxtL mg) (mA : Meth K CP "append" fA) (GA : FnOk P w K mg base (L2.CX P w) 5 fA fdA ["self", "key", "row", "time"] (spPA CP CG CR Ps)) (bA : Binds K fdA ["self", "key", "row", "time"] []) : FnOk P w K mg base CX0 6 f fd ["self", "name", "word"] (spEE CD CL CP Ps) := by
  refine F.ok scEE (fun vs H Q E h => ?_) (fun cdv A outer s H vs Q E hr h => ?_)
  · unfold spEE at h
    obtain ⟨_, _, _, _, _, _, _, rfl, _⟩ := h; rfl
  · unfold spEE at h
    obtain ⟨many, nm, a, v, n, wd, dl, rfl, x, tb, hdl, ok, bd, fin⟩ := h
    have hu := hr.units
    have hu1 := Nat.lt_trans (Nat.add_lt_add_left (by decide : 1 < 64) _) hu
    have hz0 : sizeLine = 16777216 := rfl
    refine ⟨_, PSs.nox <| pss_cons (ps_set (i := 3) scEE.nd rfl (Or.inl rfl) (pe_op op_catA (pe_tup (pa_cons (pv 2) pa_nil)) (pe_dget hu1 (pf 0) (pv 1) (fun _ _ => rfl))))
      (pss_cons (ps_for PassesOwn.never rfl (pi_list (pe_callB (_root_.CP.cr_sortDI rfl (u66 hr)) (by rfl) TL.sorted (by decide +kernel) (pa_cons (pe_dget hu1 (pf 0) (pv 1) (fun _ _ => rfl)) pa_nil))) (pg_name (i := 4) scEE.nd rfl (Or.inl rfl))
        (pss_one (ps_expr (pe_meth (pe_ix ix_listD (pe_fld (pf 0) rfl) (pv 4) (fun _ _ => rfl)) TP.cl mA GA hr bA (E := fun _ _ _ => False) .nil (passes_call L2.takes0 (fun _ _ _ _ h => h)) (pa_cons (pe_tup (pa_cons (pv 1) pa_nil)) (pa_cons (pv 3) (pa_cons pe_int pa_nil)))))))
      (pss_cons (ps_ddel (pf 0) (pv 1)) (pss_one (ps_ddel (pf 0) (pv 1))))), ?_⟩
    obtain ⟨dx, ob⟩ := x.ob
    obtain ⟨k3, g3, t3⟩ := x.t3
    obtain ⟨k4, g4, t4⟩ := x.t4
    obtain ⟨u, q1, ⟨t, rfl, q2⟩⟩ := t3.some hdl
    obtain ⟨ui, q3, q4⟩ := t4.some hdl
    have q4 : ui = .ref (v.inn n) := q4
    subst q4
    refine ⟨_, rfl, (by show 1 ≤ sizeLine; decide), fun z hz => ?_⟩
    have e1 : KS.Ex H (upd H z (.tup [.int (wd : Int)])) := Ex.upd hz
    have hz1 : (upd H z (.tup [.int (wd : Int)])) z = some (.tup [.int (wd : Int)]) := upd_same
    generalize upd H z (.tup [.int (wd : Int)]) = H1 at e1 hz1
    refine ⟨_, rfl, a.d, CD, dx, _, _, rfl, e1 _ _ ob, T.cl, T.o, rfl, _, rfl, a.a3, _, rfl, by rw [← q1]; exact DGet.k (k := kS n) (e1 _ _ g3), z, t, _, _, rfl, rfl, SqT.of hz1, SqT.of (e1 _ _ q2), (by show 4 ≤ sizeLine; decide), (fun c => nomatch c), (fun _ c => nomatch c), fun _ _ r hr1 => ?_⟩
    have e2 : KS.Ex H1 (upd H1 r (.tup ([.int (wd : Int)] ++ [.str n, .int ((dl.1 : Nat) : Int), .int ((dl.2.1 : Nat) : Int)]))) := Ex.upd hr1
    have hr2 : (upd H1 r (.tup ([.int (wd : Int)] ++ [.str n, .int ((dl.1 : Nat) : Int), .int ((dl.2.1 : Nat) : Int)]))) r = some (.tup ((recE (Ev.mark wd (n, dl.1, dl.2.1))).2.1.map kV)) := upd_same
    show tSeq _ _ _ [some (.ref a.d), some (.str n), some (.int (wd : Int)), some (.ref r), none] (upd H1 r (.tup ([.int (wd : Int)] ++ [.str n, .int ((dl.1 : Nat) : Int), .int ((dl.2.1 : Nat) : Int)])))
    generalize upd H1 r (.tup ([.int (wd : Int)] ++ [.str n, .int ((dl.1 : Nat) : Int), .int ((dl.2.1 : Nat) : Int)])) = H2 at e2 hr2
    have e02 := e1.trans e2
    have x2 := x.ex e02
    obtain ⟨ki, i1, i2⟩ := x2.t5 n dl hdl
    obtain ⟨bs, ks, s1, s2, s3, s4, s5⟩ := tab_sorted i2
    refine ⟨_, rfl, a.d, CD, dx, _, _, rfl, e02 _ _ ob, T.cl, T.f, rfl, _, rfl, a.a4, _, rfl, by rw [← q3]; exact DGet.k (k := kS n) (e02 _ _ g4), _, ki, bs, rfl, i1, s1, fun D hD => ?_⟩
    rw [s2, List.map_map]
    have e3 : KS.Ex H2 (upd H2 D (.lst (ks.map (V.int ∘ fun (k : Nat) => (k : Int))))) := Ex.upd hD
    have hD3 : (upd H2 D (.lst (ks.map (V.int ∘ fun (k : Nat) => (k : Int))))) D = some (.lst (ks.map (V.int ∘ fun (k : Nat) => (k : Int)))) := upd_same
    generalize upd H2 D (.lst (ks.map (V.int ∘ fun (k : Nat) => (k : Int)))) = H3 at e3 hD3
    have x3 := x2.ex e3
    have tb3 := tb.ext (e02.trans e3)
    obtain ⟨sts, lg, ls⟩ := x3.lg
    have nDl : D ∉ a.ps.map (·.2) := fun z => by
      obtain ⟨sts2, lg2, _⟩ := x2.lg
      obtain ⟨_, e⟩ := lg2.lists z
      rw [e] at hD; cases hD
    refine ⟨D, rfl, ⟨_, SqL.of hD3⟩, for_list (xs := ks.map (V.int ∘ fun (k : Nat) => (k : Int))) (fun j σ H' => (∃ u, σ = [some (.ref a.d), some (.str n), some (.int (wd : Int)), some (.ref r), u]) ∧ FrL Ps a.ps H3 H' ∧ ∃ sts', LogA CL CP a.o a.q a.ps sts' H' ∧ LS many sts' (endJ v.L ks wd (n, dl.1, dl.2.1) j)) ⟨⟨_, rfl⟩, FrL.ex tb3 (KS.Ex.refl H3), sts, lg, ls⟩ ?_ ?_ ?_⟩
    · rintro j σ H' _ ⟨_, f', _⟩
      exact SqL.of (f'.keepL lg tb3 hD3 nDl)
    · rintro j y σ H' hy ⟨⟨u, rfl⟩, f', sts', lg', ls'⟩
      rw [List.getElem?_map] at hy
      obtain ⟨p, hp, rfl⟩ := Option.map_eq_some_iff.mp hy
      have hpm := s5 p (List.mem_of_getElem? hp)
      obtain ⟨ej0, ej1⟩ := endJ_succ (L := v.L) (w := wd) (d := (n, dl.1, dl.2.1)) s3 hp
      have hlt : p < sts'.length := by rw [ls'.len]; exact hpm
      obtain ⟨st, hst⟩ : ∃ st, sts'[p]? = some st := ⟨_, List.getElem?_eq_getElem hlt⟩
      obtain ⟨b1, b2⟩ := ls'.at_ p st hst
      rw [ej0] at b1 b2
      have bdp := bd p
      obtain ⟨p1, l1, hj, pt⟩ := lg'.get hst
      obtain ⟨dp, kk, vv, ts, g1, _⟩ := id pt
      obtain ⟨dxo, obo⟩ := lg'.ob
      have obd := f'.keepI lg tb3 (e3 _ _ (e02 _ _ ob)) x.nd
      have hr3 := (f'.kt lg tb3) _ _ (e3 _ _ hr2)
      refine ⟨_, rfl, a.d, CD, dx, _, _, rfl, obd, T.cl, T.l, rfl, a.o, CL, dxo, _, _, rfl, obo, O.cl, O.p, rfl, _, rfl, a.q, _, _, V.ref p1, rfl, rfl, lg'.ql, atI_nat (by rw [List.getElem?_map, hj]; rfl), p1, dp, _, rfl, g1, rfl, _, rfl, (by show 1 ≤ sizeLine; decide), fun kq hkq => ?_⟩
      have e4 : KS.Ex H' (upd H' kq (.tup [.str n])) := Ex.upd hkq
      have hk4 : (upd H' kq (.tup [.str n])) kq = some (.tup ((recE (Ev.mark wd (n, dl.1, dl.2.1))).1.map kV)) := upd_same
      refine ⟨_, rfl, ?_⟩
      show spPA CP CG CR Ps [.ref p1, .ref kq, .ref r, .int ((recE (Ev.mark wd (n, dl.1, dl.2.1))).2.2 : Nat)] (upd H' kq (.tup [.str n])) _ _
      generalize upd H' kq (.tup [.str n]) = H4 at e4 hk4
      have tb4 := f'.1.ext e4
      refine app_step (pt.ex e4) (by omega) (by rw [b2, List.length_map]; omega) hk4 (e4 _ _ hr3) ok.1 tb4 fun H5 f5 pt5 => ?_
      refine ⟨⟨_, rfl⟩, (f'.trans (FrL.ex f'.1 e4)).trans (FrL.fp f5 (List.mem_of_getElem? hj)), sts'.set p (app1 st (recE (Ev.mark wd (n, dl.1, dl.2.1)))), (lg'.ex e4).set tb4 hj f5 pt5, ?_⟩
      rw [← ej1]
      exact ls'.add hst ok
    · rintro σ H' ⟨⟨u, rfl⟩, f', sts', lg', ls'⟩
      rw [List.length_map, endJ_all s4] at ls'
      have x4 := x3.frl tb3 f' lg' ls'
      obtain ⟨dx4, ob4⟩ := x4.ob
      obtain ⟨k3', g3', t3'⟩ := x4.t3
      obtain ⟨k4', g4', t4'⟩ := x4.t4
      refine ⟨_, rfl, a.d, CD, dx4, _, _, rfl, ob4, T.cl, T.o, rfl, _, rfl, a.a3, k3', kS n, rfl, g3', rfl, by rw [t3'.isSome n]; show (v.deals n).isSome = true; rw [hdl]; rfl, ?_⟩
      have nd3 : a.d ≠ a.a3 := fun z => by rw [z, g3'] at ob4; cases ob4
      have j34 := x.nj.2.2.2
      refine ⟨_, rfl, a.d, CD, dx4, _, _, rfl, by rw [L2.upd_ne nd3]; exact ob4, T.cl, T.f, rfl, _, rfl, a.a4, k4', kS n, rfl, by rw [L2.upd_ne j34.symm]; exact g4', rfl, by rw [t4'.isSome n]; show (v.deals n).isSome = true; rw [hdl]; rfl, ?_⟩
      obtain ⟨x5, gr⟩ := x4.dropped (n := n) g3' t3' g4' t4'
      refine fin _ ⟨?_, fun b u n1 n2 h => ?_⟩ (fun b h => .inl ?_) x5
      · exact tab_upd (u := .dK k4') (tab_upd f'.1 g3' (fun _ z => nomatch z) (fun _ z => nomatch z)) (by rw [L2.upd_ne j34.symm]; exact g4') (fun _ z => nomatch z) (fun _ z => nomatch z)
      · rw [L2.upd_ne (fun z => n2 (.inr (.inr (.inr (.inr (.inr (.inl z))))))), L2.upd_ne (fun z => n2 (.inr (.inr (.inr (.inr (.inl z))))))]
        exact f'.2 b u n1 (fun z => n2 (.inl z)) (fun z => n2 (.inr (.inl z))) (e3 _ _ (e02 _ _ h))
      · rcases gr b h with z | z
        · exact z
        · rcases h with h | h | h | h | h | h | ⟨j, h1, h2⟩
          · exact .inl h
          · exact .inr (.inl h)
          · exact .inr (.inr (.inl h))
          · exact .inr (.inr (.inr (.inl h)))
          · exact .inr (.inr (.inr (.inr (.inl h))))
          · exact .inr (.inr (.inr (.inr (.inr (.inl h)))))
          · refine .inr (.inr (.inr (.inr (.inr (.inr ⟨j, fun y => h1 ?_, h2⟩)))))
            show putF v.deals n none j = none
            unfold Q9.putF
            split
            · rfl
            · exact y
end
end KL9
set_option Elab.async false
set_option linter.all false
set_option maxRecDepth 100000
set_option maxHeartbeats 4000000
namespace KL9
open PySem PySem.Spec PyProof.Rows L2 KB KC KS KN1 LamX K7 Q9 R8
def agedV (v : DV) (n : Str) : DV := { v with ages := Q9.putF v.ages n (some ((v.ages n).getD 0 + 1)) }
def entV (v : DV) (n : Str) : DV := match v.deals n with
  | some x => agedV (doneV v n x 2) n
  | none => agedV v n
section
variable {CD CL CP CG CR Ps : Addr} {many : Nat} {nm : List Str} {a : DA} {v : DV} {H H' : Hp}
theorem DoorA.aged (x : DoorA CD CL CP many nm a v H) {n : Str} {k1 : List (Key × V)} (hi : n ∈ nm) (g1 : H a.a1 = some (.dK k1)) (t1 : Tab nm kS RNat k1 v.ages) : DoorA CD CL CP many nm a (agedV v n) (upd H a.a1 (.dK (putK k1 (kS n) (.int (((v.ages n).getD 0 + 1 : Nat) : Int))))) := by
  obtain ⟨dx, ob⟩ := x.ob
  obtain ⟨sts, lg, ls⟩ := x.lg
  obtain ⟨k2, g2, t2⟩ := x.t2
  obtain ⟨k3, g3, t3⟩ := x.t3
  obtain ⟨k4, g4, t4⟩ := x.t4
  obtain ⟨⟨j12, j13, j14⟩, j23, j24, j34⟩ := x.nj
  have kp : ∀ b u, b ≠ a.a1 → H b = some u → (upd H a.a1 (.dK (putK k1 (kS n) (.int (((v.ages n).getD 0 + 1 : Nat) : Int))))) b = some u := fun b u n3 h => by rw [L2.upd_ne n3]; exact h
  have nd : ∀ {b : Addr} {u : HO}, H b = some u → (∀ kvs, u ≠ .dK kvs) → (upd H a.a1 (.dK (putK k1 (kS n) (.int (((v.ages n).getD 0 + 1 : Nat) : Int))))) b = some u := fun {b u} h nk => kp b u (fun z => by rw [z, g1] at h; exact nk _ (Option.some.inj h).symm) h
  have kt : KT' H (upd H a.a1 (.dK (putK k1 (kS n) (.int (((v.ages n).getD 0 + 1 : Nat) : Int))))) := fun b ys h => nd h (fun _ z => nomatch z)
  refine ⟨⟨dx, nd ob (fun _ z => nomatch z)⟩, ⟨sts, lg.keep (fun b C d fs h => nd h (fun _ z => nomatch z)) kt (fun b ys _ h => nd h (fun _ z => nomatch z)), ls⟩, ⟨_, upd_same, t1.put kS_inj hi rfl fun _ _ _ _ _ h => h⟩, ⟨k2, kp _ _ j12.symm g2, t2⟩, ⟨k3, kp _ _ j13.symm g3, t3.mono fun _ _ _ _ h => ?_⟩, ⟨k4, kp _ _ j14.symm g4, t4⟩, fun j y hj => ?_, x.nj, x.ni, x.nn, x.nd, x.nz⟩
  · obtain ⟨t', q1, q2⟩ := h
    exact ⟨t', q1, kt _ _ q2⟩
  · obtain ⟨kvs, q1, q2⟩ := x.t5 j y hj
    obtain ⟨n1, _⟩ := x.ni j (by rw [show v.deals j = some y from hj]; simp)
    exact ⟨kvs, kp _ _ n1 q1, q2⟩
@[irreducible] def spER (CD CL CP Ps : Addr) : Sp := fun vs H Q _ => ∃ (many : Nat) (nm : List Str) (a : DA) (v : DV) (n : Str), vs = [.ref a.d, .str n] ∧ DoorA CD CL CP many nm a v H ∧ TabS H Ps qK ∧ nm.length ≤ 100 ∧ n ∈ nm ∧ (∀ x, v.deals n = some x → EvOk (Ev.mark 2 (n, x.1, x.2.1))) ∧ (∀ p, (v.L p).length < 90) ∧
  ∀ H', FrD Ps a v H H' → Grow a v (entV v n) H → DoorA CD CL CP many nm a (entV v n) H' → Q (.int (((v.ages n).getD 0 + 1 : Nat) : Int)) H'
theorem er_step {n : Str} {Q : VK} {E : XK} (y : DoorA CD CL CP many nm a v H) (t : TabS H Ps qK) (hm : nm.length ≤ 100) (hi : n ∈ nm) (ok : ∀ x, v.deals n = some x → EvOk (Ev.mark 2 (n, x.1, x.2.1))) (bd : ∀ p, (v.L p).length < 90)
    (fin : ∀ H', FrD Ps a v H H' → Grow a v (entV v n) H → DoorA CD CL CP many nm a (entV v n) H' → Q (.int (((v.ages n).getD 0 + 1 : Nat) : Int)) H') : spER CD CL CP Ps [.ref a.d, .str n] H Q E := by
  unfold spER
  exact ⟨many, nm, a, v, n, rfl, y, t, hm, hi, ok, bd, fin⟩
@[irreducible] def spEC (w : Nat) (CD CL CP CG Ps : Addr) : Sp := fun vs H Q E => ∃ (many : Nat) (nm : List Str) (a : DA) (v : DV) (n : Str) (g : Int), vs = [.ref a.d, .str n, .int g] ∧ DoorA CD CL CP many nm a v H ∧ TabS H Ps qK ∧ n.length ≤ 900 ∧ (∀ x, v.deals n = some x → EvOk (Ev.mark w (n, x.1, x.2.1))) ∧ (∀ p, (v.L p).length < 90) ∧
  (¬ ((v.ages n).map (fun z => (z : Int)) = some g ∧ v.deals n ≠ none) → E (.ref CG) none H) ∧
  (∀ x, v.deals n = some x → (v.ages n).map (fun z => (z : Int)) = some g → ∀ H', FrD Ps a v H H' → Grow a v (doneV v n x w) H → DoorA CD CL CP many nm a (doneV v n x w) H' → Q .non H')
theorem ec_step {w : Nat} {n : Str} {g : Int} {Q : VK} {E : XK} (y : DoorA CD CL CP many nm a v H) (t : TabS H Ps qK) (hn : n.length ≤ 900) (ok : ∀ x, v.deals n = some x → EvOk (Ev.mark w (n, x.1, x.2.1))) (bd : ∀ p, (v.L p).length < 90)
    (bad : ¬ ((v.ages n).map (fun z => (z : Int)) = some g ∧ v.deals n ≠ none) → E (.ref CG) none H)
    (good : ∀ x, v.deals n = some x → (v.ages n).map (fun z => (z : Int)) = some g → ∀ H', FrD Ps a v H H' → Grow a v (doneV v n x w) H → DoorA CD CL CP many nm a (doneV v n x w) H' → Q .non H') : spEC w CD CL CP CG Ps [.ref a.d, .str n, .int g] H Q E := by
  unfold spEC
  exact ⟨many, nm, a, v, n, g, rfl, y, t, hn, ok, bd, bad, good⟩
@[irreducible] def spEF (CD CL CP : Addr) : Sp := fun vs H Q _ => ∃ (many : Nat) (nm : List Str) (a : DA) (v : DV) (p : Nat) (nums : Str → Option Nat), vs = [.ref a.d, .int (p : Int)] ∧ DoorA CD CL CP many nm a v H ∧ nm.length ≤ 100 ∧ Good many nums v.deals v.L ∧ p < many ∧ ∀ H', KS.Ex H H' → Q (.int ((endL (v.L p) : Nat) : Int)) H'
theorem ef_step {p : Nat} {nums : Str → Option Nat} {Q : VK} {E : XK} (y : DoorA CD CL CP many nm a v H) (hm : nm.length ≤ 100) (g : Good many nums v.deals v.L) (hp : p < many) (fin : ∀ H', KS.Ex H H' → Q (.int ((endL (v.L p) : Nat) : Int)) H') : spEF CD CL CP [.ref a.d, .int (p : Int)] H Q E := by
  unfold spEF
  exact ⟨many, nm, a, v, p, nums, rfl, y, hm, g, hp, fin⟩
end
theorem min_firm {many : Nat} {nums : Str → Option Nat} {deals : Str → Option Dl} {L : Nat → List Ev} (g : Good many nums deals L) {p : Nat} (hp : p < many) {vals : List Nat} (h1 : ∀ v ∈ vals, ∃ n x, deals n = some x ∧ firstOf x.2.2 p = some v) (h2 : ∀ n x v, deals n = some x → firstOf x.2.2 p = some v → v ∈ vals) :
    minDef (vals.map fun (v : Nat) => (v : Int)) (((L p).length : Nat) : Int) = ((endL (L p) : Nat) : Int) := by
  cases e : vals with
  | nil =>
    show (((L p).length : Nat) : Int) = _
    rw [← g.firm hp h1 h2 (.inl ⟨e, rfl⟩)]
  | cons y r =>
    obtain ⟨q1, q2⟩ := minOf_spec (r.map fun (v : Nat) => (v : Int)) (y : Int)
    show PySem.W.minOf (y : Int) (r.map fun (v : Nat) => (v : Int)) = _
    generalize PySem.W.minOf (y : Int) (r.map fun (v : Nat) => (v : Int)) = z at q1 q2
    have q1 : z ∈ (y :: r).map fun (v : Nat) => (v : Int) := q1
    rw [← e] at q1
    obtain ⟨m, hm, rfl⟩ := List.mem_map.mp q1
    have : m = endL (L p) := g.firm hp h1 h2 (.inr ⟨hm, fun v hv => by
      have q2 : ∀ u ∈ (y :: r).map (fun (v : Nat) => (v : Int)), (m : Int) ≤ u := q2
      rw [← e] at q2
      have := q2 _ (List.mem_map_of_mem hv)
      omega⟩)
    rw [this]
section
variable {P : Program} {w : World} {K : PySem.W.Frag} {mg : Str → Option Value} {base : Heap} {f fE fN fO CD CL CP CG CR Ps : Addr} {fd fdE fdN fdO : FuncData}
theorem scER : FnScope ["self", "name"] ["self", "name"] (defScope (sEM 1)) := ⟨rfl, rfl, rfl, by decide +kernel, rfl, by decide +kernel, by decide +kernel⟩
theorem ok_enter (F : FnP K "enter" "DealDoor.enter" (sEM 1) [] f fd) (T : TxtE K mg CD) (W : TxtW mg) (mE : Meth K CD "end" fE) (GE : FnOk P w K mg base CX0 6 fE fdE ["self", "name", "word"] (spEE CD CL CP Ps)) (bE : Binds K fdE ["self", "name", "word"] []) : FnOk P w K mg base CX0 7 f fd ["self", "name"] (spER CD CL CP Ps) := by
  obtain ⟨tk, hD⟩ := W.dr
  refine F.ok scER (fun vs H Q E h => ?_) (fun cdv A outer s H vs Q E hr h => ?_)
  · unfold spER at h
    obtain ⟨_, _, _, _, _, rfl, _⟩ := h; rfl
  · unfold spER at h
    obtain ⟨many, nm, a, v, n, rfl, x, tb, hm, hi, ok, bd, fin⟩ := h
    have hu := hr.units
    have hu1 := Nat.lt_trans (Nat.add_lt_add_left (by decide : 1 < 64) _) hu
    have hz0 : sizeLine = 16777216 := rfl
    refine ⟨_, PSs.nox <| pss_cons (ps_if (pt_cmp (pc_din hu1 (pv 1) (pf 0))) (pss_one (ps_expr (pe_meth (pv 0) T.cl mE GE hr bE .nil pass0 (pa_cons (pv 1) (pa_cons (pe_glob (v := .int 2) (by rfl) hD ⟨_, rfl⟩) pa_nil))))) pss_nil)
      (pss_cons (ps_dput hu1 (pf 0) (pv 1) (pe_op op_add (pe_dget2 hu1 (pf 0) (pv 1) pe_int ⟨rfl, rfl, rfl, rfl⟩) pe_int) rfl)
      (pss_one (ps_ret (pe_dget hu1 (pf 0) (pv 1) (fun _ _ => rfl))))), ?_⟩
    obtain ⟨dx, ob⟩ := x.ob
    obtain ⟨k3, g3, t3⟩ := x.t3
    have tail : ∀ (v1 : DV) (H1 : Hp), DoorA CD CL CP many nm a v1 H1 → TabS H1 Ps qK → v1.ages n = v.ages n → (∀ H', FrD Ps a v1 H1 H' → DoorA CD CL CP many nm a (agedV v1 n) H' → Q (.int (((v.ages n).getD 0 + 1 : Nat) : Int)) H') →
        tSeq (sDPut (tFld K (tVar 0) "ages") (tVar 1) (tOp (rI0 fun i j => V.int (i + j)) (tDGet2 (tFld K (tVar 0) "ages") (tVar 1) (tC (.int 0))) (tC (.int 1)))) (tRet (tDGet (tFld K (tVar 0) "ages") (tVar 1))) { nx := fun x H' => Q V.non H', rt := Q } [some (.ref a.d), some (.str n)] H1 := by
      intro v1 H1 x1 tb1 ea q
      obtain ⟨dx1, ob1⟩ := x1.ob
      obtain ⟨k1, g1, t1⟩ := x1.t1
      refine ⟨_, rfl, a.d, CD, dx1, _, _, rfl, ob1, T.cl, T.a, rfl, a.a1, rfl, .inl ⟨_, .inl g1⟩, _, rfl, _, DGet.k (k := kS n) g1, ?_⟩
      have hnum : (valV k1 (kS n)).getD (V.int 0) = .int (((v1.ages n).getD 0 : Nat) : Int) := by
        cases q : v1.ages n with
        | none => rw [t1.none q]; rfl
        | some z =>
          obtain ⟨u, h1, h2⟩ := t1.some q
          have h2 : u = .int (z : Int) := h2
          rw [h1, h2]; rfl
      rw [hnum]
      refine ⟨_, _, rfl, rfl, ?_⟩
      dsimp only
      rw [show (((v1.ages n).getD 0 : Nat) : Int) + 1 = (((v1.ages n).getD 0 + 1 : Nat) : Int) by omega]
      refine ⟨_, rfl, a.d, CD, dx1, _, _, rfl, ob1, T.cl, T.a, rfl, _, rfl, a.a1, _, rfl, DPut.k (k := kS n) g1 (by have := t1.len; omega), ?_⟩
      have x2 := x1.aged hi g1 t1
      have tb2 : TabS (upd H1 a.a1 (.dK (putK k1 (kS n) (.int (((v1.ages n).getD 0 + 1 : Nat) : Int))))) Ps qK := tab_upd tb1 g1 (fun _ z => nomatch z) (fun _ z => nomatch z)
      have fr : FrD Ps a v1 H1 (upd H1 a.a1 (.dK (putK k1 (kS n) (.int (((v1.ages n).getD 0 + 1 : Nat) : Int))))) := ⟨tb2, fun b u _ nb h => by rw [L2.upd_ne (fun z => nb (.inr (.inr (.inl z))))]; exact h⟩
      generalize upd H1 a.a1 (.dK (putK k1 (kS n) (.int (((v1.ages n).getD 0 + 1 : Nat) : Int)))) = H2 at x2 fr
      obtain ⟨dx2, ob2⟩ := x2.ob
      obtain ⟨k1', g1', t1'⟩ := x2.t1
      obtain ⟨u, h1, h2⟩ := t1'.some (k := n) (a := (v1.ages n).getD 0 + 1) (putF_same _ _ _)
      have h2 : u = .int (((v1.ages n).getD 0 + 1 : Nat) : Int) := h2
      refine ⟨_, rfl, a.d, CD, dx2, _, _, rfl, ob2, T.cl, T.a, rfl, _, rfl, a.a1, u, rfl, by rw [← h1]; exact DGet.k (k := kS n) g1', ?_⟩
      rw [h2, ea]
      exact q H2 fr x2
    refine ⟨_, rfl, _, rfl, a.d, CD, dx, _, _, rfl, ob, T.cl, T.o, rfl, a.a3, _, rfl, DGet.k (k := kS n) g3, _, rfl, ?_⟩
    rw [t3.isSome n]
    cases e : v.deals n with
    | none =>
      have ev : entV v n = agedV v n := by unfold entV; rw [e]
      rw [ev] at fin
      refine ifF (by simp) (tail v H x tb rfl fun H' f y => fin H' f (fun b h => .inl h) y)
    | some dl =>
      have ev : entV v n = agedV (doneV v n dl 2) n := by unfold entV; rw [e]
      rw [ev] at fin
      refine ifT (by simp) ?_
      refine ⟨_, rfl, a.d, dx, _, rfl, ob, rfl, _, rfl, ee_step (w := 2) x tb e (ok dl e) bd fun H1 f1 gr x1 => ?_⟩
      exact tail (doneV v n dl 2) H1 x1 f1.1 rfl fun H' f y => fin H' (f1.trans gr f) gr y
theorem scEC (j : Nat) (hj : j = 5 ∨ j = 6) : FnScope ["self", "name", "age"] ["self", "name", "age"] (defScope (sEM j)) := by
  rcases hj with rfl | rfl
  · exact ⟨rfl, rfl, rfl, by decide +kernel, rfl, by decide +kernel, by decide +kernel⟩
  · exact ⟨rfl, rfl, rfl, by decide +kernel, rfl, by decide +kernel, by decide +kernel⟩
theorem ok_commit (F : FnP K "commit" "DealDoor.commit" (sEM 5) [] f fd) (T : TxtE K mg CD) (W : TxtW mg) (mO : Meth K CD "need_open" fO) (GO : FnOk P w K mg base (L2.CX P w) 2 fO fdO ["self", "name", "age"] (spEO CD CL CP CG)) (bO : Binds K fdO ["self", "name", "age"] []) (mE : Meth K CD "end" fE) (GE : FnOk P w K mg base CX0 6 fE fdE ["self", "name", "word"] (spEE CD CL CP Ps)) (bE : Binds K fdE ["self", "name", "word"] []) : FnOk P w K mg base (L2.CX P w) 7 f fd ["self", "name", "age"] (spEC 1 CD CL CP CG Ps) := by
  obtain ⟨tk, hD⟩ := W.kp
  refine F.ok (scEC 5 (.inl rfl)) (fun vs H Q E h => ?_) (fun cdv A outer s H vs Q E hr h => ?_)
  · unfold spEC at h
    obtain ⟨_, _, _, _, _, _, rfl, _⟩ := h; rfl
  · unfold spEC at h
    obtain ⟨many, nm, a, v, n, g, rfl, x, tb, hn, ok, bd, bad, good⟩ := h
    refine ⟨_, pss_cons (ps_expr (pe_meth (pv 0) T.cl mO GO (hr.mono (by decide)) bO .nil (passes_call (takes_of rfl rfl rfl rfl) (fun _ _ _ _ h => h)) (pa_cons (pv 1) (pa_cons (pv 2) pa_nil))))
      (pss_one (ps_expr (pe_meth (pv 0) T.cl mE GE hr bE .nil pass0 (pa_cons (pv 1) (pa_cons (pe_glob (v := .int 1) (by rfl) hD ⟨_, rfl⟩) pa_nil))))), ?_⟩
    obtain ⟨dx, ob⟩ := x.ob
    refine ⟨_, rfl, a.d, dx, _, rfl, ob, rfl, _, rfl, _, rfl, eo_step x hn bad fun c => ?_⟩
    cases e : v.deals n with
    | none => exact absurd e c.2
    | some dl => exact ⟨_, rfl, a.d, dx, _, rfl, ob, rfl, _, rfl, ee_step (w := 1) x tb e (ok dl e) bd fun H1 f1 gr x1 => good dl e c.1 H1 f1 gr x1⟩
theorem ok_dropd (F : FnP K "drop" "DealDoor.drop" (sEM 6) [] f fd) (T : TxtE K mg CD) (W : TxtW mg) (mO : Meth K CD "need_open" fO) (GO : FnOk P w K mg base (L2.CX P w) 2 fO fdO ["self", "name", "age"] (spEO CD CL CP CG)) (bO : Binds K fdO ["self", "name", "age"] []) (mE : Meth K CD "end" fE) (GE : FnOk P w K mg base CX0 6 fE fdE ["self", "name", "word"] (spEE CD CL CP Ps)) (bE : Binds K fdE ["self", "name", "word"] []) : FnOk P w K mg base (L2.CX P w) 7 f fd ["self", "name", "age"] (spEC 2 CD CL CP CG Ps) := by
  obtain ⟨tk, hD⟩ := W.dr
  refine F.ok (scEC 6 (.inr rfl)) (fun vs H Q E h => ?_) (fun cdv A outer s H vs Q E hr h => ?_)
  · unfold spEC at h
    obtain ⟨_, _, _, _, _, _, rfl, _⟩ := h; rfl
  · unfold spEC at h
    obtain ⟨many, nm, a, v, n, g, rfl, x, tb, hn, ok, bd, bad, good⟩ := h
    refine ⟨_, pss_cons (ps_expr (pe_meth (pv 0) T.cl mO GO (hr.mono (by decide)) bO .nil (passes_call (takes_of rfl rfl rfl rfl) (fun _ _ _ _ h => h)) (pa_cons (pv 1) (pa_cons (pv 2) pa_nil))))
      (pss_one (ps_expr (pe_meth (pv 0) T.cl mE GE hr bE .nil pass0 (pa_cons (pv 1) (pa_cons (pe_glob (v := .int 2) (by rfl) hD ⟨_, rfl⟩) pa_nil))))), ?_⟩
    obtain ⟨dx, ob⟩ := x.ob
    refine ⟨_, rfl, a.d, dx, _, rfl, ob, rfl, _, rfl, _, rfl, eo_step x hn bad fun c => ?_⟩
    cases e : v.deals n with
    | none => exact absurd e c.2
    | some dl => exact ⟨_, rfl, a.d, dx, _, rfl, ob, rfl, _, rfl, ee_step (w := 2) x tb e (ok dl e) bd fun H1 f1 gr x1 => good dl e c.1 H1 f1 gr x1⟩
end
end KL9
set_option Elab.async false
set_option linter.all false
set_option maxRecDepth 100000
set_option maxHeartbeats 4000000
namespace KL9
open PySem PySem.Spec PyProof.Rows L2 KB KC KS KN1 LamX K7 Q9 R8
theorem unlock {H H3 : Hp} {e : Addr} {od : Obj} {ks : List (Key × V)} (he : H e = some (.dK ks)) (e3 : Ex (upd H e (.frz od (.dK ks))) H3) : Ex H (upd H3 e (.dK ks)) := fun b o h => by
  by_cases z : b = e
  · subst z
    rw [he] at h
    rw [upd_same]
    exact h
  · rw [L2.upd_ne z]
    refine e3 _ _ ?_
    rw [L2.upd_ne z]
    exact h
section
variable {P : Program} {w : World} {K : PySem.W.Frag} {mg : Str → Option Value} {base : Heap} {f fE CD CL CP : Addr} {fd fdE : FuncData}
abbrev nEF : List Str := ["self", "part", "places", "firsts"]
theorem scEF : FnScope nEF ["self", "part"] (defScope (sEM 9)) := ⟨rfl, rfl, rfl, by decide +kernel, rfl, by decide +kernel, by decide +kernel⟩
theorem ok_firm (F : FnP K "firm_end" "DealDoor.firm_end" (sEM 9) [] f fd) (T : TxtE K mg CD) (O : TxtO K mg CL) (TP : TxtP K mg CP) (M : TxtM mg) (mE : Meth K CP "end" fE) (GE : FnOk P w K mg base CX0 1 fE fdE ["self"] (spPE CP)) (bE : Binds K fdE ["self"] []) : FnOk P w K mg base CX0 2 f fd ["self", "part"] (spEF CD CL CP) := by
  refine F.ok scEF (fun vs H Q E h => ?_) (fun cdv A outer s H vs Q E hr h => ?_)
  · unfold spEF at h
    obtain ⟨_, _, _, _, _, _, rfl, _⟩ := h; rfl
  · unfold spEF at h
    obtain ⟨many, nm, a, v, p, nums, rfl, x, hm, g, hp, fin⟩ := h
    have hu := hr.units
    have hu1 := Nat.lt_trans (Nat.add_lt_add_left (by decide : 1 < 64) _) hu
    have hz0 : sizeLine = 16777216 := rfl
    refine ⟨_, PSs.nox <| pss_cons (ps_lock (ps_setLc (i := 2) (own := [("firsts", 3)]) (g := gName 3) (tt := tB (tDIn (tVar 1) (tVar 3))) (te := tDGet (tVar 3) (tVar 1)) rfl scEF.nd rfl rfl (sw_true rfl rfl rfl (by decide +kernel)) (pi_values (pf 0)) (blkOk_by (N := nEF) (sc := defScope (sEM 9)) (by decide +kernel)) (fun _ _ _ _ _ => pg_name (i := 3) scEF.nd rfl (Or.inl rfl)) (fun _ _ _ _ _ => pts_one (pt_cmp (pc_din hu1 (pv 1) (pv 3)))) (fun _ _ _ _ _ => pe_dget hu1 (pv 3) (pv 1) (fun _ _ => rfl))))
      (pss_one (ps_ret (pe_callBK (cr_minDef rfl (u66 hr)) (by rfl) M.min (by decide +kernel) (pa_cons (pv 2) pa_nil) (pk_cons (pe_meth0 (pe_ix ix_listD (pe_fld (pf 0) rfl) (pv 1) (fun _ _ => rfl)) TP.cl mE GE hr bE .nil pass0) pk_nil)))), ?_⟩
    obtain ⟨dx, ob⟩ := x.ob
    obtain ⟨k4, g4, t4⟩ := x.t4
    have l4 := t4.len
    refine ⟨a.a4, _, g4, trivial, fun od => ?_⟩
    have nd4 : ∀ {b : Addr} {u : HO}, b ≠ a.a4 → H b = some u → (upd H a.a4 (.frz od (.dK k4))) b = some u := fun n h => by rw [L2.upd_ne n]; exact h
    have obL := nd4 (show a.d ≠ a.a4 from fun z => by rw [z, g4] at ob; cases ob) ob
    have hL4 : (upd H a.a4 (.frz od (.dK k4))) a.a4 = some (.frz od (.dK k4)) := upd_same
    have innL : ∀ n y, v.deals n = some y → ∃ kvs, (upd H a.a4 (.frz od (.dK k4))) (v.inn n) = some (.dK kvs) ∧ Tab (List.range many) kN RNat kvs (firstOf y.2.2) := fun n y h => by
      obtain ⟨kvs, q1, q2⟩ := x.t5 n y h
      obtain ⟨_, _, _, n4⟩ := x.ni n (by rw [h]; simp)
      exact ⟨kvs, nd4 n4 q1, q2⟩
    have un : ∀ H3, KS.Ex (upd H a.a4 (.frz od (.dK k4))) H3 → KS.Ex H (upd H3 a.a4 (.dK k4)) := fun H3 e => unlock g4 e
    generalize upd H a.a4 (.frz od (.dK k4)) = HL at obL hL4 innL un
    refine ⟨_, rfl, a.d, CD, dx, _, _, rfl, obL, T.cl, T.f, rfl, a.a4, od, k4, rfl, hL4, fun D hD => ?_⟩
    refine lc_it walk_values (fun j H' => KS.Ex HL H' ∧ ∃ vals : List Nat, H' D = some (.lst (vals.map fun (v : Nat) => V.int (v : Int))) ∧ vals.length ≤ j ∧ (∀ z ∈ vals, ∃ n y, v.deals n = some y ∧ firstOf y.2.2 p = some z) ∧ ∀ kv ∈ k4.take j, ∀ n y z, kv.1 = kS n → v.deals n = some y → firstOf y.2.2 p = some z → z ∈ vals) ⟨Ex.upd hD, [], upd_same, Nat.le_refl _, (fun _ h => nomatch h), fun _ h => by rw [List.take_zero] at h; cases h⟩ (fun j H' _ h => h.1 _ _ hL4) ?_ ?_
    · rintro j u H1 H2 hj ⟨e1, vals, c1, c2, c3, c4⟩ ⟨rfl, k, hk⟩
      obtain ⟨n, y, _, hkn, hy, hr4⟩ := t4.mem (List.mem_of_getElem? hk)
      have hkn : k = kS n := hkn
      have hr4 : u = V.ref (v.inn n) := hr4
      subst hr4 hkn
      obtain ⟨kvs, q1, q2⟩ := innL n y hy
      have q1 := e1 _ _ q1
      refine ⟨rfl, _, rfl, _, rfl, v.inn n, _, rfl, DGet.k (k := kN p) q1, _, rfl, ?_⟩
      rw [q2.isSome p]
      cases e : firstOf y.2.2 p with
      | none =>
        refine ifF (by simp) ⟨e1, vals, c1, by omega, c3, fun kv hkv m y' z h1 h2 h3 => ?_⟩
        rw [List.take_add_one, hk] at hkv
        rcases List.mem_append.mp hkv with q | q
        · exact c4 kv q m y' z h1 h2 h3
        · have q : kv = _ := List.mem_singleton.mp q
          rw [q] at h1
          have := kS_inj _ _ h1
          subst this
          rw [hy] at h2
          cases h2
          rw [e] at h3; cases h3
      | some z =>
        obtain ⟨uz, r1, r2⟩ := q2.some e
        have r2 : uz = .int (z : Int) := r2
        subst r2
        refine ifT (by simp) ⟨_, rfl, _, rfl, v.inn n, _, rfl, by rw [← r1]; exact DGet.k (k := kN p) q1, _, c1, by rw [List.length_map]; omega, ?_⟩
        have nD : D ≠ v.inn n := fun z => by rw [← z, c1] at q1; cases q1
        refine ⟨Ex.on e1 hD, vals ++ [z], by rw [upd_same, List.map_append]; rfl, by rw [List.length_append]; show vals.length + 1 ≤ _; omega, fun z' hz' => ?_, fun kv hkv m y' z' h1 h2 h3 => ?_⟩
        · rcases List.mem_append.mp hz' with q | q
          · exact c3 z' q
          · rw [List.mem_singleton.mp q]; exact ⟨n, y, hy, e⟩
        · rw [List.take_add_one, hk] at hkv
          rcases List.mem_append.mp hkv with q | q
          · exact List.mem_append_left _ (c4 kv q m y' z' h1 h2 h3)
          · have q : kv = _ := List.mem_singleton.mp q
            rw [q] at h1
            have := kS_inj _ _ h1
            subst this
            rw [hy] at h2
            cases h2
            rw [e] at h3
            cases h3
            exact List.mem_append_right _ (List.mem_singleton.mpr rfl)
    · rintro H3 ⟨e3, vals, c1, c2, c3, c4⟩
      rw [List.take_length] at c4
      refine ⟨e3 _ _ hL4, ?_⟩
      have e4 := un H3 e3
      have hD4 : (upd H3 a.a4 (.dK k4)) D = some (.lst (vals.map fun (v : Nat) => V.int (v : Int))) := by
        rw [L2.upd_ne (fun z => by rw [z, hL4] at hD; cases hD)]; exact c1
      generalize upd H3 a.a4 (.dK k4) = H4 at e4 hD4
      have x4 := x.ex e4
      obtain ⟨dx4, ob4⟩ := x4.ob
      obtain ⟨sts, lg, ls⟩ := x4.lg
      have hlt : p < sts.length := by rw [ls.len]; exact hp
      obtain ⟨st, hst⟩ : ∃ st, sts[p]? = some st := ⟨_, List.getElem?_eq_getElem hlt⟩
      obtain ⟨b1, b2⟩ := ls.at_ p st hst
      obtain ⟨p1, l1, hj, pt⟩ := lg.get hst
      obtain ⟨dp, kk, vv, ts, g1, _⟩ := id pt
      obtain ⟨dxo, obo⟩ := lg.ob
      refine ⟨_, rfl, _, rfl, a.d, CD, dx4, _, _, rfl, ob4, T.cl, T.l, rfl, a.o, CL, dxo, _, _, rfl, obo, O.cl, O.p, rfl, _, rfl, a.q, _, _, V.ref p1, rfl, rfl, lg.ql, atI_nat (by rw [List.getElem?_map, hj]; rfl), p1, dp, _, rfl, g1, rfl, pe_step pt ⟨D, vals.map (fun (v : Nat) => (v : Int)), _, rfl, rfl, SqL.of (by rw [hD4, List.map_map]; rfl), ?_⟩⟩
      rw [b2, List.length_map, Nat.zero_add, min_firm g hp c3 fun n y z h1 h2 => by
        obtain ⟨u, r1, _⟩ := t4.some h1
        exact c4 _ (valV_key r1) n y z rfl h1 h2]
      exact fin H4 e4
end
end KL9
set_option Elab.async false
set_option linter.all false
set_option maxRecDepth 100000
set_option maxHeartbeats 4000000
namespace KL9
open PySem PySem.Spec PyProof.Rows L2 KB KC KS KN1 LamX K7 Q9 R8
theorem Tab.re {κ α : Type} [DecidableEq κ] {nm : List κ} {kk : κ → Key} {R R' : κ → V → α → Prop} {kvs : List (Key × V)} {f : κ → Option α} {k : κ} {a a' : α} (t : Tab nm kk R kvs f) (h : f k = Option.some a) (hr : ∀ v, R k v a → R' k v a') (hj : ∀ j v b, j ≠ k → f j = Option.some b → R j v b → R' j v b) : Tab nm kk R' kvs (putG f k (Option.some a')) := ⟨t.nd, t.ks, fun j => by
  by_cases c : j = k
  · subst c
    obtain ⟨v, h1, h2⟩ := t.some h
    exact .inr ⟨a', v, putG_same _ _ _, h1, hr v h2⟩
  · rcases t.at_ j with h1 | ⟨b, v, h1, h2, h3⟩
    · exact .inl (by rw [putG_ne _ _ c]; exact h1)
    · exact .inr ⟨b, v, by rw [putG_ne _ _ c]; exact h1, h2, hj _ _ _ c h1 h3⟩⟩
def addV (v : DV) (n : Str) (x : Dl) (k : List Key) (s : List Key × Nat) (p : Nat) : DV := { v with deals := Q9.putF v.deals n (some (x.1, x.2.1, x.2.2 ++ [(p, (v.L p).length)])), L := setL v.L p (v.L p ++ [Ev.add k s (n, x.1, x.2.1)]) }
section
variable {CD CL CP CG CR Ps : Addr} {many : Nat} {nm : List Str} {a : DA} {v : DV} {H H' : Hp}
theorem DoorA.first (x : DoorA CD CL CP many nm a v H) {n : Str} {dl : Dl} {p i : Nat} {kvs : List (Key × V)} {deals' : Str → Option Dl} (h : v.deals n = some dl) (hd : deals' = Q9.putF v.deals n (some (dl.1, dl.2.1, dl.2.2 ++ [(p, i)]))) (hk : H' (v.inn n) = some (.dK kvs)) (tk : Tab (List.range many) kN RNat kvs (firstOf (dl.2.2 ++ [(p, i)]))) (kp : ∀ b u, b ≠ v.inn n → H b = some u → H' b = some u) :
    DoorA CD CL CP many nm a { v with deals := deals' } H' := by
  subst hd
  obtain ⟨dx, ob⟩ := x.ob
  obtain ⟨sts, lg, ls⟩ := x.lg
  obtain ⟨k1, g1, t1⟩ := x.t1
  obtain ⟨k2, g2, t2⟩ := x.t2
  obtain ⟨k3, g3, t3⟩ := x.t3
  obtain ⟨k4, g4, t4⟩ := x.t4
  obtain ⟨ki, gi, ti⟩ := x.t5 n dl h
  obtain ⟨n1, n2, n3, n4⟩ := x.ni n (by rw [h]; simp)
  have nd : ∀ {b : Addr} {u : HO}, H b = some u → (∀ kvs, u ≠ .dK kvs) → H' b = some u := fun {b u} h nk => kp b u (fun z => by rw [z, gi] at h; exact nk _ (Option.some.inj h).symm) h
  have kt : KT' H H' := fun b ys h => nd h (fun _ z => nomatch z)
  have old : ∀ {j : Str}, (Q9.putF v.deals n (some (dl.1, dl.2.1, dl.2.2 ++ [(p, i)]))) j ≠ none → v.deals j ≠ none := fun {j} hj => by
    by_cases c : j = n
    · rw [c, h]; simp
    · rw [putF_ne _ _ c] at hj; exact hj
  refine ⟨⟨dx, nd ob (fun _ z => nomatch z)⟩, ⟨sts, lg.keep (fun b C d fs h => nd h (fun _ z => nomatch z)) kt (fun b ys _ h => nd h (fun _ z => nomatch z)), ls⟩, ⟨k1, kp _ _ n1.symm g1, t1⟩, ⟨k2, kp _ _ n2.symm g2, t2⟩, ⟨k3, kp _ _ n3.symm g3, t3.re h (fun w ⟨t', q1, q2⟩ => ⟨t', q1, kt _ _ q2⟩) fun j w b _ _ ⟨t', q1, q2⟩ => ⟨t', q1, kt _ _ q2⟩⟩, ⟨k4, kp _ _ n4.symm g4, t4.re h (fun w q => q) fun j w b _ _ q => q⟩, fun j y hj => ?_, x.nj, fun j hj => x.ni j (old hj), fun j l hjl hj hl => x.nn j l hjl (old hj) (old hl), x.nd, x.nz⟩
  by_cases c : j = n
  · subst c
    have hj : Q9.putF v.deals j _ j = some y := hj
    rw [putF_same] at hj
    cases hj
    exact ⟨kvs, hk, tk⟩
  · have hj : Q9.putF v.deals n _ j = some y := hj
    rw [putF_ne _ _ c] at hj
    obtain ⟨kvs', q1, q2⟩ := x.t5 j y hj
    exact ⟨kvs', kp _ _ (x.nn j n c (by rw [hj]; simp) (by rw [h]; simp)) q1, q2⟩
@[irreducible] def spEA (CD CL CP CG Ps : Addr) : Sp := fun vs H Q E => ∃ (many : Nat) (nm : List Str) (a : DA) (v : DV) (n : Str) (g : Int) (ka ra : Addr) (kk rr : List Key) (t : Nat), vs = [.ref a.d, .str n, .int g, .ref ka, .ref ra, .int (t : Int)] ∧ DoorA CD CL CP many nm a v H ∧ TabS H Ps qK ∧ n.length ≤ 900 ∧ 0 < many ∧ H ka = some (.tup (kk.map kV)) ∧ H ra = some (.tup (rr.map kV)) ∧ rr.length ≤ 1000 ∧
  (∀ x, v.deals n = some x → rr.length ≤ 16 → EvOk (Ev.add kk (rr, t) (n, x.1, x.2.1))) ∧ (∀ p, (v.L p).length < 90) ∧
  (¬ ((v.ages n).map (fun z => (z : Int)) = some g ∧ v.deals n ≠ none ∧ rr.length ≤ 16) → E (.ref CG) none H) ∧
  (∀ x, v.deals n = some x → (v.ages n).map (fun z => (z : Int)) = some g → rr.length ≤ 16 → ∀ H' z, FrD Ps a v H H' → Grow a v (addV v n x kk (rr, t) (numK kk many)) H → DoorA CD CL CP many nm a (addV v n x kk (rr, t) (numK kk many)) H' → H' z = some (.tup [.int ((numK kk many : Nat) : Int), .int (((v.L (numK kk many)).length : Nat) : Int)]) → Q (.ref z) H')
theorem ea_step {n : Str} {g : Int} {ka ra : Addr} {kk rr : List Key} {t : Nat} {Q : VK} {E : XK} (y : DoorA CD CL CP many nm a v H) (tb : TabS H Ps qK) (hn : n.length ≤ 900) (hm : 0 < many) (ha : H ka = some (.tup (kk.map kV))) (hb : H ra = some (.tup (rr.map kV))) (hl : rr.length ≤ 1000)
    (ok : ∀ x, v.deals n = some x → rr.length ≤ 16 → EvOk (Ev.add kk (rr, t) (n, x.1, x.2.1))) (bd : ∀ p, (v.L p).length < 90)
    (bad : ¬ ((v.ages n).map (fun z => (z : Int)) = some g ∧ v.deals n ≠ none ∧ rr.length ≤ 16) → E (.ref CG) none H)
    (good : ∀ x, v.deals n = some x → (v.ages n).map (fun z => (z : Int)) = some g → rr.length ≤ 16 → ∀ H' z, FrD Ps a v H H' → Grow a v (addV v n x kk (rr, t) (numK kk many)) H → DoorA CD CL CP many nm a (addV v n x kk (rr, t) (numK kk many)) H' → H' z = some (.tup [.int ((numK kk many : Nat) : Int), .int (((v.L (numK kk many)).length : Nat) : Int)]) → Q (.ref z) H') :
    spEA CD CL CP CG Ps [.ref a.d, .str n, .int g, .ref ka, .ref ra, .int (t : Int)] H Q E := by
  unfold spEA
  exact ⟨many, nm, a, v, n, g, ka, ra, kk, rr, t, rfl, y, tb, hn, hm, ha, hb, hl, ok, bd, bad, good⟩
theorem cat_ref {K : PySem.W.Frag} {H : Hp} {Q : VK} {p q : Addr} {xs ys : List V} (hp : H p = some (.tup xs)) (hq : H q = some (.tup ys)) (hl : xs.length + ys.length ≤ 100000) (h0 : xs ≠ []) (k : ∀ H' z, KS.Ex H H' → H' z = some (.tup (xs ++ ys)) → Q (.ref z) H') : rCatA K (.ref p) (.ref q) H Q := by
  have hz0 : sizeLine = 16777216 := rfl
  refine ⟨p, q, xs, ys, rfl, rfl, SqT.of hp, SqT.of hq, by omega, fun c => absurd c h0, fun _ c => k H p (KS.Ex.refl H) (by rw [c, List.append_nil]; exact hp), fun _ _ z hz => k _ z (Ex.upd hz) upd_same⟩
end
section
variable {P : Program} {w : World} {K : PySem.W.Frag} {mg : Str → Option Value} {base : Heap} {f fN fA CD CL CP CG Ps : Addr} {fd fdN fdA : FuncData}
theorem scEA : FnScope ["self", "name", "age", "key", "row", "time", "part", "place"] ["self", "name", "age", "key", "row", "time"] (defScope (sEM 4)) := ⟨rfl, rfl, rfl, by decide +kernel, rfl, by decide +kernel, by decide +kernel⟩
theorem ok_add (F : FnP K "add" "DealDoor.add" (sEM 4) [] f fd) (T : TxtE K mg CD) (O : TxtO K mg CL) (G : TxtG K mg CG) (W : TxtW mg) (TL : TxtL mg) (mN : Meth K CD "need" fN) (GN : FnOk P w K mg base (L2.CX P w) 1 fN fdN ["self", "name", "age"] (spEN CD CL CP CG)) (bN : Binds K fdN ["self", "name", "age"] [])
    (mA : Meth K CL "append" fA) (GA : FnOk P w K mg base CX0 6 fA fdA ["self", "key", "row", "time"] (spLA CL CP Ps)) (bA : Binds K fdA ["self", "key", "row", "time"] []) : FnOk P w K mg base (L2.CX P w) 7 f fd ["self", "name", "age", "key", "row", "time"] (spEA CD CL CP CG Ps) := by
  obtain ⟨tk1, hMV⟩ := W.mv
  obtain ⟨tk2, hOD⟩ := W.od
  refine F.ok scEA (fun vs H Q E h => ?_) (fun cdv A outer s H vs Q E hr h => ?_)
  · unfold spEA at h
    obtain ⟨_, _, _, _, _, _, _, _, _, _, _, rfl, _⟩ := h; rfl
  · unfold spEA at h
    obtain ⟨many, nm, a, v, n, g, ka, ra, kk, rr, t, rfl, x, tb, hn, hm, hka, hra, hrl, ok, bd, bad, good⟩ := h
    have hu := hr.units
    have hu1 := Nat.lt_trans (Nat.add_lt_add_left (by decide : 1 < 64) _) hu
    have hz0 : sizeLine = 16777216 := rfl
    refine ⟨_, pss_cons (ps_expr (pe_meth (pv 0) T.cl mN GN (hr.mono (by decide)) bN .nil (passes_call (takes_of rfl rfl rfl rfl) (fun _ _ _ _ h => h)) (pa_cons (pv 1) (pa_cons (pv 2) pa_nil))))
      (pss_cons (ps_if (PW.pt (pw_or (pt_cmp (pc_dnotin hu1 (pv 1) (pf 0))) (pw_or1 (pt_cmpR op_gt (pe_callB call_len_seq (by rfl) TL.len (by decide +kernel) (pa_cons (pv 4) pa_nil)) (pe_glob (v := .int 16) (by rfl) hMV ⟨_, rfl⟩) (nomark _))))) (pss_one (ps_raise rfl (takes_of rfl rfl rfl rfl) (SkE.pmk_own1 PySem.F.excBase_ValueError G.x G.g G.k (raises_own G.b G.t) rfl (pe_joined (.cons (pe_fmt (pv 1)) (.cons pe_str .nil)))))) pss_nil)
      (pss_cons (ps_asg (pe_meth (pf 0) O.cl mA GA hr bA .nil pass0 (pa_cons (pv 3) (pa_cons (pe_op op_catA (pe_op op_catA (pe_tup (pa_cons (pe_glob (v := .int 0) (by rfl) hOD ⟨_, rfl⟩) pa_nil)) (pe_dget hu1 (pf 0) (pv 1) (fun _ _ => rfl))) (pv 4)) (pa_cons (pv 5) pa_nil)))) (pg_tup rfl (pgs_cons (pg_name (i := 6) scEA.nd rfl (Or.inl rfl)) (pgs_cons (pg_name (i := 7) scEA.nd rfl (Or.inl rfl)) pgs_nil))))
      (pss_cons (ps_expr (pe_dsetd (pe_dget hu1 (pf 0) (pv 1) (fun _ _ => rfl)) (pv 6) (pv 7) ⟨rfl, rfl, rfl, rfl⟩))
      (pss_one (ps_ret (pe_tup (pa_cons (pv 6) (pa_cons (pv 7) pa_nil)))))))), ?_⟩
    obtain ⟨dx, ob⟩ := x.ob
    obtain ⟨k3, g3, t3⟩ := x.t3
    refine ⟨_, rfl, a.d, dx, _, rfl, ob, rfl, _, rfl, _, rfl, en_step x hn (fun c => bad fun z => c z.1) fun c => ?_⟩
    refine ⟨_, rfl, _, rfl, a.d, CD, dx, _, _, rfl, ob, T.cl, T.o, rfl, a.a3, _, rfl, DGet.k (k := kS n) g3, _, rfl, ?_⟩
    rw [t3.isSome n]
    cases e : v.deals n with
    | none => exact ifT (by simp) (ifT rfl (js_name rfl hn (by decide) fun out => bad fun z => z.2.1 e))
    | some dl =>
      refine ifF (by simp) ⟨_, rfl, ra, _, rfl, .inr (SqT.of hra), _, _, rfl, rfl, _, rfl, ?_⟩
      rw [List.length_map]
      by_cases c16 : ¬ rr.length ≤ 16
      · exact ifT (by rw [decide_eq_true_eq]; show (16 : Int) < _; omega) (js_name rfl hn (by decide) fun out => bad fun z => c16 z.2.2)
      have c16 := Classical.not_not.mp c16
      refine ifF (by rw [decide_eq_true_eq]; show ¬ (16 : Int) < _; omega) ?_
      have okE := ok dl e c16
      have good := good dl e c c16
      obtain ⟨u3, q1, ⟨t', rfl, q2⟩⟩ := t3.some e
      obtain ⟨dxo, obo⟩ := (show ∃ dxo, H a.o = some (.ins CL dxo [("parts", .ref a.q)]) from by obtain ⟨sts, lg, ls⟩ := x.lg; exact lg.ob)
      refine ⟨_, rfl, a.d, CD, dx, _, _, rfl, ob, T.cl, T.l, rfl, a.o, dxo, _, rfl, obo, rfl, _, rfl, (by show 1 ≤ sizeLine; decide), fun z hz => ?_⟩
      have e1 : KS.Ex H (upd H z (.tup [.int 0])) := Ex.upd hz
      have hz1 : (upd H z (.tup [.int 0])) z = some (.tup [.int 0]) := upd_same
      generalize upd H z (.tup [.int 0]) = H1 at e1 hz1
      refine ⟨_, rfl, a.d, CD, dx, _, _, rfl, e1 _ _ ob, T.cl, T.o, rfl, _, rfl, a.a3, _, rfl, by rw [← q1]; exact DGet.k (k := kS n) (e1 _ _ g3), cat_ref hz1 (e1 _ _ q2) (by show 4 ≤ 100000; decide) (fun c => nomatch c) fun H2 z2 e2 hz2 => ⟨_, rfl, cat_ref hz2 (e2 _ _ (e1 _ _ hra)) (by rw [List.length_map]; show 4 + _ ≤ _; omega) (fun c => nomatch c) fun H3 z3 e3 hz3 => ⟨_, rfl, ?_⟩⟩⟩
      have e03 := (e1.trans e2).trans e3
      have x3 := x.ex e03
      have tb3 := tb.ext e03
      have hz3 : H3 z3 = some (.tup ((recE (Ev.add kk (rr, t) (n, dl.1, dl.2.1))).2.1.map kV)) := hz3
      obtain ⟨sts, lg, ls⟩ := x3.lg
      have hps := x3.len
      have hnk := numK_eq (k := kk) (n := many) hm
      have hlt : numK kk many < sts.length := by rw [ls.len]; exact hnk.2
      obtain ⟨st, hst⟩ : ∃ st, sts[numK kk many]? = some st := ⟨_, List.getElem?_eq_getElem hlt⟩
      obtain ⟨b1, b2⟩ := ls.at_ _ st hst
      have bdp := bd (numK kk many)
      show spLA CL CP Ps [.ref a.o, .ref ka, .ref z3, .int ((recE (Ev.add kk (rr, t) (n, dl.1, dl.2.1))).2.2 : Nat)] H3 _ _
      refine la_step (x := recE (Ev.add kk (rr, t) (n, dl.1, dl.2.1))) lg (by omega) (by show sts[numK kk a.ps.length]? = _; rw [hps]; exact hst) (by omega) (by rw [b2, List.length_map]; omega) (e03 _ _ hka) hz3 okE.1 tb3 fun H4 z4 f4 lg4 hz4 => ?_
      have lg4 : LogA CL CP a.o a.q a.ps (sts.set (numK kk a.ps.length) (app1 st (recE (Ev.add kk (rr, t) (n, dl.1, dl.2.1))))) H4 := lg4
      have hz4 : H4 z4 = some (.tup [.int ((numK kk a.ps.length : Nat) : Int), .int ((st.2.2.length : Nat) : Int)]) := hz4
      rw [hps] at lg4 hz4
      rw [b2, List.length_map] at hz4
      have x4 := x3.frl tb3 f4 lg4 (ls.add hst okE)
      generalize hpp : numK kk many = p at hz4 x4 good hnk bdp
      generalize hii : (v.L p).length = i at hz4 good bdp
      refine ⟨z4, _, rfl, SqT.of hz4, rfl, _, _, rfl, _, _, rfl, rfl, ?_⟩
      obtain ⟨dx4, ob4⟩ := x4.ob
      obtain ⟨k4, g4, t4⟩ := x4.t4
      obtain ⟨u4, r1, r2⟩ := t4.some (show ({ v with L := setL v.L p (v.L p ++ [Ev.add kk (rr, t) (n, dl.1, dl.2.1)]) } : DV).deals n = some dl from e)
      have r2 : u4 = .ref (v.inn n) := r2
      subst r2
      obtain ⟨ki, gi, ti⟩ := x4.t5 n dl e
      have gi : H4 (v.inn n) = some (.dK ki) := gi
      have fr04 : FrD Ps a v H H4 := (FrD.ex tb e03).trans (Grow.refl a v H) (FrL.frD f4)
      have hvn : addV v n dl kk (rr, t) p = { v with deals := Q9.putF v.deals n (some (dl.1, dl.2.1, dl.2.2 ++ [(p, i)])), L := setL v.L p (v.L p ++ [Ev.add kk (rr, t) (n, dl.1, dl.2.1)]) } := by unfold addV; rw [hii]
      have gr : Grow a v (addV v n dl kk (rr, t) p) H := fun b h => by
        left
        rcases h with h | h | h | h | h | h | ⟨j, h1, h2⟩
        · exact .inl h
        · exact .inr (.inl h)
        · exact .inr (.inr (.inl h))
        · exact .inr (.inr (.inr (.inl h)))
        · exact .inr (.inr (.inr (.inr (.inl h))))
        · exact .inr (.inr (.inr (.inr (.inr (.inl h)))))
        · refine .inr (.inr (.inr (.inr (.inr (.inr ⟨j, fun y => h1 ?_, h2⟩)))))
          have c2 : j ≠ n := fun z => by rw [z, e] at y; cases y
          exact (putF_ne _ _ c2).trans y
      have last : ∀ H5, FrD Ps a v H H5 → DoorA CD CL CP many nm a (addV v n dl kk (rr, t) p) H5 → tRet (tTup (tCons (tVar 6) (tCons (tVar 7) tNil))) { nx := fun x H' => Q V.non H', rt := Q } [some (.ref a.d), some (.str n), some (.int g), some (.ref ka), some (.ref ra), some (.int (t : Int)), some (.int ((p : Nat) : Int)), some (.int ((i : Nat) : Int))] H5 := fun H5 f5 x5 => by
        refine ⟨_, rfl, _, rfl, (by show 2 ≤ sizeLine; decide), fun z5 hz5 => ?_⟩
        exact good _ z5 ⟨f5.1.ext (Ex.upd hz5), fun b u n1 n2 h => Ex.upd hz5 _ _ (f5.2 b u n1 n2 h)⟩ gr (x5.ex (Ex.upd hz5)) upd_same
      refine ⟨_, rfl, a.d, CD, dx4, _, _, rfl, ob4, T.cl, T.f, rfl, _, rfl, a.a4, _, rfl, by rw [← r1]; exact DGet.k (k := kS n) g4, v.inn n, rfl, .inl ⟨_, .inl gi⟩, _, rfl, _, rfl, ki, kN p, gi, rfl, by have := ti.len; rw [List.length_range] at this; have := x.nz; omega, fun uv hv => ?_, fun hv => ?_⟩
      · have hs : ∃ z, firstOf dl.2.2 p = some z := by
          cases q : firstOf dl.2.2 p with
          | none => have := ti.none q; rw [hv] at this; cases this
          | some z => exact ⟨z, rfl⟩
        obtain ⟨z, hz⟩ := hs
        have ef : firstOf (dl.2.2 ++ [(p, i)]) = firstOf dl.2.2 := by
          funext p'
          rw [firstOf_snoc]
          cases q : firstOf dl.2.2 p' with
          | some _ => rfl
          | none =>
            simp only
            rw [if_neg (fun y => by
              have y : p = p' := y
              rw [← y, hz] at q; cases q)]
        have x5 := x4.first (H' := H4) (n := n) (dl := dl) (p := p) (i := i) e rfl gi (by rw [ef]; exact ti) fun b u _ h => h
        refine last H4 fr04 ?_
        rw [hvn]; exact x5
      · have hs : firstOf dl.2.2 p = none := by
          cases q : firstOf dl.2.2 p with
          | none => rfl
          | some z =>
            obtain ⟨u, q1, _⟩ := ti.some q
            rw [hv] at q1; cases q1
        have ef : firstOf (dl.2.2 ++ [(p, i)]) = putG (firstOf dl.2.2) p (some i) := by
          funext p'
          rw [firstOf_snoc]
          by_cases c2 : p' = p
          · subst c2
            rw [putG_same, hs]
            simp
          · rw [putG_ne _ _ c2]
            cases q : firstOf dl.2.2 p' with
            | some _ => rfl
            | none => simp only; rw [if_neg (fun y => c2 y.symm)]
        have x5 := x4.first (H' := upd H4 (v.inn n) (.dK (putK ki (kN p) (.int (i : Int))))) (n := n) (dl := dl) (p := p) (i := i) e rfl upd_same (by rw [ef]; exact ti.put kN_inj (List.mem_range.mpr hnk.2) rfl fun _ _ _ _ _ q => q) fun b u nb h => by
          have nb : b ≠ v.inn n := nb
          rw [L2.upd_ne nb]; exact h
        refine last _ ⟨tab_upd fr04.1 gi (fun _ z => nomatch z) (fun _ z => nomatch z), fun b u n1 n2 h => ?_⟩ (by rw [hvn]; exact x5)
        rw [L2.upd_ne (fun z => n2 (.inr (.inr (.inr (.inr (.inr (.inr ⟨n, by rw [e]; simp, z⟩)))))))]
        exact fr04.2 b u n1 n2 h
end
end KL9
set_option Elab.async false
set_option linter.all false
set_option maxRecDepth 100000
set_option maxHeartbeats 2000000
namespace TK
open PySem PySem.Spec PyProof.Rows L2 KB KC KS LamX R8
section
variable {X : Cx} {pins : List (Addr × Obj)} {σ : L2.St} {H : Hp} {s : Shared} {d : Addr} {o : Obj}
theorem frzT2 {kvs : List (List Key × V)} (I : Inv X pins σ H s) (h : H d = some (.frz o (.dT kvs))) :
    (d == sysModules) = false ∧ s.heap.get? d = some o ∧ o.ExactDict ∧ ∃ (es : Array DictEntry) (ep : Nat), o.data = .dict es ep ∧ es.size = kvs.length ∧
      ∀ (i : Nat) (hi : i < es.size) (k : List Key) (v : V), kvs[i]? = some (k, v) → ∃ q : Addr, es[i].key = .ref q ∧ H q = some (.tup (k.map kV)) ∧ RelV v es[i].val := by
  obtain ⟨hd, z, hs, xs, pr, o', es, ep, ho, hx, hdt, he, _⟩ := I.hok d _ h
  rw [hd] at ho
  cases ho
  refine ⟨hs, hd, hx, es, ep, hdt, ?_, fun i hi k v e => ?_⟩
  · have l1 : es.size = xs.length := size_of_entries he
    have l2 : kvs.length = xs.length := Paired.length pr
    omega
  · obtain ⟨b, hb, e1, e2, e3⟩ := paired_get pr e
    have q := entry_at he i
    rw [hb, Array.getElem?_eq_getElem hi] at q
    have q2 : es[i] = _ := Option.some.inj q
    rw [q2]
    exact ⟨b.2.1, rfl, e2, e3⟩
end
def ItT (d : Addr) (o : Obj) (kvs : List (List Key × V)) : It :=
  ⟨fun i H => H d = some (.frz o (.dT kvs)) ∧ i < kvs.length, fun i H x H' => ∃ T k v q, kvs[i]? = some (k, v) ∧ H q = some (.tup (k.map kV)) ∧ x = .ref T ∧ H T = none ∧ H' = upd H T (.tup [.ref q, v]), fun i H => H d = some (.frz o (.dT kvs)) ∧ kvs.length ≤ i⟩
theorem walk_itT {d : Addr} {o : Obj} {kvs : List (List Key × V)} : Walk (ItT d o kvs) kvs.length (fun H => H d = some (.frz o (.dT kvs)))
    (fun i H x H' => ∃ T k v q, kvs[i]? = some (k, v) ∧ H q = some (.tup (k.map kV)) ∧ x = .ref T ∧ H T = none ∧ H' = upd H T (.tup [.ref q, v])) :=
  ⟨fun _ _ hi q => ⟨q, hi⟩, fun _ q => ⟨q, Nat.le_refl _⟩, fun _ _ _ _ _ _ y => y⟩
section
variable {P : Program} {w : World} {K : PySem.W.Frag} {d : Addr} {o : Obj} {es : Array DictEntry} {ep : Nat}
theorem turn_itT {kvs : List (List Key × V)} {elts : List Expr} {kk : Nat} {tpos : Pos} (it : Addr) (hod : o.data = .dict es ep) :
    Turn P w K (.Tuple elts kk tpos) (ItT d o kvs) [it] it (fun i h => ∃ ok ov, IsItemIter h it d i kvs.length ep ok ov) where
  mem := List.mem_singleton.mpr rfl
  obj := fun i h ⟨ok, ov, e⟩ b hb => by
    rw [List.mem_singleton.mp hb]
    exact ⟨_, e, fun v z => nomatch z⟩
  keep := fun i h h' ⟨ok, ov, e⟩ k => ⟨ok, ov, k it (List.mem_singleton.mpr rfl) _ e⟩
  item := by
    intro X hP hw hK hc i pins s σ H E I hf ⟨ok, ov, he⟩ ⟨hd, hi⟩
    subst hP hw hK
    obtain ⟨hs, hgd, hx, es', ep', hdt, hsz, ent⟩ := frzT2 I hd
    obtain ⟨rfl, rfl⟩ := dict_ep hod hdt
    obtain ⟨⟨k, v⟩, hkv⟩ : ∃ p, kvs[i]? = some p := ⟨kvs[i], List.getElem?_eq_getElem hi⟩
    have hi2 : i < es'.size := by rw [hsz]; exact hi
    obtain ⟨q, hq1, hq2, hq3⟩ := ent i hi2 k v hkv
    rw [← hsz] at he ⊢
    have hlt : it < s.heap.objs.size := Heap.lt_size he
    refine DT.nextI he ⟨o, hgd, hx, hdt⟩ hi2 fun h' ho hT hz hk => ?_
    refine ⟨_, rfl, wpAny_letOwnedTupleGo_items (s := { s with heap := h' }) ho fun h'' he' sb => ?_⟩
    rw [hq1] at hT
    have hT2 := (sb.2 _ (Nat.ne_of_gt hlt)).trans hT
    have I1 : Inv X pins σ (upd H s.heap.objs.size (.tup [.ref q, v])) { s with heap := h'' } :=
      I.turnedNew (t' := s.toks) (ch := [it]) (fun b ob hb e => (sb.2 b fun z => hb (List.mem_singleton.mpr z)).trans (hk b ob (fun z => hb (List.mem_singleton.mpr z)) e)) hf (Nat.le_refl _)
        ⟨(by show 2 ≤ sizeLine; decide), [.ref q, es'[i].val], .cons rfl (.cons hq3 .nil), ⟨_, hT2, rfl, _, rfl⟩⟩
    refine ⟨.ref s.heap.objs.size, _, I1, rfl, ⟨_, k, v, q, hkv, hq2, rfl, I.hok.fresh (Nat.le_refl _), rfl⟩, ⟨_, _, he'⟩, fun b hb => ?_⟩
    rw [List.mem_singleton.mp hb, upd_ne (Nat.ne_of_lt hlt)]
    exact (hf it (List.mem_singleton.mpr rfl)).1
  done := by
    intro X hP hw hK hc i pins s σ H E I hf ⟨ok, ov, he⟩ ⟨hd, hi⟩
    subst hP hw hK
    obtain ⟨f0, f1, f2, f3, f4, f5⟩ := hf it (List.mem_singleton.mpr rfl)
    obtain ⟨hs, hgd, hx, es', ep', hdt, hsz, ent⟩ := frzT2 I hd
    obtain ⟨rfl, rfl⟩ := dict_ep hod hdt
    rw [← hsz] at he hi
    exact DT.endI (I.ok.hd hc) he ⟨o, hgd, hx, hdt⟩ hi fun h' eb => ⟨rfl, I.turned (t' := s.toks) (fun b ob hb e => eb b ob hb e) f0 f1 f3 f4 f5⟩
  self := fun A i s Q E ⟨_, _, e⟩ h => PySem.W.kcp_self e h
end
def iItT (td : TE) : TI := fun σ H R => td σ H fun x H1 => ∃ d o kvs, x = .ref d ∧ H1 d = some (.frz o (.dT kvs)) ∧ R (ItT d o kvs) H1
section
variable {X : Cx} {tg e : Expr} {td : TE} {apos cpos : Pos}
theorem pi_itT {elts : List Expr} {kk : Nat} {tpos : Pos} (he : PE X e td) (hbase : attributeBase e "items" X.env (eval e X.env) = eval e X.env := by rfl) (hline : (apos.endLine == cpos.line) = true := by rfl) :
    PI X (.Tuple elts kk tpos) (.Call (.Attribute e "items" apos) [] [] cpos) (iItT td) := by
  refine ⟨fun pins s σ H R I h => ?_⟩
  refine wpAny_Call_method (T := "dict") (id := "dict.items") hbase rfl hline PySem.F.plainAttrs_dict PySem.F.slot_dict_items PySem.F.type_dict_items (thn (he.run pins s σ H _ I h) fun u s1 ⟨x, H1, I1, rx, d, o, kvs, ex, hd, q⟩ => ?_)
  subst ex
  obtain rfl : u = Value.ref d := rx
  obtain ⟨hs, hgd, hx, es, ep, hdt, hsz, ent⟩ := frzT2 I1 hd
  have raw : DT.Raw s1.heap d es ep := ⟨o, hgd, hx, hdt⟩
  refine ⟨raw.typeIs, fun b z => (by cases z; exact ⟨o, hgd, hx.2.1⟩), ?_⟩
  have I2 : Inv X pins σ H1 { s1 with heap := s1.heap.push { cls := .type "dict_items", data := .fields #[.ref d] } } := I1.kept (t' := s1.toks) fun b ob q => Heap.get?_push_of_some _ q
  have fin : wpAny (model X.prog X.w) X.A (pyIter (.ref s1.heap.objs.size)) (PIE X pins σ (.Tuple elts kk tpos) R) X.xe { s1 with heap := s1.heap.push { cls := .type "dict_items", data := .fields #[.ref d] } } := by
    refine DT.iterI (d := d) (es := es) (ep := ep) ⟨_, Heap.get?_push_size _ rfl, rfl, rfl⟩ (raw.push _) (pi_one (tk := s1.toks) I2 _ (turn_itT _ hdt) ⟨.none, .none, ?_⟩ q)
    rw [← hsz]
    exact Heap.get?_push_size _ rfl
  show wpAny _ _ (callWith cpos (.builtin "dict.items") [.ref d] [] []) _ X.xe s1
  exact method_meetsIn PySem.F.slot_dict_items PySem.F.entry_dict_items rfl (PySem.evalArgs_none ⟨rfl, raw.typeIs, PySem.F.args_dict_items_1 _, _, DT.meetsItems (es := es) (ep := ep) hs, raw, fin⟩)
end
section
variable {X : Cx}
theorem dset {pins : List (Addr × Obj)} {σ : L2.St} {H : Hp} {s : Shared} {E : Value → Shared → Prop} {D b : Addr} {kvs : List (List Key × V)} {k : List Key} {v : V} {r : Value} {Q : Unit → Shared → Prop} (hu : X.A.units + 1 < cLine) (I : Inv X pins σ H s) (hD : H D = some (.dT kvs)) (hz : kvs.length < sizeLine)
    (hb : H b = some (.tup (k.map kV))) (rv : RelV v r) (h : ∀ s', Inv X pins σ (upd H D (.dT (putK kvs k v))) s' → Q () s') : wpAny (model X.prog X.w) X.A (dictSet D (.ref b) r) Q E s := by
  obtain ⟨z, hd, xs, rel, dd⟩ := dt_of I.hok hD
  have hzx : xs.length ≤ sizeLine := by rw [← Paired.length rel]; exact z
  have hl : (putK kvs k v).length ≤ sizeLine := by have := length_putK kvs k v; omega
  refine wpAny_dictSet_heap (hsz := hzx) (show (tupleKind (mixKind X.prog X.w)).room X.A from Nat.lt_of_succ_lt hu) (key_of I.hok hb) dd fun h' dd' hs => h _ ?_
  obtain ⟨q, es, ep, hq, h2, h3, h4, _, h5⟩ := dd'
  refine d_write I (by rw [hD]; exact True.intro) hs ⟨q, hq⟩ ⟨hl, hd, _, (rel.put k hb rv).keeps fun c ys ec => ?_, q, es, ep, hq, h2, h3, h4, h5⟩
  rw [upd_ne (ne_of ec hD (fun z => nomatch z))]
  exact ec
end
section
variable {X : Cx}
def tDcT (wi : TI) (g : TG) (tt : TT) (tk tv : TE) (vs : List Nat) : TE := fun σ H Q => wi σ H fun J H1 => ∀ D, H1 D = none → ∃ W : Nat → Nat → Hp → Prop, (∃ m, W 0 m (upd H1 D (.dT []))) ∧ ∀ i m H, W i m H →
  (J.stop i H ∧ Q (.ref D) H) ∨ (J.go i H ∧ ∃ Nx : Hp → Prop, (∀ H', Nx H' → ∃ m', m' < m ∧ W (i + 1) m' H') ∧ ∀ x H', J.yld i H x H' → g x (wipe σ vs) H' fun σ2 H2 => wipe σ2 vs = wipe σ vs ∧ tt σ2 H2 fun b H3 =>
    if b = true then tk σ2 H3 fun y H4 => tv σ2 H4 fun z H5 => ∃ kvs k q, y = .ref q ∧ H5 q = some (.tup (k.map kV)) ∧ H5 D = some (.dT kvs) ∧ kvs.length < sizeLine ∧ Nx (upd H5 D (.dT (putK kvs k z))) else Nx H3)
theorem dcT_core {pins : List (Addr × Obj)} {s : Shared} {σ : L2.St} {H : Hp} {Q : VK} {kx vx tg iter : Expr} {ifs : List Expr} {scope : Scope} {own : List (Str × Nat)} {pos pos' : Pos} {wi : TI} {g : TG} {tt : TT} {tk tv : TE} {use : Option (Value → Sem Unit)} {Qf : Value → Shared → Prop}
    (hu : X.A.units + 1 < cLine) (hc : X.calm = true) (hN : X.N.Nodup) (I : Inv X pins σ H s) (hi : PI X tg iter wi) (ok : BlkOk X.N X.env.scope scope own)
    (hg : ∀ (s : Shared) (H : Hp) (C : Addr) (cl : List (Str × Addr)) (fp : List Addr), PG (X.blk s H scope (compEnvC scope cl C X.env) fp) tg g)
    (ht : ∀ (s : Shared) (H : Hp) (C : Addr) (cl : List (Str × Addr)) (fp : List Addr), PTs (X.blk s H scope (compEnvC scope cl C X.env) fp) ifs tt)
    (hk : ∀ (s : Shared) (H : Hp) (C : Addr) (cl : List (Str × Addr)) (fp : List Addr), PE (X.blk s H scope (compEnvC scope cl C X.env) fp) kx tk)
    (he : ∀ (s : Shared) (H : Hp) (C : Addr) (cl : List (Str × Addr)) (fp : List Addr), PE (X.blk s H scope (compEnvC scope cl C X.env) fp) vx tv) (hs : ∀ x, foldedSetIterable iter X.env x = pure x)
    (h : tDcT wi g tt tk tv (own.map (·.2)) σ H Q)
    (hRR : ∀ D C s' m H', Inv X pins σ H' s' → Q (.ref D) H' → s'.heap.Ns C m → FpOk X pins H' C → compPost (model X.prog X.w) X.A X.xe use Qf (.ref D) C (.ok .next) s') :
    wpAny (model X.prog X.w) X.A (comprehension (.DictComp kx vx [⟨tg, iter, ifs, 0⟩] scope pos) scope X.env pos' newDict false (eval iter X.env) use) Qf X.xe s := by
  have hfr : ∀ y ∈ scope.names, y.2 = .free → ∃ c, X.env.cells.lookup y.1 = some c := fun y hy e => (ok.free y hy e).elim (fun k => I.ok.has _ (.inl k)) fun k => I.ok.has _ (.inr k)
  refine wpAny_comprehension_free (use := use) rfl hs (closure_ok hfr) ok.kind (fun y hy e => by rw [ok.uniq y hy, e]) (thn (hi.run pins s σ H _ I h) fun xv s1 hx => thn hx fun itv s2 h2 => ?_)
  obtain ⟨it, fp, tn, J, H2, rfl, I2, T, st2, f2, q⟩ := h2
  refine wpAny_newObj_type (newEnv_comp ?_)
  generalize hD : s2.heap.objs.size = D
  have hDn : H2 D = none := I2.hok.fresh (Nat.le_of_eq hD)
  obtain ⟨W, ⟨m0, w0⟩, turn⟩ := q D hDn
  generalize hs3 : ({ s2 with heap := s2.heap.push { cls := .type "dict", data := .dict #[] } } : Shared) = s3
  have I3 : Inv X pins σ (upd H2 D (.dT [])) s3 := by
    rw [← hs3, ← hD]
    exact I2.laid (t' := s2.toks) (fun b o e => Heap.get?_push_of_some _ e) (Nat.le_refl _) (dt_empty s2.heap I2.big)
  have h3 : s3.heap = s2.heap.push { cls := .type "dict", data := .dict #[] } := by rw [← hs3]
  have f3 : ∀ b ∈ fp, FpOk X pins (upd H2 D (.dT [])) b ∧ b < s3.heap.objs.size := fun b hb => by
    have hlt : b < s2.heap.objs.size := let ⟨o, e, _⟩ := T.obj _ _ st2 b hb; Heap.lt_size e
    refine ⟨⟨?_, (f2 b hb).2⟩, (by rw [h3, Heap.size_push]; exact Nat.lt_succ_of_lt hlt)⟩
    rw [upd_ne (by rw [← hD]; exact Nat.ne_of_lt hlt)]; exact (f2 b hb).1
  have st3 : tn 0 s3.heap := T.keep _ _ _ st2 fun b _ o e => (by rw [h3]; exact Heap.get?_push_of_some _ e)
  have I4 := block_start I3 ok hN f3
  generalize hcl : cellsFrom (s3.heap.objs.size + 1) scope.names (cloFrom X.env.cells scope.names []) = cl at I4 ⊢
  have pg := hg s3 (upd H2 D (.dT [])) s3.heap.objs.size cl fp
  have pt := ht s3 (upd H2 D (.dT [])) s3.heap.objs.size cl fp
  have pk := hk s3 (upd H2 D (.dT [])) s3.heap.objs.size cl fp
  have pe := he s3 (upd H2 D (.dT [])) s3.heap.objs.size cl fp
  have nfp : ∀ b ∈ fp, (upd H2 D (.dT [])) b = none := fun b hb => (f3 b hb).1.1
  have goal : codeAny (model X.prog X.w) X.A (.compStart (.DictComp kx vx [⟨tg, iter, ifs, 0⟩] scope pos) 0 (.ref it) (.ref D) (compEnvC scope cl s3.heap.objs.size X.env)) (compPost (model X.prog X.w) X.A X.xe use Qf (.ref D) s3.heap.objs.size) { s3 with heap := pushCells (s3.heap.push { cls := .type "dict", data := .dict #[] }) scope.names } := by
    generalize hce : compEnvC scope cl s3.heap.objs.size X.env = ce at I4 pg pt pk pe ⊢
    have cL : ce.locals = s3.heap.objs.size := (by subst hce; rfl)
    generalize hH3 : upd H2 D (.dT []) = H3 at I3 I4 pg pt pk pe w0 nfp f3
    generalize hs4 : ({ s3 with heap := pushCells (s3.heap.push { cls := .type "dict", data := .dict #[] }) scope.names } : Shared) = s4 at I4 ⊢
    have st4 : tn 0 s4.heap := T.keep _ _ _ st3 fun b _ o e => (by rw [← hs4]; exact pushCells_keeps _ _ _ _ (Heap.get?_push_of_some _ e))
    have stat : ∀ {σ' : L2.St} {H' : Hp} {s' : Shared}, Inv (X.blk s3 H3 scope ce fp) [] σ' H' s' → (∀ b ∈ fp, H' b = none) → ∀ b ∈ fp, FpOk (X.blk s3 H3 scope ce fp) [] H' b := fun {σ' H' s'} I' hn b hb =>
      ⟨hn b hb, (I'.ok.exf b hb).1, I'.ok.exfs b hb, .inl hb, fun x c e => (I'.ok.exf b hb).2 x c e, fun p hp => nomatch (show p ∈ ([] : List (Addr × Obj)) from hp)⟩
    have loop : codeAny (model X.prog X.w) X.A (.compLoop (.DictComp kx vx [⟨tg, iter, ifs, 0⟩] scope pos) 0 (.ref it) (.ref D) ce) (compPost (model X.prog X.w) X.A X.xe use Qf (.ref D) s3.heap.objs.size) s4 := by
      refine compLoop_anyD (fun n s' => ∃ i H', Inv (X.blk s3 H3 scope ce fp) [] (wipe σ (own.map (·.2))) H' s' ∧ tn i s'.heap ∧ (∀ b ∈ fp, H' b = none) ∧ W i n H') ?_ m0 ⟨0, H3, I4, st4, nfp, w0⟩
      rintro n s5 ⟨i, H5, I5, st5, n5, w5⟩
      rcases turn i n H5 w5 with ⟨stop, qq⟩ | ⟨go, Nx, hNx, step⟩
      · refine thnF (T.done (X.blk s3 H3 scope ce fp) rfl rfl rfl hc i [] s5 _ H5 (fun _ _ => False) I5 (stat I5 n5) st5 stop) fun r s6 ⟨hr, I6⟩ => ?_
        subst hr
        have I7 : Inv X pins σ H5 s6 := I3.call' (ch := fp) I6.os I6.base I6.hok I6.bare fun b hb => let z := (f3 b hb).1.2; ⟨z.2.2.1, z.1, z.2.2.2.1, z.2.2.2.2⟩
        have nC : H5 s3.heap.objs.size = none := cL ▸ (show H5 ce.locals = none from I6.free)
        obtain ⟨m, hn, _⟩ := I6.loc
        exact hRR D s3.heap.objs.size s6 m H5 I7 qq (cL ▸ (show s6.heap.Ns ce.locals m from hn)) (I3.fpOk (Nat.le_refl _) nC)
      · refine thnF (T.item (X.blk s3 H3 scope ce fp) rfl rfl rfl hc i [] s5 _ H5 (fun _ _ => False) I5 (stat I5 n5) st5 go) fun r s6 ⟨u, hr, h6⟩ => ?_
        subst hr
        refine thnF h6 fun _ s7 ⟨x, H7, I7, r7, y7, st7, n7⟩ => thnF (pg.run _ s7 _ H7 x u _ (I7.pinned (stat I7 n7) (T.obj _ _ st7)) r7 (step x H7 y7)) fun _ s8 ⟨σ8, H8, I8, hw8, q8⟩ => thnF (pt.run _ s8 σ8 H8 _ I8 q8) fun b s9 ⟨H9, I9, q9⟩ => ?_
        have fin : ∀ {s' : Shared} {H' : Hp}, Inv (X.blk s3 H3 scope ce fp) ([] ++ pinsAt fp s7.heap) σ8 H' s' → Nx H' → ∃ m, m < n ∧ ∃ i H', Inv (X.blk s3 H3 scope ce fp) [] (wipe σ (own.map (·.2))) H' s' ∧ tn i s'.heap ∧ (∀ b ∈ fp, H' b = none) ∧ W i m H' := fun {s' H'} I' nx => by
          obtain ⟨m', hm, w'⟩ := hNx H' nx
          have pin' : ∀ b ∈ fp, ∀ o, s7.heap.get? b = some o → s'.heap.get? b = some o ∧ H' b = none := fun b hb o e => let z := I'.pin (b, o) (List.mem_append_right _ (List.mem_append_right _ (mem_pinsAt hb e))); ⟨z.1, z.2.1⟩
          refine ⟨m', hm, i + 1, H', (I'.unpinned (pins := [])).weak (by rw [← hw8, wipe_length]) (fun j v e => (wipe_some (hw8 ▸ e)).1), T.keep _ _ _ st7 fun b hb o e => (pin' b hb o e).1, fun b hb => ?_, w'⟩
          obtain ⟨o, e, _⟩ := T.obj _ _ st7 b hb
          exact (pin' b hb o e).2
        cases b with
        | false => exact fin I9 (by simpa using q9)
        | true =>
          have q9 : tk σ8 H9 _ := (if_pos rfl).mp q9
          show wpAny _ _ _ _ _ _
          refine thnF (pk.run _ s9 σ8 H9 _ I9 q9) fun z s10 ⟨yk, H10, I10, r10, q10⟩ => thnF (pe.run _ s10 σ8 H10 _ I10 q10) fun z2 s11 ⟨yv, H11, I11, r11, kvs, k, qk, ek, hqk, hD11, hz11, nx⟩ => ?_
          subst ek
          cases r10
          exact dset (X := X.blk s3 H3 scope ce fp) hu I11 hD11 hz11 hqk r11 fun s12 I12 => fin I12 nx
    exact codeAny_compStart_dict loop (T.self X.A 0 _ _ _ st4 loop)
  exact goal
theorem pe_dcT {kx vx tg iter : Expr} {ifs : List Expr} {scope : Scope} {own : List (Str × Nat)} {pos : Pos} {wi : TI} {g : TG} {tt : TT} {tk tv : TE} (hu : X.A.units + 1 < cLine) (hc : X.calm = true) (hN : X.N.Nodup) (hi : PI X tg iter wi) (ok : BlkOk X.N X.env.scope scope own)
    (hg : ∀ (s : Shared) (H : Hp) (C : Addr) (cl : List (Str × Addr)) (fp : List Addr), PG (X.blk s H scope (compEnvC scope cl C X.env) fp) tg g)
    (ht : ∀ (s : Shared) (H : Hp) (C : Addr) (cl : List (Str × Addr)) (fp : List Addr), PTs (X.blk s H scope (compEnvC scope cl C X.env) fp) ifs tt)
    (hk : ∀ (s : Shared) (H : Hp) (C : Addr) (cl : List (Str × Addr)) (fp : List Addr), PE (X.blk s H scope (compEnvC scope cl C X.env) fp) kx tk)
    (he : ∀ (s : Shared) (H : Hp) (C : Addr) (cl : List (Str × Addr)) (fp : List Addr), PE (X.blk s H scope (compEnvC scope cl C X.env) fp) vx tv) (hs : ∀ x, foldedSetIterable iter X.env x = pure x := by intro _; rfl) :
    PE X (.DictComp kx vx [⟨tg, iter, ifs, 0⟩] scope pos) (tDcT wi g tt tk tv (own.map (·.2))) := by
  refine ⟨fun pins s σ H Q I h => ?_⟩
  rw [arm_eval_DictComp]
  refine dcT_core hu hc hN I hi ok hg ht hk he hs h fun D C s' m H' I' q hn ⟨f0, f1, f2, f3, f4, f5⟩ => ⟨m, hn, fun h'' sb => ?_⟩
  exact ⟨.ref D, H', I'.turned (t' := s'.toks) (fun b o hb e => (sb.2 b hb).trans e) f0 f1 f3 f4 f5, rfl, q⟩
end
abbrev Rw := List Key
def putT {α : Type} (es : List (Rw × α)) (k : Rw) (a : α) : List (Rw × α) := if (es.any fun e => decide (e.1 = k)) = true then es.map (fun e => if e.1 = k then (e.1, a) else e) else es ++ [(k, a)]
def foldT {α : Type} (es : List (Rw × α)) : List (Rw × α) := es.foldl (fun acc e => putT acc e.1 e.2) []
abbrev KvT {α : Type} (R : Hp → V → α → Prop) (H : Hp) (kvs : List (Rw × V)) (es : List (Rw × α)) : Prop := Paired (fun (p : Rw × V) (e : Rw × α) => p.1 = e.1 ∧ R H p.2 e.2) kvs es
theorem anyT_eq {α : Type} {R : Hp → V → α → Prop} {H : Hp} {k : Rw} : ∀ {kvs : List (Rw × V)} {es : List (Rw × α)}, KvT R H kvs es → (kvs.any fun e => decide (e.1 = k)) = es.any fun e => decide (e.1 = k)
  | _, _, .nil => rfl
  | _, _, .cons h t => by rw [List.any_cons, List.any_cons, h.1, anyT_eq t]
theorem kvT_put {α : Type} {R : Hp → V → α → Prop} {H : Hp} {k : Rw} {z : V} {a : α} {kvs : List (Rw × V)} {es : List (Rw × α)} (r : KvT R H kvs es) (hr : R H z a) : KvT R H (putK kvs k z) (putT es k a) := by
  unfold putK putT
  rw [anyT_eq r]
  split
  · exact go r
  · exact K7.paired_snoc' r ⟨rfl, hr⟩
where
  go : ∀ {kvs : List (Rw × V)} {es : List (Rw × α)}, KvT R H kvs es → KvT R H (kvs.map fun (kv : Rw × V) => if kv.1 = k then (kv.1, z) else kv) (es.map fun (e : Rw × α) => if e.1 = k then (e.1, a) else e)
    | _, _, .nil => .nil
    | _, _, .cons (a := p) (b := e) h t => by
      rw [List.map_cons, List.map_cons]
      refine .cons ?_ (go t)
      by_cases c : p.1 = k
      · rw [if_pos c, if_pos (h.1 ▸ c)]; exact ⟨h.1, hr⟩
      · rw [if_neg c, if_neg (h.1 ▸ c)]; exact h
theorem putT_len {α : Type} (es : List (Rw × α)) (k : Rw) (a : α) : (putT es k a).length ≤ es.length + 1 := by
  unfold putT
  split <;> simp
theorem foldT_snoc {α : Type} (es : List (Rw × α)) (k : Rw) (a : α) : foldT (es ++ [(k, a)]) = putT (foldT es) k a := by
  unfold foldT
  rw [List.foldl_append]; rfl
theorem foldT_len_go {α : Type} : ∀ (es acc : List (Rw × α)), (es.foldl (fun acc e => putT acc e.1 e.2) acc).length ≤ acc.length + es.length
  | [], acc => by simp
  | e :: es, acc => by
    rw [List.foldl_cons]
    have := foldT_len_go es (putT acc e.1 e.2)
    have := putT_len acc e.1 e.2
    rw [List.length_cons]; omega
theorem foldT_self_go {α : Type} : ∀ (es acc : List (Rw × α)), ((acc ++ es).map (·.1)).Nodup → es.foldl (fun acc e => putT acc e.1 e.2) acc = acc ++ es
  | [], acc, _ => by simp
  | e :: es, acc, h => by
    have ne : ¬ (acc.any fun x => decide (x.1 = e.1)) = true := by
      rw [List.any_eq_true]
      rintro ⟨x, hx, hk⟩
      rw [List.map_append, List.nodup_append] at h
      exact h.2.2 x.1 (List.mem_map.mpr ⟨x, hx, rfl⟩) e.1 (by simp) (of_decide_eq_true hk)
    have ep : putT acc e.1 e.2 = acc ++ [e] := by unfold putT; rw [if_neg ne]
    rw [List.foldl_cons, ep, foldT_self_go es (acc ++ [e]) (by simpa using h)]
    simp
theorem foldT_self {α : Type} {es : List (Rw × α)} (h : (es.map (·.1)).Nodup) : foldT es = es := foldT_self_go es [] (by simpa using h)
def KTT (H H' : Hp) : Prop := ∀ b o, (∀ ks, o ≠ .dT ks) → H b = some o → H' b = some o
theorem dcT {J : It} {n : Nat} {G : Hp → Prop} {Y : Nat → Hp → V → Hp → Prop} (w : Walk J n G Y) {α : Type} (R : Hp → V → α → Prop) (out : Nat → Option (Rw × α)) (stab : ∀ H H' v a, KTT H H' → R H v a → R H' v a)
    {g : TG} {tt : L2.TT} {tk tv : TE} {vs : List Nat} {σ : L2.St} {HL : Hp} {D : Addr} {Qd : Hp → Prop} (hD : HL D = none) (hz : n ≤ 1000000) (hG : ∀ H, Ex HL H → G H) (hY : ∀ i H x H1, i < n → Ex HL H → Y i H x H1 → Ex H H1)
    (turn : ∀ (i : Nat) (x : V) (H H1 : Hp) (R0 : V → V → Hp → Prop) (N0 : Hp → Prop), i < n → Ex HL H → Y i H x H1 → (out i = none → ∀ H2, Ex H1 H2 → N0 H2) → (∀ k a, out i = some (k, a) → ∀ H2 q z, Ex H1 H2 → H2 q = some (.tup (k.map kV)) → R H2 z a → R0 (.ref q) z H2) →
      g x (wipe σ vs) H1 fun σ2 H2 => wipe σ2 vs = wipe σ vs ∧ tt σ2 H2 fun b H3 => if b = true then tk σ2 H3 fun y H4 => tv σ2 H4 fun z H5 => R0 y z H5 else N0 H3)
    (fin : ∀ H kvs, Ex HL H → H D = some (.dT kvs) → KvT R H kvs (foldT ((List.range n).filterMap out)) → Qd H) :
    ∃ W : Nat → Nat → Hp → Prop, (∃ m, W 0 m (upd HL D (.dT []))) ∧ ∀ i m H, W i m H →
      (J.stop i H ∧ Qd H) ∨ (J.go i H ∧ ∃ Nx : Hp → Prop, (∀ H', Nx H' → ∃ m', m' < m ∧ W (i + 1) m' H') ∧ ∀ x H', J.yld i H x H' → g x (wipe σ vs) H' fun σ2 H2 => wipe σ2 vs = wipe σ vs ∧ tt σ2 H2 fun b H3 =>
        if b = true then tk σ2 H3 fun y H4 => tv σ2 H4 fun z H5 => ∃ kvs k q, y = .ref q ∧ H5 q = some (.tup (k.map kV)) ∧ H5 D = some (.dT kvs) ∧ kvs.length < sizeLine ∧ Nx (upd H5 D (.dT (putK kvs k z))) else Nx H3) := by
  refine ⟨fun i m H => m = n - i ∧ i ≤ n ∧ (Ex HL H ∧ ∃ kvs, H D = some (.dT kvs) ∧ KvT R H kvs (foldT ((List.range i).filterMap out))), ⟨n, by simp, Nat.zero_le _, Ex.upd hD, [], upd_same, .nil⟩, ?_⟩
  rintro i m H ⟨rfl, hi, e, kvs, hx, hp⟩
  have q := hG H e
  by_cases hlt : i < n
  · refine .inr ⟨w.goes i H hlt q, (fun H' => i + 1 ≤ n ∧ (Ex HL H' ∧ ∃ kvs, H' D = some (.dT kvs) ∧ KvT R H' kvs (foldT ((List.range (i + 1)).filterMap out)))), fun H' p' => ⟨n - (i + 1), by omega, rfl, p'⟩, fun x H1 y => ?_⟩
    have y := w.yields i H x H1 hlt q y
    have e1 := hY i H x H1 hlt e y
    have hs : (List.range (i + 1)).filterMap out = (List.range i).filterMap out ++ (out i).toList := by
      rw [List.range_succ, List.filterMap_append]
      cases h : out i <;> simp [h]
    refine turn i x H H1 (fun y z H5 => ∃ kvs k q, y = .ref q ∧ H5 q = some (.tup (k.map kV)) ∧ H5 D = some (.dT kvs) ∧ kvs.length < sizeLine ∧ (fun H' => i + 1 ≤ n ∧ (Ex HL H' ∧ ∃ kvs, H' D = some (.dT kvs) ∧ KvT R H' kvs (foldT ((List.range (i + 1)).filterMap out)))) (upd H5 D (.dT (putK kvs k z)))) _ hlt e y (fun hn H2 e2 => ?_) fun k a ha H2 q z e2 hq hr => ?_
    · refine ⟨hlt, (e.trans e1).trans e2, kvs, e2 _ _ (e1 _ _ hx), ?_⟩
      rw [hs, hn]
      simpa using paired_mono (fun v b h => ⟨h.1, stab _ _ v.2 b.2 (fun b' o' _ h' => e2 _ _ (e1 _ _ h')) h.2⟩) hp
    · have hx2 := e2 _ _ (e1 _ _ hx)
      have kt : KTT H2 (upd H2 D (.dT (putK kvs k z))) := fun b o ho h => by
        rw [L2.upd_ne (fun z => by rw [z, hx2] at h; exact ho _ (Option.some.inj h).symm)]; exact h
      refine ⟨kvs, k, q, rfl, hq, hx2, ?_, hlt, K7.Ex.on ((e.trans e1).trans e2) hD, putK kvs k z, upd_same, ?_⟩
      · have l1 := K7.paired_len hp
        have l2 := foldT_len_go ((List.range i).filterMap out) []
        have l3 := List.length_filterMap_le out (List.range i)
        rw [List.length_range] at l3
        have l2 : (foldT ((List.range i).filterMap out)).length ≤ 0 + _ := l2
        have : sizeLine = 16777216 := rfl
        omega
      · rw [hs, ha]
        show KvT R _ _ (foldT (_ ++ [(k, a)]))
        rw [foldT_snoc]
        exact kvT_put (paired_mono (fun v b h => ⟨h.1, stab _ _ v.2 b.2 (fun b' o' n' h' => kt _ _ n' (e2 _ _ (e1 _ _ h'))) h.2⟩) hp) (stab _ _ _ _ kt hr)
  · have e' : i = n := by omega
    subst e'
    exact .inl ⟨w.stops H q, fin H kvs e hx hp⟩
end TK
set_option Elab.async false
set_option linter.all false
set_option maxRecDepth 100000
set_option maxHeartbeats 4000000
namespace KL9
open PySem PySem.Spec PyProof.Rows L2 KB KC KS KN1 LamX K7 Q9 R8 TK
theorem slV_to {K : PySem.W.Frag} {H : Hp} {Q : VK} {t : Addr} {vs : List V} {hi : Nat} (h : H t = some (.tup vs)) (q : ∀ H' p, KS.Ex H H' → H' p = some (.tup (vs.take hi)) → Q (.ref p) H') : rSlA K (.ref t) none (some (hi : Int)) H Q := by
  refine ⟨t, _, rfl, SqT.of h, fun ⟨_, z2⟩ => q H t (Ex.refl H) ?_, fun _ p hp => q _ p (Ex.upd hp) ?_⟩
  · rw [HT.sIx_nat] at z2
    rw [List.take_of_length_le (by omega)]; exact h
  · rw [upd_same]
    unfold cutV
    rw [HT.sIx_nat, HT.sIx_none, Nat.sub_zero, List.drop_zero]
    congr 2
    by_cases c2 : hi ≤ vs.length
    · rw [Nat.min_eq_left c2]
    · rw [Nat.min_eq_right (by omega), List.take_of_length_le (by omega), List.take_of_length_le (by omega)]
theorem slV_from {K : PySem.W.Frag} {H : Hp} {Q : VK} {t : Addr} {vs : List V} {lo : Nat} (h : H t = some (.tup vs)) (q : ∀ H' p, KS.Ex H H' → H' p = some (.tup (vs.drop lo)) → Q (.ref p) H') : rSlA K (.ref t) (some (lo : Int)) none H Q := by
  refine ⟨t, _, rfl, SqT.of h, fun ⟨z1, _⟩ => q H t (Ex.refl H) ?_, fun _ p hp => q _ p (Ex.upd hp) ?_⟩
  · rw [HT.sIx_nat] at z1
    by_cases c : vs = []
    · subst c
      rw [List.drop_nil]; exact h
    · have : 0 < vs.length := List.length_pos_iff.mpr c
      have l0 : lo = 0 := by omega
      rw [l0, List.drop_zero]; exact h
  · rw [upd_same]
    unfold cutV
    rw [HT.sIx_nat, HT.sIx_none]
    by_cases c : lo < vs.length
    · rw [Nat.min_eq_left (Nat.le_of_lt c), List.take_of_length_le (by rw [List.length_drop]; omega)]
    · rw [List.drop_eq_nil_of_le (as := vs) (i := lo) (by omega), List.drop_eq_nil_of_le (by omega)]
      simp
theorem slV_mid {K : PySem.W.Frag} {H : Hp} {Q : VK} {t : Addr} {vs : List V} {lo hi : Nat} (h : H t = some (.tup vs)) (q : ∀ H' p, KS.Ex H H' → H' p = some (.tup ((vs.drop lo).take (hi - lo))) → Q (.ref p) H') : rSlA K (.ref t) (some (lo : Int)) (some (hi : Int)) H Q := by
  refine ⟨t, _, rfl, SqT.of h, fun ⟨z1, z2⟩ => q H t (Ex.refl H) ?_, fun _ p hp => q _ p (Ex.upd hp) ?_⟩
  · rw [HT.sIx_nat] at z1 z2
    have e : (vs.drop lo).take (hi - lo) = vs := by
      by_cases c : vs = []
      · subst c; simp
      · have : 0 < vs.length := List.length_pos_iff.mpr c
        have l0 : lo = 0 := by omega
        subst l0
        rw [List.drop_zero]
        exact List.take_of_length_le (by omega)
    rw [e]; exact h
  · rw [upd_same]
    unfold cutV
    rw [HT.sIx_nat, HT.sIx_nat]
    by_cases c : lo < vs.length
    · rw [Nat.min_eq_left (Nat.le_of_lt c)]
      congr 2
      by_cases c2 : hi ≤ vs.length
      · rw [Nat.min_eq_left c2]
      · rw [Nat.min_eq_right (by omega), List.take_of_length_le (by rw [List.length_drop]; omega), List.take_of_length_le (by rw [List.length_drop]; omega)]
    · rw [List.drop_eq_nil_of_le (as := vs) (i := lo) (by omega), List.drop_eq_nil_of_le (by omega)]
      simp
theorem dcT_it {J : It} {n : Nat} {G : Hp → Prop} {Y : Nat → Hp → V → Hp → Prop} (w : Walk J n G Y) {g : TG} {tt : L2.TT} {tk tv : TE} {vs : List Nat} {σ : L2.St} {H1 : Hp} {D : Addr} {Qd : Hp → Prop} (Pv : Nat → Hp → Prop) (h0 : Pv 0 (upd H1 D (.dT []))) (hG : ∀ i H, i ≤ n → Pv i H → G H)
    (hs : ∀ i x H H', i < n → Pv i H → Y i H x H' → g x (wipe σ vs) H' fun σ2 H2 => wipe σ2 vs = wipe σ vs ∧ tt σ2 H2 fun b H3 =>
      if b = true then tk σ2 H3 fun y H4 => tv σ2 H4 fun z H5 => ∃ kvs k q, y = .ref q ∧ H5 q = some (.tup (k.map kV)) ∧ H5 D = some (.dT kvs) ∧ kvs.length < sizeLine ∧ Pv (i + 1) (upd H5 D (.dT (putK kvs k z))) else Pv (i + 1) H3) (hd : ∀ H, Pv n H → Qd H) :
    ∃ W : Nat → Nat → Hp → Prop, (∃ m, W 0 m (upd H1 D (.dT []))) ∧ ∀ i m H, W i m H →
      (J.stop i H ∧ Qd H) ∨ (J.go i H ∧ ∃ Nx : Hp → Prop, (∀ H', Nx H' → ∃ m', m' < m ∧ W (i + 1) m' H') ∧ ∀ x H', J.yld i H x H' → g x (wipe σ vs) H' fun σ2 H2 => wipe σ2 vs = wipe σ vs ∧ tt σ2 H2 fun b H3 =>
        if b = true then tk σ2 H3 fun y H4 => tv σ2 H4 fun z H5 => ∃ kvs k q, y = .ref q ∧ H5 q = some (.tup (k.map kV)) ∧ H5 D = some (.dT kvs) ∧ kvs.length < sizeLine ∧ Nx (upd H5 D (.dT (putK kvs k z))) else Nx H3) := by
  refine ⟨fun i m H => m = n - i ∧ i ≤ n ∧ Pv i H, ⟨n, by simp, Nat.zero_le _, h0⟩, ?_⟩
  rintro i m H ⟨rfl, hi, p⟩
  have q := hG i H hi p
  by_cases hlt : i < n
  · refine .inr ⟨w.goes i H hlt q, Pv (i + 1), fun H' p' => ⟨n - (i + 1), by omega, rfl, hlt, p'⟩, fun x H' y => hs i x H H' hlt p (w.yields i H x H' hlt q y)⟩
  · have e : i = n := by omega
    subst e
    exact .inl ⟨w.stops H q, hd H p⟩
theorem ps_setDcT {X : Cx} {i : Nat} {y : Str} {py : Pos} {kx vx tg iter : Expr} {ifs : List Expr} {scope : Scope} {own : List (Str × Nat)} {pos spos : Pos} {wi : TI} {g : TG} {tt : L2.TT} {tk tv : TE} (hu : X.A.units + 1 < cLine) (hc : X.calm = true) (hN : X.N.Nodup) (hy : X.N[i]? = some y) (hyl : X.env.scope.names.lookup y = some .local)
    (hsw : swapsWith (.DictComp kx vx [⟨tg, iter, ifs, 0⟩] scope pos) (some (.Name y py)) spos.line X.env = pure true) (hi : PI X tg iter wi) (ok : BlkOk X.N X.env.scope scope own)
    (hg : ∀ (s : Shared) (H : Hp) (C : Addr) (cl : List (Str × Addr)) (fp : List Addr), PG (X.blk s H scope (compEnvC scope cl C X.env) fp) tg g) (ht : ∀ (s : Shared) (H : Hp) (C : Addr) (cl : List (Str × Addr)) (fp : List Addr), PTs (X.blk s H scope (compEnvC scope cl C X.env) fp) ifs tt)
    (hk : ∀ (s : Shared) (H : Hp) (C : Addr) (cl : List (Str × Addr)) (fp : List Addr), PE (X.blk s H scope (compEnvC scope cl C X.env) fp) kx tk)
    (he : ∀ (s : Shared) (H : Hp) (C : Addr) (cl : List (Str × Addr)) (fp : List Addr), PE (X.blk s H scope (compEnvC scope cl C X.env) fp) vx tv) (hs : ∀ x, foldedSetIterable iter X.env x = pure x := by intro _; rfl) :
    L2.PS X (.Assign [.Name y py] (.DictComp kx vx [⟨tg, iter, ifs, 0⟩] scope pos) spos) (tAsg (tDcT wi g tt tk tv (own.map (·.2))) (gName i)) := by
  refine ⟨fun pins s σ H D I h => ?_⟩
  rw [exec_Assign_Name_used _ _ _ _ hsw]
  refine wpAny_bind (wpAny_standAt (wpAny_bind ?_))
  show wpAny _ X.A (do let _ ← comprehension (.DictComp kx vx [⟨tg, iter, ifs, 0⟩] scope pos) scope X.env (firstIterPos [⟨tg, iter, ifs, 0⟩] pos) newDict false (eval iter X.env) (some (assign (.Name y py) X.env))) _ _ s
  have h : tDcT wi g tt tk tv (own.map (·.2)) σ H (fun x H1 => gName i x σ H1 D.nx) := h
  refine wpAny_bind (thn (dcT_core (Qf := fun _ s' => SP X pins D .next s') hu hc hN I hi ok hg ht hk he hs h fun L C s' m H' I' q hn f => ?_) fun _ s' hq => wpAny_pure (wpAny_pure hq))
  show wpAny _ _ (assign (.Name y py) X.env (.ref L)) _ _ _
  refine wpAny_assign_Name (store_ok2 (v := V.ref L) I' hN hy (.inl hyl) rfl (fun s2 I2 ⟨a, sb, ha⟩ => ?_) (.inr hyl))
  obtain ⟨f0, f1, f2, f3, f4, f5⟩ := f
  have haC : C ≠ a := by
    rcases ha with z | z
    · rw [z]; exact f1
    · exact fun e => f4 y a z e.symm
  refine ⟨m, hn.sameBut sb haC, fun h3 sb3 => ?_⟩
  exact ⟨_, H', I2.turned (t' := s2.toks) (fun b o hb e => (sb3.2 b hb).trans e) f0 f1 f3 f4 f5, q⟩
def hdE : Ev → Int
  | .add _ _ _ => 0
  | .mark w _ => (w : Int)
def idE : Ev → Id
  | .add _ _ d => d
  | .mark _ d => d
def restE : Ev → List Key
  | .add _ s _ => s.1
  | .mark _ _ => []
def idK (d : Id) : List Key := [.inr d.1, .inl (d.2.1 : Int), .inl (d.2.2 : Int)]
theorem idK_inj {d e : Id} (h : idK d = idK e) : d = e := by
  obtain ⟨a, b, c⟩ := d
  obtain ⟨a', b', c'⟩ := e
  unfold idK at h
  injection h with h1 h
  injection h with h2 h
  injection h with h3 _
  have h1 := Sum.inr.inj h1
  have h2 := Sum.inl.inj h2
  have h3 := Sum.inl.inj h3
  simp only at h1 h2 h3
  rw [h1, show b = b' by omega, show c = c' by omega]
theorem recE_row (e : Ev) : (recE e).2.1 = .inl (hdE e) :: (idK (idE e) ++ restE e) := by
  cases e with
  | add k s d => rfl
  | mark w d => rfl
theorem row_take (e : Ev) : ((recE e).2.1.map kV).take 1 = [hdE e].map V.int := by rw [recE_row]; rfl
theorem row_mid (e : Ev) : (((recE e).2.1.map kV).drop 1).take (4 - 1) = (idK (idE e)).map kV := by rw [recE_row]; rfl
theorem row_from (e : Ev) : ((recE e).2.1.map kV).drop 4 = (restE e).map kV := by rw [recE_row]; rfl
def DueAt (H : Hp) (t : Addr) (d : Nat × List Key × List Key × Nat) : Prop := ∃ k r, H t = some (.tup [.int ((d.1 : Nat) : Int), .ref k, .ref r, .int ((d.2.2.2 : Nat) : Int)]) ∧ H k = some (.tup (d.2.1.map kV)) ∧ H r = some (.tup (d.2.2.1.map kV))
theorem DueAt.kt {H H' : Hp} {t : Addr} {d : Nat × List Key × List Key × Nat} (x : DueAt H t d) (e : KT' H H') : DueAt H' t d := by
  obtain ⟨k, r, h1, h2, h3⟩ := x
  exact ⟨k, r, e _ _ h1, e _ _ h2, e _ _ h3⟩
def Dues (H : Hp) : List Addr → List (Nat × List Key × List Key × Nat) → Prop := Paired (DueAt H)
theorem Dues.kt {H H' : Hp} {ts : List Addr} {xs : List (Nat × List Key × List Key × Nat)} (r : Dues H ts xs) (e : KT' H H') : Dues H' ts xs := KL9.paired_mono (fun _ _ h => h.kt e) r
def dueJ (L : List Ev) (e j : Nat) : List (Nat × List Key × List Key × Nat) := (List.range j).filterMap fun i => if i < e then dueAt L i else none
theorem dueJ_succ (L : List Ev) (e j : Nat) : dueJ L e (j + 1) = dueJ L e j ++ (if j < e then dueAt L j else none).toList := by
  unfold dueJ
  rw [List.range_succ, List.filterMap_append]
  congr 1
theorem dueJ_all {L : List Ev} {e : Nat} (h : e ≤ L.length) : dueJ L e L.length = dueL L e := by
  unfold dueJ dueL
  obtain ⟨k, hk⟩ : ∃ k, L.length = e + k := ⟨L.length - e, by omega⟩
  rw [hk, List.range_add, List.filterMap_append]
  have e2 : ((List.range k).map (e + ·)).filterMap (fun i => if i < e then dueAt L i else none) = [] := by
    rw [List.filterMap_eq_nil_iff]
    intro i hi
    obtain ⟨j, _, rfl⟩ := List.mem_map.mp hi
    rw [if_neg (by omega)]
  rw [e2, List.append_nil]
  exact fm_congr fun i hi => if_pos (List.mem_range.mp hi)
theorem dueJ_len (L : List Ev) (e j : Nat) : (dueJ L e j).length ≤ j := by
  have := List.length_filterMap_le (fun i => if i < e then dueAt L i else none) (List.range j)
  rw [List.length_range] at this
  exact this
end KL9
set_option Elab.async false
set_option linter.all false
set_option maxRecDepth 100000
set_option maxHeartbeats 4000000
namespace KL9
open PySem PySem.Spec PyProof.Rows L2 KB KC KS KN1 LamX K7 Q9 R8 TK
@[irreducible] def spRK (CP : Addr) : Sp := fun vs H Q _ => ∃ (p l : Addr) (kb wb : List Int) (L : List Ev) (e : Nat), vs = [.ref p, .int (e : Int)] ∧ PtA CP p l kb wb (L.map recE) 0 H ∧ L.length ≤ 1000 ∧ e ≤ L.length ∧ (∀ w d, Ev.mark w d ∈ L → w ≠ 0) ∧ ∀ H' q ts, KS.Ex H H' → H' q = some (.tup (ts.map V.ref)) → Dues H' ts (dueL L e) → Q (.ref q) H'
theorem rk_step {CP p l : Addr} {kb wb : List Int} {L : List Ev} {e : Nat} {H : Hp} {Q : VK} {E : XK} (x : PtA CP p l kb wb (L.map recE) 0 H) (h1 : L.length ≤ 1000) (h2 : e ≤ L.length) (h3 : ∀ w d, Ev.mark w d ∈ L → w ≠ 0) (fin : ∀ H' q ts, KS.Ex H H' → H' q = some (.tup (ts.map V.ref)) → Dues H' ts (dueL L e) → Q (.ref q) H') : spRK CP [.ref p, .int (e : Int)] H Q E := by
  unfold spRK
  exact ⟨p, l, kb, wb, L, e, rfl, x, h1, h2, h3, fin⟩
theorem eq_ints {K : PySem.W.Frag} {H : Hp} {Q : VK} {p q : Addr} {a b : List Int} (hp : H p = some (.tup (a.map V.int))) (hq : H q = some (.tup (b.map V.int))) (k : Q (.bl (decide (a = b))) H) : rEqD K (.ref p) (.ref q) H Q := ⟨_, _, dp_i hp, dp_i hq, shaped_i _, shaped_i _, by rw [eqv_i]; exact k⟩
section
variable {P : Program} {w : World} {K : PySem.W.Frag} {mg : Str → Option Value} {base : Heap} {f fR CP CG : Addr} {fd fdR : FuncData}
abbrev nRK : List Str := ["part", "end", "told", "kept", "found", "place", "record", "key", "row", "time", "_"]
theorem scRK : FnScope nRK ["part", "end"] (defScope sKept) := ⟨rfl, rfl, rfl, by decide +kernel, rfl, by decide +kernel, by decide +kernel⟩
theorem ok_kept (F : FnP K "read_kept" "read_kept" sKept [] f fd) (TP : TxtP K mg CP) (W : TxtW mg) (TL : TxtL mg) (mR : Meth K CP "read" fR) (GR : FnOk P w K mg base (L2.CX P w) 2 fR fdR ["self", "place", "most"] (spPR CP CG)) (bR : Binds K fdR ["self", "place", "most"] []) : FnOk P w K mg base CX0 3 f fd ["part", "end"] (spRK CP) := by
  obtain ⟨tk1, hKP⟩ := W.kp
  obtain ⟨tk2, hOD⟩ := W.od
  refine F.ok scRK (fun vs H Q E h => ?_) (fun cdv A outer s H vs Q E hr h => ?_)
  · unfold spRK at h
    obtain ⟨_, _, _, _, _, _, rfl, _⟩ := h; rfl
  · unfold spRK at h
    obtain ⟨p, l, kb, wb, L, e, rfl, pt, hL, he, hw0, fin⟩ := h
    have hu := hr.units
    have hu1 := Nat.lt_trans (Nat.add_lt_add_left (by decide : 1 < 64) _) hu
    have hz0 : sizeLine = 16777216 := rfl
    refine ⟨_, PSs.nox <| pss_cons (ps_set (i := 2) scRK.nd rfl (Or.inl rfl) (pe_meth (pv 0) TP.cl mR GR hr bR (E := fun _ _ _ => False) .nil (passes_call L2.takes0 (fun _ _ _ _ h => h)) (pa_cons (pf 0) (pa_cons (pe_callB call_len_seq (by rfl) TL.len (by decide +kernel) (pa_cons (pf 0) pa_nil)) pa_nil))))
      (pss_cons (ps_setDcT (i := 3) (own := [("_", 10), ("record", 6)]) (g := gTup K 2 (gCons (gName 10) (gCons (gName 6) gNil)))
          (tt := tTest (tOp (rEqD K) (tSl (rSlA K) (tOp rIxP (tVar 6) (tC (.int 1))) tNoPart (tPart (tC (.int 1)))) (tTup (tCons (tC (.int 1)) tNil)))) (tk := tSl (rSlA K) (tOp rIxP (tVar 6) (tC (.int 1))) (tPart (tC (.int 1))) (tPart (tC (.int 4)))) (tv := tC (.bl true)) hu1 rfl scRK.nd rfl rfl (sw_dict rfl rfl rfl (by decide +kernel)) (pi_tup (pv 2)) (blkOk_by (N := nRK) (sc := defScope sKept) (by decide +kernel))
          (fun _ _ _ _ _ => pg_tup rfl (pgs_cons (pg_name (i := 10) scRK.nd rfl (Or.inl rfl)) (pgs_cons (pg_name (i := 6) scRK.nd rfl (Or.inl rfl)) pgs_nil)))
          (fun _ _ _ _ _ => pts_one (pt_cmpR (op_eqD hu) (pe_slice sl_tupA (pe_ix ix_tupD (pv 6) pe_int (fun _ _ => rfl)) po_none (po_some pe_int)) (pe_tup (pa_cons (pe_glob (v := .int 1) (by rfl) hKP ⟨_, rfl⟩) pa_nil)) (nomark _)))
          (fun _ _ _ _ _ => pe_slice sl_tupA (pe_ix ix_tupD (pv 6) pe_int (fun _ _ => rfl)) (po_some pe_int) (po_some pe_int)) (fun _ _ _ _ _ => pe_bl))
      (pss_cons (ps_set (i := 4) scRK.nd rfl (Or.inl rfl) (pe_lst pa_nil))
      (pss_cons (ps_for PassesOwn.never rfl (pi_tup (pv 2)) (pg_tup rfl (pgs_cons (pg_name (i := 5) scRK.nd rfl (Or.inl rfl)) (pgs_cons (pg_name (i := 6) scRK.nd rfl (Or.inl rfl)) pgs_nil)))
        (pss_cons (ps_asg (pv 6) (pg_tup rfl (pgs_cons (pg_name (i := 7) scRK.nd rfl (Or.inl rfl)) (pgs_cons (pg_name (i := 8) scRK.nd rfl (Or.inl rfl)) (pgs_cons (pg_name (i := 9) scRK.nd rfl (Or.inl rfl)) pgs_nil)))))
        (pss_one (ps_if (PW.pt (pw_and (pt_cmpR op_lt (pv 5) (pv 1) (nomark _)) (pw_and (pt_cmpR (op_eqD hu) (pe_slice sl_tupA (pv 8) po_none (po_some pe_int)) (pe_tup (pa_cons (pe_glob (v := .int 0) (by rfl) hOD ⟨_, rfl⟩) pa_nil)) (nomark _)) (pw_and1 (pt_cmp (pc_din hu1 (pe_slice sl_tupA (pv 8) (po_some pe_int) (po_some pe_int)) (pv 3)))))))
          (pss_one (ps_expr (pe_bm PySem.F.plainAttrs_list PySem.F.slot_list_append PySem.F.type_list_append mt_append (pv 4) (pa_cons (pe_tup (pa_cons (pv 5) (pa_cons (pv 7) (pa_cons (pe_slice sl_tupA (pv 8) (po_some pe_int) po_none) (pa_cons (pv 9) pa_nil))))) pa_nil)))) pss_nil))))
      (pss_one (ps_ret (pe_tupleOf (by rfl) TL.tuple (pv 4))))))), ?_⟩
    obtain ⟨dx, kk, vv, ts0, g1, g2, g3, g4, g5⟩ := id pt
    have lts := paired_len g5
    rw [List.length_map] at lts
    refine ⟨_, rfl, p, dx, _, rfl, g1, rfl, _, rfl, p, CP, dx, _, _, rfl, g1, TP.cl, TP.f, rfl, _, rfl, p, CP, dx, _, _, rfl, g1, TP.cl, TP.r, rfl, l, _, rfl, .inl (SqL.of g4), ?_⟩
    rw [List.length_map, lts]
    refine pr_step pt (by decide) (by decide) (fun c => absurd ⟨by omega, by omega⟩ c) fun _ H1 q1 ts rs e1 hq1 nums rc => ?_
    have er : ((L.map recE).drop (((0 : Nat) : Int) - ((0 : Nat) : Int)).toNat).take ((L.length : Nat) : Int).toNat = L.map recE := by
      rw [Int.toNat_natCast, show (((0 : Nat) : Int) - ((0 : Nat) : Int)).toNat = 0 from rfl, List.drop_zero, List.take_of_length_le (by rw [List.length_map]; omega)]
    rw [er] at rc
    have lrs := paired_len rc
    rw [List.length_map] at lrs
    have lt := nums.1
    rw [List.length_map, lrs] at lt
    have turn : ∀ {j : Nat} {y : V}, (ts.map V.ref)[j]? = some y → ∃ t r ev, y = .ref t ∧ L[j]? = some ev ∧ H1 t = some (.tup [.int (j : Int), .ref r]) ∧ RecAt H1 r (recE ev) := fun {j y} hy => by
      rw [List.getElem?_map] at hy
      obtain ⟨t, ht, rfl⟩ := Option.map_eq_some_iff.mp hy
      have hj : j < L.length := by rw [← lt]; exact (List.getElem?_eq_some_iff.mp ht).1
      have hr' := List.getElem?_eq_getElem (show j < rs.length by omega)
      obtain ⟨t2, h1, h2⟩ := nums.2 j (V.ref rs[j]) (by rw [List.getElem?_map, hr']; rfl)
      rw [ht] at h1
      cases h1
      obtain ⟨y2, h3, ra⟩ := paired_get rc hr'
      rw [List.getElem?_map] at h3
      obtain ⟨ev, h4, rfl⟩ := Option.map_eq_some_iff.mp h3
      refine ⟨t, rs[j], ev, rfl, h4, ?_, ra⟩
      rw [h2]
      show some (HO.tup [V.int (0 + (j : Int)), _]) = _
      rw [Int.zero_add]
    refine ⟨_, rfl, q1, rfl, ⟨_, SqT.of hq1⟩, fun D hD => ?_⟩
    refine dcT_it walk_tup (fun j H' => KS.Ex H1 H' ∧ ∃ kvs, H' D = some (.dT kvs) ∧ kvs.length ≤ j ∧ ∀ key, (valV kvs key).isSome = true ↔ ∃ d, Ev.mark 1 d ∈ L.take j ∧ key = idK d) ⟨Ex.upd hD, [], upd_same, Nat.le_refl _, fun key => ⟨(fun z => nomatch z), fun ⟨d, z, _⟩ => by rw [List.take_zero] at z; cases z⟩⟩ (fun j H' _ h => SqT.of (h.1 _ _ hq1)) ?_ ?_
    · rintro j y H2 H3 hj ⟨e2, kvs, k1, k2, k3⟩ ⟨rfl, hy⟩
      obtain ⟨t, r, ev, rfl, hev, ht, ra⟩ := turn hy
      obtain ⟨ka, rb, r1, r2, r3⟩ := ra.kt (kt_of e2)
      have htk : L.take (j + 1) = L.take j ++ [ev] := by rw [List.take_add_one, hev]; rfl
      rw [List.length_map] at hj
      refine ⟨t, _, rfl, SqT.of (e2 _ _ ht), rfl, _, _, rfl, _, _, rfl, rfl, rfl, ?_⟩
      refine ⟨_, rfl, r, _, _, .ref rb, rfl, rfl, r1, rfl, ?_⟩
      dsimp only [tNoPart]
      refine ⟨_, rfl, slV_to (hi := 1) r3 fun H4 p4 e4 h4 => ?_⟩
      rw [row_take] at h4
      refine ⟨(by show 1 ≤ sizeLine; decide), fun z5 hz5 => ?_⟩
      have e5 : KS.Ex H4 (upd H4 z5 (.tup [.int 1])) := Ex.upd hz5
      have h5 : (upd H4 z5 (.tup [.int 1])) z5 = some (.tup (([1] : List Int).map V.int)) := upd_same
      generalize upd H4 z5 (.tup [.int 1]) = H5 at e5 h5
      have e25 := e4.trans e5
      refine eq_ints (e5 _ _ h4) h5 ⟨_, rfl, ?_⟩
      by_cases c : hdE ev = 1
      · refine ifT (by simp [c]) ?_
        refine ⟨_, rfl, r, _, _, .ref rb, rfl, rfl, e25 _ _ r1, rfl, ?_⟩
        refine ⟨_, rfl, _, rfl, slV_mid (lo := 1) (hi := 4) (e25 _ _ r3) fun H6 p6 e6 h6 => ?_⟩
        rw [row_mid] at h6
        have e26 := e25.trans e6
        have hD6 := e26 _ _ k1
        refine ⟨kvs, idK (idE ev), p6, rfl, h6, hD6, by omega, Ex.on (e2.trans e26) hD, _, upd_same, ?_, fun key => ?_⟩
        · have := length_putK kvs (idK (idE ev)) (V.bl true)
          omega
        · rw [valV_put, htk]
          have hev1 : ev = Ev.mark 1 (idE ev) := by
            cases ev with
            | add k s d => cases c
            | mark w d => 
              have : w = 1 := by have c : (w : Int) = 1 := c; omega
              rw [this]; rfl
          by_cases c2 : key = idK (idE ev)
          · rw [if_pos c2]
            exact ⟨fun _ => ⟨idE ev, List.mem_append_right _ (by rw [← hev1]; exact List.mem_singleton.mpr rfl), c2⟩, fun _ => rfl⟩
          · rw [if_neg c2, k3 key]
            constructor
            · rintro ⟨d, z1, z2⟩
              exact ⟨d, List.mem_append_left _ z1, z2⟩
            · rintro ⟨d, z1, z2⟩
              rcases List.mem_append.mp z1 with z | z
              · exact ⟨d, z, z2⟩
              · have z := List.mem_singleton.mp z
                rw [← z] at c2
                exact absurd z2 c2
      · refine ifF (by simp [c]) ⟨e2.trans e25, kvs, e25 _ _ k1, by omega, fun key => ?_⟩
        rw [k3 key, htk]
        constructor
        · rintro ⟨d, z1, z2⟩
          exact ⟨d, List.mem_append_left _ z1, z2⟩
        · rintro ⟨d, z1, z2⟩
          rcases List.mem_append.mp z1 with z | z
          · exact ⟨d, z, z2⟩
          · have z := List.mem_singleton.mp z
            rw [← z] at c
            exact absurd rfl c
    · rintro H2 ⟨e2, kvs, k1, k2, k3⟩
      rw [List.length_map, lt, List.take_length] at k3
      refine ⟨by decide, fun F0 hF0 => ?_⟩
      have e3 : KS.Ex H2 (upd H2 F0 (.lst [])) := Ex.upd hF0
      have hF3 : (upd H2 F0 (.lst [])) F0 = some (.lst (([] : List Addr).map V.ref)) := upd_same
      show tSeq _ _ _ [some (.ref p), some (.int (e : Int)), some (.ref q1), some (.ref D), some (.ref F0), none, none, none, none, none, none] (upd H2 F0 (.lst []))
      generalize upd H2 F0 (.lst []) = H3 at e3 hF3
      have e13 := e2.trans e3
      have hF1 : H1 F0 = none := by
        cases q : H1 F0 with
        | none => rfl
        | some u => rw [e2 _ _ q] at hF0; cases hF0
      have hD3 := e3 _ _ k1
      have nFD : F0 ≠ D := fun z => by rw [z, k1] at hF0; cases hF0
      refine ⟨_, rfl, q1, rfl, ⟨_, SqT.of (e13 _ _ hq1)⟩, for_tup (xs := ts.map V.ref) (fun j σ H' => (∃ u5 u6 u7 u8 u9 u10, σ = [some (.ref p), some (.int (e : Int)), some (.ref q1), some (.ref D), some (.ref F0), u5, u6, u7, u8, u9, u10]) ∧ (∀ b u, b ≠ F0 → H3 b = some u → H' b = some u) ∧ ∃ fs, H' F0 = some (.lst (fs.map V.ref)) ∧ Dues H' fs (dueJ L e j)) ⟨⟨_, _, _, _, _, _, rfl⟩, fun _ _ _ h => h, [], hF3, .nil⟩ ?_ ?_ ?_⟩
      · rintro j σ H' _ ⟨_, fr, _⟩
        exact SqT.of (fr _ _ (fun z => by rw [← z, hq1] at hF1; cases hF1) (e13 _ _ hq1))
      · rintro j y σ H4 hy ⟨⟨u5, u6, u7, u8, u9, u10, rfl⟩, fr, fs, f1, f2⟩
        obtain ⟨t, r, ev, rfl, hev, ht, ra⟩ := turn hy
        have kt : KT' H1 H4 := fun b xs h => fr _ _ (fun z => by rw [← z] at hF1; rw [hF1] at h; cases h) (e13 _ _ h)
        obtain ⟨ka, rb, r1, r2, r3⟩ := ra.kt kt
        have hD4 := fr _ _ nFD.symm hD3
        have hjl : j < L.length := (List.getElem?_eq_some_iff.mp hev).1
        refine ⟨t, _, rfl, SqT.of (kt _ _ ht), rfl, _, _, rfl, _, _, rfl, rfl, ?_⟩
        refine ⟨_, rfl, r, _, rfl, SqT.of r1, rfl, _, _, rfl, _, _, rfl, _, _, rfl, rfl, ?_⟩
        have skip : ∀ H5, KS.Ex H4 H5 → (if j < e then dueAt L j else none) = none → (∃ v5 v6 v7 v8 v9 v10, ([some (.ref p), some (.int (e : Int)), some (.ref q1), some (.ref D), some (.ref F0), some (.int (j : Int)), some (.ref r), some (.ref ka), some (.ref rb), some (.int ((recE ev).2.2 : Nat)), u10] : L2.St) = [some (.ref p), some (.int (e : Int)), some (.ref q1), some (.ref D), some (.ref F0), v5, v6, v7, v8, v9, v10]) ∧ (∀ b u, b ≠ F0 → H3 b = some u → H5 b = some u) ∧ ∃ fs, H5 F0 = some (.lst (fs.map V.ref)) ∧ Dues H5 fs (dueJ L e (j + 1)) := fun H5 e5 hn => by
          refine ⟨⟨_, _, _, _, _, _, rfl⟩, fun b u nb h => e5 _ _ (fr b u nb h), fs, e5 _ _ f1, ?_⟩
          rw [dueJ_succ, hn]
          show Dues H5 fs (_ ++ [])
          rw [List.append_nil]
          exact f2.kt (kt_of e5)
        refine ⟨_, rfl, _, rfl, _, _, rfl, rfl, _, rfl, ?_⟩
        by_cases c1 : j < e
        · refine ifT (by rw [decide_eq_true_eq]; omega) ?_
          refine ⟨_, rfl, ?_⟩
          dsimp only [tNoPart]
          refine ⟨_, rfl, slV_to (hi := 1) r3 fun H5 p5 e5 h5 => ?_⟩
          rw [row_take] at h5
          refine ⟨(by show 1 ≤ sizeLine; decide), fun z6 hz6 => ?_⟩
          have e6 : KS.Ex H5 (upd H5 z6 (.tup [.int 0])) := Ex.upd hz6
          have h6 : (upd H5 z6 (.tup [.int 0])) z6 = some (.tup (([0] : List Int).map V.int)) := upd_same
          generalize upd H5 z6 (.tup [.int 0]) = H6 at e6 h6
          have e46 := e5.trans e6
          refine eq_ints (e6 _ _ h5) h6 ⟨_, rfl, ?_⟩
          cases ev with
          | mark wd d =>
            have hw := hw0 wd d (List.mem_of_getElem? hev)
            refine ifF (by simp [hdE]; omega) (ifF (by decide) (skip H6 e46 ?_))
            rw [if_pos c1]
            unfold dueAt
            rw [hev]
          | add k s0 d =>
            refine ifT (by simp [hdE]) ?_
            refine ⟨_, rfl, _, rfl, _, rfl, slV_mid (lo := 1) (hi := 4) (e46 _ _ r3) fun H7 p7 e7 h7 => ?_⟩
            rw [row_mid] at h7
            have e47 := e46.trans e7
            refine ⟨_, rfl, D, _, rfl, DGet.t (e47 _ _ hD4) h7, _, rfl, ?_⟩
            have hst : (valV kvs (idK d)).isSome = true ↔ stat L d = 1 := by
              rw [k3]
              constructor
              · rintro ⟨d', z1, z2⟩
                have := idK_inj z2
                subst this
                unfold stat
                rw [if_pos z1]
              · intro z
                refine ⟨d, ?_, rfl⟩
                unfold stat at z
                by_cases c : Ev.mark 1 d ∈ L
                · exact c
                · rw [if_neg c] at z
                  split at z <;> omega
            by_cases c2 : stat L d = 1
            · refine ifT (hst.mpr c2) ?_
              refine ⟨_, rfl, .inl ⟨rfl, _, SqL.of (e47 _ _ f1)⟩, _, rfl, _, rfl, _, rfl, ?_⟩
              dsimp only [tNoPart]
              refine ⟨_, rfl, slV_from (lo := 4) (e47 _ _ r3) fun H8 p8 e8 h8 => ⟨_, rfl, (by show 4 ≤ sizeLine; decide), fun q hq => ?_⟩⟩
              rw [row_from] at h8
              have e48 := e47.trans e8
              have e9 : KS.Ex H8 (upd H8 q (.tup [.int (j : Int), .ref ka, .ref p8, .int ((recE (Ev.add k s0 d)).2.2 : Nat)])) := Ex.upd hq
              have h9 : (upd H8 q (.tup [.int (j : Int), .ref ka, .ref p8, .int ((recE (Ev.add k s0 d)).2.2 : Nat)])) q = some (.tup [.int (j : Int), .ref ka, .ref p8, .int ((recE (Ev.add k s0 d)).2.2 : Nat)]) := upd_same
              refine ⟨F0, _, _, rfl, rfl, e9 _ _ (e48 _ _ f1), by
                have := paired_len f2
                have := dueJ_len L e j
                rw [List.length_map]; omega, ?_⟩
              generalize upd H8 q (.tup [.int (j : Int), .ref ka, .ref p8, .int ((recE (Ev.add k s0 d)).2.2 : Nat)]) = H9 at e9 h9
              have e49 := e48.trans e9
              have f9 := e49 _ _ f1
              have kt9 : KT' H9 (upd H9 F0 (.lst (fs.map V.ref ++ [V.ref q]))) := fun b xs h => by rw [L2.upd_ne (fun z => by rw [z, f9] at h; cases h)]; exact h
              refine ⟨⟨_, _, _, _, _, _, rfl⟩, fun b u nb h => by rw [L2.upd_ne nb]; exact e49 _ _ (fr b u nb h), fs ++ [q], by rw [upd_same, List.map_append]; rfl, ?_⟩
              rw [dueJ_succ, if_pos c1]
              have hda : dueAt L j = some (j, k, s0.1, s0.2) := by
                unfold dueAt
                rw [hev]
                simp only
                rw [if_pos c2]
              rw [hda]
              exact paired_snoc' ((f2.kt (kt_of e49)).kt kt9) (DueAt.kt (H := H9) ⟨ka, p8, h9, e49 _ _ r2, e9 _ _ h8⟩ kt9)
            · refine ifF (fun z => c2 (hst.mp z)) (skip H7 e47 ?_)
              rw [if_pos c1]
              unfold dueAt
              rw [hev]
              simp only
              rw [if_neg c2]
        · exact ifF (by rw [decide_eq_true_eq]; omega) (ifF (by decide) (skip H4 (KS.Ex.refl H4) (if_neg c1)))
      · rintro σ H4 ⟨⟨u5, u6, u7, u8, u9, u10, rfl⟩, fr, fs, f1, f2⟩
        rw [List.length_map, lt, dueJ_all he] at f2
        refine ⟨_, rfl, .inl ⟨F0, _, rfl, SqL.of f1, fun q hq => ?_⟩⟩
        refine fin _ q fs (fun b u h => ?_) upd_same (f2.kt (kt_of (Ex.upd hq)))
        exact Ex.upd hq _ _ (fr b u (fun z => by rw [z] at h; rw [e1 _ _ h] at hF1; cases hF1) (e13 _ _ (e1 _ _ h)))
end
end KL9
set_option Elab.async false
set_option linter.all false
set_option maxRecDepth 100000
set_option maxHeartbeats 4000000
namespace KL9
open PySem PySem.Spec PyProof.Rows L2 KB KC KS KN1 LamX K7 Q9 R8 TK
def RowAt (H : Hp) (r : Addr) (ev : Ev) (wd : Str) : Prop := match ev with
  | .add k s _ => ∃ ka ra, H r = some (.lst [.ref ka, .ref ra, .int ((s.2 : Nat) : Int), .str wd]) ∧ H ka = some (.tup (k.map kV)) ∧ H ra = some (.tup (s.1.map kV))
  | .mark _ _ => H r = some (.lst [.non, .non, .non, .str wd])
theorem RowAt.lst {H : Hp} {r : Addr} {ev : Ev} {wd : Str} (x : RowAt H r ev wd) : ∃ a b c, H r = some (.lst [a, b, c, .str wd]) := by
  cases ev with
  | add k s d => obtain ⟨ka, ra, h, _⟩ := x; exact ⟨_, _, _, h⟩
  | mark w d => exact ⟨_, _, _, x⟩
theorem RowAt.kt {H H' : Hp} {r : Addr} {ev : Ev} {wd : Str} (x : RowAt H r ev wd) (k : KT' H H') (h : ∀ u, H r = some u → H' r = some u) : RowAt H' r ev wd := by
  cases ev with
  | add kk s d => obtain ⟨ka, ra, h1, h2, h3⟩ := x; exact ⟨ka, ra, h _ h1, k _ _ h2, k _ _ h3⟩
  | mark w d => exact h _ x
theorem RowAt.set {H H' : Hp} {r : Addr} {ev : Ev} {wd wd' : Str} (x : RowAt H r ev wd) (k : KT' H H') (h : ∀ a b c, H r = some (.lst [a, b, c, .str wd]) → H' r = some (.lst [a, b, c, .str wd'])) : RowAt H' r ev wd' := by
  cases ev with
  | add kk s d => obtain ⟨ka, ra, h1, h2, h3⟩ := x; exact ⟨ka, ra, h _ _ _ h1, k _ _ h2, k _ _ h3⟩
  | mark w d => exact h _ _ _ x
structure BA where
  wr : Addr
  wl : Nat → Addr
  rws : Nat → List Addr
def upto (many : Nat) : Nat → Option Unit := fun p => if p < many then some () else none
structure WrA (many : Nat) (b : BA) (L : Nat → List Ev) (wd : Nat → Nat → Str) (H : Hp) : Prop where
  dc : ∃ kvs, H b.wr = some (.dK kvs) ∧ Tab (List.range many) kN (fun p v _ => v = .ref (b.wl p)) kvs (upto many)
  ls : ∀ p, p < many → H (b.wl p) = some (.lst ((b.rws p).map V.ref))
  len : ∀ p, p < many → (b.rws p).length = (L p).length
  rs : ∀ (p i : Nat) (r : Addr) (ev : Ev), p < many → (b.rws p)[i]? = some r → (L p)[i]? = some ev → RowAt H r ev (wd p i)
  lj : ∀ p q, p < many → q < many → p ≠ q → b.wl p ≠ b.wl q
  rj : ∀ (p i q j : Nat) (r : Addr), p < many → q < many → (b.rws p)[i]? = some r → (b.rws q)[j]? = some r → p = q ∧ i = j
def BR (many : Nat) (b : BA) (x : Addr) : Prop := x = b.wr ∨ (∃ p, p < many ∧ x = b.wl p) ∨ ∃ p i : Nat, p < many ∧ (b.rws p)[i]? = some x
section
variable {many : Nat} {b : BA} {L : Nat → List Ev} {wd : Nat → Nat → Str} {H H' : Hp}
theorem WrA.row (x : WrA many b L wd H) {p i : Nat} {r : Addr} (hp : p < many) (h : (b.rws p)[i]? = some r) : ∃ ev, (L p)[i]? = some ev ∧ RowAt H r ev (wd p i) := by
  have hl : i < (L p).length := by rw [← x.len p hp]; exact (List.getElem?_eq_some_iff.mp h).1
  exact ⟨_, List.getElem?_eq_getElem hl, x.rs p i r _ hp h (List.getElem?_eq_getElem hl)⟩
theorem WrA.keep (x : WrA many b L wd H) (k : KT' H H') (h : ∀ y u, BR many b y → H y = some u → H' y = some u) : WrA many b L wd H' := by
  obtain ⟨kvs, h1, h2⟩ := x.dc
  exact ⟨⟨kvs, h _ _ (.inl rfl) h1, h2⟩, fun p hp => h _ _ (.inr (.inl ⟨p, hp, rfl⟩)) (x.ls p hp), x.len, fun p i r ev hp hr he => (x.rs p i r ev hp hr he).kt k fun u hu => h _ _ (.inr (.inr ⟨p, i, hp, hr⟩)) hu, x.lj, x.rj⟩
theorem WrA.ex (x : WrA many b L wd H) (e : KS.Ex H H') : WrA many b L wd H' := x.keep (kt_of e) fun _ _ _ h => e _ _ h
theorem WrA.kind (x : WrA many b L wd H) {y : Addr} (h : BR many b y) : (∃ kvs, H y = some (.dK kvs)) ∨ ∃ ys, H y = some (.lst ys) := by
  obtain ⟨kvs, h1, _⟩ := x.dc
  rcases h with rfl | ⟨p, hp, rfl⟩ | ⟨p, i, hp, hr⟩
  · exact .inl ⟨_, h1⟩
  · exact .inr ⟨_, x.ls p hp⟩
  · obtain ⟨ev, _, ra⟩ := x.row hp hr
    obtain ⟨a, c, d, e⟩ := ra.lst
    exact .inr ⟨_, e⟩
theorem WrA.lr (x : WrA many b L wd H) {p q i : Nat} {r : Addr} (hp : p < many) (hq : q < many) (hr : (b.rws q)[i]? = some r) : b.wl p ≠ r := fun z => by
  obtain ⟨ev, _, ra⟩ := x.row hq hr
  obtain ⟨a, c, d, e⟩ := ra.lst
  have := x.ls p hp
  rw [z, e] at this
  injection this with this
  injection this with this
  have h3 : (([a, c, d, .str (wd q i)] : List V))[3]? = some (.str (wd q i)) := rfl
  rw [this, List.getElem?_map] at h3
  cases h : (b.rws p)[3]? with
  | none => rw [h] at h3; cases h3
  | some y => rw [h] at h3; cases h3
theorem WrA.get (x : WrA many b L wd H) {p : Nat} (hp : p < many) : ∃ kvs, H b.wr = some (.dK kvs) ∧ valV kvs (kN p) = some (.ref (b.wl p)) := by
  obtain ⟨kvs, h1, h2⟩ := x.dc
  obtain ⟨v, h3, h4⟩ := h2.some (k := p) (a := ()) (by unfold upto; rw [if_pos hp])
  exact ⟨kvs, h1, by rw [h3, h4]⟩
end
structure ReA (many : Nat) (fl rl : Addr) (L : Nat → List Ev) (H : Hp) : Prop where
  f : H fl = some (.lst ((List.range many).map fun p => V.int ((endL (L p) : Nat) : Int)))
  r : ∃ us : List Addr, H rl = some (.lst (us.map V.ref)) ∧ us.length = many ∧ ∀ p u, us[p]? = some u → u ≠ fl ∧ u ≠ rl ∧ ∃ ts, H u = some (.lst (ts.map V.ref)) ∧ Dues H ts (dueL (L p) (endL (L p)))
def dueD (d : Nat × List Key × List Key × Nat) : PyData := .tuple [.int ((d.1 : Nat) : Int), rD d.2.1, rD d.2.2.1, .int ((d.2.2.2 : Nat) : Int)]
theorem dp_due (K : PySem.W.Frag) {H : Hp} {t : Addr} {d : Nat × List Key × List Key × Nat} (x : DueAt H t d) : Dp K H (.ref t) (dueD d) := by
  obtain ⟨k, r, h1, h2, h3⟩ := x
  exact .tup (SqT.of h1) (.cons (.int _) (.cons (dp_r K h2) (.cons (dp_r K h3) (.cons (.int _) .nil))))
theorem dp_dues (K : PySem.W.Frag) {H : Hp} {l : Addr} {ts : List Addr} {ds : List (Nat × List Key × List Key × Nat)} (h : H l = some (.lst (ts.map V.ref))) (x : Dues H ts ds) : Dp K H (.ref l) (.list (ds.map dueD)) := by
  refine .lst (SqL.of h) ?_
  clear h
  unfold Dues at x
  induction x with
  | nil => exact .nil
  | cons a r ih => exact .cons (dp_due K a) ih
def Plain (L : List Ev) : Prop := ∀ k s d, Ev.add k s d ∈ L → Smp 1 (rD k) ∧ Smp 1 (rD s.1)
theorem smp_due {L : List Ev} (h : Plain L) {e : Nat} : ∀ d ∈ dueL L e, Smp 2 (dueD d) := fun d hd => by
  unfold dueL at hd
  obtain ⟨i, _, hi⟩ := List.mem_filterMap.mp hd
  unfold dueAt at hi
  cases q : L[i]? with
  | none => rw [q] at hi; cases hi
  | some ev =>
    rw [q] at hi
    cases ev with
    | mark w d => cases hi
    | add k s d' =>
      simp only at hi
      split at hi
      · cases hi
        obtain ⟨h1, h2⟩ := h k s d' (List.mem_of_getElem? q)
        refine .tup fun y hy => ?_
        rcases List.mem_cons.mp hy with rfl | hy
        · exact .int _
        rcases List.mem_cons.mp hy with rfl | hy
        · exact h1
        rcases List.mem_cons.mp hy with rfl | hy
        · exact h2
        rcases List.mem_cons.mp hy with rfl | hy
        · exact .int _
        · cases hy
      · cases hi
theorem smp_dues {ds : List (Nat × List Key × List Key × Nat)} (h : ∀ d ∈ ds, Smp 2 (dueD d)) : Smp 3 (.list (ds.map dueD)) := .lst fun y hy => by
  obtain ⟨d, hd, rfl⟩ := List.mem_map.mp hy
  exact h d hd
end KL9
set_option Elab.async false
set_option linter.all false
set_option maxRecDepth 100000
set_option maxHeartbeats 4000000
namespace KL9
open PySem PySem.Spec PyProof.Rows L2 KB KC KS KN1 LamX K7 Q9 R8 TK
def wordOf (L : List Ev) (i : Nat) : Str := match L[i]? with
  | some ev => wordE L ev
  | none => ""
theorem wordOf_get {L : List Ev} {i : Nat} {ev : Ev} (h : L[i]? = some ev) : wordOf L i = wordE L ev := by unfold wordOf; rw [h]
theorem stat_cases (L : List Ev) (d : Id) : stat L d = 0 ∨ stat L d = 1 ∨ stat L d = 2 := by
  unfold stat
  split
  · exact .inr (.inl rfl)
  · split
    · exact .inr (.inr rfl)
    · exact .inl rfl
theorem word_open {L : List Ev} {i : Nat} {ev : Ev} (h : L[i]? = some ev) : (wordE L ev = "open") ↔ isOpen L i = true := by
  unfold isOpen
  rw [h]
  cases ev with
  | mark w d => exact ⟨fun z => absurd (show ("end" : Str) = "open" from z) (by decide +kernel), fun z => nomatch z⟩
  | add k s d =>
    show wordS (stat L d) = "open" ↔ decide (stat L d = 0) = true
    rw [decide_eq_true_eq]
    rcases stat_cases L d with z | z | z <;> rw [z]
    · exact ⟨fun _ => rfl, fun _ => rfl⟩
    · exact ⟨fun y => absurd y (by decide +kernel), fun y => nomatch y⟩
    · exact ⟨fun y => absurd y (by decide +kernel), fun y => nomatch y⟩
theorem word_kept {L : List Ev} {k : List Key} {s : List Key × Nat} {d : Id} : (wordE L (.add k s d) = "kept") ↔ stat L d = 1 := by
  show wordS (stat L d) = "kept" ↔ _
  rcases stat_cases L d with z | z | z <;> rw [z]
  · exact ⟨fun y => absurd y (by decide +kernel), fun y => nomatch y⟩
  · exact ⟨fun _ => rfl, fun _ => rfl⟩
  · exact ⟨fun y => absurd y (by decide +kernel), fun y => nomatch y⟩
def mixL (L Lo : Nat → List Ev) (j : Nat) : Nat → List Ev := fun p => if p < j then L p else Lo p
@[irreducible] def spRd (CD CL CP : Addr) : Sp := fun vs H Q _ => ∃ (many : Nat) (nm : List Str) (a : DA) (v : DV) (nums : Str → Option Nat) (b : BA) (fl rl : Addr) (Lo : Nat → List Ev), vs = [.ref a.d, .ref a.o, .ref b.wr, .ref fl, .ref rl] ∧ DoorA CD CL CP many nm a v H ∧ Good many nums v.deals v.L ∧ nm.length ≤ 100 ∧ WrA many b v.L (fun p i => wordOf (v.L p) i) H ∧ ReA many fl rl Lo H ∧
  ((∀ p, ∃ M, v.L p = Lo p ++ M) ∧ (∀ p, Marks (Lo p)) ∧ (∀ p, Plain (v.L p)) ∧ ∀ p, (v.L p).length ≤ 900) ∧ ((∀ y, y = fl ∨ y = rl → ¬ DR a v y ∧ y ≠ a.q ∧ ¬ BR many b y) ∧ fl ≠ rl) ∧
  ∀ H', (∀ c u, c ≠ fl → c ≠ rl → H c = some u → H' c = some u) → ReA many fl rl v.L H' → (∀ us : List Addr, H' rl = some (.lst (us.map V.ref)) → ∀ (p : Nat) (u : Addr), p < many → us[p]? = some u → H u = none) → Q (.bl true) H'
theorem rd9_step {CD CL CP : Addr} {many : Nat} {nm : List Str} {a : DA} {v : DV} {nums : Str → Option Nat} {b : BA} {fl rl : Addr} {Lo : Nat → List Ev} {H : Hp} {Q : VK} {E : XK} (x : DoorA CD CL CP many nm a v H) (g : Good many nums v.deals v.L) (hm : nm.length ≤ 100) (y : WrA many b v.L (fun p i => wordOf (v.L p) i) H) (z : ReA many fl rl Lo H)
    (hL : (∀ p, ∃ M, v.L p = Lo p ++ M) ∧ (∀ p, Marks (Lo p)) ∧ (∀ p, Plain (v.L p)) ∧ ∀ p, (v.L p).length ≤ 900) (hs : (∀ y, y = fl ∨ y = rl → ¬ DR a v y ∧ y ≠ a.q ∧ ¬ BR many b y) ∧ fl ≠ rl)
    (fin : ∀ H', (∀ c u, c ≠ fl → c ≠ rl → H c = some u → H' c = some u) → ReA many fl rl v.L H' → (∀ us : List Addr, H' rl = some (.lst (us.map V.ref)) → ∀ (p : Nat) (u : Addr), p < many → us[p]? = some u → H u = none) → Q (.bl true) H') : spRd CD CL CP [.ref a.d, .ref a.o, .ref b.wr, .ref fl, .ref rl] H Q E := by
  unfold spRd
  exact ⟨many, nm, a, v, nums, b, fl, rl, Lo, rfl, x, g, hm, y, z, hL, hs, fin⟩
theorem ReA.ex {many : Nat} {fl rl : Addr} {L : Nat → List Ev} {H H' : Hp} (x : ReA many fl rl L H) (e : KS.Ex H H') : ReA many fl rl L H' := by
  obtain ⟨us, h1, h2, h3⟩ := x.r
  exact ⟨e _ _ x.f, us, e _ _ h1, h2, fun p u hu => by
    obtain ⟨n1, n2, ts, q1, q2⟩ := h3 p u hu
    exact ⟨n1, n2, ts, e _ _ q1, q2.kt (kt_of e)⟩⟩
theorem refs_inj : ∀ (l m : List Addr), l.map V.ref = m.map V.ref → l = m := fun l => by
  induction l with
  | nil => intro m h; cases m with
    | nil => rfl
    | cons _ _ => cases h
  | cons a l ih => intro m h; cases m with
    | nil => cases h
    | cons b m =>
      rw [List.map_cons, List.map_cons] at h
      injection h with h4 h5
      injection h4 with h4
      rw [h4, ih m h5]
theorem ReA.set {many : Nat} {fl rl : Addr} {L Lo : Nat → List Ev} {j : Nat} {H H' : Hp} {tn : Addr} {ts : List Addr} (x : ReA many fl rl (mixL L Lo j) H) (hj : j < many) (hfr : fl ≠ rl) (ht : H tn = some (.lst (ts.map V.ref))) (hd : Dues H ts (dueL (L j) (endL (L j)))) (n1 : tn ≠ fl) (n2 : tn ≠ rl)
    {fs : List V} {us : List Addr} (hf : H fl = some (.lst fs)) (hr : H rl = some (.lst (us.map V.ref))) (e1 : H' fl = some (.lst (fs.set j (.int ((endL (L j) : Nat) : Int))))) (e2 : H' rl = some (.lst ((us.map V.ref).set j (.ref tn)))) (kp : ∀ c u, c ≠ fl → c ≠ rl → H c = some u → H' c = some u) : ReA many fl rl (mixL L Lo (j + 1)) H' := by
  have hx := x.f
  rw [hf] at hx
  cases hx
  obtain ⟨us', h1, h2, h3⟩ := x.r
  rw [hr] at h1
  injection h1 with h1
  injection h1 with h1
  have hus : us = us' := refs_inj _ _ h1
  subst hus
  have kt : KT' H H' := fun c ys h => kp c _ (fun z => by rw [z, hf] at h; cases h) (fun z => by rw [z, hr] at h; cases h) h
  have mix : ∀ p, p ≠ j → mixL L Lo (j + 1) p = mixL L Lo j p := fun p hp => by
    unfold mixL
    by_cases c : p < j
    · rw [if_pos c, if_pos (by omega)]
    · rw [if_neg c, if_neg (by omega)]
  have mixj : mixL L Lo (j + 1) j = L j := by unfold mixL; rw [if_pos (by omega)]
  refine ⟨?_, us.set j tn, by rw [e2, List.map_set], by rw [List.length_set]; exact h2, fun p u hu => ?_⟩
  · rw [e1]
    congr 2
    refine List.ext_getElem? fun p => ?_
    rw [List.getElem?_set, List.getElem?_map, List.getElem?_map]
    by_cases c : j = p
    · subst c
      rw [if_pos rfl, List.length_map, List.length_range, if_pos hj, List.getElem?_range hj]
      simp only [Option.map_some]
      rw [mixj]
    · rw [if_neg c]
      by_cases hp : p < many
      · rw [List.getElem?_range hp]
        simp only [Option.map_some]
        rw [mix p (fun z => c z.symm)]
      · rw [List.getElem?_eq_none (by rw [List.length_range]; omega)]; rfl
  · by_cases c : p = j
    · subst c
      rw [List.getElem?_set_self (by omega)] at hu
      cases hu
      rw [mixj]
      exact ⟨n1, n2, ts, kp _ _ n1 n2 ht, hd.kt kt⟩
    · rw [List.getElem?_set_ne (fun z => c z.symm)] at hu
      obtain ⟨m1, m2, ts', q1, q2⟩ := h3 p u hu
      rw [mix p c]
      exact ⟨m1, m2, ts', kp _ _ m1 m2 q1, q2.kt kt⟩
section
variable {P : Program} {w : World} {K : PySem.W.Frag} {mg : Str → Option Value} {base : Heap} {f fE fF fK CD CL CP : Addr} {fd fdE fdF fdK : FuncData}
abbrev nRd : List Str := ["door", "log", "written", "firm", "read", "part", "places", "end", "due", "told_now", "place", "row"]
theorem scRd : FnScope nRd ["door", "log", "written", "firm", "read"] (defScope sRead) := ⟨rfl, rfl, rfl, by decide +kernel, rfl, by decide +kernel, by decide +kernel⟩
abbrev xRd (P : Program) (w : World) (K : PySem.W.Frag) (mg : Str → Option Value) (base : Heap) (f : Addr) (cdv : Value) (A : Around) (outer : List PySem.Env) (s : Shared) (H : Hp) (E : XK) : Cx := (cxOf CX0 P w K mg base nRd "_law_read" (defScope sRead) f cdv A outer s H E).nox
abbrev pS : Stmt := .Pass ⟨0, 0, 0, 0⟩
def forBody : Stmt → List Stmt
  | .For _ _ b _ _ => b
  | _ => []
abbrev rS (i : Nat) : Stmt := (forBody ((defBody sRead).getD 0 pS)).getD i pS
theorem read_len : (forBody ((defBody sRead).getD 0 pS)).length = 6 := rfl
variable {cdv : Value} {A : Around} {outer : List PySem.Env} {s : Shared} {H0 : Hp} {E0' : XK}
theorem g_places (TL : TxtL mg) (M : TxtM mg) (hr : Room 3 (xRd P w K mg base f cdv A outer s H0 E0').A) :
    ∃ t0 t1, L2.PS (xRd P w K mg base f cdv A outer s H0 E0') (rS 0) t0 ∧ L2.PS (xRd P w K mg base f cdv A outer s H0 E0') (rS 1) t1 ∧ ∀ (D : Ends) (H : Hp) (many : Nat) (b : BA) (L : Nat → List Ev) (p : Nat) (tr : TS) (a0 a1 a3 a4 u6 u7 u8 u9 u10 u11 : Option V), WrA many b L (fun p i => wordOf (L p) i) H → p < many → (L p).length ≤ 900 →
      (∀ (H' : Hp) (D1 : V), KS.Ex H H' → tr D [a0, a1, some (.ref b.wr), a3, a4, some (.int (p : Int)), some D1, some (.int ((endL (L p) : Nat) : Int)), u8, u9, u10, u11] H') →
      tSeq t0 (tSeq t1 tr) D [a0, a1, some (.ref b.wr), a3, a4, some (.int (p : Int)), u6, u7, u8, u9, u10, u11] H := by
  have hu := hr.units
  have hu1 := Nat.lt_trans (Nat.add_lt_add_left (by decide : 1 < 64) _) hu
  have hz0 : sizeLine = 16777216 := rfl
  refine ⟨_, _, ps_setLc (i := 6) (own := [("place", 10), ("row", 11)]) (g := gTup K 2 (gCons (gName 10) (gCons (gName 11) gNil))) (tt := tTest (tOp rEq (tOp rIxD (tVar 11) (tC (.int 3))) (tC (.str "open")))) (te := tVar 10) rfl scRd.nd rfl rfl (sw_true rfl rfl rfl (by decide +kernel)) (pi_enum (by rfl) M.enu (pa_cons (pe_dget hu1 (pv 2) (pv 5) (fun _ _ => rfl)) pa_nil)) (blkOk_by (N := nRd) (sc := defScope sRead) (by decide +kernel))
      (fun _ _ _ _ _ => pg_tup rfl (pgs_cons (pg_name (i := 10) scRd.nd rfl (Or.inl rfl)) (pgs_cons (pg_name (i := 11) scRd.nd rfl (Or.inl rfl)) pgs_nil))) (fun _ _ _ _ _ => pts_one (pt_cmpR op_eq (pe_ix ix_listD (pv 11) pe_int (fun _ _ => rfl)) pe_str (nomark _))) (fun _ _ _ _ _ => pv 10),
    ps_set (i := 7) scRd.nd rfl (Or.inl rfl) (pe_callB (cr_min rfl) (by rfl) M.min (by decide +kernel) (pa_cons (pe_op op_cat (pv 6) (pe_lst (pa_cons (pe_callB call_len_seq (by rfl) TL.len (by decide +kernel) (pa_cons (pe_dget hu1 (pv 2) (pv 5) (fun _ _ => rfl)) pa_nil)) pa_nil))) pa_nil)), ?_⟩
  intro D H many b L p tr a0 a1 a3 a4 u6 u7 u8 u9 u10 u11 y hp hl fin
  obtain ⟨kvs, k1, k2⟩ := y.get hp
  have hls := y.ls p hp
  have hln := y.len p hp
  refine ⟨_, rfl, _, rfl, b.wr, _, rfl, by rw [← k2]; exact DGet.k (k := kN p) k1, b.wl p, _, rfl, SqL.of hls, fun D1 hD1 => ?_⟩
  refine lc_it walk_enum (fun j H' => KS.Ex H H' ∧ H' D1 = some (.lst (((List.range j).filter (isOpen (L p))).map fun (i : Nat) => V.int (i : Int)))) ⟨Ex.upd hD1, upd_same⟩ (fun j H' _ h => SqL.of (h.1 _ _ hls)) ?_ ?_
  · rintro j vj H1 H2 hj ⟨e1, hD⟩ ⟨T, x1, x2, rfl, hT, rfl, hx1, hx2⟩
    cases hx1
    have hx2 : ((b.rws p).map V.ref)[j]? = some x2 := hx2
    rw [List.getElem?_map] at hx2
    obtain ⟨r, hr', rfl⟩ := Option.map_eq_some_iff.mp hx2
    obtain ⟨ev, hev, ra⟩ := y.row hp hr'
    have e2 : KS.Ex H1 (upd H1 T (.tup [.int (j : Nat), .ref r])) := Ex.upd hT
    obtain ⟨c1, c2, c3, hrow⟩ := (ra.kt (kt_of (e1.trans e2)) fun u hu => (e1.trans e2) _ _ hu).lst
    refine ⟨T, _, rfl, SqT.of upd_same, rfl, _, _, rfl, _, _, rfl, rfl, rfl, ?_⟩
    refine ⟨_, rfl, r, _, 3, .str (wordOf (L p) j), rfl, rfl, hrow, rfl, rfl, _, rfl, ?_⟩
    have hs : (List.range (j + 1)).filter (isOpen (L p)) = (List.range j).filter (isOpen (L p)) ++ if isOpen (L p) j then [j] else [] := by
      rw [List.range_succ, List.filter_append]
      congr 1
      by_cases c : isOpen (L p) j = true
      · rw [if_pos c, List.filter_cons_of_pos c]; rfl
      · rw [if_neg c, List.filter_cons_of_neg c]; rfl
    have hw := word_open hev
    rw [← wordOf_get hev] at hw
    by_cases c : isOpen (L p) j = true
    · refine ifT (by rw [hw.mpr c]; decide +kernel) ?_
      refine ⟨_, rfl, _, e2 _ _ hD, ?_, Ex.on (e1.trans e2) hD1, ?_⟩
      · have := List.length_filter_le (isOpen (L p)) (List.range j)
        rw [List.length_range] at this
        have hj : j < ((b.rws p).map V.ref).length := hj
        rw [List.length_map] at hj
        rw [List.length_map]; omega
      · rw [upd_same, hs, if_pos c, List.map_append]; rfl
    · refine ifF (by rw [decide_eq_true_eq]; intro z; injection z with z; exact c (hw.mp z)) ⟨e1.trans e2, ?_⟩
      rw [hs, if_neg c, List.append_nil]
      exact e2 _ _ hD
  · rintro H1 ⟨e1, hD⟩
    rw [List.length_map, hln] at hD
    have hD : H1 D1 = some (.lst ((opens (L p)).map fun (i : Nat) => V.int (i : Int))) := hD
    have hop : (opens (L p)).length ≤ (L p).length := by
      unfold opens
      have := List.length_filter_le (isOpen (L p)) (List.range (L p).length)
      rw [List.length_range] at this
      exact this
    refine ⟨_, rfl, _, rfl, _, rfl, b.wr, _, rfl, by rw [← k2]; exact DGet.k (k := kN p) (e1 _ _ k1), b.wl p, _, rfl, .inl (SqL.of (e1 _ _ hls)), (by show 1 ≤ sizeLine; decide), fun l1 hl1 => ?_⟩
    rw [List.length_map, hln]
    have e2 : KS.Ex H1 (upd H1 l1 (.lst [.int ((L p).length : Nat)])) := Ex.upd hl1
    refine ⟨D1, l1, _, _, rfl, rfl, e2 _ _ hD, upd_same, by rw [List.length_map]; show _ + 1 ≤ _; omega, fun z hz => ?_⟩
    generalize upd H1 l1 (.lst [.int ((L p).length : Nat)]) = H2 at e2 hz
    refine ⟨z, (opens (L p)).map (fun (i : Nat) => (i : Int)) ++ [((L p).length : Int)], rfl, SqL.of (by rw [upd_same, List.map_append, List.map_map]; rfl), by rw [List.length_append]; show 0 < _ + 1; omega, fun m hm hle => ?_⟩
    have e3 : KS.Ex H2 (upd H2 z (.lst ((opens (L p)).map (fun (i : Nat) => V.int (i : Int)) ++ [.int ((L p).length : Nat)]))) := Ex.upd hz
    obtain ⟨mn, rfl, hmn⟩ : ∃ mn : Nat, m = (mn : Int) ∧ (mn = (L p).length ∨ isOpen (L p) mn = true) := by
      rcases List.mem_append.mp hm with h | h
      · obtain ⟨i, hi, rfl⟩ := List.mem_map.mp h
        exact ⟨i, rfl, .inr (mem_opens.mp hi)⟩
      · exact ⟨_, List.mem_singleton.mp h, .inl rfl⟩
    have em : mn = endL (L p) := endL_min hmn (by
      have := hle _ (List.mem_append_right _ (List.mem_singleton.mpr rfl))
      omega) fun i hi => by
      have := hle _ (List.mem_append_left _ (List.mem_map_of_mem (mem_opens.mpr hi)))
      omega
    rw [em]
    exact fin _ (.ref D1) ((e1.trans e2).trans e3)
end
end KL9
set_option Elab.async false
set_option linter.all false
set_option maxRecDepth 100000
set_option maxHeartbeats 4000000
namespace KL9
open PySem PySem.Spec PyProof.Rows L2 KB KC KS KN1 LamX K7 Q9 R8 TK
theorem dueL_succ (L : List Ev) (j : Nat) : dueL L (j + 1) = dueL L j ++ (dueAt L j).toList := by
  unfold dueL
  rw [List.range_succ, List.filterMap_append]
  congr 1
theorem dueL_len (L : List Ev) (j : Nat) : (dueL L j).length ≤ j := by
  have := List.length_filterMap_le (dueAt L) (List.range j)
  rw [List.length_range] at this
  exact this
section
variable {P : Program} {w : World} {K : PySem.W.Frag} {mg : Str → Option Value} {base : Heap} {f fE fF fK CD CL CP : Addr} {fd fdE fdF fdK : FuncData}
variable {cdv : Value} {A : Around} {outer : List PySem.Env} {s : Shared} {H0 : Hp} {E0' : XK}
theorem g_due (TL : TxtL mg) (M : TxtM mg) (hr : Room 3 (xRd P w K mg base f cdv A outer s H0 E0').A) :
    ∃ t, L2.PS (xRd P w K mg base f cdv A outer s H0 E0') (rS 2) t ∧ ∀ (D : Ends) (H : Hp) (many : Nat) (b : BA) (L : Nat → List Ev) (p e : Nat) (tr : TS) (a0 a1 a3 a4 u6 u8 u9 u10 u11 : Option V), WrA many b L (fun p i => wordOf (L p) i) H → p < many → (L p).length ≤ 900 → e ≤ (L p).length →
      (∀ (H' : Hp) (D2 : Addr) (ts : List Addr), KS.Ex H H' → H' D2 = some (.lst (ts.map V.ref)) → Dues H' ts (dueL (L p) e) → tr D [a0, a1, some (.ref b.wr), a3, a4, some (.int (p : Int)), u6, some (.int (e : Int)), some (.ref D2), u9, u10, u11] H') →
      tSeq t tr D [a0, a1, some (.ref b.wr), a3, a4, some (.int (p : Int)), u6, some (.int (e : Int)), u8, u9, u10, u11] H := by
  have hu := hr.units
  have hu1 := Nat.lt_trans (Nat.add_lt_add_left (by decide : 1 < 64) _) hu
  have hz0 : sizeLine = 16777216 := rfl
  refine ⟨_, ps_setLc (i := 8) (own := [("place", 10), ("row", 11)]) (g := gTup K 2 (gCons (gName 10) (gCons (gName 11) gNil))) (tt := tTest (tOp rEq (tOp rIxD (tVar 11) (tC (.int 3))) (tC (.str "kept")))) (te := tTup (tCons (tVar 10) (tCons (tOp rIxD (tVar 11) (tC (.int 0))) (tCons (tOp rIxD (tVar 11) (tC (.int 1))) (tCons (tOp rIxD (tVar 11) (tC (.int 2))) tNil))))) rfl scRd.nd rfl rfl (sw_true rfl rfl rfl (by decide +kernel)) (pi_enum (by rfl) M.enu (pa_cons (pe_slice sl_list (pe_dget hu1 (pv 2) (pv 5) (fun _ _ => rfl)) po_none (po_some (pv 7))) pa_nil)) (blkOk_by (N := nRd) (sc := defScope sRead) (by decide +kernel))
      (fun _ _ _ _ _ => pg_tup rfl (pgs_cons (pg_name (i := 10) scRd.nd rfl (Or.inl rfl)) (pgs_cons (pg_name (i := 11) scRd.nd rfl (Or.inl rfl)) pgs_nil))) (fun _ _ _ _ _ => pts_one (pt_cmpR op_eq (pe_ix ix_listD (pv 11) pe_int (fun _ _ => rfl)) pe_str (nomark _))) (fun _ _ _ _ _ => pe_tup (pa_cons (pv 10) (pa_cons (pe_ix ix_listD (pv 11) pe_int (fun _ _ => rfl)) (pa_cons (pe_ix ix_listD (pv 11) pe_int (fun _ _ => rfl)) (pa_cons (pe_ix ix_listD (pv 11) pe_int (fun _ _ => rfl)) pa_nil))))), ?_⟩
  intro D H many b L p e tr a0 a1 a3 a4 u6 u8 u9 u10 u11 y hp hl he fin
  obtain ⟨kvs, k1, k2⟩ := y.get hp
  have hls := y.ls p hp
  have hln := y.len p hp
  refine ⟨_, rfl, _, rfl, b.wr, _, rfl, by rw [← k2]; exact DGet.k (k := kN p) k1, ?_⟩
  dsimp only [tNoPart]
  refine ⟨_, rfl, _, rfl, lst_to (hi := e) rfl hls fun H1 sl e1 hsl _ => ⟨sl, _, rfl, SqL.of hsl, fun D1 hD1 => ?_⟩⟩
  have hlen : (((b.rws p).take e).map V.ref).length = e := by rw [List.length_map, List.length_take]; omega
  refine lc_it walk_enum (fun j H' => KS.Ex H1 H' ∧ ∃ ts : List Addr, H' D1 = some (.lst (ts.map V.ref)) ∧ Dues H' ts (dueL (L p) j)) ⟨Ex.upd hD1, [], upd_same, .nil⟩ (fun j H' _ h => SqL.of (h.1 _ _ hsl)) ?_ ?_
  · rintro j vj H2 H3 hj ⟨e2, ts, hD, hds⟩ ⟨T, x1, x2, rfl, hT, rfl, hx1, hx2⟩
    cases hx1
    have hx2 : (((b.rws p).take e).map V.ref)[j]? = some x2 := hx2
    rw [List.getElem?_map] at hx2
    obtain ⟨r, hr', rfl⟩ := Option.map_eq_some_iff.mp hx2
    rw [hlen] at hj
    rw [List.getElem?_take_of_lt hj] at hr'
    obtain ⟨ev, hev, ra⟩ := y.row hp hr'
    have e3 : KS.Ex H2 (upd H2 T (.tup [.int (j : Nat), .ref r])) := Ex.upd hT
    have e03 := (e1.trans e2).trans e3
    have ra3 := ra.kt (kt_of e03) fun u hu => e03 _ _ hu
    obtain ⟨c1, c2, c3, hrow⟩ := ra3.lst
    refine ⟨T, _, rfl, SqT.of upd_same, rfl, _, _, rfl, _, _, rfl, rfl, rfl, ?_⟩
    refine ⟨_, rfl, r, _, 3, .str (wordOf (L p) j), rfl, rfl, hrow, rfl, rfl, _, rfl, ?_⟩
    have skip : dueAt (L p) j = none → KS.Ex H1 (upd H2 T (.tup [.int (j : Nat), .ref r])) ∧ ∃ ts : List Addr, (upd H2 T (.tup [.int (j : Nat), .ref r])) D1 = some (.lst (ts.map V.ref)) ∧ Dues (upd H2 T (.tup [.int (j : Nat), .ref r])) ts (dueL (L p) (j + 1)) := fun hn => by
      refine ⟨e2.trans e3, ts, e3 _ _ hD, ?_⟩
      rw [dueL_succ, hn]
      show Dues _ ts (_ ++ [])
      rw [List.append_nil]
      exact hds.kt (kt_of e3)
    cases ev with
    | mark wd d =>
      exact ifF (by rw [wordOf_get hev]; show ¬ decide (V.str "end" = V.str "kept") = true; decide +kernel) (skip (by unfold dueAt; rw [hev]))
    | add k s d =>
      have hda : dueAt (L p) j = if stat (L p) d = 1 then some (j, k, s) else none := by unfold dueAt; rw [hev]
      by_cases c : stat (L p) d = 1
      · refine ifT (by rw [wordOf_get hev, word_kept.mpr c]; decide +kernel) ?_
        obtain ⟨ka, rra, q1, q2, q3⟩ := ra3
        refine ⟨_, rfl, _, rfl, r, _, 0, .ref ka, rfl, rfl, q1, rfl, _, rfl, r, _, 1, .ref rra, rfl, rfl, q1, rfl, _, rfl, r, _, 2, .int ((s.2 : Nat) : Int), rfl, rfl, q1, rfl, (by show 4 ≤ sizeLine; decide), fun q hq => ?_⟩
        have e4 : KS.Ex (upd H2 T (.tup [.int (j : Nat), .ref r])) (upd (upd H2 T (.tup [.int (j : Nat), .ref r])) q (.tup [.int (j : Nat), .ref ka, .ref rra, .int ((s.2 : Nat) : Int)])) := Ex.upd hq
        have h4 : (upd (upd H2 T (.tup [.int (j : Nat), .ref r])) q (.tup [.int (j : Nat), .ref ka, .ref rra, .int ((s.2 : Nat) : Int)])) q = some (.tup [.int (j : Nat), .ref ka, .ref rra, .int ((s.2 : Nat) : Int)]) := upd_same
        generalize upd (upd H2 T (.tup [.int (j : Nat), .ref r])) q (.tup [.int (j : Nat), .ref ka, .ref rra, .int ((s.2 : Nat) : Int)]) = H4 at e4 h4
        have e24 := e3.trans e4
        have hD4 := e24 _ _ hD
        have hdl := K7.paired_len hds
        have := dueL_len (L p) j
        refine ⟨_, hD4, by rw [List.length_map]; omega, Ex.on (e2.trans e24) hD1, ts ++ [q], by rw [upd_same, List.map_append]; rfl, ?_⟩
        have kt : KT' H4 (upd H4 D1 (.lst (ts.map V.ref ++ [V.ref q]))) := fun b' xs h => by rw [L2.upd_ne (fun z => by rw [z, hD4] at h; cases h)]; exact h
        rw [dueL_succ, hda, if_pos c]
        exact paired_snoc' ((hds.kt (kt_of e24)).kt kt) (DueAt.kt (H := H4) ⟨ka, rra, h4, e4 _ _ q2, e4 _ _ q3⟩ kt)
      · refine ifF (by
          rw [decide_eq_true_eq, wordOf_get hev]
          intro z
          injection z with z
          exact c (word_kept.mp z)) (skip (by rw [hda, if_neg c]))
  · rintro H2 ⟨e2, ts, hD, hds⟩
    rw [hlen] at hds
    exact fin H2 D1 ts (e1.trans e2) hD hds
theorem ok_read9 (F : FnP K "_law_read" "_law_read" sRead [] f fd) (TE : TxtE K mg CD) (O : TxtO K mg CL) (TP : TxtP K mg CP) (TL : TxtL mg) (M : TxtM mg) (gK : mg "read_kept" = some (.ref fK)) (kK : PySem.W.keepIn K (.ref fK) = true) (GK : FnOk P w K mg base CX0 3 fK fdK ["part", "end"] (spRK CP)) (bK : Binds K fdK ["part", "end"] [])
    (mF : Meth K CD "firm_end" fF) (GF : FnOk P w K mg base CX0 2 fF fdF ["self", "part"] (spEF CD CL CP)) (bF : Binds K fdF ["self", "part"] []) (mE : Meth K CP "end" fE) (GE : FnOk P w K mg base CX0 1 fE fdE ["self"] (spPE CP)) (bE : Binds K fdE ["self"] []) :
    FnOk P w K mg base CX0 4 f fd ["door", "log", "written", "firm", "read"] (spRd CD CL CP) := by
  refine F.ok scRd (fun vs H Q E h => ?_) (fun cdv A outer s H vs Q E hr h => ?_)
  · unfold spRd at h
    obtain ⟨_, _, _, _, _, _, _, _, _, rfl, _⟩ := h; rfl
  · unfold spRd at h
    obtain ⟨many, nm, a, v, nums, b, fl, rl, Lo, rfl, x, g, hm, y, z, ⟨hL1, hL2, hL3, hL4⟩, ⟨hs1, hs2⟩, fin⟩ := h
    have hu := hr.units
    have hu1 := Nat.lt_trans (Nat.add_lt_add_left (by decide : 1 < 64) _) hu
    have hz0 : sizeLine = 16777216 := rfl
    obtain ⟨t0, t1, T0, T1, hP⟩ := g_places (f := f) (cdv := cdv) (A := A) (outer := outer) (s := s) (H0 := H) (E0' := E) TL M hr
    obtain ⟨t2, T2, hD⟩ := g_due (f := f) (cdv := cdv) (A := A) (outer := outer) (s := s) (H0 := H) (E0' := E) TL M hr
    refine ⟨_, PSs.nox <| (pss_cons (ps_for PassesOwn.never rfl (pi_range1 (by rfl) TL.range (pa_cons (pe_callB call_len_seq (by rfl) TL.len (by decide +kernel) (pa_cons (pf 1) pa_nil)) pa_nil)) (pg_name (i := 5) scRd.nd rfl (Or.inl rfl))
        (pss_cons T0 (pss_cons T1 (pss_cons T2
        (pss_cons (ps_set (i := 9) scRd.nd rfl (Or.inl rfl) (pe_callTy call_list_of (by rfl) TL.list (by decide +kernel) (pa_cons (pe_call GK hr (by rfl) gK kK bK .nil pass0 (pa_cons (pe_ix ix_listD (pf 1) (pv 5) (fun _ _ => rfl)) (pa_cons (pv 7) pa_nil))) pa_nil)))
        (pss_cons (ps_if (PW.pt (pw_or (pt_cmpR op_ne (pe_meth (pv 0) TE.cl mF GF (hr.mono (by decide)) bF .nil pass0 (pa_cons (pv 5) pa_nil)) (pv 7) (nomark _))
          (pw_or (pt_cmpR op_lt (pv 7) (pe_ix ix_listD (pv 3) (pv 5) (fun _ _ => rfl)) (nomark _))
          (pw_or (pt_cmpR (op_neD hu) (pv 9) (pv 8) (nomark _))
          (pw_or (pt_cmpR (op_neD hu) (pe_slice sl_list (pv 9) po_none (po_some (pe_callB call_len_seq (by rfl) TL.len (by decide +kernel) (pa_cons (pe_ix ix_listD (pv 4) (pv 5) (fun _ _ => rfl)) pa_nil)))) (pe_ix ix_listD (pv 4) (pv 5) (fun _ _ => rfl)) (nomark _))
          (pw_or1 (pt_cmpR op_ne (pe_meth0 (pe_ix ix_listD (pf 1) (pv 5) (fun _ _ => rfl)) TP.cl mE GE (hr.mono (by decide)) bE .nil pass0) (pe_callB call_len_seq (by rfl) TL.len (by decide +kernel) (pa_cons (pe_dget hu1 (pv 2) (pv 5) (fun _ _ => rfl)) pa_nil)) (nomark _)))))))) (pss_one (ps_ret pe_bl)) pss_nil)
        (pss_one (ps_asg (pe_tup (pa_cons (pv 7) (pa_cons (pv 9) pa_nil))) (pg_tup rfl (pgs_cons (pg_sub (pv 3) (pv 5) set_list (fun _ => rfl)) (pgs_cons (pg_sub (pv 4) (pv 5) set_list (fun _ => rfl)) pgs_nil)))))))))))
      (pss_one (ps_ret pe_bl)) : PSs (xRd P w K mg base f cdv A outer s H E) (defBody sRead) _), ?_⟩
    have hps := x.len
    have nfl := hs1 fl (.inl rfl)
    have nrl := hs1 rl (.inr rfl)
    have keepD : ∀ {H' : Hp}, (∀ c u, c ≠ fl → c ≠ rl → H c = some u → H' c = some u) → KT' H H' → (∀ c C dx fs, H c = some (.ins C dx fs) → H' c = some (.ins C dx fs)) → DoorA CD CL CP many nm a v H' ∧ WrA many b v.L (fun p i => wordOf (v.L p) i) H' := fun {H'} k kt ki => by
      refine ⟨x.keep ki kt fun c u hc h => ?_, y.keep kt fun c u hc h => ?_⟩
      · refine k c u (fun e => ?_) (fun e => ?_) h
        · rcases hc with hc | hc
          · exact nfl.2.1 (by rw [← e]; exact hc)
          · exact nfl.1 (by rw [← e]; exact hc)
        · rcases hc with hc | hc
          · exact nrl.2.1 (by rw [← e]; exact hc)
          · exact nrl.1 (by rw [← e]; exact hc)
      · exact k c u (fun e => nfl.2.2 (by rw [← e]; exact hc)) (fun e => nrl.2.2 (by rw [← e]; exact hc)) h
    have hfl := z.f
    obtain ⟨us0, hrl, _⟩ := z.r
    have ktk : ∀ {H' : Hp}, (∀ c u, c ≠ fl → c ≠ rl → H c = some u → H' c = some u) → KT' H H' ∧ ∀ c C dx fs, H c = some (.ins C dx fs) → H' c = some (.ins C dx fs) := fun {H'} k => ⟨fun c ys h => k _ _ (fun e => by rw [e, hfl] at h; cases h) (fun e => by rw [e, hrl] at h; cases h) h, fun c C dx fs h => k _ _ (fun e => by rw [e, hfl] at h; cases h) (fun e => by rw [e, hrl] at h; cases h) h⟩
    obtain ⟨sts, lg, ls⟩ := x.lg
    obtain ⟨dxo, obo⟩ := lg.ob
    refine ⟨_, rfl, a.o, CL, dxo, _, _, rfl, obo, O.cl, O.p, rfl, a.q, _, rfl, .inl (SqL.of lg.ql), ?_⟩
    rw [List.length_map, hps]
    refine ⟨_, rfl, by omega, by have := x.nz; omega, ?_⟩
    rw [Int.toNat_natCast]
    refine for_range (n := many) (fun j σ H' => (∃ u5 u6 u7 u8 u9 u10 u11, σ = [some (.ref a.d), some (.ref a.o), some (.ref b.wr), some (.ref fl), some (.ref rl), u5, u6, u7, u8, u9, u10, u11]) ∧ (∀ c u, c ≠ fl → c ≠ rl → H c = some u → H' c = some u) ∧ ReA many fl rl (mixL v.L Lo j) H' ∧ ∀ us : List Addr, H' rl = some (.lst (us.map V.ref)) → ∀ (p : Nat) (u : Addr), p < j → us[p]? = some u → H u = none) ⟨⟨_, _, _, _, _, _, _, rfl⟩, fun _ _ _ _ h => h, z, fun _ _ p _ h => absurd h (Nat.not_lt_zero _)⟩ ?_ ?_
    · rintro p σ H1 hp ⟨⟨u5, u6, u7, u8, u9, u10, u11, rfl⟩, fr, z1, nw⟩
      show tSeq _ _ _ [some (.ref a.d), some (.ref a.o), some (.ref b.wr), some (.ref fl), some (.ref rl), some (.int (0 + (p : Nat))), u6, u7, u8, u9, u10, u11] H1
      rw [Int.zero_add]
      obtain ⟨kt1, ki1⟩ := ktk fr
      obtain ⟨x1, y1⟩ := keepD fr kt1 ki1
      have hle := endL_le (v.L p)
      refine hP _ H1 many b v.L p _ _ _ _ _ _ _ _ _ _ _ y1 hp (hL4 p) fun H2 D1 e2 => ?_
      have y2 := y1.ex e2
      refine hD _ H2 many b v.L p (endL (v.L p)) _ _ _ _ _ _ _ _ _ _ y2 hp (hL4 p) hle fun H3 D2 ts2 e3 hD2 hds2 => ?_
      have e13 := e2.trans e3
      have x3 := x1.ex e13
      have y3 := y2.ex e3
      obtain ⟨sts3, lg3, ls3⟩ := x3.lg
      obtain ⟨dxo3, obo3⟩ := lg3.ob
      have hlt : p < sts3.length := by rw [ls3.len]; exact hp
      obtain ⟨st, hst⟩ : ∃ st, sts3[p]? = some st := ⟨_, List.getElem?_eq_getElem hlt⟩
      obtain ⟨b1, b2⟩ := ls3.at_ p st hst
      obtain ⟨p1, l1, hj, pt⟩ := lg3.get hst
      rw [b2] at pt
      refine ⟨_, rfl, a.o, CL, dxo3, _, _, rfl, obo3, O.cl, O.p, rfl, _, rfl, a.q, _, _, V.ref p1, rfl, rfl, lg3.ql, atI_nat (by rw [List.getElem?_map, hj]; rfl), _, rfl, rk_step pt (by have := hL4 p; omega) hle (fun wd d h => by
        rcases (g.marks p).kind d wd h with q | q <;> omega) fun H4 q4 ts4 e4 hq4 hds4 => ⟨q4, _, rfl, .inr (SqT.of hq4), fun l5 hl5 => ?_⟩⟩
      have e5 : KS.Ex H4 (upd H4 l5 (.lst (ts4.map V.ref))) := Ex.upd hl5
      have h5 : (upd H4 l5 (.lst (ts4.map V.ref))) l5 = some (.lst (ts4.map V.ref)) := upd_same
      show tSeq _ _ _ [some (.ref a.d), some (.ref a.o), some (.ref b.wr), some (.ref fl), some (.ref rl), some (.int (p : Int)), some D1, some (.int ((endL (v.L p) : Nat) : Int)), some (.ref D2), some (.ref l5), u10, u11] (upd H4 l5 (.lst (ts4.map V.ref)))
      generalize upd H4 l5 (.lst (ts4.map V.ref)) = H5 at e5 h5
      have e35 := e4.trans e5
      have x5 := x3.ex e35
      have z5 := z1.ex (e13.trans e35)
      have hds5 := hds4.kt (kt_of e5)
      obtain ⟨dx5, ob5⟩ := x5.ob
      refine ⟨_, rfl, a.d, dx5, _, rfl, ob5, rfl, _, rfl, ef_step x5 hm g hp fun H6 e6 => ?_⟩
      refine ⟨_, rfl, rfl, _, rfl, ?_⟩
      rw [eqI]
      refine ifF (by simp) ?_
      have z6 := z5.ex e6
      have hfl6 := z6.f
      obtain ⟨us, hrl6, hus, hus2⟩ := z6.r
      have mixp : mixL v.L Lo p p = Lo p := by unfold mixL; rw [if_neg (by omega)]
      obtain ⟨M', hM'⟩ := hL1 p
      have hmono : endL (Lo p) ≤ endL (v.L p) := by
        have := endL_mono (hL2 p) (M := M') (by rw [← hM']; exact g.marks p)
        rw [← hM'] at this
        exact this
      have hfg : ((List.range many).map fun p' => V.int ((endL (mixL v.L Lo p p') : Nat) : Int))[p]? = some (.int ((endL (Lo p) : Nat) : Int)) := by
        rw [List.getElem?_map, List.getElem?_range hp]
        simp only [Option.map_some]
        rw [mixp]
      refine ⟨_, rfl, _, rfl, _, rfl, fl, _, _, _, rfl, rfl, hfl6, atI_nat hfg, _, _, rfl, rfl, _, rfl, ifF (by rw [decide_eq_true_eq]; omega) ?_⟩
      have h56 := e6 _ _ h5
      have hds6 := hds5.kt (kt_of e6)
      have hD26 := e6 _ _ (e35 _ _ hD2)
      have hds26 := hds2.kt (kt_of (e35.trans e6))
      refine ⟨_, rfl, _, rfl, ne_same (dp_dues K h56 hds6) (dp_dues K hD26 hds26) (smp_dues (smp_due (hL3 p))) (by decide) ⟨_, rfl, ifF (by decide) ?_⟩⟩
      obtain ⟨u, hu5⟩ : ∃ u, us[p]? = some u := ⟨_, List.getElem?_eq_getElem (by omega)⟩
      obtain ⟨n1, n2, ts0, hu6, hdu6⟩ := hus2 p u hu5
      rw [mixp] at hdu6
      have hur : (us.map V.ref)[p]? = some (.ref u) := by rw [List.getElem?_map, hu5]; rfl
      have ltu := K7.paired_len hdu6
      refine ⟨_, rfl, ?_⟩
      dsimp only [tNoPart]
      refine ⟨_, rfl, _, rfl, rl, _, _, _, rfl, rfl, hrl6, atI_nat hur, u, _, rfl, .inl (SqL.of hu6), _, rfl, ?_⟩
      rw [List.length_map, ltu]
      refine lst_to (hi := (dueL (Lo p) (endL (Lo p))).length) rfl h56 fun H7 l7 e7 h7 _ => ?_
      have hrl7 := e7 _ _ hrl6
      have hu7 := e7 _ _ hu6
      refine ⟨_, rfl, _, rfl, rl, _, _, _, rfl, rfl, hrl7, atI_nat hur, ?_⟩
      have htk : (dueL (v.L p) (endL (v.L p))).take (dueL (Lo p) (endL (Lo p))).length = dueL (Lo p) (endL (Lo p)) := by
        have := dueL_take (hL2 p) (M := M') (by rw [← hM']; exact g.marks p)
        rw [← hM'] at this
        exact this
      have hds7 : Dues H7 (ts4.take (dueL (Lo p) (endL (Lo p))).length) (dueL (Lo p) (endL (Lo p))) := by
        have := paired_take (dueL (Lo p) (endL (Lo p))).length (hds6.kt (kt_of e7))
        rw [htk] at this
        exact this
      have hpl : Plain (Lo p) := fun k s d h => hL3 p k s d (by rw [hM']; exact List.mem_append_left _ h)
      refine ne_same (dp_dues K h7 hds7) (dp_dues K hu7 (hdu6.kt (kt_of e7))) (smp_dues (smp_due hpl)) (by decide) ⟨_, rfl, ifF (by decide) ?_⟩
      have x7 := (x5.ex e6).ex e7
      have y7 := y3.ex (e35.trans (e6.trans e7))
      obtain ⟨sts7, lg7, ls7⟩ := x7.lg
      obtain ⟨dxo7, obo7⟩ := lg7.ob
      have hlt7 : p < sts7.length := by rw [ls7.len]; exact hp
      obtain ⟨st7, hst7⟩ : ∃ st, sts7[p]? = some st := ⟨_, List.getElem?_eq_getElem hlt7⟩
      obtain ⟨_, b27⟩ := ls7.at_ p st7 hst7
      obtain ⟨p7, l77, hj7, pt7⟩ := lg7.get hst7
      obtain ⟨dp7, kk7, vv7, tts7, g17, _⟩ := id pt7
      obtain ⟨kvs7, k17, k27⟩ := y7.get hp
      refine ⟨_, rfl, a.o, CL, dxo7, _, _, rfl, obo7, O.cl, O.p, rfl, _, rfl, a.q, _, _, V.ref p7, rfl, rfl, lg7.ql, atI_nat (by rw [List.getElem?_map, hj7]; rfl), p7, dp7, _, rfl, g17, rfl, pe_step pt7 ⟨_, rfl, _, rfl, b.wr, _, rfl, by rw [← k27]; exact DGet.k (k := kN p) k17, b.wl p, _, rfl, .inl (SqL.of (y7.ls p hp)), rfl, _, rfl, ?_⟩⟩
      rw [eqI, b27, List.length_map, List.length_map, y7.len p hp]
      refine ifF (by simp) ?_
      refine ⟨_, rfl, _, rfl, (by show 2 ≤ sizeLine; decide), fun zz hzz => ⟨zz, _, rfl, SqT.of upd_same, rfl, ?_⟩⟩
      have e8 : KS.Ex H7 (upd H7 zz (.tup [.int ((endL (v.L p) : Nat) : Int), .ref l5])) := Ex.upd hzz
      generalize upd H7 zz (.tup [.int ((endL (v.L p) : Nat) : Int), .ref l5]) = H8 at e8
      have e68 := e7.trans e8
      have z8 := z6.ex e68
      have hfl8 := e68 _ _ hfl6
      have hrl8 := e68 _ _ hrl6
      have ixp : ∀ {n : Nat}, p < n → ixN n (p : Int) = some p := fun {n} h => by
        unfold ixN
        rw [if_pos (by omega), if_pos (by omega), Int.toNat_natCast]
      have hrl9 : (upd H8 fl (.lst (((List.range many).map fun p' => V.int ((endL (mixL v.L Lo p p') : Nat) : Int)).set p (.int ((endL (v.L p) : Nat) : Int))))) rl = some (.lst (us.map V.ref)) := by rw [L2.upd_ne hs2.symm]; exact hrl8
      refine ⟨_, _, rfl, _, rfl, _, rfl, fl, _, _, p, rfl, rfl, hfl8, ixp (by rw [List.length_map, List.length_range]; exact hp), _, _, rfl, _, rfl, _, rfl, rl, us.map V.ref, _, p, rfl, rfl, hrl9, ixp (by rw [List.length_map]; omega), rfl, ?_⟩
      have lnew : ∀ {q : Addr} {u : HO}, H3 q = some u → q ≠ l5 := fun {q u} h e => by
        have := e4 _ _ h
        rw [e, hl5] at this; cases this
      have l3 : ∀ {q : Addr} {u : HO}, H1 q = some u → q ≠ l5 := fun h => lnew (e13 _ _ h)
      obtain ⟨us1, r1, _⟩ := z1.r
      have nl1 : l5 ≠ fl := fun e => l3 z1.f e.symm
      have nl2 : l5 ≠ rl := fun e => l3 r1 e.symm
      have e58 := e6.trans e68
      have kp : ∀ c u, c ≠ fl → c ≠ rl → H8 c = some u → (upd (upd H8 fl (.lst (((List.range many).map fun p' => V.int ((endL (mixL v.L Lo p p') : Nat) : Int)).set p (.int ((endL (v.L p) : Nat) : Int))))) rl (.lst ((us.map V.ref).set p (.ref l5)))) c = some u := fun c u n1 n2 h => by rw [L2.upd_ne n2, L2.upd_ne n1]; exact h
      refine ⟨⟨_, _, _, _, _, _, _, rfl⟩, fun c u n1 n2 h => kp c u n1 n2 (e58 _ _ (e35 _ _ (e13 _ _ (fr c u n1 n2 h)))), ?_⟩
      refine ⟨z8.set hp hs2 (e58 _ _ h5) (hds5.kt (kt_of e58)) nl1 nl2 hfl8 hrl8 (by rw [L2.upd_ne hs2]; exact upd_same) upd_same kp, fun us' hus' p' u' hp' hu' => ?_⟩
      rw [upd_same] at hus'
      injection hus' with hus'
      injection hus' with hus'
      rw [← List.map_set] at hus'
      have hus' := refs_inj _ _ hus'
      subst hus'
      by_cases c : p' = p
      · subst c
        rw [List.getElem?_set_self (by omega)] at hu'
        cases hu'
        cases q : H l5 with
        | none => rfl
        | some u0 => exact absurd rfl (l3 (fr _ _ nl1 nl2 q))
      · rw [List.getElem?_set_ne (fun z => c z.symm)] at hu'
        have r6 := (e13.trans e35).trans e6 _ _ r1
        rw [hrl6] at r6
        injection r6 with r6
        injection r6 with r6
        have := refs_inj _ _ r6
        subst this
        exact nw us r1 p' u' (by omega) hu'
    · rintro σ H1 ⟨⟨u5, u6, u7, u8, u9, u10, u11, rfl⟩, fr, z1, nw⟩
      have em : ∀ p, p < many → mixL v.L Lo many p = v.L p := fun p hp => by unfold mixL; rw [if_pos hp]
      refine fin H1 fr ⟨?_, ?_⟩ nw
      · rw [z1.f]
        congr 2
        exact List.map_congr_left fun p hp => by rw [em p (List.mem_range.mp hp)]
      · obtain ⟨us, h1, h2, h3⟩ := z1.r
        refine ⟨us, h1, h2, fun p u hu => ?_⟩
        have hp : p < many := by rw [← h2]; exact (List.getElem?_eq_some_iff.mp hu).1
        have := h3 p u hu
        rw [em p hp] at this
        exact this
end
end KL9
set_option Elab.async false
set_option linter.all false
set_option maxRecDepth 100000
set_option maxHeartbeats 4000000
namespace KL9
open PySem PySem.Spec PyProof.Rows L2 KB KC KS KN1 LamX K7
abbrev qN : Str := "_law_aged.<locals>.<lambda>"
abbrev qL : Str := "law.<locals>.<lambda>"
abbrev TT (Ps Pn Pl : Addr) : List (Addr × Str) := [(Ps, qK), (Pn, qN), (Pl, qL)]
structure Apt (Ps Pn Pl : Addr) : Prop where
  sn : Ps ≠ Pn
  sl : Ps ≠ Pl
  nl : Pn ≠ Pl
theorem tabS_two {H H' : Hp} {P : Addr} {q : Str} (t : TabS H P q) (hP : ∀ ps, H P = some (.tbl ps) → H' P = some (.tbl ps)) (hx : ∀ b φ, H b = some (.ext φ) → H' b = some (.ext φ)) : TabS H' P q := by
  obtain ⟨ps, h1, h2, h3⟩ := t
  refine ⟨ps, hP _ h1, h2, fun pos cv hc => ?_⟩
  obtain ⟨c, e1, e2⟩ := h3 pos cv hc
  exact ⟨c, e1, hx _ _ e2⟩
structure St (Ps Pn Pl d : Addr) (H : Hp) : Prop where
  ts : TabS H Ps qK
  tn : TabS H Pn qN
  tl : TabS H Pl qL
  dice : IsDice H d
def Kp (d : Addr) (H H' : Hp) : Prop := ∀ b o, b ≠ d → H b = some o → (∀ ps, o ≠ .tbl ps) → H' b = some o
theorem Kp.trans {d : Addr} {H H1 H2 : Hp} (a : Kp d H H1) (b : Kp d H1 H2) : Kp d H H2 := fun x o n h t => b x o n (a x o n h t) t
theorem Kp.of {d : Addr} {H H' : Hp} (e : KS.Ex H H') : Kp d H H' := fun b o _ h _ => e b o h
theorem Kp.refl (d : Addr) (H : Hp) : Kp d H H := Kp.of (Ex.refl H)
theorem Kp.exD {d : Addr} {H H' : Hp} (e : ExD d H H') : Kp d H H' := fun b o n h _ => e b o n h
theorem keepTb {Ps : Addr} {H H' : Hp} (t : TabS H Ps qK) (e : Tb Ps H H') {b : Addr} {o : HO} (h : H b = some o) (n : ∀ ps, o ≠ .tbl ps) : H' b = some o := by
  obtain ⟨ps, hP, _⟩ := t
  exact e.2 b o (fun z => by rw [z, hP] at h; exact n _ (Option.some.inj h).symm) h
theorem Kp.tb {d Ps : Addr} {H H' : Hp} (t : TabS H Ps qK) (e : Tb Ps H H') : Kp d H H' := fun b o _ h n => keepTb t e h n
theorem Kp.exN {d : Addr} {H H' : Hp} (e : ExtN H H') : Kp d H H' := fun b o _ h n => e b o h n
section
variable {Ps Pn Pl d : Addr} {H H' : Hp}
theorem tabs_mk (a : TabS H Ps qK) (b : TabS H Pn qN) (c : TabS H Pl qL) : Tabs (TT Ps Pn Pl) H := fun x hx => by
  rcases List.mem_cons.mp hx with rfl | hx
  · exact a
  rcases List.mem_cons.mp hx with rfl | hx
  · exact b
  rcases List.mem_cons.mp hx with rfl | hx
  · exact c
  cases hx
theorem St.tabs (s : St Ps Pn Pl d H) : Tabs (TT Ps Pn Pl) H := tabs_mk s.ts s.tn s.tl
theorem St.dne (s : St Ps Pn Pl d H) {b : Addr} {o : HO} (h : H b = some o) (n : ∀ xs, o ≠ .lst xs) : b ≠ d := fun z => by
  obtain ⟨x, y, k, q⟩ := s.dice
  rw [z, q] at h
  exact n _ (Option.some.inj h).symm
theorem St.ex (s : St Ps Pn Pl d H) (e : KS.Ex H H') : St Ps Pn Pl d H' := ⟨s.ts.ext e, s.tn.ext e, s.tl.ext e, s.dice.ex e⟩
theorem St.exD (s : St Ps Pn Pl d H) (e : ExD d H H') (i : IsDice H' d) : St Ps Pn Pl d H' :=
  have go : ∀ {P : Addr} {q : Str}, TabS H P q → TabS H' P q := fun t => tabS_two t (fun ps h => e _ _ (s.dne h (fun _ z => nomatch z)) h) (fun b φ h => e _ _ (s.dne h (fun _ z => nomatch z)) h)
  ⟨go s.ts, go s.tn, go s.tl, i⟩
theorem St.tb (s : St Ps Pn Pl d H) (ap : Apt Ps Pn Pl) (e : Tb Ps H H') : St Ps Pn Pl d H' := by
  have go : ∀ {P : Addr} {q : Str}, P ≠ Ps → TabS H P q → TabS H' P q := fun n t => tabS_two t (fun ps h => e.2 _ _ n h) (fun b φ h => keepTb s.ts e h (fun _ z => nomatch z))
  obtain ⟨x, y, k, q⟩ := s.dice
  exact ⟨e.1, go ap.sn.symm s.tn, go ap.sl.symm s.tl, ⟨x, y, k, keepTb s.ts e q (fun _ z => nomatch z)⟩⟩
theorem St.exN (s : St Ps Pn Pl d H) (e : ExtN H H') (t : Tabs (TT Ps Pn Pl) H') : St Ps Pn Pl d H' := by
  obtain ⟨x, y, k, q⟩ := s.dice
  exact ⟨t _ (List.mem_cons_self ..), t _ (List.mem_cons_of_mem _ (List.mem_cons_self ..)), t _ (List.mem_cons_of_mem _ (List.mem_cons_of_mem _ (List.mem_cons_self ..))), ⟨x, y, k, e _ _ q (fun _ z => nomatch z)⟩⟩
theorem St.wr (s : St Ps Pn Pl d H) {r : Addr} {o u : HO} (h : H r = some o) (n1 : ∀ ps, o ≠ .tbl ps) (n2 : ∀ φ, o ≠ .ext φ) (n3 : r ≠ d) : St Ps Pn Pl d (upd H r u) := by
  have go : ∀ {P : Addr} {q : Str}, TabS H P q → TabS (upd H r u) P q := fun t => tabS_two t (fun ps hb => by rw [L2.upd_ne (fun z => by rw [z, h] at hb; exact n1 _ (Option.some.inj hb))]; exact hb) (fun b φ hb => by rw [L2.upd_ne (fun z => by rw [z, h] at hb; exact n2 _ (Option.some.inj hb))]; exact hb)
  obtain ⟨x, y, k, q⟩ := s.dice
  exact ⟨go s.ts, go s.tn, go s.tl, ⟨x, y, k, by rw [L2.upd_ne n3.symm]; exact q⟩⟩
end
theorem Kp.kt {d : Addr} {H H' : Hp} (e : Kp d H H') (i : IsDice H d) : KT' H H' := fun b xs h => e _ _ (fun z => by
  obtain ⟨x, y, k, q⟩ := i
  rw [z, q] at h; cases h) h (fun _ z => nomatch z)
def Cal (P : Program) (w : World) (K : PySem.W.Frag) (mg : Str → Option Value) (base : Heap) (CX : CXT) (k : Nat) (x : Str) (ps : List Str) (sp : Sp) : Prop :=
  ∃ f fd, FnOk P w K mg base CX k f fd ps sp ∧ mg x = some (.ref f) ∧ PySem.W.keepIn K (.ref f) = true ∧ Binds K fd ps []
def CalM (P : Program) (w : World) (K : PySem.W.Frag) (mg : Str → Option Value) (base : Heap) (C : Addr) (CX : CXT) (k : Nat) (m : Str) (ps : List Str) (sp : Sp) : Prop :=
  ∃ f fd, FnOk P w K mg base CX k f fd ps sp ∧ Meth K C m f ∧ Binds K fd ps []
def CalI (P : Program) (w : World) (K : PySem.W.Frag) (mg : Str → Option Value) (base : Heap) (C : Addr) (CX : CXT) (k : Nat) (ps : List Str) (sp : Sp) : Prop :=
  ∃ f fd, FnOk P w K mg base CX k f fd ps sp ∧ Mk K C f ∧ Binds K fd ps []
end KL9
set_option Elab.async false
set_option linter.all false
set_option maxRecDepth 100000
set_option maxHeartbeats 4000000
namespace KL9
open PySem PySem.Spec PyProof.Rows L2 KB KC KS KN1 LamX K7
def prD (k : Int) (x : Rc) : PyData := .tuple [.int k, rcD x]
def prsL : Int → List Rc → List PyData
  | _, [] => []
  | p, x :: r => prD p x :: prsL (p + 1) r
def prsD (place : Int) (ys : List Rc) : PyData := .tuple (prsL place ys)
theorem prsL_len : ∀ (p : Int) (ys : List Rc), (prsL p ys).length = ys.length
  | _, [] => rfl
  | p, x :: r => congrArg Nat.succ (prsL_len (p + 1) r)
theorem prsL_get : ∀ {p : Int} {ys : List Rc} {j : Nat} {d : PyData}, (prsL p ys)[j]? = some d → ∃ x, ys[j]? = some x ∧ d = prD (p + (j : Int)) x
  | _, [], _, _, h => nomatch h
  | p, x :: r, 0, d, h => ⟨x, rfl, by
      have h : some (prD p x) = some d := h
      rw [← Option.some.inj h]
      show prD p x = prD (p + 0) x
      rw [Int.add_zero]⟩
  | p, x :: r, j + 1, d, h => by
    obtain ⟨y, h1, h2⟩ := prsL_get (p := p + 1) (ys := r) (j := j) (d := d) h
    refine ⟨y, h1, ?_⟩
    rw [h2]
    congr 1
    omega
theorem dpAll_of {K : PySem.W.Frag} {H : Hp} : ∀ {vs : List V} {ds : List PyData}, vs.length = ds.length → (∀ (j : Nat) v d, vs[j]? = some v → ds[j]? = some d → Dp K H v d) → DpAll K H vs ds
  | [], [], _, _ => .nil
  | [], _ :: _, h, _ => by cases h
  | _ :: _, [], h, _ => by cases h
  | v :: vs, d :: ds, h, k => .cons (k 0 v d rfl rfl) (dpAll_of (Nat.succ.inj h) fun j a b e1 e2 => k (j + 1) a b e1 e2)
theorem dp_prs {K : PySem.W.Frag} {H : Hp} {q : Addr} {ts : List Addr} {place : Int} {ys : List Rc} (h : H q = some (.tup (ts.map V.ref))) (hl : ts.length = ys.length) (k : ∀ (j : Nat) (x : Rc), ys[j]? = some x → ∃ t u, ts[j]? = some t ∧ H t = some (.tup [.int (place + (j : Int)), .ref u]) ∧ RecAt H u x) : Dp K H (.ref q) (prsD place ys) := by
  refine .tup (SqT.of h) (dpAll_of (by rw [List.length_map, prsL_len, hl]) fun j v d e1 e2 => ?_)
  obtain ⟨x, hx, rfl⟩ := prsL_get e2
  obtain ⟨t, u, ht, h1, h2⟩ := k j x hx
  rw [List.getElem?_map, ht] at e1
  cases e1
  exact .tup (SqT.of h1) (.cons (.int _) (.cons (dp_rc K h2) .nil))
theorem smp_prs {place : Int} {ys : List Rc} (h : ∀ x ∈ ys, Smp 2 (rcD x)) : Smp 4 (prsD place ys) := .tup fun d hd => by
  obtain ⟨j, hj⟩ := List.getElem?_of_mem hd
  obtain ⟨x, hx, rfl⟩ := prsL_get hj
  refine .tup fun y hy => ?_
  rcases List.mem_cons.mp hy with rfl | hy
  · exact .int _
  · rcases List.mem_cons.mp hy with rfl | hy
    · exact h x (List.mem_of_getElem? hx)
    · cases hy
theorem dp_nums {K : PySem.W.Frag} {H : Hp} {q : Addr} {ts rs : List Addr} {place : Int} {ys : List Rc} (h : H q = some (.tup (ts.map V.ref))) (n : EN.Nums H place (rs.map V.ref) ts) (r : Recs H rs ys) : Dp K H (.ref q) (prsD place ys) := by
  have lr := paired_len r
  refine dp_prs h (by rw [n.1, List.length_map, lr]) fun j x hx => ?_
  have hlt : j < rs.length := by rw [lr]; exact (List.getElem?_eq_some_iff.mp hx).1
  obtain ⟨y, hy, ra⟩ := paired_get r (List.getElem?_eq_getElem hlt)
  rw [hx] at hy
  cases hy
  obtain ⟨t, t1, t2⟩ := n.2 j (V.ref rs[j]) (by rw [List.getElem?_map, List.getElem?_eq_getElem hlt]; rfl)
  exact ⟨t, rs[j], t1, t2, ra⟩
end KL9
set_option Elab.async false
set_option linter.all false
set_option maxRecDepth 100000
set_option maxHeartbeats 4000000
namespace KL9
open PySem PySem.Spec PyProof.Rows L2 KB KC KS KN1 LamX K7 Q9 R8 TK
structure LawE (P : Program) (w : World) (K : PySem.W.Frag) (mg : Str → Option Value) (base : Heap) (CP CL CD CG CR Ps Pn Pl cN cL fTo : Addr) (fdTo : FuncData) : Prop where
  T : TxtL mg
  M : TxtM mg
  G : TxtG K mg CG
  TP : TxtP K mg CP
  TO : TxtO K mg CL
  TE : TxtE K mg CD
  W : TxtW mg
  TBn : LamX.TabB base mg cN Pn
  TBl : LamX.TabB base mg cL Pl
  ap : Apt Ps Pn Pl
  rounds : Cal P w K mg base CX0 2 "_law_rounds" ["script", "most"] (spRounds K)
  roll : Cal P w K mg base CX0 1 "_law_roll" ["dice", "many"] spRoll
  hash : Cal P w K mg base (L2.CX P w) 4 "hash_of" ["row"] (spHash Ps)
  pread : CalM P w K mg base CP (L2.CX P w) 2 "read" ["self", "place", "most"] (spPR CP CG)
  linit : CalI P w K mg base CL (L2.CX P w) 3 ["self", "many"] (spLI CL CP CG)
  einit : CalI P w K mg base CD CX0 1 ["self", "log"] (spEI CD)
  enter : CalM P w K mg base CD CX0 7 "enter" ["self", "name"] (spER CD CL CP Ps)
  need : CalM P w K mg base CD (L2.CX P w) 1 "need" ["self", "name", "age"] (spEN CD CL CP CG)
  begin : CalM P w K mg base CD (L2.CX P w) 2 "begin" ["self", "name", "age"] (spEB CD CL CP CG Ps)
  add : CalM P w K mg base CD (L2.CX P w) 7 "add" ["self", "name", "age", "key", "row", "time"] (spEA CD CL CP CG Ps)
  commit : CalM P w K mg base CD (L2.CX P w) 7 "commit" ["self", "name", "age"] (spEC 1 CD CL CP CG Ps)
  drop : CalM P w K mg base CD (L2.CX P w) 7 "drop" ["self", "name", "age"] (spEC 2 CD CL CP CG Ps)
  firm : CalM P w K mg base CD CX0 2 "firm_end" ["self", "part"] (spEF CD CL CP)
  read : Cal P w K mg base CX0 4 "_law_read" ["door", "log", "written", "firm", "read"] (spRd CD CL CP)
  told : FnP K "_law_told" "_law_told" sTold [] fTo fdTo
  gTold : mg "_law_told" = some (.ref fTo)
section
variable {CD CL CP Ps Pn Pl : Addr} {many : Nat} {nm : List Str} {a : DA} {v : DV} {H H' : Hp}
theorem tabs_frD (t : Tabs (TT Ps Pn Pl) H) (ap : Apt Ps Pn Pl) (x : DoorA CD CL CP many nm a v H) (f : FrD Ps a v H H') : Tabs (TT Ps Pn Pl) H' := by
  have go : ∀ {P : Addr} {q : Str}, P ≠ Ps → TabS H P q → TabS H' P q := fun {P q} n t' => tabS_two t' (fun tb h => f.2 _ _ n (x.notTbl h (fun _ _ _ z => nomatch z) (fun _ z => nomatch z) (fun _ z => nomatch z)) h) (fun b φ h => f.2 _ _ (fun z => by
    obtain ⟨ps, hP, _⟩ := t _ (List.mem_cons_self ..)
    rw [z, hP] at h; cases h) (x.notTbl h (fun _ _ _ z => nomatch z) (fun _ z => nomatch z) (fun _ z => nomatch z)) h)
  exact tabs_mk f.1 (go ap.sn.symm (t _ (List.mem_cons_of_mem _ (List.mem_cons_self ..)))) (go ap.sl.symm (t _ (List.mem_cons_of_mem _ (List.mem_cons_of_mem _ (List.mem_cons_self ..)))))
theorem St.frD {dc : Addr} (s : St Ps Pn Pl dc H) (ap : Apt Ps Pn Pl) (x : DoorA CD CL CP many nm a v H) (f : FrD Ps a v H H') (nd : ¬ DR a v dc) : St Ps Pn Pl dc H' := by
  have t := tabs_frD s.tabs ap x f
  obtain ⟨b, c, d, h⟩ := s.dice
  obtain ⟨ps, hP, _⟩ := id s.ts
  exact ⟨t _ (List.mem_cons_self ..), t _ (List.mem_cons_of_mem _ (List.mem_cons_self ..)), t _ (List.mem_cons_of_mem _ (List.mem_cons_of_mem _ (List.mem_cons_self ..))), ⟨b, c, d, f.2 _ _ (fun z => by rw [z, hP] at h; cases h) nd h⟩⟩
theorem FrD.kt (f : FrD Ps a v H H') (x : DoorA CD CL CP many nm a v H) (t : TabS H Ps qK) : KT' H H' := fun b ys h => f.2 _ _ (fun z => by
  obtain ⟨ps, hP, _⟩ := t
  rw [z, hP] at h; cases h) (x.notTbl h (fun _ _ _ z => nomatch z) (fun _ z => nomatch z) (fun _ z => nomatch z)) h
def Own (a : DA) (v : DV) (b : Addr) : Prop := b = a.d ∨ b = a.o ∨ b = a.q ∨ DR a v b
theorem DoorA.keep2 (x : DoorA CD CL CP many nm a v H) (k : KT' H H') (l : ∀ b u, Own a v b → H b = some u → H' b = some u) : DoorA CD CL CP many nm a v H' := by
  obtain ⟨dx, ob⟩ := x.ob
  obtain ⟨sts, lg, ls⟩ := x.lg
  obtain ⟨dxo, obo⟩ := lg.ob
  have dr : ∀ {b : Addr} {u : HO}, DR a v b → H b = some u → H' b = some u := fun {b u} h => l b u (.inr (.inr (.inr h)))
  obtain ⟨k1, g1, h1⟩ := x.t1
  obtain ⟨k2, g2, h2⟩ := x.t2
  obtain ⟨k3, g3, h3⟩ := x.t3
  obtain ⟨k4, g4, h4⟩ := x.t4
  refine ⟨⟨dx, l _ _ (.inl rfl) ob⟩, ⟨sts, ⟨⟨dxo, l _ _ (.inr (.inl rfl)) obo⟩, l _ _ (.inr (.inr (.inl rfl))) lg.ql, Parts.of lg.pt fun pl st hm ⟨dy, kk, w, ts, q1, q2, q3, q4, q5⟩ => ⟨dy, kk, w, ts, dr (.inl (List.mem_map_of_mem hm)) q1, k _ _ q2, k _ _ q3, dr (.inr (.inl (List.mem_map_of_mem hm))) q4, q5.kt k⟩, lg.n1, lg.n2, lg.n3, lg.n4⟩, ls⟩, ⟨k1, dr (.inr (.inr (.inl rfl))) g1, h1⟩, ⟨k2, dr (.inr (.inr (.inr (.inl rfl)))) g2, h2⟩, ⟨k3, dr (.inr (.inr (.inr (.inr (.inl rfl))))) g3, h3.mono fun n w y _ => ?_⟩, ⟨k4, dr (.inr (.inr (.inr (.inr (.inr (.inl rfl)))))) g4, h4⟩, fun n y hn => ?_, x.nj, x.ni, x.nn, x.nd, x.nz⟩
  · rintro ⟨t, e1, e2⟩
    exact ⟨t, e1, k _ _ e2⟩
  · obtain ⟨kvs, e1, e2⟩ := x.t5 n y hn
    exact ⟨kvs, dr (.inr (.inr (.inr (.inr (.inr (.inr ⟨n, by rw [hn]; simp, rfl⟩)))))) e1, e2⟩
theorem DoorA.live (x : DoorA CD CL CP many nm a v H) {b : Addr} (h : Own a v b) : H b ≠ none := by
  obtain ⟨dx, ob⟩ := x.ob
  obtain ⟨sts, lg, ls⟩ := x.lg
  obtain ⟨dxo, obo⟩ := lg.ob
  rcases h with h | h | h | h
  · rw [h, ob]; simp
  · rw [h, obo]; simp
  · rw [h, lg.ql]; simp
  · rcases x.kind h with ⟨_, _, _, e⟩ | ⟨_, e⟩ | ⟨_, e⟩ <;> rw [e] <;> simp
theorem DoorA.exD {dc : Addr} (x : DoorA CD CL CP many nm a v H) (i : IsDice H dc) (e : ExD dc H H') (nd : ¬ DR a v dc) (nq : a.q ≠ dc) : DoorA CD CL CP many nm a v H' := by
  obtain ⟨b, c, d, h⟩ := i
  obtain ⟨dx, ob⟩ := x.ob
  obtain ⟨sts, lg, ls⟩ := x.lg
  obtain ⟨dxo, obo⟩ := lg.ob
  refine x.keep2 (fun y ys q => e _ _ (fun z => by rw [z, h] at q; cases q) q) fun y u hy q => e _ _ (fun z => ?_) q
  rcases hy with hy | hy | hy | hy
  · rw [hy] at z; rw [z, h] at ob; cases ob
  · rw [hy] at z; rw [z, h] at obo; cases obo
  · exact nq (hy.symm.trans z)
  · exact nd (by rw [← z]; exact hy)
end
def v0 : DV := ⟨fun _ => none, fun _ => none, fun _ => none, fun _ => [], fun _ => 0⟩
theorem door_new {CD CL CP : Addr} {n : Nat} {nm : List Str} {d dx o q a1 a2 a3 a4 : Addr} {ps : List (Addr × Addr)} {H0 H : Hp} (hn : n ≤ 16) (lg : LogA CL CP o q ps (List.replicate n ps0) H0) (hd : H0 d = none) (fr : ∀ b u, b ≠ d → H0 b = some u → H b = some u) (ob : H d = some (.ins CD dx (dF o a1 a2 a3 a4)))
    (he : H a1 = some (.dK []) ∧ H a2 = some (.dK []) ∧ H a3 = some (.dK []) ∧ H a4 = some (.dK [])) (hj : (a1 ≠ a2 ∧ a1 ≠ a3 ∧ a1 ≠ a4) ∧ a2 ≠ a3 ∧ a2 ≠ a4 ∧ a3 ≠ a4) : DoorA CD CL CP n nm ⟨d, o, q, a1, a2, a3, a4, ps⟩ v0 H := by
  obtain ⟨e1, e2, e3, e4⟩ := he
  have fr' : ∀ {b : Addr} {u : HO}, H0 b = some u → H b = some u := fun {b u} h => fr b u (fun z => by rw [z, hd] at h; cases h) h
  refine ⟨⟨dx, ob⟩, ⟨_, lg.keep (fun b C d fs h => fr' h) (fun b ys h => fr' h) fun b ys _ h => fr' h, ⟨List.length_replicate .., fun p st h => ?_, (fun p e h => nomatch h)⟩⟩, ⟨[], e1, .nil⟩, ⟨[], e2, .nil⟩, ⟨[], e3, .nil⟩, ⟨[], e4, .nil⟩, (fun n x h => nomatch h), hj, fun n h => absurd rfl h, fun n m _ h => absurd rfl h, fun hm => ?_, hn⟩
  · have := List.eq_of_mem_replicate (List.mem_of_getElem? h)
    rw [this]
    exact ⟨Nat.le_refl _, rfl⟩
  · obtain ⟨_, _, _, e⟩ := lg.insts hm
    rw [hd] at e; cases e
end KL9
set_option Elab.async false
set_option linter.all false
set_option maxRecDepth 100000
set_option maxHeartbeats 4000000
namespace KL9
open PySem PySem.Spec PyProof.Rows L2 KB KC KS KN1 LamX K7 Q9 R8 TK
abbrev nm3 : List Str := ["p", "q", "r"]
def Spots (H : Hp) : List Addr → List (Nat × Nat) → Prop := Paired fun t x => H t = some (.tup [.int ((x.1 : Nat) : Int), .int ((x.2 : Nat) : Int)])
theorem Spots.kt {H H' : Hp} {ts : List Addr} {xs : List (Nat × Nat)} (r : Spots H ts xs) (e : KT' H H') : Spots H' ts xs := KL9.paired_mono (fun _ _ h => e _ _ h) r
structure LA where
  (l1 l2 l3 fl rl rp dc : Addr)
def RLd (O : Addr → Prop) (many : Nat) (la : LA) (b : BA) (H : Hp) : Str → V → Dl → Prop := fun _ w x => ∃ l ts, w = .ref l ∧ H l = some (.lst (ts.map V.ref)) ∧ Spots H ts x.2.2 ∧ O l ∧ l ≠ la.fl ∧ l ≠ la.rl ∧ ¬ BR many b l
structure LwA (O : Addr → Prop) (many : Nat) (la : LA) (b : BA) (v : DV) (H : Hp) : Prop where
  o : (O la.l1 ∧ O la.l2 ∧ O la.l3 ∧ O la.fl ∧ O la.rl ∧ O la.rp) ∧ ∀ x, BR many b x → O x
  t1 : ∃ kvs, H la.l1 = some (.dK kvs) ∧ Tab nm3 kS RNat kvs v.ages
  t2 : ∃ kvs, H la.l2 = some (.dK kvs) ∧ Tab nm3 kS RNat kvs v.nums
  t3 : ∃ kvs, H la.l3 = some (.dK kvs) ∧ Tab nm3 kS (RLd O many la b H) kvs v.deals
  wr : WrA many b v.L (fun p i => wordOf (v.L p) i) H
  re : ∃ Lo, ReA many la.fl la.rl Lo H ∧ (∀ p, ∃ M, v.L p = Lo p ++ M) ∧ ∀ p, Marks (Lo p)
  ru : ∀ us, H la.rl = some (.lst us) → ∀ u, V.ref u ∈ us → O u ∧ ¬ BR many b u
  rp : H la.rp = some (.lst [.ref la.dc])
  dj : (la.l1 ≠ la.l2 ∧ la.l1 ≠ la.l3 ∧ la.l2 ≠ la.l3) ∧ (la.l1 ≠ b.wr ∧ la.l2 ≠ b.wr ∧ la.l3 ≠ b.wr) ∧ la.fl ≠ la.rl ∧ (¬ BR many b la.fl ∧ ¬ BR many b la.rl) ∧ la.rp ≠ la.fl ∧ la.rp ≠ la.rl ∧ ¬ BR many b la.rp
section
variable {O : Addr → Prop} {many : Nat} {la : LA} {b : BA} {v : DV} {H H' : Hp}
theorem LwA.keep (x : LwA O many la b v H) (k : KT' H H') (h : ∀ y u, O y → (∀ ps, u ≠ .tbl ps) → H y = some u → H' y = some u) : LwA O many la b v H' := by
  obtain ⟨⟨o1, o2, o3, o4, o5, o6⟩, o7⟩ := x.o
  obtain ⟨k1, g1, t1⟩ := x.t1
  obtain ⟨k2, g2, t2⟩ := x.t2
  obtain ⟨k3, g3, t3⟩ := x.t3
  obtain ⟨Lo, re, c1, c2⟩ := x.re
  obtain ⟨us, r1, r2, r3⟩ := re.r
  refine ⟨x.o, ⟨k1, h _ _ o1 (by intro _ z; cases z) g1, t1⟩, ⟨k2, h _ _ o2 (by intro _ z; cases z) g2, t2⟩, ⟨k3, h _ _ o3 (by intro _ z; cases z) g3, t3.mono fun n w y _ ⟨l, ts, q1, q2, q3, q4, q5⟩ => ⟨l, ts, q1, h _ _ q4 (by intro _ z; cases z) q2, q3.kt k, q4, q5⟩⟩, x.wr.keep k fun y u hy hu => h y u (o7 y hy) (fun ps z => by
    rcases x.wr.kind hy with ⟨_, q⟩ | ⟨_, q⟩ <;> rw [q, z] at hu <;> cases hu) hu, ⟨Lo, ⟨h _ _ o4 (by intro _ z; cases z) re.f, us, h _ _ o5 (by intro _ z; cases z) r1, r2, fun p u hu => ?_⟩, c1, c2⟩, fun us' hus u hu => ?_, h _ _ o6 (by intro _ z; cases z) x.rp, x.dj⟩
  · obtain ⟨n1, n2, ts, q1, q2⟩ := r3 p u hu
    exact ⟨n1, n2, ts, h _ _ (x.ru _ r1 u (List.mem_map_of_mem (List.mem_of_getElem? hu))).1 (by intro _ z; cases z) q1, q2.kt k⟩
  · have := h _ _ o5 (by intro _ z; cases z) r1
    rw [this] at hus
    cases hus
    exact x.ru _ r1 u hu
theorem LwA.ex (x : LwA O many la b v H) (e : KS.Ex H H') : LwA O many la b v H' := x.keep (kt_of e) fun _ _ _ _ h => e _ _ h
theorem LwA.kinds (x : LwA O many la b v H) : ∃ k1 k2 k3, H la.l1 = some (.dK k1) ∧ H la.l2 = some (.dK k2) ∧ H la.l3 = some (.dK k3) := by
  obtain ⟨k1, g1, _⟩ := x.t1
  obtain ⟨k2, g2, _⟩ := x.t2
  obtain ⟨k3, g3, _⟩ := x.t3
  exact ⟨k1, k2, k3, g1, g2, g3⟩
theorem LwA.updK (x : LwA O many la b v H) {l : Addr} {kvs kvs' : List (Key × V)} (hl : H l = some (.dK kvs)) (nw : l ≠ b.wr) : WrA many b v.L (fun p i => wordOf (v.L p) i) (upd H l (.dK kvs')) ∧ (∃ Lo, ReA many la.fl la.rl Lo (upd H l (.dK kvs')) ∧ (∀ p, ∃ M, v.L p = Lo p ++ M) ∧ ∀ p, Marks (Lo p)) ∧ (∀ us, (upd H l (.dK kvs')) la.rl = some (.lst us) → ∀ u, V.ref u ∈ us → O u ∧ ¬ BR many b u) ∧ (upd H l (.dK kvs')) la.rp = some (.lst [.ref la.dc]) ∧ KT' H (upd H l (.dK kvs')) ∧ ∀ n w y, RLd O many la b H n w y → RLd O many la b (upd H l (.dK kvs')) n w y := by
  have lst : ∀ {y : Addr} {ys : List V}, H y = some (.lst ys) → (upd H l (.dK kvs')) y = some (.lst ys) := fun {y ys} h => by rw [L2.upd_ne (fun z => by rw [z, hl] at h; cases h)]; exact h
  have kt : KT' H (upd H l (.dK kvs')) := fun y ys h => by rw [L2.upd_ne (fun z => by rw [z, hl] at h; cases h)]; exact h
  obtain ⟨Lo, re, c1, c2⟩ := x.re
  obtain ⟨us, r1, r2, r3⟩ := re.r
  refine ⟨x.wr.keep kt fun y u hy h => ?_, ⟨Lo, ⟨lst re.f, us, lst r1, r2, fun p u hu => ?_⟩, c1, c2⟩, fun us' hus => ?_, lst x.rp, kt, fun n w y ⟨l', ts, q1, q2, q3, q4⟩ => ⟨l', ts, q1, lst q2, q3.kt kt, q4⟩⟩
  · rw [L2.upd_ne]
    · exact h
    · intro z
      rcases hy with hy | ⟨p, hp, hy⟩ | ⟨p, i, hp, hy⟩
      · exact nw (z.symm.trans hy)
      · have := x.wr.ls p hp
        rw [← hy, z, hl] at this; cases this
      · obtain ⟨ev, _, ra⟩ := x.wr.row hp hy
        obtain ⟨_, _, _, e⟩ := ra.lst
        rw [z, hl] at e; cases e
  · obtain ⟨n1, n2, ts, q1, q2⟩ := r3 p u hu
    exact ⟨n1, n2, ts, lst q1, q2.kt kt⟩
  · have := lst r1
    rw [this] at hus
    cases hus
    exact x.ru _ r1
theorem LwA.age (x : LwA O many la b v H) {n : Str} {m : Nat} {k1 : List (Key × V)} (hn : n ∈ nm3) (g1 : H la.l1 = some (.dK k1)) (t1 : Tab nm3 kS RNat k1 v.ages) : LwA O many la b { v with ages := Q9.putF v.ages n (some m) } (upd H la.l1 (.dK (putK k1 (kS n) (.int (m : Int))))) := by
  obtain ⟨⟨j12, j13, j23⟩, ⟨w1, w2, w3⟩, d⟩ := x.dj
  obtain ⟨k2, g2, t2⟩ := x.t2
  obtain ⟨k3, g3, t3⟩ := x.t3
  obtain ⟨u1, u2, u3, u4, u5, u6⟩ := x.updK (kvs' := putK k1 (kS n) (.int (m : Int))) g1 w1
  exact ⟨x.o, ⟨_, upd_same, t1.put kS_inj hn rfl fun _ _ _ _ _ h => h⟩, ⟨k2, by rw [L2.upd_ne j12.symm]; exact g2, t2⟩, ⟨k3, by rw [L2.upd_ne j13.symm]; exact g3, t3.mono fun n w y _ h => u6 n w y h⟩, u1, u2, u3, u4, ⟨⟨j12, j13, j23⟩, ⟨w1, w2, w3⟩, d⟩⟩
theorem LwA.num (x : LwA O many la b v H) {n : Str} {m : Nat} {k2 : List (Key × V)} (hn : n ∈ nm3) (g2 : H la.l2 = some (.dK k2)) (t2 : Tab nm3 kS RNat k2 v.nums) : LwA O many la b { v with nums := Q9.putF v.nums n (some m) } (upd H la.l2 (.dK (putK k2 (kS n) (.int (m : Int))))) := by
  obtain ⟨⟨j12, j13, j23⟩, ⟨w1, w2, w3⟩, d⟩ := x.dj
  obtain ⟨k1, g1, t1⟩ := x.t1
  obtain ⟨k3, g3, t3⟩ := x.t3
  obtain ⟨u1, u2, u3, u4, u5, u6⟩ := x.updK (kvs' := putK k2 (kS n) (.int (m : Int))) g2 w2
  exact ⟨x.o, ⟨k1, by rw [L2.upd_ne j12]; exact g1, t1⟩, ⟨_, upd_same, t2.put kS_inj hn rfl fun _ _ _ _ _ h => h⟩, ⟨k3, by rw [L2.upd_ne j23.symm]; exact g3, t3.mono fun n w y _ h => u6 n w y h⟩, u1, u2, u3, u4, ⟨⟨j12, j13, j23⟩, ⟨w1, w2, w3⟩, d⟩⟩
theorem LwA.deal (x : LwA O many la b v H) {n : Str} {y : Dl} {l : Addr} {k3 : List (Key × V)} (hn : n ∈ nm3) (g3 : H la.l3 = some (.dK k3)) (t3 : Tab nm3 kS (RLd O many la b H) k3 v.deals) (hr : RLd O many la b H n (.ref l) y) : LwA O many la b { v with deals := Q9.putF v.deals n (some y) } (upd H la.l3 (.dK (putK k3 (kS n) (.ref l)))) := by
  obtain ⟨⟨j12, j13, j23⟩, ⟨w1, w2, w3⟩, d⟩ := x.dj
  obtain ⟨k1, g1, t1⟩ := x.t1
  obtain ⟨k2, g2, t2⟩ := x.t2
  obtain ⟨u1, u2, u3, u4, u5, u6⟩ := x.updK (kvs' := putK k3 (kS n) (.ref l)) g3 w3
  exact ⟨x.o, ⟨k1, by rw [L2.upd_ne j13]; exact g1, t1⟩, ⟨k2, by rw [L2.upd_ne j23]; exact g2, t2⟩, ⟨_, upd_same, t3.put kS_inj hn (u6 n _ _ hr) fun j w z _ _ h => u6 j w z h⟩, u1, u2, u3, u4, ⟨⟨j12, j13, j23⟩, ⟨w1, w2, w3⟩, d⟩⟩
theorem LwA.gone (x : LwA O many la b v H) {n : Str} {k3 : List (Key × V)} (g3 : H la.l3 = some (.dK k3)) (t3 : Tab nm3 kS (RLd O many la b H) k3 v.deals) : LwA O many la b { v with deals := Q9.putF v.deals n none } (upd H la.l3 (.dK (dropK k3 (kS n)))) := by
  obtain ⟨⟨j12, j13, j23⟩, ⟨w1, w2, w3⟩, d⟩ := x.dj
  obtain ⟨k1, g1, t1⟩ := x.t1
  obtain ⟨k2, g2, t2⟩ := x.t2
  obtain ⟨u1, u2, u3, u4, u5, u6⟩ := x.updK (kvs' := dropK k3 (kS n)) g3 w3
  exact ⟨x.o, ⟨k1, by rw [L2.upd_ne j13]; exact g1, t1⟩, ⟨k2, by rw [L2.upd_ne j23]; exact g2, t2⟩, ⟨_, upd_same, t3.drop kS_inj fun j w z _ _ h => u6 j w z h⟩, u1, u2, u3, u4, ⟨⟨j12, j13, j23⟩, ⟨w1, w2, w3⟩, d⟩⟩
theorem LwA.own (x : LwA O many la b v H) {O' : Addr → Prop} (h : ∀ y, O y → O' y) : LwA O' many la b v H := by
  obtain ⟨⟨o1, o2, o3, o4, o5, o6⟩, o7⟩ := x.o
  obtain ⟨k3, g3, t3⟩ := x.t3
  exact ⟨⟨⟨h _ o1, h _ o2, h _ o3, h _ o4, h _ o5, h _ o6⟩, fun y hy => h _ (o7 y hy)⟩, x.t1, x.t2, ⟨k3, g3, t3.mono fun n w y _ ⟨l, ts, q1, q2, q3, q4, q5⟩ => ⟨l, ts, q1, q2, q3, h _ q4, q5⟩⟩, x.wr, x.re, fun us hus u hu => ⟨h _ (x.ru us hus u hu).1, (x.ru us hus u hu).2⟩, x.rp, x.dj⟩
end
structure IL (CD CL CP Ps Pn Pl : Addr) (many : Nat) (a : DA) (la : LA) (O : Addr → Prop) (b : BA) (v : DV) (i : Nat) (H : Hp) : Prop where
  st : St Ps Pn Pl la.dc H
  dr : DoorA CD CL CP many nm3 a v H
  g : Good many v.nums v.deals v.L
  lw : LwA O many la b v H
  ow : ∀ x, O x → ¬ DR a v x ∧ x ≠ a.q ∧ x ≠ la.dc ∧ H x ≠ none ∧ ∀ ps, H x ≠ some (.tbl ps)
  nd : ¬ DR a v la.dc ∧ a.q ≠ la.dc
  bd : (∀ p, (v.L p).length ≤ i) ∧ (∀ n g, v.ages n = some g → g ≤ i) ∧ (∀ n c, v.nums n = some c → c ≤ i) ∧ ∀ n x, v.deals n = some x → x.1 ≤ i
  pl : ∀ p, Plain (v.L p)
  hm : 0 < many ∧ many ≤ 3
section
variable {CD CL CP Ps Pn Pl : Addr} {many : Nat} {a : DA} {la : LA} {O : Addr → Prop} {b : BA} {v : DV} {i : Nat} {H H' : Hp}
theorem IL.kp (x : IL CD CL CP Ps Pn Pl many a la O b v i H) (s : St Ps Pn Pl la.dc H') (e : Kp la.dc H H') : IL CD CL CP Ps Pn Pl many a la O b v i H' := by
  have kt := e.kt x.st.dice
  obtain ⟨c1, c2, c3, hd⟩ := x.st.dice
  have nt : ∀ {y : Addr} {u : HO}, Own a v y → H y = some u → (∀ ps, u ≠ .tbl ps) := fun {y u} hy h ps z => by
    obtain ⟨dx, ob⟩ := x.dr.ob
    obtain ⟨sts, lg, ls⟩ := x.dr.lg
    obtain ⟨dxo, obo⟩ := lg.ob
    have ql := lg.ql
    rcases hy with hy | hy | hy | hy
    · rw [hy, ob, z] at h; cases h
    · rw [hy, obo, z] at h; cases h
    · rw [hy, ql, z] at h; cases h
    · rcases x.dr.kind hy with ⟨_, _, _, q⟩ | ⟨_, q⟩ | ⟨_, q⟩ <;> rw [q, z] at h <;> cases h
  have nd : ∀ {y : Addr} {u : HO}, Own a v y → H y = some u → y ≠ la.dc := fun {y u} hy h z => by
    obtain ⟨dx, ob⟩ := x.dr.ob
    obtain ⟨sts, lg, ls⟩ := x.dr.lg
    obtain ⟨dxo, obo⟩ := lg.ob
    rcases hy with hy | hy | hy | hy
    · rw [← hy, z, hd] at ob; cases ob
    · rw [← hy, z, hd] at obo; cases obo
    · exact x.nd.2 (hy.symm.trans z)
    · exact x.nd.1 (by rw [← z]; exact hy)
  refine ⟨s, x.dr.keep2 kt fun y u hy h => e _ _ (nd hy h) h (nt hy h), x.g, x.lw.keep kt fun y u hy ht h => e _ _ (x.ow y hy).2.2.1 h ht, fun y hy => ?_, x.nd, x.bd, x.pl, x.hm⟩
  obtain ⟨n1, n2, n3, n4, n5⟩ := x.ow y hy
  refine ⟨n1, n2, n3, ?_⟩
  cases q : H y with
  | none => exact absurd q n4
  | some u =>
    have := e _ _ n3 q fun ps z => n5 ps (by rw [q, z])
    rw [this]
    exact ⟨by simp, fun ps z => n5 ps (by rw [q, ← z])⟩
theorem IL.ex (x : IL CD CL CP Ps Pn Pl many a la O b v i H) (e : KS.Ex H H') : IL CD CL CP Ps Pn Pl many a la O b v i H' := x.kp (x.st.ex e) (Kp.of e)
theorem IL.exD (x : IL CD CL CP Ps Pn Pl many a la O b v i H) (e : ExD la.dc H H') (d : IsDice H' la.dc) : IL CD CL CP Ps Pn Pl many a la O b v i H' := x.kp (x.st.exD e d) (Kp.exD e)
theorem IL.exN (x : IL CD CL CP Ps Pn Pl many a la O b v i H) (e : ExtN H H') (t : Tabs (TT Ps Pn Pl) H') : IL CD CL CP Ps Pn Pl many a la O b v i H' := x.kp (x.st.exN e t) (Kp.exN e)
theorem IL.tb (x : IL CD CL CP Ps Pn Pl many a la O b v i H) (ap : Apt Ps Pn Pl) (e : Tb Ps H H') : IL CD CL CP Ps Pn Pl many a la O b v i H' := x.kp (x.st.tb ap e) (Kp.tb x.st.ts e)
theorem IL.door (x : IL CD CL CP Ps Pn Pl many a la O b v i H) {v' : DV} (ap : Apt Ps Pn Pl) (f : FrD Ps a v H H') (gr : Grow a v v' H) : St Ps Pn Pl la.dc H' ∧ LwA O many la b v H' ∧ (∀ y, O y → ¬ DR a v' y ∧ y ≠ a.q ∧ y ≠ la.dc ∧ H' y ≠ none ∧ ∀ ps, H' y ≠ some (.tbl ps)) ∧ ¬ DR a v' la.dc := by
  obtain ⟨tb, hP, _⟩ := id x.st.ts
  have kpO : ∀ {y : Addr} {u : HO}, O y → H y = some u → H' y = some u := fun {y u} hy h => f.2 y u (fun z => by
    obtain ⟨_, _, _, _, n5⟩ := x.ow y hy
    exact n5 tb (by rw [z]; exact hP)) (x.ow y hy).1 h
  refine ⟨x.st.frD ap x.dr f x.nd.1, x.lw.keep (f.kt x.dr x.st.ts) fun y u hy _ h => kpO hy h, fun y hy => ?_, fun z => ?_⟩
  · obtain ⟨n1, n2, n3, n4, n5⟩ := x.ow y hy
    refine ⟨fun z => ?_, n2, n3, ?_⟩
    · rcases gr y z with q | q
      · exact n1 q
      · exact n4 q
    · cases q : H y with
      | none => exact absurd q n4
      | some u =>
        rw [kpO hy q]
        exact ⟨by simp, fun ps z => n5 ps (by rw [q, ← z])⟩
  · obtain ⟨_, _, _, h⟩ := x.st.dice
    rcases gr _ z with q | q
    · exact x.nd.1 q
    · rw [h] at q; cases q
end
end KL9
set_option Elab.async false
set_option linter.all false
set_option maxRecDepth 100000
set_option maxHeartbeats 4000000
namespace KL9
open PySem PySem.Spec PyProof.Rows L2 KB KC KS KN1 LamX K7 Q9 R8 TK
abbrev nLaw : List Str := ["script", "dice", "log", "door", "many", "ages", "numbers", "deals", "written", "firm", "read", "k", "step", "sort", "name", "age", "right", "ends", "good", "key", "row", "part", "keeps", "place", "one"]
theorem scLaw : FnScope nLaw ["script"] (defScope sLaw) := ⟨rfl, rfl, rfl, by decide +kernel, rfl, by decide +kernel, by decide +kernel⟩
def ifBody : Stmt → List Stmt
  | .If _ b _ _ => b
  | _ => []
def ifElse : Stmt → List Stmt
  | .If _ _ e _ => e
  | _ => []
abbrev law0 : List Stmt := forBody ((defBody sLaw).getD 0 pS)
abbrev lS (i : Nat) : Stmt := law0.getD i pS
abbrev dBody : List Stmt := forBody (lS 4)
abbrev dS (i : Nat) : Stmt := dBody.getD i pS
abbrev entB : List Stmt := ifBody (dS 4)
abbrev rest1 : Stmt := (ifElse (dS 4)).getD 0 pS
abbrev begB : List Stmt := ifBody rest1
abbrev rest2 : Stmt := (ifElse rest1).getD 0 pS
abbrev addB : List Stmt := ifBody rest2
abbrev endB : List Stmt := ifElse rest2
theorem lens_ok : dBody.length = 7 ∧ entB.length = 3 ∧ begB.length = 3 ∧ addB.length = 4 ∧ endB.length = 4 := by decide +kernel
abbrev xLaw (P : Program) (w : World) (K : PySem.W.Frag) (mg : Str → Option Value) (base : Heap) (fL cL : Addr) (A : Around) (outer : List PySem.Env) (s : Shared) (H0 : Hp) (E0' : XK) : Cx := (cxOf CX0 P w K mg base nLaw "law" (defScope sLaw) fL (.ref cL) A outer s H0 E0').nox
def nmOf (r : Nat) : Str := nm3.getD r "p"
theorem nmOf_mem {r : Nat} (h : r < 3) : nmOf r ∈ nm3 := by
  have : r = 0 ∨ r = 1 ∨ r = 2 := by omega
  rcases this with rfl | rfl | rfl <;> decide +kernel
theorem pqr_at {r : Nat} (h : r < 3) : ∃ c, atI ("pqr" : Str).cps.toList (r : Int) = some c ∧ (⟨#[c]⟩ : Str) = nmOf r := by
  have : r = 0 ∨ r = 1 ∨ r = 2 := by omega
  rcases this with rfl | rfl | rfl
  · exact ⟨112, by decide +kernel, by decide +kernel⟩
  · exact ⟨113, by decide +kernel, by decide +kernel⟩
  · exact ⟨114, by decide +kernel, by decide +kernel⟩
theorem nm_ok : ∀ n ∈ nm3, n.length ≤ 900 ∧ badT n = false ∧ n.cps.toList.length = 1 := by decide +kernel
section
variable {P : Program} {w : World} {K : PySem.W.Frag} {mg : Str → Option Value} {base : Heap} {CP CL CD CG CR Ps Pn Pl cN cL fTo fL : Addr} {fdTo : FuncData} {A : Around} {outer : List PySem.Env} {s : Shared} {H0 : Hp} {E0' : XK}
theorem g_draw (ve : LawE P w K mg base CP CL CD CG CR Ps Pn Pl cN cL fTo fdTo) (hr : Room 14 (xLaw P w K mg base fL cL A outer s H0 E0').A) :
    ∃ t0 t1 t2 t3, L2.PS (xLaw P w K mg base fL cL A outer s H0 E0') (dS 0) t0 ∧ L2.PS (xLaw P w K mg base fL cL A outer s H0 E0') (dS 1) t1 ∧ L2.PS (xLaw P w K mg base fL cL A outer s H0 E0') (dS 2) t2 ∧ L2.PS (xLaw P w K mg base fL cL A outer s H0 E0') (dS 3) t3 ∧
      ∀ (D : Ends) (H : Hp) (many : Nat) (a : DA) (la : LA) (O : Addr → Prop) (b : BA) (v : DV) (i : Nat) (tr : TS) (a0 u11 u12 u13 u14 u15 u16 u17 u18 u19 u20 u21 u22 u23 u24 : Option V) (mv : V), IL CD CL CP Ps Pn Pl many a la O b v i H →
      (∀ (H' : Hp) (so : Int) (n : Str) (g : Int), 0 ≤ so → so < 10 → n ∈ nm3 → IL CD CL CP Ps Pn Pl many a la O b v i H' →
        tr D [a0, some (.ref la.dc), some (.ref a.o), some (.ref a.d), some mv, some (.ref la.l1), some (.ref la.l2), some (.ref la.l3), some (.ref b.wr), some (.ref la.fl), some (.ref la.rl), u11, u12, some (.int so), some (.str n), some (.int g), some (.bl (decide ((v.ages n).map (fun z => (z : Int)) = some g))), some .non, u18, u19, u20, u21, u22, u23, u24] H') →
      tSeq t0 (tSeq t1 (tSeq t2 (tSeq t3 tr))) D [a0, some (.ref la.dc), some (.ref a.o), some (.ref a.d), some mv, some (.ref la.l1), some (.ref la.l2), some (.ref la.l3), some (.ref b.wr), some (.ref la.fl), some (.ref la.rl), u11, u12, u13, u14, u15, u16, u17, u18, u19, u20, u21, u22, u23, u24] H := by
  obtain ⟨fR, fdR, GR, gR, kR, bR⟩ := ve.roll
  have hu := hr.units
  have hu1 := Nat.lt_trans (Nat.add_lt_add_left (by decide : 1 < 64) _) hu
  refine ⟨_, _, _, _, ps_asg (pe_tup (pa_cons (pe_call GR (hr.mono (by decide)) (by rfl) gR kR bR .nil pass0 (pa_cons (pv 1) (pa_cons pe_int pa_nil))) (pa_cons (pe_ix ix_str pe_str (pe_call GR (hr.mono (by decide)) (by rfl) gR kR bR .nil pass0 (pa_cons (pv 1) (pa_cons pe_int pa_nil))) (fun _ _ => rfl)) pa_nil))) (pg_tup rfl (pgs_cons (pg_name (i := 13) scLaw.nd rfl (Or.inl rfl)) (pgs_cons (pg_name (i := 14) scLaw.nd rfl (Or.inr rfl)) pgs_nil))),
    ps_set (i := 15) scLaw.nd rfl (Or.inr rfl) (pe_op op_sub (pe_dget2 hu1 (pv 5) (pv 14) pe_int ⟨rfl, rfl, rfl, rfl⟩) (pe_callTy call_int1 (by rfl) ve.T.int (by decide +kernel) (pa_cons (pe_cmpR op_eq (pe_call GR (hr.mono (by decide)) (by rfl) gR kR bR .nil pass0 (pa_cons (pv 1) (pa_cons pe_int pa_nil))) pe_int (nomark _)) pa_nil))),
    ps_set (i := 16) scLaw.nd rfl (Or.inl rfl) (pe_and (pe_cmp (pc_din hu1 (pv 14) (pv 5))) (pe_one (pe_cmpR op_eq (pv 15) (pe_dget hu1 (pv 5) (pv 14) (fun _ _ => rfl)) (nomark _)))),
    ps_set (i := 17) scLaw.nd rfl (Or.inl rfl) pe_non, ?_⟩
  intro D H many a la O b v i tr a0 u11 u12 u13 u14 u15 u16 u17 u18 u19 u20 u21 u22 u23 u24 mv y fin
  refine ⟨_, rfl, roll_step y.st.dice (by decide) (by decide) fun so H1 so0 so1 e1 i1 => ?_⟩
  have y1 := y.exD e1 i1
  refine ⟨_, rfl, roll_step y1.st.dice (by decide) (by decide) fun r H2 r0 r1 e2 i2 => ?_⟩
  have y2 := y1.exD e2 i2
  obtain ⟨rn, rfl⟩ : ∃ rn : Nat, r = (rn : Int) := ⟨r.toNat, by omega⟩
  obtain ⟨c, hc, hcn⟩ := pqr_at (r := rn) (by omega)
  refine ⟨_, _, c, rfl, rfl, by decide, hc, ?_⟩
  rw [hcn]
  have hn := nmOf_mem (r := rn) (by omega)
  generalize nmOf rn = n at hn
  refine ⟨(by show 2 ≤ sizeLine; decide), fun z hz => ⟨z, _, rfl, SqT.of upd_same, rfl, _, _, rfl, _, _, rfl, rfl, ?_⟩⟩
  have y3 := y2.ex (Ex.upd hz (o := .tup [.int so, .str n]))
  show tSeq _ _ _ [a0, some (.ref la.dc), some (.ref a.o), some (.ref a.d), some mv, some (.ref la.l1), some (.ref la.l2), some (.ref la.l3), some (.ref b.wr), some (.ref la.fl), some (.ref la.rl), u11, u12, some (.int so), some (.str n), u15, u16, u17, u18, u19, u20, u21, u22, u23, u24] (upd H2 z (.tup [.int so, .str n]))
  generalize upd H2 z (.tup [.int so, .str n]) = H3 at y3
  obtain ⟨k1, g1, t1⟩ := y3.lw.t1
  refine ⟨_, rfl, la.l1, rfl, .inl ⟨_, .inl g1⟩, _, rfl, _, DGet.k (k := kS n) g1, ?_⟩
  have hnum : (valV k1 (kS n)).getD (V.int 0) = .int (((v.ages n).getD 0 : Nat) : Int) := by
    cases q : v.ages n with
    | none => rw [t1.none q]; rfl
    | some z =>
      obtain ⟨u, h1, h2⟩ := t1.some q
      have h2 : u = .int (z : Int) := h2
      rw [h1, h2]; rfl
  rw [hnum]
  refine ⟨_, rfl, roll_step y3.st.dice (by decide) (by decide) fun r5 H4 q0 q1 e4 i4 => ⟨rfl, .inr ⟨_, rfl, _, _, rfl, rfl, ?_⟩⟩⟩
  have y4 := y3.exD e4 i4
  show tSeq _ _ _ [a0, some (.ref la.dc), some (.ref a.o), some (.ref a.d), some mv, some (.ref la.l1), some (.ref la.l2), some (.ref la.l3), some (.ref b.wr), some (.ref la.fl), some (.ref la.rl), u11, u12, some (.int so), some (.str n), some (.int ((((v.ages n).getD 0 : Nat) : Int) - (if decide (V.int r5 = V.int 0) = true then 1 else 0))), u16, u17, u18, u19, u20, u21, u22, u23, u24] H4
  generalize (((v.ages n).getD 0 : Nat) : Int) - (if decide (V.int r5 = V.int 0) = true then 1 else 0) = g
  obtain ⟨k1', g1', t1'⟩ := y4.lw.t1
  refine ⟨_, rfl, _, rfl, la.l1, _, rfl, DGet.k (k := kS n) g1', _, rfl, ?_⟩
  rw [t1'.isSome n]
  cases q : v.ages n with
  | none =>
    refine ifF (by simp) ?_
    have := fin H4 so n g so0 so1 hn y4
    rw [q] at this
    exact this
  | some z =>
    obtain ⟨u, h1, h2⟩ := t1'.some q
    have h2 : u = .int (z : Int) := h2
    subst h2
    refine ifT (by simp) ⟨_, rfl, _, rfl, _, rfl, la.l1, _, rfl, by rw [← h1]; exact DGet.k (k := kS n) g1', rfl, ?_⟩
    rw [eqI]
    have := fin H4 so n g so0 so1 hn y4
    rw [q] at this
    have e : decide (g = (z : Int)) = decide ((some z : Option Nat).map (fun z => (z : Int)) = some g) := by
      simp [eq_comm]
    rw [e]
    exact this
end
end KL9
set_option Elab.async false
set_option linter.all false
set_option maxRecDepth 100000
set_option maxHeartbeats 4000000
namespace KL9
open PySem PySem.Spec PyProof.Rows L2 KB KC KS KN1 LamX K7 Q9 R8 TK
theorem vlen_i {n : Nat} (h : n < 128) : (valL tabL (.inl (n : Int))).length = 2 := by rw [valL_int h]; rfl
theorem vlen_t {z : Str} (h : z.cps.toList.length = 1) : (valL tabL (.inr z)).length = 3 := by
  show (2 :: (natL z.cps.toList.length ++ z.cps.toList.map _)).length = 3
  rw [h, natL_small (by omega), List.length_cons, List.length_append, List.length_map, h]
  rfl
theorem okv_i {n : Nat} (h : n ≤ 1000) : OkV (.inl (n : Int)) := int_ok h
theorem okv_n {n : Str} (h : n ∈ nm3) : OkV (.inr n) := by
  obtain ⟨_, h2, h3⟩ := nm_ok n h
  exact ⟨h2, by omega⟩
theorem evok_mark {n : Str} {w a m : Nat} (hn : n ∈ nm3) (hw : w ≤ 100) (ha : a ≤ 100) (hm : m ≤ 100) : EvOk (Ev.mark w (n, a, m)) := by
  obtain ⟨_, _, h3⟩ := nm_ok n hn
  refine ⟨⟨fun y hy => ?_, fun y hy => ?_, by show 1 ≤ 20; decide, by show 4 ≤ 20; decide, ?_⟩, ?_⟩
  · rw [List.mem_singleton.mp hy]; exact okv_n hn
  · rcases List.mem_cons.mp hy with rfl | hy
    · exact okv_i (by omega)
    rcases List.mem_cons.mp hy with rfl | hy
    · exact okv_n hn
    rcases List.mem_cons.mp hy with rfl | hy
    · exact okv_i (by show a ≤ 1000; omega)
    rcases List.mem_cons.mp hy with rfl | hy
    · exact okv_i (by show m ≤ 1000; omega)
    · cases hy
  · show ((0 : Nat) : Int) < 2 ^ 2000
    decide +kernel
  · have hb : (bodyL (recE (Ev.mark w (n, a, m)))).length = 15 := by
      show ((natL 1 ++ (valL tabL (.inr n) ++ [])) ++ ((natL 4 ++ (valL tabL (.inl (w : Int)) ++ (valL tabL (.inr n) ++ (valL tabL (.inl (a : Int)) ++ (valL tabL (.inl (m : Int)) ++ []))))) ++ natL 0)).length = 15
      simp only [List.length_append, vlen_t h3, vlen_i (show w < 128 by omega), vlen_i (show a < 128 by omega), vlen_i (show m < 128 by omega), natL_small (show 1 < 128 by decide), natL_small (show 4 < 128 by decide), natL_small (show 0 < 128 by decide), List.length_cons, List.length_nil]
    show (natL (bodyL _).length ++ (bodyL _ ++ sumL (bodyL _))).length ≤ 100
    rw [List.length_append, List.length_append, sumL_len, hb, natL_small (by decide)]
    decide
theorem evok_add {n : Str} {k st a m : Nat} (hn : n ∈ nm3) (hk : k ≤ 100) (hs : st ≤ 100) (ha : a ≤ 100) (hm : m ≤ 100) : EvOk (Ev.add [.inl (k : Int)] ([.inl (st : Int)], st) (n, a, m)) := by
  obtain ⟨_, _, h3⟩ := nm_ok n hn
  refine ⟨⟨fun y hy => ?_, fun y hy => ?_, by show 1 ≤ 20; decide, by show 5 ≤ 20; decide, ?_⟩, ?_⟩
  · rw [List.mem_singleton.mp hy]; exact okv_i (by omega)
  · rcases List.mem_cons.mp hy with rfl | hy
    · exact okv_i (n := 0) (by omega)
    rcases List.mem_cons.mp hy with rfl | hy
    · exact okv_n hn
    rcases List.mem_cons.mp hy with rfl | hy
    · exact okv_i (by show a ≤ 1000; omega)
    rcases List.mem_cons.mp hy with rfl | hy
    · exact okv_i (by show m ≤ 1000; omega)
    rcases List.mem_cons.mp hy with rfl | hy
    · exact okv_i (by omega)
    · cases hy
  · have big : (101 : Int) < 2 ^ 2000 := by decide +kernel
    show ((st : Nat) : Int) < 2 ^ 2000
    omega
  · have hb : (bodyL (recE (Ev.add [.inl (k : Int)] ([.inl (st : Int)], st) (n, a, m)))).length = 16 := by
      show ((natL 1 ++ (valL tabL (.inl (k : Int)) ++ [])) ++ ((natL 5 ++ (valL tabL (.inl ((0 : Nat) : Int)) ++ (valL tabL (.inr n) ++ (valL tabL (.inl (a : Int)) ++ (valL tabL (.inl (m : Int)) ++ (valL tabL (.inl (st : Int)) ++ [])))))) ++ natL st)).length = 16
      simp only [List.length_append, vlen_t h3, vlen_i (show k < 128 by omega), vlen_i (show st < 128 by omega), vlen_i (show a < 128 by omega), vlen_i (show m < 128 by omega), vlen_i (show 0 < 128 by decide), natL_small (show 1 < 128 by decide), natL_small (show 5 < 128 by decide), natL_small (show st < 128 by omega), List.length_cons, List.length_nil]
    show (natL (bodyL _).length ++ (bodyL _ ++ sumL (bodyL _))).length ≤ 100
    rw [List.length_append, List.length_append, sumL_len, hb, natL_small (by decide)]
    decide
structure Sd (CD CL CP Ps Pn Pl : Addr) (many : Nat) (a : DA) (dc : Addr) (O : Addr → Prop) (v : DV) (H : Hp) : Prop where
  st : St Ps Pn Pl dc H
  dr : DoorA CD CL CP many nm3 a v H
  ow : ∀ y, O y → ¬ DR a v y ∧ y ≠ a.q ∧ y ≠ dc ∧ H y ≠ none ∧ ∀ ps, H y ≠ some (.tbl ps)
  nd : ¬ DR a v dc ∧ a.q ≠ dc
section
variable {CD CL CP Ps Pn Pl : Addr} {many : Nat} {a : DA} {la : LA} {dc : Addr} {O : Addr → Prop} {b : BA} {v : DV} {i : Nat} {H H' : Hp}
theorem IL.sd (x : IL CD CL CP Ps Pn Pl many a la O b v i H) : Sd CD CL CP Ps Pn Pl many a la.dc O v H := ⟨x.st, x.dr, x.ow, x.nd⟩
theorem Sd.wr (x : Sd CD CL CP Ps Pn Pl many a dc O v H) {l : Addr} {o u : HO} (hl : O l) (h : H l = some o) (n1 : ∀ ps, o ≠ .tbl ps) (n2 : ∀ φ, o ≠ .ext φ) (n3 : ∀ ys, o ≠ .tup ys) (n4 : ∀ C d fs, o ≠ .ins C d fs) (nu : ∀ ps, u ≠ .tbl ps) : Sd CD CL CP Ps Pn Pl many a dc O v (upd H l u) := by
  obtain ⟨m1, m2, m3, _, _⟩ := x.ow l hl
  have kt : KT' H (upd H l u) := fun y ys q => by rw [L2.upd_ne (fun z => by rw [z, h] at q; exact n3 _ (Option.some.inj q))]; exact q
  refine ⟨x.st.wr h n1 n2 m3, x.dr.keep2 kt fun y w hy q => ?_, fun y hy => ?_, x.nd⟩
  · rw [L2.upd_ne]
    · exact q
    · intro z
      subst z
      obtain ⟨dx, ob⟩ := x.dr.ob
      obtain ⟨sts, lg, ls⟩ := x.dr.lg
      obtain ⟨dxo, obo⟩ := lg.ob
      rcases hy with hy | hy | hy | hy
      · rw [hy, ob] at h; exact n4 _ _ _ (Option.some.inj h).symm
      · rw [hy, obo] at h; exact n4 _ _ _ (Option.some.inj h).symm
      · exact m2 hy
      · exact m1 hy
  · obtain ⟨k1, k2, k3, k4, k5⟩ := x.ow y hy
    refine ⟨k1, k2, k3, ?_⟩
    by_cases c : y = l
    · subst c; rw [upd_same]; exact ⟨by simp, fun ps z => nu ps (Option.some.inj z)⟩
    · rw [L2.upd_ne c]; exact ⟨k4, k5⟩
theorem Sd.ex (x : Sd CD CL CP Ps Pn Pl many a dc O v H) (e : KS.Ex H H') : Sd CD CL CP Ps Pn Pl many a dc O v H' := ⟨x.st.ex e, x.dr.ex e, fun y hy => by
  obtain ⟨k1, k2, k3, k4, k5⟩ := x.ow y hy
  refine ⟨k1, k2, k3, ?_⟩
  cases q : H y with
  | none => exact absurd q k4
  | some u =>
    rw [e _ _ q]
    exact ⟨by simp, fun ps z => k5 ps (by rw [q, ← z])⟩, x.nd⟩
theorem Sd.own (x : Sd CD CL CP Ps Pn Pl many a dc O v H) {z : Addr} {u : HO} (e : KS.Ex H H') (hz : H z = none) (hu : H' z = some u) (nu : ∀ ps, u ≠ .tbl ps) : Sd CD CL CP Ps Pn Pl many a dc (fun y => O y ∨ y = z) v H' := by
  have x' := x.ex e
  refine ⟨x'.st, x'.dr, fun y hy => ?_, x'.nd⟩
  rcases hy with hy | rfl
  · exact x'.ow y hy
  · refine ⟨fun q => x.dr.live (.inr (.inr (.inr q))) hz, fun q => x.dr.live (.inr (.inr (.inl q))) hz, fun q => ?_, by rw [hu]; simp, fun ps q => nu ps (by rw [hu] at q; exact Option.some.inj q)⟩
    obtain ⟨_, _, _, h⟩ := x.st.dice
    rw [q, h] at hz; cases hz
theorem IL.doorS (x : IL CD CL CP Ps Pn Pl many a la O b v i H) {v' : DV} (ap : Apt Ps Pn Pl) (f : FrD Ps a v H H') (gr : Grow a v v' H) (y : DoorA CD CL CP many nm3 a v' H') : Sd CD CL CP Ps Pn Pl many a la.dc O v' H' ∧ LwA O many la b v H' := by
  obtain ⟨s, l, o, n⟩ := x.door ap f gr
  exact ⟨⟨s, y, o, n, x.nd.2⟩, l⟩
end
structure EI (CD CL CP Ps Pn Pl : Addr) (many : Nat) (a : DA) (la : LA) (O : Addr → Prop) (b : BA) (vl v' : DV) (i : Nat) (n : Str) (w : Option Nat) (H : Hp) : Prop where
  sd : Sd CD CL CP Ps Pn Pl many a la.dc O v' H
  gl : Good many vl.nums vl.deals vl.L
  lw : LwA O many la b vl H
  rel : (w = none ∧ v'.ages = vl.ages ∧ v'.nums = vl.nums ∧ v'.deals = vl.deals ∧ v'.L = vl.L) ∨ ∃ x wd, w = some wd ∧ (wd = 1 ∨ wd = 2) ∧ vl.deals n = some x ∧ v'.ages = vl.ages ∧ v'.nums = vl.nums ∧ v'.deals = Q9.putF vl.deals n none ∧ v'.L = endF vl.L x.2.2 wd (n, x.1, x.2.1)
  bd : (∀ p, (v'.L p).length ≤ i) ∧ (∀ n g, v'.ages n = some g → g ≤ i) ∧ (∀ n c, v'.nums n = some c → c ≤ i) ∧ ∀ n x, v'.deals n = some x → x.1 ≤ i
  pl : ∀ p, Plain (v'.L p)
  hm : 0 < many ∧ many ≤ 3
  hn : n ∈ nm3
def wV : Option Nat → V
  | none => .non
  | some w => .str (wordS w)
theorem endF_len (L : Nat → List Ev) (pl : List (Nat × Nat)) (w : Nat) (d : Id) (p : Nat) : (endF L pl w d p).length ≤ (L p).length + 1 := by
  unfold endF
  split
  · rw [List.length_append]; exact Nat.le_refl _
  · omega
theorem endF_plain {L : Nat → List Ev} {pl : List (Nat × Nat)} {w : Nat} {d : Id} (h : ∀ p, Plain (L p)) (p : Nat) : Plain (endF L pl w d p) := fun k s d' hm => by
  unfold endF at hm
  split at hm
  · rcases List.mem_append.mp hm with q | q
    · exact h p k s d' q
    · cases List.mem_singleton.mp q
  · exact h p k s d' hm
section
variable {P : Program} {w : World} {K : PySem.W.Frag} {mg : Str → Option Value} {base : Heap} {CP CL CD CG CR Ps Pn Pl cN cL fTo fL : Addr} {fdTo : FuncData} {A : Around} {outer : List PySem.Env} {s : Shared} {H0 : Hp} {E0' : XK}
theorem g_enter (ve : LawE P w K mg base CP CL CD CG CR Ps Pn Pl cN cL fTo fdTo) (hr : Room 14 (xLaw P w K mg base fL cL A outer s H0 E0').A) :
    ∃ t0 t1 t2, L2.PS (xLaw P w K mg base fL cL A outer s H0 E0') (entB.getD 0 pS) t0 ∧ L2.PS (xLaw P w K mg base fL cL A outer s H0 E0') (entB.getD 1 pS) t1 ∧ L2.PS (xLaw P w K mg base fL cL A outer s H0 E0') (entB.getD 2 pS) t2 ∧
      ∀ (D : Ends) (H : Hp) (many : Nat) (a : DA) (la : LA) (O : Addr → Prop) (b : BA) (v : DV) (i : Nat) (n : Str) (a0 u11 u12 u13 u15 u16 u17 u18 u19 u20 u21 u22 u23 u24 : Option V) (mv : V), IL CD CL CP Ps Pn Pl many a la O b v i H → n ∈ nm3 → i ≤ 80 →
      (∀ (H' : Hp) (vl v' : DV) (wd : Option Nat), EI CD CL CP Ps Pn Pl many a la O b vl v' (i + 1) n wd H' →
        D.nx [a0, some (.ref la.dc), some (.ref a.o), some (.ref a.d), some mv, some (.ref la.l1), some (.ref la.l2), some (.ref la.l3), some (.ref b.wr), some (.ref la.fl), some (.ref la.rl), u11, u12, u13, some (.str n), u15, u16, some (wV wd), u18, u19, u20, u21, u22, u23, u24] H') →
      tSeq t0 (tSeq t1 t2) D [a0, some (.ref la.dc), some (.ref a.o), some (.ref a.d), some mv, some (.ref la.l1), some (.ref la.l2), some (.ref la.l3), some (.ref b.wr), some (.ref la.fl), some (.ref la.rl), u11, u12, u13, some (.str n), u15, u16, u17, u18, u19, u20, u21, u22, u23, u24] H := by
  obtain ⟨fE, fdE, GE, mE, bE⟩ := ve.enter
  have hu := hr.units
  have hu1 := Nat.lt_trans (Nat.add_lt_add_left (by decide : 1 < 64) _) hu
  have hz0 : sizeLine = 16777216 := rfl
  refine ⟨_, _, _, ps_set (i := 17) scLaw.nd rfl (Or.inl rfl) (pe_ifExp (pt_cmp (pc_din hu1 (pv 14) (pv 7))) pe_str pe_non),
    ps_if (pt_cmpR op_ne (pe_meth (pv 3) ve.TE.cl mE GE (hr.mono (by decide)) bE .nil pass0 (pa_cons (pv 14) pa_nil)) (pe_op op_add (pe_dget2 hu1 (pv 5) (pv 14) pe_int ⟨rfl, rfl, rfl, rfl⟩) pe_int) (nomark _)) (pss_one (ps_ret pe_bl)) pss_nil,
    ps_dput hu1 (pv 5) (pv 14) (pe_op op_add (pe_dget2 hu1 (pv 5) (pv 14) pe_int ⟨rfl, rfl, rfl, rfl⟩) pe_int) rfl, ?_⟩
  intro D H many a la O b v i n a0 u11 u12 u13 u15 u16 u17 u18 u19 u20 u21 u22 u23 u24 mv y hn hi fin
  obtain ⟨k3, g3, t3⟩ := y.lw.t3
  obtain ⟨dx, ob⟩ := y.dr.ob
  obtain ⟨bd1, bd2, bd3, bd4⟩ := y.bd
  obtain ⟨hL, hA, hN, hD⟩ := y.bd
  have ok2 : ∀ x, v.deals n = some x → EvOk (Ev.mark 2 (n, x.1, x.2.1)) := fun x hx => by
    have h1 := hD n x hx
    have h2 := hN _ _ (y.g.cur n x hx)
    exact evok_mark hn (by decide) (by omega) (by omega)
  have l90 : ∀ p, (v.L p).length < 90 := fun p => by have := hL p; omega
  refine ⟨_, rfl, _, rfl, la.l3, _, rfl, DGet.k (k := kS n) g3, _, rfl, ?_⟩
  rw [t3.isSome n]
  have tail : ∀ wd : Option Nat, (∀ H', Sd CD CL CP Ps Pn Pl many a la.dc O (entV v n) H' → LwA O many la b { v with ages := Q9.putF v.ages n (some ((v.ages n).getD 0 + 1)) } H' → EI CD CL CP Ps Pn Pl many a la O b { v with ages := Q9.putF v.ages n (some ((v.ages n).getD 0 + 1)) } (entV v n) (i + 1) n wd H') →
      tSeq (tIfS (tTest (tOp rNe (tMeth CD "enter" (spER CD CL CP Ps) [] E0 (tVar 3) (tCons (tVar 14) tNil)) (tOp (rI0 fun i j => V.int (i + j)) (tDGet2 (tVar 5) (tVar 14) (tC (.int 0))) (tC (.int 1))))) (tRet (tC (.bl false))) tNext) (sDPut (tVar 5) (tVar 14) (tOp (rI0 fun i j => V.int (i + j)) (tDGet2 (tVar 5) (tVar 14) (tC (.int 0))) (tC (.int 1)))) D [a0, some (.ref la.dc), some (.ref a.o), some (.ref a.d), some mv, some (.ref la.l1), some (.ref la.l2), some (.ref la.l3), some (.ref b.wr), some (.ref la.fl), some (.ref la.rl), u11, u12, u13, some (.str n), u15, u16, some (wV wd), u18, u19, u20, u21, u22, u23, u24] H := by
    intro wd mk
    have num : ∀ {k1 : List (Key × V)}, Tab nm3 kS RNat k1 v.ages → (valV k1 (kS n)).getD (V.int 0) = .int (((v.ages n).getD 0 : Nat) : Int) := fun {k1} t1 => by
      cases q : v.ages n with
      | none => rw [t1.none q]; rfl
      | some z =>
        obtain ⟨u, h1, h2⟩ := t1.some q
        have h2 : u = .int (z : Int) := h2
        rw [h1, h2]; rfl
    refine ⟨_, rfl, a.d, dx, _, rfl, ob, rfl, _, rfl, er_step y.dr y.st.ts (by decide) hn ok2 l90 fun H1 f1 gr x1 => ?_⟩
    obtain ⟨s1, lw1⟩ := y.doorS ve.ap f1 gr x1
    obtain ⟨k1, g1, t1⟩ := lw1.t1
    refine ⟨_, rfl, la.l1, rfl, .inl ⟨_, .inl g1⟩, _, rfl, _, DGet.k (k := kS n) g1, ?_⟩
    rw [num t1]
    refine ⟨_, _, rfl, rfl, rfl, ?_⟩
    refine ⟨_, rfl, ifF (by
      rw [show (((v.ages n).getD 0 + 1 : Nat) : Int) = (((v.ages n).getD 0 : Nat) : Int) + 1 by omega]
      simp) ?_⟩
    refine ⟨_, rfl, la.l1, rfl, .inl ⟨_, .inl g1⟩, _, rfl, _, DGet.k (k := kS n) g1, ?_⟩
    rw [num t1]
    refine ⟨_, _, rfl, rfl, ?_⟩
    dsimp only
    rw [show (((v.ages n).getD 0 : Nat) : Int) + 1 = (((v.ages n).getD 0 + 1 : Nat) : Int) by omega]
    refine ⟨_, rfl, _, rfl, la.l1, _, rfl, DPut.k (k := kS n) g1 (by have := t1.len; have h3 : nm3.length = 3 := rfl; omega), ?_⟩
    exact fin _ _ _ _ (mk _ (s1.wr lw1.o.1.1 g1 (fun _ z => nomatch z) (fun _ z => nomatch z) (fun _ z => nomatch z) (fun _ _ _ z => nomatch z) (fun _ z => nomatch z)) (lw1.age (m := (v.ages n).getD 0 + 1) hn g1 t1))
  have age_bd : ∀ n' g, (Q9.putF v.ages n (some ((v.ages n).getD 0 + 1))) n' = some g → g ≤ i + 1 := fun n' g h => by
    by_cases c : n' = n
    · subst c
      rw [putF_same] at h
      cases h
      cases q : v.ages n' with
      | none => show 0 + 1 ≤ _; omega
      | some z => have := hA _ _ q; show z + 1 ≤ _; omega
    · rw [putF_ne _ _ c] at h
      have := hA _ _ h; omega
  cases q : v.deals n with
  | none =>
    have ev : entV v n = agedV v n := by unfold entV; rw [q]
    rw [ev] at tail
    refine ifF (by simp) (tail none fun H' s l => ⟨s, y.g, l, .inl ⟨rfl, rfl, rfl, rfl, rfl⟩, ⟨fun p => Nat.le_succ_of_le (hL p), age_bd, fun n' c h => Nat.le_succ_of_le (hN _ _ h), fun n' x h => Nat.le_succ_of_le (hD _ _ h)⟩, y.pl, y.hm, hn⟩)
  | some dl =>
    have ev : entV v n = agedV (doneV v n dl 2) n := by unfold entV; rw [q]
    rw [ev] at tail
    refine ifT (by simp) (tail (some 2) fun H' s l => ⟨s, y.g, l, .inr ⟨dl, 2, rfl, .inr rfl, q, rfl, rfl, rfl, rfl⟩, ⟨fun p => ?_, age_bd, fun n' c h => Nat.le_succ_of_le (hN _ _ h), fun n' x h => ?_⟩, endF_plain y.pl, y.hm, hn⟩)
    · exact Nat.le_trans (endF_len v.L dl.2.2 2 (n, dl.1, dl.2.1) p) (Nat.succ_le_succ (hL p))
    · by_cases c : n' = n
      · subst c
        have h : Q9.putF v.deals n' none n' = some x := h
        rw [putF_same] at h; cases h
      · have h : Q9.putF v.deals n none n' = some x := h
        rw [putF_ne _ _ c] at h
        exact Nat.le_succ_of_le (hD _ _ h)
end
end KL9
set_option Elab.async false
set_option linter.all false
set_option maxRecDepth 100000
set_option maxHeartbeats 4000000
namespace KL9
open PySem PySem.Spec PyProof.Rows L2 KB KC KS KN1 LamX K7 Q9 R8 TK
theorem qLe : (Str.ofString "law" ++ Str.ofString ".<locals>.") ++ Str.ofString "<lambda>" = qL := by decide +kernel
section
variable {P : Program} {w : World} {K : PySem.W.Frag} {mg : Str → Option Value} {base : Heap} {CP CL CD CG CR Ps Pn Pl cN cL fTo fL : Addr} {fdTo : FuncData} {A : Around} {outer : List PySem.Env} {s : Shared} {H0 : Hp} {E0' : XK}
theorem and_step {r : Bool} {p : Prop} [Decidable p] {T : TE} {σ : L2.St} {H : Hp} {Q : VK} (h : ∀ G : Bool, (G = true ↔ r = true ∧ p) → Q (.bl G) H) (k : Q (.bl (decide p)) H → T σ H Q) : if r = true then T σ H Q else Q (.bl false) H := by
  cases r with
  | false => exact h false (by simp)
  | true => exact k (h _ (by simp))
theorem IL.ei {CD CL CP Ps Pn Pl : Addr} {many : Nat} {a : DA} {la : LA} {O : Addr → Prop} {b : BA} {v : DV} {i : Nat} {H : Hp} {n : Str} (x : IL CD CL CP Ps Pn Pl many a la O b v i H) (hn : n ∈ nm3) : EI CD CL CP Ps Pn Pl many a la O b v v (i + 1) n none H := by
  obtain ⟨hL, hA, hN, hD⟩ := x.bd
  exact ⟨x.sd, x.g, x.lw, .inl ⟨rfl, rfl, rfl, rfl, rfl⟩, ⟨fun p => Nat.le_succ_of_le (hL p), fun n g h => Nat.le_succ_of_le (hA n g h), fun n c h => Nat.le_succ_of_le (hN n c h), fun n z h => Nat.le_succ_of_le (hD n z h)⟩, x.pl, x.hm, hn⟩
theorem mem_Pl {Ps Pn Pl : Addr} : (Pl, (Str.ofString "law" ++ Str.ofString ".<locals>.") ++ Str.ofString "<lambda>") ∈ TT Ps Pn Pl := by rw [qLe]; exact List.mem_cons_of_mem _ (List.mem_cons_of_mem _ (List.mem_cons_self ..))
theorem only_Pl {Ps Pn Pl : Addr} (ap : Apt Ps Pn Pl) : ∀ p ∈ TT Ps Pn Pl, p.1 = Pl → p.2 = (Str.ofString "law" ++ Str.ofString ".<locals>.") ++ Str.ofString "<lambda>" := by
  rw [qLe]
  intro p hp e
  rcases List.mem_cons.mp hp with z | hp
  · rw [z] at e; exact absurd e ap.sl
  rcases List.mem_cons.mp hp with z | hp
  · rw [z] at e; exact absurd e ap.nl
  rcases List.mem_cons.mp hp with z | hp
  · rw [z]
  cases hp
theorem g_begin (ve : LawE P w K mg base CP CL CD CG CR Ps Pn Pl cN cL fTo fdTo) (hr : Room 14 (xLaw P w K mg base fL cL A outer s H0 E0').A) :
    ∃ t0 t1 t2, L2.PS (xLaw P w K mg base fL cL A outer s H0 E0') (begB.getD 0 pS) t0 ∧ L2.PS (xLaw P w K mg base fL cL A outer s H0 E0') (begB.getD 1 pS) t1 ∧ L2.PS (xLaw P w K mg base fL cL A outer s H0 E0') (begB.getD 2 pS) t2 ∧
      ∀ (D : Ends) (H : Hp) (many : Nat) (a : DA) (la : LA) (O : Addr → Prop) (b : BA) (v : DV) (i : Nat) (n : Str) (g : Int) (a0 u11 u12 u13 u18 u19 u20 u21 u22 u23 u24 : Option V) (mv : V), IL CD CL CP Ps Pn Pl many a la O b v i H → n ∈ nm3 → i ≤ 80 →
      (∀ (H' : Hp) (vl v' : DV) (O' : Addr → Prop) (x18 : Option V), EI CD CL CP Ps Pn Pl many a la O' b vl v' (i + 1) n none H' →
        D.nx [a0, some (.ref la.dc), some (.ref a.o), some (.ref a.d), some mv, some (.ref la.l1), some (.ref la.l2), some (.ref la.l3), some (.ref b.wr), some (.ref la.fl), some (.ref la.rl), u11, u12, u13, some (.str n), some (.int g), some (.bl (decide ((v.ages n).map (fun z => (z : Int)) = some g))), some .non, x18, u19, u20, u21, u22, u23, u24] H') →
      tSeq t0 (tSeq t1 t2) D [a0, some (.ref la.dc), some (.ref a.o), some (.ref a.d), some mv, some (.ref la.l1), some (.ref la.l2), some (.ref la.l3), some (.ref b.wr), some (.ref la.fl), some (.ref la.rl), u11, u12, u13, some (.str n), some (.int g), some (.bl (decide ((v.ages n).map (fun z => (z : Int)) = some g))), some .non, u18, u19, u20, u21, u22, u23, u24] H := by
  obtain ⟨fB, fdB, GB, mB, bB⟩ := ve.begin
  obtain ⟨oc, od, dV, kVs, doc, pm, an, cdv, ct, osl, rfl, lk, hcd, _, _⟩ := ve.told.ex
  have bTo := ve.told.bindsN (ps := ["what"]) fun _ _ _ _ _ _ us hl => match us, hl with | [_], _ => rfl
  have hu := hr.units
  have hu1 := Nat.lt_trans (Nat.add_lt_add_left (by decide : 1 < 64) _) hu
  have hz0 : sizeLine = 16777216 := rfl
  refine ⟨_, _, _, ps_set (i := 18) scLaw.nd rfl (Or.inl rfl) (pe_and (pv 16) (pe_one (pe_cmp (pc_dnotin hu1 (pv 14) (pv 7))))),
    ps_if (pt_cmpR op_ne (pe_lamcall (T := TT Ps Pn Pl) (P := Pl) (c := cL) (k := 12) (t := fun E => tMeth CD "begin" (spEB CD CL CP CG Ps) [] E (tVar 3) (tCons (tVar 14) (tCons (tVar 15) tNil))) (by rfl) ve.gTold ve.told.kp lk hcd bTo (Ng := ["what"]) (sg := defScope sTold) ⟨rfl, rfl, rfl, by decide +kernel, rfl, by decide +kernel, by decide +kernel⟩ rfl (Or.inl rfl)
        (told_gives (by rfl) ve.G.g (by decide +kernel) (fun f => rfl)) ve.TBl rfl mem_Pl (only_Pl ve.ap) hr (lamS_by (by show lamSB (defScope sLaw) _ = true; decide +kernel)) rfl (fun _ _ _ _ _ => rfl)
        (fun A outer s H E f c' hr' => pe_meth (pv 3) ve.TE.cl mB GB (hr'.mono (by decide)) bB .nil (passes_call (takes_of rfl rfl rfl rfl) (fun _ _ _ _ h => h)) (pa_cons (pv 14) (pa_cons (pv 15) pa_nil))))
      (pe_ifExp (pt_val (pv 18)) (pe_op op_add (pe_dget2 hu1 (pv 6) (pv 14) pe_int ⟨rfl, rfl, rfl, rfl⟩) pe_int) pe_str) (nomark _)) (pss_one (ps_ret pe_bl)) pss_nil,
    ps_if (pt_val (pv 18)) (pss_one (ps_asg (pe_tup (pa_cons (pe_op op_add (pe_dget2 hu1 (pv 6) (pv 14) pe_int ⟨rfl, rfl, rfl, rfl⟩) pe_int) (pa_cons (pe_lst pa_nil) pa_nil))) (pg_tup rfl (pgs_cons (pg_sub (pv 6) (pv 14) (set_dict hu1) (fun _ => rfl)) (pgs_cons (pg_sub (pv 7) (pv 14) (set_dict hu1) (fun _ => rfl)) pgs_nil))))) pss_nil, ?_⟩
  intro D H many a la O b v i n g a0 u11 u12 u13 u18 u19 u20 u21 u22 u23 u24 mv y hn hi fin
  obtain ⟨hL, hA, hN, hD⟩ := y.bd
  obtain ⟨nl, _, _⟩ := nm_ok n hn
  have num : ∀ {k2 : List (Key × V)}, Tab nm3 kS RNat k2 v.nums → (valV k2 (kS n)).getD (V.int 0) = .int (((v.nums n).getD 0 : Nat) : Int) := fun {k2} t2 => by
    cases q : v.nums n with
    | none => rw [t2.none q]; rfl
    | some z =>
      obtain ⟨u, h1, h2⟩ := t2.some q
      have h2 : u = .int (z : Int) := h2
      rw [h1, h2]; rfl
  obtain ⟨k3, g3, t3⟩ := y.lw.t3
  refine ⟨_, rfl, _, rfl, and_step (p := v.deals n = none) (fun G hG => ?_) fun q => ?_⟩
  · rw [decide_eq_true_eq] at hG
    refine ⟨y.st.tabs, fun H6 e6 t6 => ?_⟩
    have y6 := y.exN e6 t6
    obtain ⟨dx, ob⟩ := y6.dr.ob
    refine ⟨_, rfl, a.d, dx, _, rfl, ob, rfl, _, rfl, _, rfl, eb_step y6.dr y6.st.ts nl (by decide) hn (fun c => ⟨true, ve.G.e, fun _ => ?_, fun z => nomatch z⟩) fun gN hg hgN hd H7 iA fresh f7 gr x7 => ?_⟩
    · have : G = false := by
        cases G with
        | false => rfl
        | true => exact absurd (hG.mp rfl) c
      subst this
      refine ⟨_, rfl, _, rfl, ifF (by decide) ⟨rfl, _, rfl, ifF (by decide) ?_⟩⟩
      refine ⟨_, rfl, _, rfl, ifF (by decide) ?_⟩
      exact fin H6 v v O _ (y6.ei hn)
    · have : G = true := hG.mpr ⟨by rw [hg, hgN]; rfl, hd⟩
      subst this
      obtain ⟨s7, lw7⟩ := y6.doorS ve.ap f7 gr x7
      obtain ⟨k2, g2, t2⟩ := lw7.t2
      refine ⟨_, rfl, _, rfl, ifT rfl ⟨_, rfl, la.l2, rfl, .inl ⟨_, .inl g2⟩, _, rfl, _, DGet.k (k := kS n) g2, ?_⟩⟩
      rw [num t2]
      refine ⟨_, _, rfl, rfl, rfl, ?_⟩
      refine ⟨_, rfl, ifF (by
        rw [show (((v.nums n).getD 0 + 1 : Nat) : Int) = (((v.nums n).getD 0 : Nat) : Int) + 1 by omega]
        simp) ?_⟩
      refine ⟨_, rfl, _, rfl, ifT rfl ?_⟩
      refine ⟨_, rfl, la.l2, rfl, .inl ⟨_, .inl g2⟩, _, rfl, _, DGet.k (k := kS n) g2, ?_⟩
      rw [num t2]
      refine ⟨_, _, rfl, rfl, ?_⟩
      dsimp only
      rw [show (((v.nums n).getD 0 : Nat) : Int) + 1 = (((v.nums n).getD 0 + 1 : Nat) : Int) by omega]
      refine ⟨(by show 0 ≤ sizeLine; decide), fun z hz => ?_⟩
      have e8 : KS.Ex H7 (upd H7 z (.lst [])) := Ex.upd hz
      have hz8 : (upd H7 z (.lst [])) z = some (.lst (([] : List Addr).map V.ref)) := upd_same
      have s8 := s7.own e8 hz hz8 (fun _ z => nomatch z)
      have lw8 := (lw7.ex e8).own (O' := fun y => O y ∨ y = z) fun y h => .inl h
      have zn : z ≠ la.fl ∧ z ≠ la.rl ∧ ¬ BR many b z := by
        obtain ⟨⟨_, _, _, o4, o5, _⟩, o7⟩ := lw7.o
        exact ⟨fun c => (s7.ow _ o4).2.2.2.1 (by rw [← c]; exact hz), fun c => (s7.ow _ o5).2.2.2.1 (by rw [← c]; exact hz), fun c => (s7.ow _ (o7 _ c)).2.2.2.1 hz⟩
      refine ⟨(by show 2 ≤ sizeLine; decide), fun q hq => ?_⟩
      have e9 : KS.Ex (upd H7 z (.lst [])) (upd (upd H7 z (.lst [])) q (.tup [.int (((v.nums n).getD 0 + 1 : Nat) : Int), .ref z])) := Ex.upd hq
      have hq9 : (upd (upd H7 z (.lst [])) q (.tup [.int (((v.nums n).getD 0 + 1 : Nat) : Int), .ref z])) q = some (.tup [.int (((v.nums n).getD 0 + 1 : Nat) : Int), .ref z]) := upd_same
      have s9 := s8.ex e9
      have lw9 := lw8.ex e9
      have hz9 := e9 _ _ hz8
      refine ⟨q, _, rfl, SqT.of hq9, rfl, ?_⟩
      generalize upd (upd H7 z (.lst [])) q (.tup [.int (((v.nums n).getD 0 + 1 : Nat) : Int), .ref z]) = H9 at s9 lw9 hz9
      obtain ⟨k2', g2', t2'⟩ := lw9.t2
      refine ⟨_, _, rfl, _, rfl, _, rfl, la.l2, _, rfl, DPut.k (k := kS n) g2' (by have := t2'.len; have h3 : nm3.length = 3 := rfl; omega), ?_⟩
      have lw10 := lw9.num (m := (v.nums n).getD 0 + 1) hn g2' t2'
      have s10 := s9.wr lw9.o.1.2.1 g2' (u := .dK (putK k2' (kS n) (.int (((v.nums n).getD 0 + 1 : Nat) : Int)))) (fun _ z => nomatch z) (fun _ z => nomatch z) (fun _ z => nomatch z) (fun _ _ _ z => nomatch z) (fun _ z => nomatch z)
      have hz10 : (upd H9 la.l2 (.dK (putK k2' (kS n) (.int (((v.nums n).getD 0 + 1 : Nat) : Int))))) z = some (.lst (([] : List Addr).map V.ref)) := by
        rw [L2.upd_ne (fun c => by rw [c, g2'] at hz9; cases hz9)]; exact hz9
      generalize upd H9 la.l2 (.dK (putK k2' (kS n) (.int (((v.nums n).getD 0 + 1 : Nat) : Int)))) = H10 at lw10 s10 hz10
      obtain ⟨k3', g3', t3'⟩ := lw10.t3
      refine ⟨_, _, rfl, _, rfl, _, rfl, la.l3, _, rfl, DPut.k (k := kS n) g3' (by have := t3'.len; have h3 : nm3.length = 3 := rfl; omega), rfl, ?_⟩
      have lw11 := lw10.deal (y := (gN, (v.nums n).getD 0 + 1, [])) hn g3' t3' ⟨z, [], rfl, hz10, .nil, .inr rfl, zn⟩
      have s11 := s10.wr lw10.o.1.2.2.1 g3' (u := .dK (putK k3' (kS n) (.ref z))) (fun _ z => nomatch z) (fun _ z => nomatch z) (fun _ z => nomatch z) (fun _ _ _ z => nomatch z) (fun _ z => nomatch z)
      refine fin _ _ _ _ _ ⟨s11, y.g.begin hd, lw11, .inl ⟨rfl, rfl, rfl, rfl, rfl⟩, ⟨fun p => Nat.le_succ_of_le (hL p), fun n g h => Nat.le_succ_of_le (hA n g h), fun n' c h => ?_, fun n' x h => ?_⟩, y.pl, y.hm, hn⟩
      · by_cases c' : n' = n
        · subst c'
          have h : Q9.putF v.nums n' _ n' = some c := h
          rw [putF_same] at h
          cases h
          cases q : v.nums n' with
          | none => show 0 + 1 ≤ _; omega
          | some z => have := hN _ _ q; show z + 1 ≤ _; omega
        · have h : Q9.putF v.nums n _ n' = some c := h
          rw [putF_ne _ _ c'] at h
          exact Nat.le_succ_of_le (hN _ _ h)
      · by_cases c' : n' = n
        · subst c'
          have h : Q9.putF v.deals n' _ n' = some x := h
          rw [putF_same] at h
          cases h
          exact Nat.le_succ_of_le (hA _ _ hg)
        · have h : Q9.putF v.deals n _ n' = some x := h
          rw [putF_ne _ _ c'] at h
          exact Nat.le_succ_of_le (hD _ _ h)
  · refine ⟨_, rfl, _, rfl, la.l3, _, rfl, DGet.k (k := kS n) g3, ?_⟩
    rw [t3.isSome n, show (!(v.deals n).isSome) = decide (v.deals n = none) from by cases v.deals n <;> rfl]
    exact q
end
end KL9
set_option Elab.async false
set_option linter.all false
set_option maxRecDepth 100000
set_option maxHeartbeats 4000000
namespace KL9
open PySem PySem.Spec PyProof.Rows L2 KB KC KS KN1 LamX K7 Q9 R8 TK
structure LwR (O : Addr → Prop) (many : Nat) (la : LA) (b : BA) (v : DV) (H : Hp) : Prop where
  o : (O la.l1 ∧ O la.l2 ∧ O la.l3 ∧ O la.fl ∧ O la.rl ∧ O la.rp) ∧ ∀ x, BR many b x → O x
  t1 : ∃ kvs, H la.l1 = some (.dK kvs) ∧ Tab nm3 kS RNat kvs v.ages
  t2 : ∃ kvs, H la.l2 = some (.dK kvs) ∧ Tab nm3 kS RNat kvs v.nums
  t3 : ∃ kvs, H la.l3 = some (.dK kvs) ∧ Tab nm3 kS (RLd O many la b H) kvs v.deals
  re : ∃ Lo, ReA many la.fl la.rl Lo H ∧ (∀ p, ∃ M, v.L p = Lo p ++ M) ∧ ∀ p, Marks (Lo p)
  ru : ∀ us, H la.rl = some (.lst us) → ∀ u, V.ref u ∈ us → O u ∧ ¬ BR many b u
  rp : H la.rp = some (.lst [.ref la.dc])
  dj : (la.l1 ≠ la.l2 ∧ la.l1 ≠ la.l3 ∧ la.l2 ≠ la.l3) ∧ (la.l1 ≠ b.wr ∧ la.l2 ≠ b.wr ∧ la.l3 ≠ b.wr) ∧ la.fl ≠ la.rl ∧ (¬ BR many b la.fl ∧ ¬ BR many b la.rl) ∧ la.rp ≠ la.fl ∧ la.rp ≠ la.rl ∧ ¬ BR many b la.rp
  nb : ¬ BR many b la.l1 ∧ ¬ BR many b la.l2 ∧ ¬ BR many b la.l3
def BA.add (b : BA) (p : Nat) (r : Addr) : BA := ⟨b.wr, b.wl, fun q => if q = p then b.rws q ++ [r] else b.rws q⟩
theorem BR.add {many : Nat} {b : BA} {p : Nat} {r y : Addr} (h : BR many (b.add p r) y) : BR many b y ∨ y = r := by
  rcases h with h | ⟨q, hq, h⟩ | ⟨q, i, hq, h⟩
  · exact .inl (.inl h)
  · exact .inl (.inr (.inl ⟨q, hq, h⟩))
  · have h : (if q = p then b.rws q ++ [r] else b.rws q)[i]? = some y := h
    split at h
    · by_cases c : i < (b.rws q).length
      · rw [List.getElem?_append_left c] at h
        exact .inl (.inr (.inr ⟨q, i, hq, h⟩))
      · rw [List.getElem?_append_right (by omega)] at h
        exact .inr (List.mem_singleton.mp (List.mem_of_getElem? h))
    · exact .inl (.inr (.inr ⟨q, i, hq, h⟩))
section
variable {O : Addr → Prop} {many : Nat} {la : LA} {b : BA} {v : DV} {H H' : Hp}
theorem LwA.r (x : LwA O many la b v H) : LwR O many la b v H := by
  obtain ⟨k1, k2, k3, g1, g2, g3⟩ := x.kinds
  obtain ⟨_, ⟨w1, w2, w3⟩, _⟩ := x.dj
  have no : ∀ {l : Addr} {k : List (Key × V)}, H l = some (.dK k) → l ≠ b.wr → ¬ BR many b l := fun {l k} g n h => by
    rcases h with h | ⟨p, hp, h⟩ | ⟨p, i, hp, h⟩
    · exact n h
    · have := x.wr.ls p hp
      rw [← h, g] at this; cases this
    · obtain ⟨ev, _, ra⟩ := x.wr.row hp h
      obtain ⟨_, _, _, e⟩ := ra.lst
      rw [g] at e; cases e
  exact ⟨x.o, x.t1, x.t2, x.t3, x.re, x.ru, x.rp, x.dj, no g1 w1, no g2 w2, no g3 w3⟩
theorem LwR.a (x : LwR O many la b v H) (y : WrA many b v.L (fun p i => wordOf (v.L p) i) H) : LwA O many la b v H := ⟨x.o, x.t1, x.t2, x.t3, y, x.re, x.ru, x.rp, x.dj⟩
theorem LwR.keep (x : LwR O many la b v H) (k : KT' H H') (h : ∀ y u, O y → ¬ BR many b y → (∀ ps, u ≠ .tbl ps) → H y = some u → H' y = some u) : LwR O many la b v H' := by
  obtain ⟨⟨o1, o2, o3, o4, o5, o6⟩, o7⟩ := x.o
  obtain ⟨_, _, f1, ⟨f2, f3⟩, f4, f5, f6⟩ := x.dj
  obtain ⟨n1, n2, n3⟩ := x.nb
  obtain ⟨k1, g1, t1⟩ := x.t1
  obtain ⟨k2, g2, t2⟩ := x.t2
  obtain ⟨k3, g3, t3⟩ := x.t3
  obtain ⟨Lo, re, c1, c2⟩ := x.re
  obtain ⟨us, r1, r2, r3⟩ := re.r
  refine ⟨x.o, ⟨k1, h _ _ o1 n1 (by intro _ z; cases z) g1, t1⟩, ⟨k2, h _ _ o2 n2 (by intro _ z; cases z) g2, t2⟩, ⟨k3, h _ _ o3 n3 (by intro _ z; cases z) g3, t3.mono fun n w y _ ⟨l, ts, q1, q2, q3, q4, q5, q6, q7⟩ => ⟨l, ts, q1, h _ _ q4 q7 (by intro _ z; cases z) q2, q3.kt k, q4, q5, q6, q7⟩⟩, ⟨Lo, ⟨h _ _ o4 f2 (by intro _ z; cases z) re.f, us, h _ _ o5 f3 (by intro _ z; cases z) r1, r2, fun p u hu => ?_⟩, c1, c2⟩, fun us' hus u hu => ?_, h _ _ o6 f6 (by intro _ z; cases z) x.rp, x.dj, x.nb⟩
  · obtain ⟨m1, m2, ts, q1, q2⟩ := r3 p u hu
    obtain ⟨p1, p2⟩ := x.ru _ r1 u (List.mem_map_of_mem (List.mem_of_getElem? hu))
    exact ⟨m1, m2, ts, h _ _ p1 p2 (by intro _ z; cases z) q1, q2.kt k⟩
  · have := h _ _ o5 f3 (by intro _ z; cases z) r1
    rw [this] at hus
    cases hus
    exact x.ru _ r1 u hu
theorem LwR.ex (x : LwR O many la b v H) (e : KS.Ex H H') : LwR O many la b v H' := x.keep (kt_of e) fun _ _ _ _ _ h => e _ _ h
theorem LwR.br (x : LwR O many la b v H) {y : Addr} {ys : List V} {u : HO} (hy : BR many b y) (h : H y = some (.lst ys)) : LwR O many la b v (upd H y u) := x.keep (fun c zs q => by rw [L2.upd_ne (fun z => by rw [z, h] at q; cases q)]; exact q) fun c w _ nb _ q => by rw [L2.upd_ne (fun z => nb (by rw [z]; exact hy))]; exact q
theorem LwR.add (x : LwR O many la b v H) {p : Nat} {r : Addr} (hr : ¬ O r) : LwR (fun y => O y ∨ y = r) many la (b.add p r) v H := by
  obtain ⟨⟨o1, o2, o3, o4, o5, o6⟩, o7⟩ := x.o
  obtain ⟨j1, j2, f1, ⟨f2, f3⟩, f4, f5, f6⟩ := x.dj
  obtain ⟨n1, n2, n3⟩ := x.nb
  obtain ⟨k3, g3, t3⟩ := x.t3
  have nb : ∀ {y : Addr}, O y → ¬ BR many b y → ¬ BR many (b.add p r) y := fun {y} ho h z => by
    rcases z.add with z | z
    · exact h z
    · exact hr (by rw [← z]; exact ho)
  exact ⟨⟨⟨.inl o1, .inl o2, .inl o3, .inl o4, .inl o5, .inl o6⟩, fun y hy => hy.add.imp (o7 y) id⟩, x.t1, x.t2, ⟨k3, g3, t3.mono fun n w y _ ⟨l, ts, q1, q2, q3, q4, q5, q6, q7⟩ => ⟨l, ts, q1, q2, q3, .inl q4, q5, q6, nb q4 q7⟩⟩, x.re, fun us hus u hu => by
    obtain ⟨p1, p2⟩ := x.ru us hus u hu
    exact ⟨.inl p1, nb p1 p2⟩, x.rp, ⟨j1, j2, f1, ⟨nb o4 f2, nb o5 f3⟩, f4, f5, nb o6 f6⟩, ⟨nb o1 n1, nb o2 n2, nb o3 n3⟩⟩
theorem LwR.grow (x : LwR O many la b v H) {L' : Nat → List Ev} (h : ∀ p, ∃ M, L' p = v.L p ++ M) : LwR O many la b { v with L := L' } H := by
  obtain ⟨Lo, re, c1, c2⟩ := x.re
  exact ⟨x.o, x.t1, x.t2, x.t3, ⟨Lo, re, fun p => by
    obtain ⟨M, e⟩ := c1 p
    obtain ⟨M', e'⟩ := h p
    exact ⟨M ++ M', by rw [show (({ v with L := L' } : DV).L p) = L' p from rfl, e', e, List.append_assoc]⟩, c2⟩, x.ru, x.rp, x.dj, x.nb⟩
variable {L : Nat → List Ev} {wd : Nat → Nat → Str}
theorem WrA.wds (x : WrA many b L wd H) {wd' : Nat → Nat → Str} (h : ∀ p i, p < many → i < (L p).length → wd' p i = wd p i) : WrA many b L wd' H := ⟨x.dc, x.ls, x.len, fun p i r ev hp hr he => by
  rw [h p i hp (List.getElem?_eq_some_iff.mp he).1]
  exact x.rs p i r ev hp hr he, x.lj, x.rj⟩
theorem WrA.add (x : WrA many b L wd H) {p : Nat} {r : Addr} {e : Ev} {wd' : Nat → Nat → Str} {L' : Nat → List Ev} (hp : p < many) (hr : ¬ BR many b r) (hL : L' = setL L p (L p ++ [e])) (ra : RowAt H r e (wd' p (L p).length)) (hw : ∀ q i, q < many → i < (L q).length → wd' q i = wd q i) : WrA many (b.add p r) L' wd' (upd H (b.wl p) (.lst ((b.rws p).map V.ref ++ [.ref r]))) := by
  subst hL
  obtain ⟨kvs, h1, h2⟩ := x.dc
  have hl := x.ls p hp
  have kt : KT' H (upd H (b.wl p) (.lst ((b.rws p).map V.ref ++ [.ref r]))) := fun c zs q => by rw [L2.upd_ne (fun z => by rw [z, hl] at q; cases q)]; exact q
  have rne : r ≠ b.wl p := fun z => hr (.inr (.inl ⟨p, hp, z⟩))
  have row : ∀ {q i : Nat} {y : Addr}, (b.add p r).rws q = (if q = p then b.rws q ++ [r] else b.rws q) := fun {q i y} => rfl
  have get : ∀ {q i : Nat} {y : Addr}, ((b.add p r).rws q)[i]? = some y → (b.rws q)[i]? = some y ∨ (q = p ∧ i = (b.rws p).length ∧ y = r) := fun {q i y} h => by
    have h' : (if q = p then b.rws q ++ [r] else b.rws q)[i]? = some y := h
    clear h
    by_cases c0 : q = p
    · subst c0
      rw [if_pos rfl] at h'
      by_cases c : i < (b.rws q).length
      · rw [List.getElem?_append_left c] at h'
        exact .inl h'
      · rw [List.getElem?_append_right (by omega)] at h'
        have h2 := List.mem_singleton.mp (List.mem_of_getElem? h')
        have h3 := (List.getElem?_eq_some_iff.mp h').1
        rw [List.length_singleton] at h3
        exact .inr ⟨rfl, by omega, h2⟩
    · rw [if_neg c0] at h'
      exact .inl h'
  refine ⟨⟨kvs, by rw [L2.upd_ne (fun z => by
      have z : b.wr = b.wl p := z
      rw [← z, h1] at hl; cases hl)]; exact h1, h2⟩, fun q hq => ?_, fun q hq => ?_, fun q i y ev hq hy hev => ?_, x.lj, fun q i q' i' y hq hq' h3 h4 => ?_⟩
  · by_cases c : q = p
    · subst c
      show (upd H (b.wl q) _) (b.wl q) = some (.lst ((if q = q then b.rws q ++ [r] else b.rws q).map V.ref))
      rw [upd_same, if_pos rfl, List.map_append]; rfl
    · show (upd H (b.wl p) _) (b.wl q) = some (.lst ((if q = p then b.rws q ++ [r] else b.rws q).map V.ref))
      rw [L2.upd_ne (x.lj q p hq hp c), if_neg c]
      exact x.ls q hq
  · show (if q = p then b.rws q ++ [r] else b.rws q).length = (setL L p (L p ++ [e]) q).length
    by_cases c : q = p
    · subst c
      rw [if_pos rfl, setL_same, List.length_append, List.length_append, x.len q hq]; rfl
    · rw [if_neg c, setL_ne _ _ c]; exact x.len q hq
  · rcases get hy with h | ⟨rfl, h, rfl⟩
    · have hlt : i < (L q).length := by rw [← x.len q hq]; exact (List.getElem?_eq_some_iff.mp h).1
      have hev' : (L q)[i]? = some ev := by
        by_cases c : q = p
        · subst c
          rw [setL_same, List.getElem?_append_left hlt] at hev
          exact hev
        · rw [setL_ne _ _ c] at hev; exact hev
      rw [hw q i hq hlt]
      exact (x.rs q i y ev hq h hev').kt kt fun u hu => by rw [L2.upd_ne (x.lr hp hq h).symm]; exact hu
    · rw [x.len q hq] at h
      subst h
      rw [setL_same, List.getElem?_append_right (Nat.le_refl _), Nat.sub_self] at hev
      cases hev
      exact ra.kt kt fun u hu => by rw [L2.upd_ne rne]; exact hu
  · rcases get h3 with h3 | ⟨a1, a2, a3⟩
    · rcases get h4 with h4 | ⟨b1, b2, b3⟩
      · exact x.rj q i q' i' y hq hq' h3 h4
      · exact absurd (.inr (.inr ⟨q, i, hq, by rw [← b3]; exact h3⟩)) hr
    · rcases get h4 with h4 | ⟨b1, b2, b3⟩
      · exact absurd (.inr (.inr ⟨q', i', hq', by rw [← a3]; exact h4⟩)) hr
      · exact ⟨a1.trans b1.symm, a2.trans b2.symm⟩
theorem WrA.setW (x : WrA many b L wd H) {p i : Nat} {r : Addr} {a1 a2 a3 : V} {wd' : Nat → Nat → Str} (hp : p < many) (hr : (b.rws p)[i]? = some r) (h : H r = some (.lst [a1, a2, a3, .str (wd p i)])) (hw : ∀ q j, (q ≠ p ∨ j ≠ i) → wd' q j = wd q j) : WrA many b L wd' (upd H r (.lst [a1, a2, a3, .str (wd' p i)])) := by
  obtain ⟨kvs, h1, h2⟩ := x.dc
  have kt : KT' H (upd H r (.lst [a1, a2, a3, .str (wd' p i)])) := fun c zs q => by rw [L2.upd_ne (fun z => by rw [z, h] at q; cases q)]; exact q
  refine ⟨⟨kvs, by rw [L2.upd_ne (fun z => by rw [z, h] at h1; cases h1)]; exact h1, h2⟩, fun q hq => by rw [L2.upd_ne (x.lr hq hp hr)]; exact x.ls q hq, x.len, fun q j y ev hq hy hev => ?_, x.lj, x.rj⟩
  by_cases c : q = p ∧ j = i
  · obtain ⟨rfl, rfl⟩ := c
    rw [hr] at hy
    cases hy
    refine (x.rs q j r ev hq hr hev).set kt fun b1 b2 b3 hb => ?_
    rw [h] at hb
    cases hb
    exact upd_same
  · rw [hw q j (by
      by_cases c1 : q = p
      · exact .inr fun c2 => c ⟨c1, c2⟩
      · exact .inl c1)]
    refine (x.rs q j y ev hq hy hev).kt kt fun u hu => ?_
    rw [L2.upd_ne]
    · exact hu
    · intro z
      subst z
      exact c (x.rj q j p i y hq hp hy hr)
end
end KL9
set_option Elab.async false
set_option linter.all false
set_option maxRecDepth 100000
set_option maxHeartbeats 4000000
namespace KL9
open PySem PySem.Spec PyProof.Rows L2 KB KC KS KN1 LamX K7 Q9 R8 TK
section
variable {P : Program} {w : World} {K : PySem.W.Frag} {mg : Str → Option Value} {base : Heap} {CP CL CD CG CR Ps Pn Pl cN cL fTo fL : Addr} {fdTo : FuncData} {A : Around} {outer : List PySem.Env} {s : Shared} {H0 : Hp} {E0' : XK}
theorem paired_snoc9 {α β : Type} {R : α → β → Prop} {a : α} {b : β} (h : R a b) : ∀ {l : List α} {m : List β}, Paired R l m → Paired R (l ++ [a]) (m ++ [b])
  | _, _, .nil => .cons h .nil
  | _, _, .cons x r => .cons x (paired_snoc9 h r)
theorem few_recs {many : Nat} {nums : Str → Option Nat} {deals : Str → Option Dl} {L : Nat → List Ev} (g : Good many nums deals L) (hm : many ≤ 3) {i : Nat} (hL : ∀ p, (L p).length ≤ i) (hi : i ≤ 80) {n : Str} {x : Dl} (h : deals n = some x) : x.2.2.length ≤ 1000 := by
  have := nodup_len' (l := x.2.2) (m := (List.range 3).flatMap fun q => (List.range 80).map fun j => (q, j)) ((g.asc n x h).imp fun h1 z => by
    subst z
    exact absurd (h1 rfl) (Nat.lt_irrefl _)) fun y hy => by
    obtain ⟨q, j⟩ := y
    obtain ⟨hq, _, _, hj⟩ := (g.at_ n x h q j).mp hy
    have h1 := (List.getElem?_eq_some_iff.mp hj).1
    have h2 := hL q
    exact List.mem_flatMap.mpr ⟨q, List.mem_range.mpr (by omega), List.mem_map.mpr ⟨j, List.mem_range.mpr (by omega), rfl⟩⟩
  have e : ((List.range 3).flatMap fun q => (List.range 80).map fun j => (q, j)).length = 240 := by decide +kernel
  omega
theorem smp_i2 (l : List Int) : Smp 1 (iD l) := .tup fun x hx => by
  obtain ⟨k, _, rfl⟩ := List.mem_map.mp hx
  exact .int k
theorem g_add (ve : LawE P w K mg base CP CL CD CG CR Ps Pn Pl cN cL fTo fdTo) (hr : Room 14 (xLaw P w K mg base fL cL A outer s H0 E0').A) :
    ∃ t0 t1 t2 t3, L2.PS (xLaw P w K mg base fL cL A outer s H0 E0') (addB.getD 0 pS) t0 ∧ L2.PS (xLaw P w K mg base fL cL A outer s H0 E0') (addB.getD 1 pS) t1 ∧ L2.PS (xLaw P w K mg base fL cL A outer s H0 E0') (addB.getD 2 pS) t2 ∧ L2.PS (xLaw P w K mg base fL cL A outer s H0 E0') (addB.getD 3 pS) t3 ∧
      ∀ (D : Ends) (H : Hp) (many : Nat) (a : DA) (la : LA) (O : Addr → Prop) (b : BA) (v : DV) (i : Nat) (n : Str) (g : Int) (a0 u11 u13 u18 u19 u20 u21 u22 u23 u24 : Option V), IL CD CL CP Ps Pn Pl many a la O b v i H → n ∈ nm3 → i ≤ 80 →
      (∀ (H' : Hp) (vl v' : DV) (O' : Addr → Prop) (b' : BA) (x18 x19 x20 x21 : Option V), b'.wr = b.wr → EI CD CL CP Ps Pn Pl many a la O' b' vl v' (i + 1) n none H' →
        D.nx [a0, some (.ref la.dc), some (.ref a.o), some (.ref a.d), some (.int (many : Int)), some (.ref la.l1), some (.ref la.l2), some (.ref la.l3), some (.ref b.wr), some (.ref la.fl), some (.ref la.rl), u11, some (.int (i : Int)), u13, some (.str n), some (.int g), some (.bl (decide ((v.ages n).map (fun z => (z : Int)) = some g))), some .non, x18, x19, x20, x21, u22, u23, u24] H') →
      tSeq t0 (tSeq t1 (tSeq t2 t3)) D [a0, some (.ref la.dc), some (.ref a.o), some (.ref a.d), some (.int (many : Int)), some (.ref la.l1), some (.ref la.l2), some (.ref la.l3), some (.ref b.wr), some (.ref la.fl), some (.ref la.rl), u11, some (.int (i : Int)), u13, some (.str n), some (.int g), some (.bl (decide ((v.ages n).map (fun z => (z : Int)) = some g))), some .non, u18, u19, u20, u21, u22, u23, u24] H := by
  obtain ⟨fR, fdR, GR, gR, kR, bR⟩ := ve.roll
  obtain ⟨fH, fdH, GH, gH, kH, bH⟩ := ve.hash
  obtain ⟨fA, fdA, GA, mA, bA⟩ := ve.add
  obtain ⟨oc, od, dV, kVs, doc, pm, an, cdv, ct, osl, rfl, lk, hcd, _, _⟩ := ve.told.ex
  have bTo := ve.told.bindsN (ps := ["what"]) fun _ _ _ _ _ _ us hl => match us, hl with | [_], _ => rfl
  have hu := hr.units
  have hu1 := Nat.lt_trans (Nat.add_lt_add_left (by decide : 1 < 64) _) hu
  have hz0 : sizeLine = 16777216 := rfl
  refine ⟨_, _, _, _, ps_asg (pe_tup (pa_cons (pe_tup (pa_cons (pe_call GR (hr.mono (by decide)) (by rfl) gR kR bR .nil pass0 (pa_cons (pv 1) (pa_cons pe_int pa_nil))) pa_nil)) (pa_cons (pe_tup (pa_cons (pv 12) pa_nil)) (pa_cons (pe_and (pv 16) (pe_one (pe_cmp (pc_din hu1 (pv 14) (pv 7))))) pa_nil))))
      (pg_tup rfl (pgs_cons (pg_name (i := 19) scLaw.nd rfl (Or.inr rfl)) (pgs_cons (pg_name (i := 20) scLaw.nd rfl (Or.inr rfl)) (pgs_cons (pg_name (i := 18) scLaw.nd rfl (Or.inl rfl)) pgs_nil)))),
    ps_set (i := 21) scLaw.nd rfl (Or.inl rfl) (pe_op op_mod (pe_call GH (hr.mono (by decide)) (by rfl) gH kH bH (E := fun _ _ _ => False) .nil (passes_call L2.takes0 (fun _ _ _ _ h => h)) (pa_cons (pv 19) pa_nil)) (pv 4)),
    ps_if (pt_cmpR (op_neD hu) (pe_lamcall (T := TT Ps Pn Pl) (P := Pl) (c := cL) (k := 12) (t := fun E => tMeth CD "add" (spEA CD CL CP CG Ps) [] E (tVar 3) (tCons (tVar 14) (tCons (tVar 15) (tCons (tVar 19) (tCons (tVar 20) (tCons (tVar 12) tNil)))))) (by rfl) ve.gTold ve.told.kp lk hcd bTo (Ng := ["what"]) (sg := defScope sTold) ⟨rfl, rfl, rfl, by decide +kernel, rfl, by decide +kernel, by decide +kernel⟩ rfl (Or.inl rfl)
        (told_gives (by rfl) ve.G.g (by decide +kernel) (fun f => rfl)) ve.TBl rfl mem_Pl (only_Pl ve.ap) hr (lamS_by (by show lamSB (defScope sLaw) _ = true; decide +kernel)) rfl (fun _ _ _ _ _ => rfl)
        (fun A outer s H E f c' hr' => pe_meth (pv 3) ve.TE.cl mA GA (hr'.mono (by decide)) bA .nil (passes_call (takes_of rfl rfl rfl rfl) (fun _ _ _ _ h => h)) (pa_cons (pv 14) (pa_cons (pv 15) (pa_cons (pv 19) (pa_cons (pv 20) (pa_cons (pv 12) pa_nil)))))))
      (pe_ifExp (pt_val (pv 18)) (pe_tup (pa_cons (pv 21) (pa_cons (pe_callB call_len_seq (by rfl) ve.T.len (by decide +kernel) (pa_cons (pe_dget hu1 (pv 8) (pv 21) (fun _ _ => rfl)) pa_nil)) pa_nil))) pe_str) (nomark _)) (pss_one (ps_ret pe_bl)) pss_nil,
    ps_if (pt_val (pv 18)) (pss_cons (ps_dput hu1 (pv 7) (pv 14) (pe_op op_cat (pe_dget hu1 (pv 7) (pv 14) (fun _ _ => rfl)) (pe_lst (pa_cons (pe_tup (pa_cons (pv 21) (pa_cons (pe_callB call_len_seq (by rfl) ve.T.len (by decide +kernel) (pa_cons (pe_dget hu1 (pv 8) (pv 21) (fun _ _ => rfl)) pa_nil)) pa_nil))) pa_nil))) rfl)
      (pss_one (ps_expr (pe_bm PySem.F.plainAttrs_list PySem.F.slot_list_append PySem.F.type_list_append mt_append (pe_dget hu1 (pv 8) (pv 21) (fun _ _ => rfl)) (pa_cons (pe_lst (pa_cons (pv 19) (pa_cons (pv 20) (pa_cons (pv 12) (pa_cons pe_str pa_nil))))) pa_nil))))) pss_nil, ?_⟩
  intro D H many a la O b v i n g a0 u11 u13 u18 u19 u20 u21 u22 u23 u24 y hn hi fin
  obtain ⟨hL, hA, hN, hD⟩ := y.bd
  obtain ⟨nl, _, _⟩ := nm_ok n hn
  obtain ⟨hm0, hm3⟩ := y.hm
  refine ⟨_, rfl, roll_step y.st.dice (by decide) (by decide) fun r H1 r0 r1 e1 i1 => ?_⟩
  have y1 := y.exD e1 i1
  obtain ⟨k, rfl⟩ : ∃ k : Nat, r = (k : Int) := ⟨r.toNat, by omega⟩
  refine ⟨(by show 1 ≤ sizeLine; decide), fun ka hka => ?_⟩
  have e2 : KS.Ex H1 (upd H1 ka (.tup [.int (k : Int)])) := Ex.upd hka
  have hka2 : (upd H1 ka (.tup [.int (k : Int)])) ka = some (.tup (([.inl (k : Int)] : List Key).map kV)) := upd_same
  have y2 := y1.ex e2
  refine ⟨_, rfl, (by show 1 ≤ sizeLine; decide), fun ra hra => ?_⟩
  have e3 : KS.Ex (upd H1 ka (.tup [.int (k : Int)])) (upd (upd H1 ka (.tup [.int (k : Int)])) ra (.tup [.int (i : Int)])) := Ex.upd hra
  have hra3 : (upd (upd H1 ka (.tup [.int (k : Int)])) ra (.tup [.int (i : Int)])) ra = some (.tup (([.inl (i : Int)] : List Key).map kV)) := upd_same
  have y3 := y2.ex e3
  have hka3 := e3 _ _ hka2
  generalize upd (upd H1 ka (.tup [.int (k : Int)])) ra (.tup [.int (i : Int)]) = H3 at y3 hka3 hra3
  obtain ⟨k3, g3, t3⟩ := y3.lw.t3
  refine ⟨_, rfl, _, rfl, and_step (p := v.deals n ≠ none) (fun G hG => ?_) fun q => ?_⟩
  · rw [decide_eq_true_eq] at hG
    refine ⟨(by show 3 ≤ sizeLine; decide), fun T hT => ?_⟩
    have e4 : KS.Ex H3 (upd H3 T (.tup [.ref ka, .ref ra, .bl G])) := Ex.upd hT
    have hT4 : (upd H3 T (.tup [.ref ka, .ref ra, .bl G])) T = some (.tup [.ref ka, .ref ra, .bl G]) := upd_same
    refine ⟨T, _, rfl, SqT.of hT4, rfl, _, _, rfl, _, _, rfl, _, _, rfl, rfl, ?_⟩
    have y4 := y3.ex e4
    have hka4 := e4 _ _ hka3
    have hra4 := e4 _ _ hra3
    show tSeq _ _ _ [a0, some (.ref la.dc), some (.ref a.o), some (.ref a.d), some (.int (many : Int)), some (.ref la.l1), some (.ref la.l2), some (.ref la.l3), some (.ref b.wr), some (.ref la.fl), some (.ref la.rl), u11, some (.int (i : Int)), u13, some (.str n), some (.int g), some (.bl (decide ((v.ages n).map (fun z => (z : Int)) = some g))), some .non, some (.bl G), some (.ref ka), some (.ref ra), u21, u22, u23, u24] (upd H3 T (.tup [.ref ka, .ref ra, .bl G]))
    generalize upd H3 T (.tup [.ref ka, .ref ra, .bl G]) = H4 at y4 hka4 hra4
    refine ⟨_, rfl, hash_step hka4 (fun z hz => by rw [List.mem_singleton.mp hz]; exact okv_i (by omega)) (by show 1 ≤ 25; decide) y4.st.ts fun H5 tb5 => ?_⟩
    have y5 := y4.tb ve.ap tb5
    have kt5 := kt_tb y4.st.ts tb5
    have hka5 := kt5 _ _ hka4
    have hra5 := kt5 _ _ hra4
    have hnk := numK_eq (k := ([.inl (k : Int)] : List Key)) (n := many) hm0
    refine ⟨_, rfl, _, _, rfl, rfl, (by show (0 : Int) < _; omega), ?_⟩
    show tSeq _ _ _ [a0, some (.ref la.dc), some (.ref a.o), some (.ref a.d), some (.int (many : Int)), some (.ref la.l1), some (.ref la.l2), some (.ref la.l3), some (.ref b.wr), some (.ref la.fl), some (.ref la.rl), u11, some (.int (i : Int)), u13, some (.str n), some (.int g), some (.bl (decide ((v.ages n).map (fun z => (z : Int)) = some g))), some .non, some (.bl G), some (.ref ka), some (.ref ra), some (.int (hashL (rowL tabL [.inl (k : Int)]) % (many : Int))), u22, u23, u24] H5
    rw [hnk.1]
    refine ⟨y5.st.tabs, fun H6 e6 t6 => ?_⟩
    have y6 := y5.exN e6 t6
    have hka6 := e6 _ _ hka5 (fun _ z => nomatch z)
    have hra6 := e6 _ _ hra5 (fun _ z => nomatch z)
    obtain ⟨dx, ob⟩ := y6.dr.ob
    refine ⟨_, rfl, a.d, dx, _, rfl, ob, rfl, _, rfl, _, rfl, _, rfl, _, rfl, _, rfl, ea_step (kk := [.inl (k : Int)]) (rr := [.inl (i : Int)]) (t := i) y6.dr y6.st.ts nl hm0 hka6 hra6 (by show 1 ≤ 1000; decide) (fun x hx _ => ?_) (fun p => by have := hL p; omega) (fun c => ⟨true, ve.G.e, fun _ => ?_, fun z => nomatch z⟩) fun dl hd hg _ H7 z f7 gr x7 hz7 => ?_⟩
    · have h1 := hD n x hx
      have h2 := hN _ _ (y.g.cur n x hx)
      exact evok_add hn (by omega) (by omega) (by omega) (by omega)
    · have : G = false := by
        cases G with
        | false => rfl
        | true => exact absurd ⟨(hG.mp rfl).1, (hG.mp rfl).2, by show 1 ≤ 16; decide⟩ c
      subst this
      refine ⟨_, rfl, _, rfl, ifF (by decide) ?_⟩
      unfold tC
      dsimp only
      refine ne_same (.str _) (.str _) (Smp.str (n := 0) (by decide +kernel)) (by decide) ⟨_, rfl, ifF (by decide) ?_⟩
      refine ⟨_, rfl, _, rfl, ifF (by decide) ?_⟩
      exact fin H6 v v O b _ _ _ _ rfl (y6.ei hn)
    · have : G = true := hG.mpr ⟨hg, by rw [hd]; simp⟩
      subst this
      obtain ⟨s7, lw7⟩ := y6.doorS ve.ap f7 gr x7
      generalize numK [.inl (k : Int)] many = p at hnk s7 hz7
      obtain ⟨hp1, hp⟩ := hnk
      have hls7 := lw7.wr.ls p hp
      have hln7 := lw7.wr.len p hp
      obtain ⟨kw, w1, w2⟩ := lw7.wr.get hp
      refine ⟨_, rfl, _, rfl, ifT rfl ⟨_, rfl, _, rfl, _, rfl, b.wr, _, rfl, by rw [← w2]; exact DGet.k (k := kN p) w1, b.wl p, _, rfl, .inl (SqL.of hls7), (by show 2 ≤ sizeLine; decide), fun T hT => ?_⟩⟩
      have e8 : KS.Ex H7 (upd H7 T (.tup [.int ((p : Nat) : Int), .int ((((b.rws p).map V.ref).length : Nat) : Int)])) := Ex.upd hT
      have hT8 : (upd H7 T (.tup [.int ((p : Nat) : Int), .int ((((b.rws p).map V.ref).length : Nat) : Int)])) T = some (.tup (([((p : Nat) : Int), (((v.L p).length : Nat) : Int)] : List Int).map V.int)) := by
        rw [upd_same, List.length_map, hln7]; rfl
      have s8 := s7.ex e8
      have lw8 := lw7.ex e8
      generalize upd H7 T (.tup [.int ((p : Nat) : Int), .int ((((b.rws p).map V.ref).length : Nat) : Int)]) = H8 at e8 hT8 s8 lw8
      refine ne_same (dp_i (show H8 z = some (.tup (([((p : Nat) : Int), (((v.L p).length : Nat) : Int)] : List Int).map V.int)) from e8 _ _ hz7)) (dp_i hT8) (smp_i2 _) (by decide) ⟨_, rfl, ifF (by decide) ?_⟩
      refine ⟨_, rfl, _, rfl, ifT rfl ?_⟩
      obtain ⟨k38, g38, t38⟩ := lw8.t3
      obtain ⟨w8, q1, l8, ts, rfl, q2, q3, q4, q5⟩ := t38.some hd
      have hls8 := lw8.wr.ls p hp
      obtain ⟨kw8, w18, w28⟩ := lw8.wr.get hp
      refine ⟨_, rfl, _, rfl, la.l3, _, rfl, by rw [← q1]; exact DGet.k (k := kS n) g38, ?_⟩
      refine ⟨_, rfl, _, rfl, _, rfl, b.wr, _, rfl, by rw [← w28]; exact DGet.k (k := kN p) w18, b.wl p, _, rfl, .inl (SqL.of hls8), (by show 2 ≤ sizeLine; decide), fun T2 hT2 => ?_⟩
      rw [List.length_map, hln7]
      have e9 : KS.Ex H8 (upd H8 T2 (.tup [.int ((p : Nat) : Int), .int (((v.L p).length : Nat) : Int)])) := Ex.upd hT2
      have hT9 : (upd H8 T2 (.tup [.int ((p : Nat) : Int), .int (((v.L p).length : Nat) : Int)])) T2 = some (.tup [.int ((p : Nat) : Int), .int (((v.L p).length : Nat) : Int)]) := upd_same
      refine ⟨(by show 1 ≤ sizeLine; decide), fun l1 hl1 => ?_⟩
      have e10 : KS.Ex (upd H8 T2 (.tup [.int ((p : Nat) : Int), .int (((v.L p).length : Nat) : Int)])) (upd (upd H8 T2 (.tup [.int ((p : Nat) : Int), .int (((v.L p).length : Nat) : Int)])) l1 (.lst [.ref T2])) := Ex.upd hl1
      have hl10 : (upd (upd H8 T2 (.tup [.int ((p : Nat) : Int), .int (((v.L p).length : Nat) : Int)])) l1 (.lst [.ref T2])) l1 = some (.lst [.ref T2]) := upd_same
      have hT10 := e10 _ _ hT9
      have e810 := e9.trans e10
      generalize upd (upd H8 T2 (.tup [.int ((p : Nat) : Int), .int (((v.L p).length : Nat) : Int)])) l1 (.lst [.ref T2]) = H10 at e810 hl10 hT10
      have tl : ts.length = dl.2.2.length := paired_len q3
      have dll : dl.2.2.length ≤ 1000 := few_recs y.g hm3 hL hi hd
      refine ⟨l8, l1, _, _, rfl, rfl, e810 _ _ q2, hl10, by rw [List.length_map]; show _ + 1 ≤ _; omega, fun z2 hz2 => ?_⟩
      have e11 : KS.Ex H10 (upd H10 z2 (.lst (ts.map V.ref ++ [.ref T2]))) := Ex.upd hz2
      have hz11 : (upd H10 z2 (.lst (ts.map V.ref ++ [.ref T2]))) z2 = some (.lst ((ts ++ [T2]).map V.ref)) := by rw [upd_same, List.map_append]; rfl
      have s10 := s8.ex e810
      have lw10 := lw8.ex e810
      have zn : z2 ≠ la.fl ∧ z2 ≠ la.rl ∧ ¬ BR many b z2 := by
        obtain ⟨⟨_, _, _, o4, o5, _⟩, o7⟩ := lw10.o
        exact ⟨fun c => (s10.ow _ o4).2.2.2.1 (by rw [← c]; exact hz2), fun c => (s10.ow _ o5).2.2.2.1 (by rw [← c]; exact hz2), fun c => (s10.ow _ (o7 _ c)).2.2.2.1 hz2⟩
      have s11 := s10.own e11 hz2 hz11 (fun _ z => nomatch z)
      have lw11 := (lw10.ex e11).own (O' := fun y => O y ∨ y = z2) fun y h => .inl h
      have hT11 := e11 _ _ hT10
      have sp11 : Spots (upd H10 z2 (.lst (ts.map V.ref ++ [.ref T2]))) (ts ++ [T2]) (dl.2.2 ++ [(p, (v.L p).length)]) := by
        refine paired_snoc9 ?_ (q3.kt (kt_of (e810.trans e11)))
        exact hT11
      generalize upd H10 z2 (.lst (ts.map V.ref ++ [.ref T2])) = H11 at e11 hz11 s11 lw11 hT11 sp11
      obtain ⟨k311, g311, t311⟩ := lw11.t3
      refine ⟨_, rfl, _, rfl, la.l3, _, rfl, DPut.k (k := kS n) g311 (by have := t311.len; have h3 : nm3.length = 3 := rfl; omega), ?_⟩
      have lw12 := lw11.deal (y := (dl.1, dl.2.1, dl.2.2 ++ [(p, (v.L p).length)])) hn g311 t311 ⟨z2, ts ++ [T2], rfl, hz11, sp11, .inr rfl, zn⟩
      have s12 := s11.wr lw11.o.1.2.2.1 g311 (u := .dK (putK k311 (kS n) (.ref z2))) (fun _ z => nomatch z) (fun _ z => nomatch z) (fun _ z => nomatch z) (fun _ _ _ z => nomatch z) (fun _ z => nomatch z)
      have kt12 : KT' H11 (upd H11 la.l3 (.dK (putK k311 (kS n) (.ref z2)))) := fun c zs q => by rw [L2.upd_ne (fun z => by rw [z, g311] at q; cases q)]; exact q
      have tup7 : ∀ {c : Addr} {ys : List V}, H7 c = some (.tup ys) → (upd H11 la.l3 (.dK (putK k311 (kS n) (.ref z2)))) c = some (.tup ys) := fun h => kt12 _ _ (e11 _ _ (e810 _ _ (e8 _ _ h)))
      have hka12 := tup7 ((f7.kt y6.dr y6.st.ts) _ _ hka6)
      have hra12 := tup7 ((f7.kt y6.dr y6.st.ts) _ _ hra6)
      generalize upd H11 la.l3 (.dK (putK k311 (kS n) (.ref z2))) = H12 at lw12 s12 hka12 hra12
      obtain ⟨kw12, w112, w212⟩ := lw12.wr.get hp
      have hls12 := lw12.wr.ls p hp
      have hln12 := lw12.wr.len p hp
      refine ⟨_, rfl, _, rfl, b.wr, _, rfl, by rw [← w212]; exact DGet.k (k := kN p) w112, (show tyV _ "list" (.ref (b.wl p)) H12 from Or.inl ⟨rfl, _, SqL.of hls12⟩), _, rfl, _, rfl, _, rfl, (by show 4 ≤ sizeLine; decide), fun r hr => ?_⟩
      have e13 : KS.Ex H12 (upd H12 r (.lst [.ref ka, .ref ra, .int (i : Int), .str "open"])) := Ex.upd hr
      have hr13 : (upd H12 r (.lst [.ref ka, .ref ra, .int (i : Int), .str "open"])) r = some (.lst [.ref ka, .ref ra, .int (i : Int), .str "open"]) := upd_same
      have s13 := s12.own e13 hr hr13 (fun _ z => nomatch z)
      have lw13 := lw12.ex e13
      have nor : ¬ (fun y => O y ∨ y = z2) r := fun c => (s12.ow r c).2.2.2.1 hr
      have hls13 := e13 _ _ hls12
      refine ⟨b.wl p, _, _, rfl, rfl, hls13, by
        have := hL p
        have hln12 : (b.rws p).length = (v.L p).length := hln12
        rw [List.length_map]; omega, ?_⟩
      have hka13 := e13 _ _ hka12
      have hra13 := e13 _ _ hra12
      generalize upd H12 r (.lst [.ref ka, .ref ra, .int (i : Int), .str "open"]) = H13 at s13 lw13 hls13 hr13 hka13 hra13
      have bwl : BR many b (b.wl p) := .inr (.inl ⟨p, hp, rfl⟩)
      have nbr : ¬ BR many b r := fun c => nor (lw12.o.2 r c)
      have s14 := s13.wr (.inl (lw13.o.2 _ bwl)) hls13 (u := .lst ((b.rws p).map V.ref ++ [.ref r])) (fun _ z => nomatch z) (fun _ z => nomatch z) (fun _ z => nomatch z) (fun _ _ _ z => nomatch z) (fun _ z => nomatch z)
      have wdn : ∀ q j, q < many → j < (v.L q).length → wordOf (setL v.L p (v.L p ++ [Ev.add [.inl (k : Int)] ([.inl (i : Int)], i) (n, dl.1, dl.2.1)]) q) j = wordOf (v.L q) j := fun q j _ hj => by
        have h1 := List.getElem?_eq_getElem hj
        rw [wordOf_get h1, wordOf_get (L := setL v.L p (v.L p ++ [Ev.add [.inl (k : Int)] ([.inl (i : Int)], i) (n, dl.1, dl.2.1)]) q) (ev := (v.L q)[j]) (by
          by_cases c : q = p
          · subst c; rw [setL_same, List.getElem?_append_left hj]; exact h1
          · rw [setL_ne _ _ c]; exact h1)]
        exact y.g.word_add (k := [.inl (k : Int)]) (s := ([.inl (i : Int)], i)) hd p q _
      have wr14 := WrA.add (L' := setL v.L p (v.L p ++ [Ev.add [.inl (k : Int)] ([.inl (i : Int)], i) (n, dl.1, dl.2.1)])) (wd' := fun q j => wordOf (setL v.L p (v.L p ++ [Ev.add [.inl (k : Int)] ([.inl (i : Int)], i) (n, dl.1, dl.2.1)]) q) j) lw13.wr hp nbr rfl (e := Ev.add [.inl (k : Int)] ([.inl (i : Int)], i) (n, dl.1, dl.2.1)) (by
        have hw : wordOf (setL v.L p (v.L p ++ [Ev.add [.inl (k : Int)] ([.inl (i : Int)], i) (n, dl.1, dl.2.1)]) p) (v.L p).length = "open" := by
          rw [wordOf_get (ev := Ev.add [.inl (k : Int)] ([.inl (i : Int)], i) (n, dl.1, dl.2.1)) (by rw [setL_same, List.getElem?_append_right (Nat.le_refl _), Nat.sub_self]; rfl)]
          exact (y.g.word_add (k := [.inl (k : Int)]) (s := ([.inl (i : Int)], i)) hd p p _).trans (y.g.word_new (k := [.inl (k : Int)]) (s := ([.inl (i : Int)], i)) hd p)
        exact ⟨ka, ra, by
          show H13 r = some (.lst [.ref ka, .ref ra, .int (i : Int), .str (wordOf (setL v.L p (v.L p ++ [Ev.add [.inl (k : Int)] ([.inl (i : Int)], i) (n, dl.1, dl.2.1)]) p) (v.L p).length)])
          rw [hw]; exact hr13, hka13, hra13⟩) wdn
      have lr14 := ((lw13.r.br bwl hls13 (u := .lst ((b.rws p).map V.ref ++ [.ref r]))).add (p := p) nor).grow (L' := setL v.L p (v.L p ++ [Ev.add [.inl (k : Int)] ([.inl (i : Int)], i) (n, dl.1, dl.2.1)])) fun q => by
        by_cases c : q = p
        · subst c; exact ⟨_, by rw [setL_same]⟩
        · exact ⟨[], by rw [setL_ne _ _ c, List.append_nil]⟩
      have lw14 := lr14.a wr14
      refine fin _ (addV v n dl [.inl (k : Int)] ([.inl (i : Int)], i) p) _ _ (b.add p r) _ _ _ _ rfl ⟨s14, y.g.add hd hp, lw14, .inl ⟨rfl, rfl, rfl, rfl, rfl⟩, ⟨fun q => ?_, fun n g h => Nat.le_succ_of_le (hA n g h), fun n c h => Nat.le_succ_of_le (hN n c h), fun n' x h => ?_⟩, fun q => ?_, y.hm, hn⟩
      · show (setL v.L p (v.L p ++ [_]) q).length ≤ _
        have := hL q
        by_cases c : q = p
        · subst c; rw [setL_same, List.length_append]; show _ + 1 ≤ _; omega
        · rw [setL_ne _ _ c]; omega
      · by_cases c' : n' = n
        · subst c'
          have h : Q9.putF v.deals n' _ n' = some x := h
          rw [putF_same] at h
          cases h
          exact Nat.le_succ_of_le (show dl.1 ≤ i from hD _ _ hd)
        · have h : Q9.putF v.deals n _ n' = some x := h
          rw [putF_ne _ _ c'] at h
          exact Nat.le_succ_of_le (hD _ _ h)
      · intro k' s' d' hm'
        have hm' : Ev.add k' s' d' ∈ setL v.L p (v.L p ++ [_]) q := hm'
        by_cases c : q = p
        · subst c
          rw [setL_same] at hm'
          rcases List.mem_append.mp hm' with z | z
          · exact y.pl _ _ _ _ z
          · have z := List.mem_singleton.mp z
            injection z with z1 z2 z3
            subst z1 z2
            exact ⟨.tup fun y hy => by rw [List.mem_singleton.mp hy]; exact .int _, .tup fun y hy => by rw [List.mem_singleton.mp hy]; exact .int _⟩
        · rw [setL_ne _ _ c] at hm'
          exact y.pl _ _ _ _ hm'
  · refine ⟨_, rfl, _, rfl, la.l3, _, rfl, DGet.k (k := kS n) g3, ?_⟩
    rw [t3.isSome n, show ((v.deals n).isSome) = decide (v.deals n ≠ none) from by cases v.deals n <;> rfl]
    exact q
end
end KL9
set_option Elab.async false
set_option linter.all false
set_option maxRecDepth 100000
set_option maxHeartbeats 4000000
namespace KL9
open PySem PySem.Spec PyProof.Rows L2 KB KC KS KN1 LamX K7 Q9 R8 TK
section
variable {P : Program} {w : World} {K : PySem.W.Frag} {mg : Str → Option Value} {base : Heap} {CP CL CD CG CR Ps Pn Pl cN cL fTo fL : Addr} {fdTo : FuncData} {A : Around} {outer : List PySem.Env} {s : Shared} {H0 : Hp} {E0' : XK}
theorem EI.of_done {many : Nat} {a : DA} {la : LA} {O : Addr → Prop} {b : BA} {v : DV} {i : Nat} {n : Str} {H0 H : Hp} {dl : Dl} {wd : Nat} (y : IL CD CL CP Ps Pn Pl many a la O b v i H0) (hn : n ∈ nm3) (hw : wd = 1 ∨ wd = 2) (hd : v.deals n = some dl) (sd : Sd CD CL CP Ps Pn Pl many a la.dc O (doneV v n dl wd) H) (lw : LwA O many la b v H) : EI CD CL CP Ps Pn Pl many a la O b v (doneV v n dl wd) (i + 1) n (some wd) H := by
  obtain ⟨hL, hA, hN, hD⟩ := y.bd
  refine ⟨sd, y.g, lw, .inr ⟨dl, wd, rfl, hw, hd, rfl, rfl, rfl, rfl⟩, ⟨fun p => Nat.le_trans (endF_len v.L dl.2.2 wd (n, dl.1, dl.2.1) p) (Nat.succ_le_succ (hL p)), fun n g h => Nat.le_succ_of_le (hA n g h), fun n c h => Nat.le_succ_of_le (hN n c h), fun n' x h => ?_⟩, endF_plain y.pl, y.hm, hn⟩
  by_cases c : n' = n
  · subst c
    have h : Q9.putF v.deals n' none n' = some x := h
    rw [putF_same] at h; cases h
  · have h : Q9.putF v.deals n none n' = some x := h
    rw [putF_ne _ _ c] at h
    exact Nat.le_succ_of_le (hD _ _ h)
theorem g_close (ve : LawE P w K mg base CP CL CD CG CR Ps Pn Pl cN cL fTo fdTo) (hr : Room 14 (xLaw P w K mg base fL cL A outer s H0 E0').A) :
    ∃ t0 t1 t2 t3, L2.PS (xLaw P w K mg base fL cL A outer s H0 E0') (endB.getD 0 pS) t0 ∧ L2.PS (xLaw P w K mg base fL cL A outer s H0 E0') (endB.getD 1 pS) t1 ∧ L2.PS (xLaw P w K mg base fL cL A outer s H0 E0') (endB.getD 2 pS) t2 ∧ L2.PS (xLaw P w K mg base fL cL A outer s H0 E0') (endB.getD 3 pS) t3 ∧
      ∀ (D : Ends) (H : Hp) (many : Nat) (a : DA) (la : LA) (O : Addr → Prop) (b : BA) (v : DV) (i : Nat) (n : Str) (g so : Int) (a0 u11 u12 u17 u18 u19 u20 u21 u22 u23 u24 : Option V) (mv : V), IL CD CL CP Ps Pn Pl many a la O b v i H → n ∈ nm3 → i ≤ 80 →
      (∀ (H' : Hp) (vl v' : DV) (wd : Option Nat) (x18 x22 : Option V), EI CD CL CP Ps Pn Pl many a la O b vl v' (i + 1) n wd H' →
        D.nx [a0, some (.ref la.dc), some (.ref a.o), some (.ref a.d), some mv, some (.ref la.l1), some (.ref la.l2), some (.ref la.l3), some (.ref b.wr), some (.ref la.fl), some (.ref la.rl), u11, u12, some (.int so), some (.str n), some (.int g), some (.bl (decide ((v.ages n).map (fun z => (z : Int)) = some g))), some (wV wd), x18, u19, u20, u21, x22, u23, u24] H') →
      tSeq t0 (tSeq t1 (tSeq t2 t3)) D [a0, some (.ref la.dc), some (.ref a.o), some (.ref a.d), some mv, some (.ref la.l1), some (.ref la.l2), some (.ref la.l3), some (.ref b.wr), some (.ref la.fl), some (.ref la.rl), u11, u12, some (.int so), some (.str n), some (.int g), some (.bl (decide ((v.ages n).map (fun z => (z : Int)) = some g))), u17, u18, u19, u20, u21, u22, u23, u24] H := by
  obtain ⟨fC, fdC, GC, mC, bC⟩ := ve.commit
  obtain ⟨fD, fdD, GD, mD, bD⟩ := ve.drop
  obtain ⟨oc, od, dV, kVs, doc, pm, an, cdv, ct, osl, rfl, lk, hcd, _, _⟩ := ve.told.ex
  have bTo := ve.told.bindsN (ps := ["what"]) fun _ _ _ _ _ _ us hl => match us, hl with | [_], _ => rfl
  have hu := hr.units
  have hu1 := Nat.lt_trans (Nat.add_lt_add_left (by decide : 1 < 64) _) hu
  have hz0 : sizeLine = 16777216 := rfl
  refine ⟨_, _, _, _, ps_set (i := 18) scLaw.nd rfl (Or.inl rfl) (pe_and (pv 16) (pe_one (pe_cmp (pc_din hu1 (pv 14) (pv 7))))),
    ps_set (i := 22) scLaw.nd rfl (Or.inr rfl) (pe_cmpR op_lt (pv 13) pe_int (nomark _)),
    ps_if (pt_cmpR op_eq (pe_cmpR op_eq (pe_lamcall (T := TT Ps Pn Pl) (P := Pl) (c := cL) (k := 12) (t := fun E => tIf (tB (tVar 22)) (tMeth CD "commit" (spEC 1 CD CL CP CG Ps) [] E (tVar 3) (tCons (tVar 14) (tCons (tVar 15) tNil))) (tMeth CD "drop" (spEC 2 CD CL CP CG Ps) [] E (tVar 3) (tCons (tVar 14) (tCons (tVar 15) tNil)))) (by rfl) ve.gTold ve.told.kp lk hcd bTo (Ng := ["what"]) (sg := defScope sTold) ⟨rfl, rfl, rfl, by decide +kernel, rfl, by decide +kernel, by decide +kernel⟩ rfl (Or.inl rfl)
        (told_gives (by rfl) ve.G.g (by decide +kernel) (fun f => rfl)) ve.TBl rfl mem_Pl (only_Pl ve.ap) hr (lamS_by (by show lamSB (defScope sLaw) _ = true; decide +kernel)) rfl (fun _ _ _ _ _ => rfl)
        (fun A outer s H E f c' hr' => pe_ifExp (pt_val (pv 22)) (pe_meth (pv 3) ve.TE.cl mC GC (hr'.mono (by decide)) bC .nil (passes_call (takes_of rfl rfl rfl rfl) (fun _ _ _ _ h => h)) (pa_cons (pv 14) (pa_cons (pv 15) pa_nil))) (pe_meth (pv 3) ve.TE.cl mD GD (hr'.mono (by decide)) bD .nil (passes_call (takes_of rfl rfl rfl rfl) (fun _ _ _ _ h => h)) (pa_cons (pv 14) (pa_cons (pv 15) pa_nil)))))
      pe_str (nomark _)) (pv 18) (nomark _)) (pss_one (ps_ret pe_bl)) pss_nil,
    ps_set (i := 17) scLaw.nd rfl (Or.inl rfl) (pe_ifExp (pt_val (pv 18)) (pe_ifExp (pt_val (pv 22)) pe_str pe_str) pe_non), ?_⟩
  intro D H many a la O b v i n g so a0 u11 u12 u17 u18 u19 u20 u21 u22 u23 u24 mv y hn hi fin
  obtain ⟨hL, hA, hN, hD⟩ := y.bd
  obtain ⟨nl, _, _⟩ := nm_ok n hn
  obtain ⟨k3, g3, t3⟩ := y.lw.t3
  have okw : ∀ {wd : Nat}, wd ≤ 100 → ∀ x, v.deals n = some x → EvOk (Ev.mark wd (n, x.1, x.2.1)) := fun hw x hx => by
    have h1 := hD n x hx
    have h2 := hN _ _ (y.g.cur n x hx)
    exact evok_mark hn hw (by omega) (by omega)
  have l90 : ∀ p, (v.L p).length < 90 := fun p => by have := hL p; omega
  refine ⟨_, rfl, _, rfl, and_step (p := v.deals n ≠ none) (fun G hG => ?_) fun q => ?_⟩
  · rw [decide_eq_true_eq] at hG
    refine ⟨_, rfl, _, _, rfl, rfl, ?_⟩
    show tSeq _ _ _ [a0, some (.ref la.dc), some (.ref a.o), some (.ref a.d), some mv, some (.ref la.l1), some (.ref la.l2), some (.ref la.l3), some (.ref b.wr), some (.ref la.fl), some (.ref la.rl), u11, u12, some (.int so), some (.str n), some (.int g), some (.bl (decide ((v.ages n).map (fun z => (z : Int)) = some g))), u17, some (.bl G), u19, u20, u21, some (.bl (decide (so < 9))), u23, u24] H
    generalize decide (so < 9) = kb
    refine ⟨y.st.tabs, fun H6 e6 t6 => ?_⟩
    have y6 := y.exN e6 t6
    obtain ⟨dx, ob⟩ := y6.dr.ob
    refine ⟨_, rfl, kb, rfl, ?_⟩
    cases kb with
    | true =>
      refine ifT rfl ⟨_, rfl, a.d, dx, _, rfl, ob, rfl, _, rfl, _, rfl, ec_step (w := 1) y6.dr y6.st.ts nl (okw (by decide)) l90 (fun c => ⟨true, ve.G.e, fun _ => ?_, fun z => nomatch z⟩) fun dl hd hg H7 f7 gr x7 => ?_⟩
      · have : G = false := by
          cases G with
          | false => rfl
          | true => exact absurd (hG.mp rfl) c
        subst this
        refine ⟨rfl, _, rfl, rfl, _, rfl, ifF (by simp) ?_⟩
        refine ⟨_, rfl, _, rfl, ifF (by decide) ?_⟩
        exact fin H6 v v none _ _ (y6.ei hn)
      · have : G = true := hG.mpr ⟨hg, by rw [hd]; simp⟩
        subst this
        obtain ⟨s7, lw7⟩ := y6.doorS ve.ap f7 gr x7
        refine ⟨rfl, _, rfl, rfl, _, rfl, ifF (by simp) ?_⟩
        refine ⟨_, rfl, _, rfl, ifT rfl ⟨_, rfl, _, rfl, ifT rfl ?_⟩⟩
        exact fin H7 v _ (some 1) _ _ (EI.of_done y6 hn (by decide) hd s7 lw7)
    | false =>
      refine ifF (by decide) ⟨_, rfl, a.d, dx, _, rfl, ob, rfl, _, rfl, _, rfl, ec_step (w := 2) y6.dr y6.st.ts nl (okw (by decide)) l90 (fun c => ⟨true, ve.G.e, fun _ => ?_, fun z => nomatch z⟩) fun dl hd hg H7 f7 gr x7 => ?_⟩
      · have : G = false := by
          cases G with
          | false => rfl
          | true => exact absurd (hG.mp rfl) c
        subst this
        refine ⟨rfl, _, rfl, rfl, _, rfl, ifF (by simp) ?_⟩
        refine ⟨_, rfl, _, rfl, ifF (by decide) ?_⟩
        exact fin H6 v v none _ _ (y6.ei hn)
      · have : G = true := hG.mpr ⟨hg, by rw [hd]; simp⟩
        subst this
        obtain ⟨s7, lw7⟩ := y6.doorS ve.ap f7 gr x7
        refine ⟨rfl, _, rfl, rfl, _, rfl, ifF (by simp) ?_⟩
        refine ⟨_, rfl, _, rfl, ifT rfl ⟨_, rfl, _, rfl, ifF (by decide) ?_⟩⟩
        exact fin H7 v _ (some 2) _ _ (EI.of_done y6 hn (by decide) hd s7 lw7)
  · refine ⟨_, rfl, _, rfl, la.l3, _, rfl, DGet.k (k := kS n) g3, ?_⟩
    rw [t3.isSome n, show ((v.deals n).isSome) = decide (v.deals n ≠ none) from by cases v.deals n <;> rfl]
    exact q
end
end KL9
set_option Elab.async false
set_option linter.all false
set_option maxRecDepth 100000
set_option maxHeartbeats 4000000
namespace KL9
open PySem PySem.Spec PyProof.Rows L2 KB KC KS KN1 LamX K7 Q9 R8 TK
theorem LwA.cast {O : Addr → Prop} {many : Nat} {la : LA} {b : BA} {v v' : DV} {H : Hp} (x : LwA O many la b v H) (e1 : v'.ages = v.ages) (e2 : v'.nums = v.nums) (e3 : v'.deals = v.deals) (e4 : v'.L = v.L) : LwA O many la b v' H := by
  obtain ⟨a1, a2, a3, a4, a5⟩ := v
  obtain ⟨c1, c2, c3, c4, c5⟩ := v'
  dsimp only at e1 e2 e3 e4
  subst e1 e2 e3 e4
  exact ⟨x.o, x.t1, x.t2, x.t3, x.wr, x.re, x.ru, x.rp, x.dj⟩
theorem tab_merge {many : Nat} : ∀ (pl : List (Nat × Nat)) (acc : List (Key × V)) (f : Nat → Option Unit), Tab (List.range many) kN (fun _ _ _ => True) acc f → (∀ x ∈ pl, x.1 < many) → Tab (List.range many) kN (fun _ _ _ => True) (mergeK acc (pl.map fun x => (kN x.1, V.int 1))) (fun p => if hasP pl p then some () else f p)
  | [], acc, f, t, _ => by
    have e : (fun p => if hasP [] p then some () else f p) = f := by
      funext p
      rw [if_neg]
      rintro ⟨i, h⟩
      cases h
    rw [e]; exact t
  | x :: r, acc, f, t, h => by
    have := tab_merge r (putK acc (kN x.1) (V.int 1)) (putG f x.1 (some ())) (t.put (R' := fun _ _ _ => True) kN_inj (List.mem_range.mpr (h x (List.mem_cons_self ..))) trivial fun _ _ _ _ _ _ => trivial) fun y hy => h y (List.mem_cons_of_mem _ hy)
    have e : (fun p => if hasP (x :: r) p then some () else f p) = fun p => if hasP r p then some () else putG f x.1 (some ()) p := by
      funext p
      by_cases c : hasP r p
      · obtain ⟨i, hi⟩ := c
        rw [if_pos ⟨i, List.mem_cons_of_mem _ hi⟩, if_pos ⟨i, hi⟩]
      · rw [if_neg c]
        by_cases c2 : p = x.1
        · subst c2
          rw [putG_same, if_pos ⟨x.2, List.mem_cons_self ..⟩]
        · rw [putG_ne _ _ c2, if_neg]
          rintro ⟨i, hi⟩
          rcases List.mem_cons.mp hi with z | z
          · rw [← z] at c2; exact c2 rfl
          · exact c ⟨i, z⟩
    rw [e]; exact this
theorem parts_sorted {many : Nat} {pl : List (Nat × Nat)} (h : ∀ x ∈ pl, x.1 < many) : ∃ (bs : List Int) (ks : List Nat), (mergeK [] (pl.map fun x => (kN x.1, V.int 1))).map (fun kv => kV kv.1) = bs.map V.int ∧ (bs.mergeSort fun a b => decide (a ≤ b)) = ks.map (fun (k : Nat) => (k : Int)) ∧ ks.Nodup ∧ (∀ p, p ∈ ks ↔ firstOf pl p ≠ none) ∧ ∀ p ∈ ks, p < many := by
  obtain ⟨bs, ks, s1, s2, s3, s4, s5⟩ := tab_sorted (tab_merge pl [] (fun _ => none) Tab.nil h)
  refine ⟨bs, ks, s1, s2, s3, fun p => ?_, s5⟩
  rw [s4]
  by_cases c : hasP pl p
  · rw [if_pos c]
    exact ⟨fun _ z => firstOf_none.mp z c, fun _ => by simp⟩
  · rw [if_neg c]
    exact ⟨fun z => absurd rfl z, fun z => absurd (firstOf_none.mpr c) z⟩
def wdJ (L : Nat → List Ev) (pl : List (Nat × Nat)) (w : Nat) (j : Nat) : Nat → Nat → Str := fun q k => if (q, k) ∈ pl.take j then wordS w else wordOf (L q) k
theorem wdJ_zero (L : Nat → List Ev) (pl : List (Nat × Nat)) (w : Nat) : wdJ L pl w 0 = fun q k => wordOf (L q) k := by
  funext q k
  unfold wdJ
  rw [List.take_zero, if_neg (by simp)]
theorem wdJ_succ {L : Nat → List Ev} {pl : List (Nat × Nat)} {w j p i : Nat} (h : pl[j]? = some (p, i)) : wdJ L pl w (j + 1) p i = wordS w ∧ ∀ q k, (q ≠ p ∨ k ≠ i) → wdJ L pl w (j + 1) q k = wdJ L pl w j q k := by
  have e : pl.take (j + 1) = pl.take j ++ [(p, i)] := by rw [List.take_add_one, h]; rfl
  refine ⟨?_, fun q k hq => ?_⟩
  · unfold wdJ
    rw [e, if_pos (by simp)]
  · unfold wdJ
    rw [e]
    have : ((q, k) ∈ pl.take j ++ [(p, i)]) ↔ (q, k) ∈ pl.take j := by
      rw [List.mem_append, List.mem_singleton]
      refine ⟨fun z => z.elim id fun z => ?_, .inl⟩
      injection z with z1 z2
      rcases hq with c | c
      · exact absurd z1 c
      · exact absurd z2 c
    by_cases c : (q, k) ∈ pl.take j
    · rw [if_pos c, if_pos (this.mpr c)]
    · rw [if_neg c, if_neg (fun z => c (this.mp z))]
theorem wdJ_all {many : Nat} {nums : Str → Option Nat} {deals : Str → Option Dl} {L : Nat → List Ev} (g : Good many nums deals L) {n : Str} {x : Dl} (h : deals n = some x) {w : Nat} (hw : w = 1 ∨ w = 2) {q k : Nat} (hk : k < (L q).length) : wordOf (endF L x.2.2 w (n, x.1, x.2.1) q) k = wdJ L x.2.2 w x.2.2.length q k := by
  have he := List.getElem?_eq_getElem hk
  have he' : (endF L x.2.2 w (n, x.1, x.2.1) q)[k]? = some (L q)[k] := by
    unfold endF
    split
    · rw [List.getElem?_append_left hk]; exact he
    · exact he
  unfold wdJ
  rw [List.take_length, wordOf_get he', wordOf_get he]
  exact g.word_done h hw he
theorem wd_mark {L : Nat → List Ev} {pl : List (Nat × Nat)} {w q : Nat} {d : Id} (h : hasP pl q) : wordOf (endF L pl w d q) (L q).length = "end" := by
  rw [wordOf_get (ev := Ev.mark w d) (by unfold endF; rw [if_pos h, List.getElem?_append_right (Nat.le_refl _), Nat.sub_self]; rfl)]
  rfl
end KL9
set_option Elab.async false
set_option linter.all false
set_option maxRecDepth 100000
set_option maxHeartbeats 4000000
namespace KL9
open PySem PySem.Spec PyProof.Rows L2 KB KC KS KN1 LamX K7 Q9 R8 TK
theorem few_recs9 {many : Nat} {nums : Str → Option Nat} {deals : Str → Option Dl} {L : Nat → List Ev} (g : Good many nums deals L) (hm : many ≤ 3) (hL : ∀ p, (L p).length ≤ 81) {n : Str} {x : Dl} (h : deals n = some x) : x.2.2.length ≤ 1000 := by
  have := nodup_len' (l := x.2.2) (m := (List.range 3).flatMap fun q => (List.range 81).map fun j => (q, j)) ((g.asc n x h).imp fun h1 z => by
    subst z
    exact absurd (h1 rfl) (Nat.lt_irrefl _)) fun y hy => by
    obtain ⟨q, j⟩ := y
    obtain ⟨hq, _, _, hj⟩ := (g.at_ n x h q j).mp hy
    have h1 := (List.getElem?_eq_some_iff.mp hj).1
    have h2 := hL q
    exact List.mem_flatMap.mpr ⟨q, List.mem_range.mpr (by omega), List.mem_map.mpr ⟨j, List.mem_range.mpr (by omega), rfl⟩⟩
  have e : ((List.range 3).flatMap fun q => (List.range 81).map fun j => (q, j)).length = 243 := by decide +kernel
  omega
theorem endJ_zero (L : Nat → List Ev) (ks : List Nat) (w : Nat) (d : Id) : endJ L ks w d 0 = L := by
  funext p
  unfold endJ
  rw [List.take_zero, if_neg (by simp)]
section
variable {P : Program} {w : World} {K : PySem.W.Frag} {mg : Str → Option Value} {base : Heap} {CP CL CD CG CR Ps Pn Pl cN cL fTo fL : Addr} {fdTo : FuncData} {A : Around} {outer : List PySem.Env} {s : Shared} {H0 : Hp} {E0' : XK}
theorem g_end (ve : LawE P w K mg base CP CL CD CG CR Ps Pn Pl cN cL fTo fdTo) (hr : Room 14 (xLaw P w K mg base fL cL A outer s H0 E0').A) :
    ∃ t5, L2.PS (xLaw P w K mg base fL cL A outer s H0 E0') (dS 5) t5 ∧
      ∀ (D : Ends) (H : Hp) (many : Nat) (a : DA) (la : LA) (O : Addr → Prop) (b : BA) (vl v' : DV) (i : Nat) (n : Str) (wd : Option Nat) (a0 u11 u12 u13 u15 u16 u18 u19 u20 u21 u22 u23 u24 : Option V) (mv : V), EI CD CL CP Ps Pn Pl many a la O b vl v' i n wd H → i ≤ 81 →
      (∀ (H' : Hp) (O' : Addr → Prop) (b' : BA) (x20 x21 x23 x24 : Option V), b'.wr = b.wr → IL CD CL CP Ps Pn Pl many a la O' b' v' i H' →
        D.nx [a0, some (.ref la.dc), some (.ref a.o), some (.ref a.d), some mv, some (.ref la.l1), some (.ref la.l2), some (.ref la.l3), some (.ref b.wr), some (.ref la.fl), some (.ref la.rl), u11, u12, u13, some (.str n), u15, u16, some (wV wd), u18, u19, x20, x21, u22, x23, x24] H') →
      t5 D [a0, some (.ref la.dc), some (.ref a.o), some (.ref a.d), some mv, some (.ref la.l1), some (.ref la.l2), some (.ref la.l3), some (.ref b.wr), some (.ref la.fl), some (.ref la.rl), u11, u12, u13, some (.str n), u15, u16, some (wV wd), u18, u19, u20, u21, u22, u23, u24] H := by
  have hu := hr.units
  have hu1 := Nat.lt_trans (Nat.add_lt_add_left (by decide : 1 < 64) _) hu
  have hz0 : sizeLine = 16777216 := rfl
  refine ⟨_, ps_if (pt_cmp (pc_notN (pv 17)))
    (pss_cons (ps_for PassesOwn.never rfl (pi_list (pe_dget hu1 (pv 7) (pv 14) (fun _ _ => rfl))) (pg_tup rfl (pgs_cons (pg_name (i := 21) scLaw.nd rfl (Or.inl rfl)) (pgs_cons (pg_name (i := 23) scLaw.nd rfl (Or.inl rfl)) pgs_nil)))
      (pss_cons (ps_set (i := 20) scLaw.nd rfl (Or.inr rfl) (pe_ix ix_listD (pe_dget hu1 (pv 8) (pv 21) (fun _ _ => rfl)) (pv 23) (fun _ _ => rfl)))
      (pss_one (ps_asg (pv 17) (pg_sub (pv 20) pe_int set_list)))))
    (pss_cons (ps_for PassesOwn.never rfl (pi_list (pe_callB (_root_.CP.cr_sortDI rfl (u66 hr)) (by rfl) ve.T.sorted (by decide +kernel) (pa_cons (pe_callTy (call_dictP rfl) (by rfl) ve.T.dict (by decide +kernel) (pa_cons
        (pe_lc (own := [("one", 24)]) (g := gName 24) (tt := tYes) (te := tTup (tCons (tOp rIxP (tVar 24) (tC (.int 0))) (tCons (tC (.int 1)) tNil))) rfl scLaw.nd (pi_list (pe_dget hu1 (pv 7) (pv 14) (fun _ _ => rfl))) (blkOk_by (N := nLaw) (sc := defScope sLaw) (by decide +kernel)) (fun _ _ _ _ _ => pg_name (i := 24) scLaw.nd rfl (Or.inl rfl)) (fun _ _ _ _ _ => pts_nil) (fun _ _ _ _ _ => pe_tup (pa_cons (pe_ix ix_tupD (pv 24) pe_int (fun _ _ => rfl)) (pa_cons pe_int pa_nil)))) pa_nil)) pa_nil))) (pg_name (i := 21) scLaw.nd rfl (Or.inl rfl))
      (pss_one (ps_expr (pe_bm PySem.F.plainAttrs_list PySem.F.slot_list_append PySem.F.type_list_append mt_append (pe_dget hu1 (pv 8) (pv 21) (fun _ _ => rfl)) (pa_cons (pe_lst (pa_cons pe_non (pa_cons pe_non (pa_cons pe_non (pa_cons pe_str pa_nil))))) pa_nil)))))
    (pss_one (ps_expr (pe_dpop1 (pv 7) (pv 14) ⟨rfl, rfl, rfl, rfl⟩))))) pss_nil, ?_⟩
  intro D H many a la O b vl v' i n wd a0 u11 u12 u13 u15 u16 u18 u19 u20 u21 u22 u23 u24 mv y hi fin
  rcases y.rel with ⟨rfl, ea, en, ed, eL⟩ | ⟨x, w, rfl, hw, hx, ea, en, ed, eL⟩
  · refine ⟨_, rfl, _, rfl, ifF (by decide) ?_⟩
    exact fin H O b _ _ _ _ rfl ⟨y.sd.st, y.sd.dr, by rw [en, ed, eL]; exact y.gl, y.lw.cast ea en ed eL, y.sd.ow, y.sd.nd, y.bd, y.pl, y.hm⟩
  obtain ⟨hm0, hm3⟩ := y.hm
  have g := y.gl
  have at_ := g.at_ n x hx
  have hL : ∀ p, (vl.L p).length ≤ i := fun p => by
    have h1 := y.bd.1 p
    rw [eL] at h1
    refine Nat.le_trans ?_ h1
    unfold endF
    split
    · rw [List.length_append]; omega
    · exact Nat.le_refl _
  refine ⟨_, rfl, _, rfl, ifT (by show (!decide (V.str _ = V.non)) = true; simp) ?_⟩
  obtain ⟨k3, g3, t3⟩ := y.lw.t3
  obtain ⟨l0, q1, l, ts, rfl, q2, q3, q4, q5, q6, q7⟩ := t3.some hx
  have tl := paired_len q3
  refine ⟨_, rfl, _, rfl, la.l3, _, rfl, by rw [← q1]; exact DGet.k (k := kS n) g3, l, rfl, ⟨_, SqL.of q2⟩, for_list (xs := ts.map V.ref) (fun j σ H' => (∃ u20 u21 u23, σ = [a0, some (.ref la.dc), some (.ref a.o), some (.ref a.d), some mv, some (.ref la.l1), some (.ref la.l2), some (.ref la.l3), some (.ref b.wr), some (.ref la.fl), some (.ref la.rl), u11, u12, u13, some (.str n), u15, u16, some (.str (wordS w)), u18, u19, u20, u21, u22, u23, u24]) ∧ Sd CD CL CP Ps Pn Pl many a la.dc O v' H' ∧ LwR O many la b vl H' ∧ WrA many b vl.L (wdJ vl.L x.2.2 w j) H' ∧ H' l = some (.lst (ts.map V.ref)) ∧ Spots H' ts x.2.2) ⟨⟨_, _, _, rfl⟩, y.sd, y.lw.r, by rw [wdJ_zero]; exact y.lw.wr, q2, q3⟩ ?_ ?_ ?_⟩
  · rintro j σ H' _ ⟨_, _, _, _, h, _⟩
    exact SqL.of h
  · rintro j z σ H' hz ⟨⟨u20, u21, u23, rfl⟩, s1, r1, w1, l1, sp1⟩
    rw [List.getElem?_map] at hz
    obtain ⟨t, ht, rfl⟩ := Option.map_eq_some_iff.mp hz
    obtain ⟨pi, hpi, htt⟩ := paired_get sp1 ht
    obtain ⟨p, k⟩ := pi
    obtain ⟨hp, _, _, hev⟩ := (at_ p k).mp (List.mem_of_getElem? hpi)
    refine ⟨t, _, rfl, SqT.of htt, rfl, _, _, rfl, _, _, rfl, rfl, ?_⟩
    obtain ⟨kw, g1, g2⟩ := w1.get hp
    have hls := w1.ls p hp
    have hln := w1.len p hp
    have hk := (List.getElem?_eq_some_iff.mp hev).1
    have hrow : k < (b.rws p).length := by rw [hln]; exact hk
    have hr' := List.getElem?_eq_getElem hrow
    generalize (b.rws p)[k] = r at hr'
    obtain ⟨ev, hev', ra⟩ := w1.row hp hr'
    obtain ⟨c1, c2, c3, hrr⟩ := ra.lst
    refine ⟨_, rfl, _, rfl, b.wr, _, rfl, by rw [← g2]; exact DGet.k (k := kN p) g1, _, rfl, b.wl p, _, _, V.ref r, rfl, rfl, hls, atI_nat (by rw [List.getElem?_map, hr']; rfl), ?_⟩
    refine ⟨_, rfl, _, rfl, r, _, _, 3, rfl, rfl, hrr, rfl, ?_⟩
    obtain ⟨d1, d2⟩ := wdJ_succ (L := vl.L) (w := w) hpi
    have br : BR many b r := .inr (.inr ⟨p, k, hp, hr'⟩)
    have nl : l ≠ r := fun z => q7 (by rw [z]; exact br)
    have kt : KT' H' (upd H' r (.lst (([c1, c2, c3, .str (wdJ vl.L x.2.2 w j p k)] : List V).set 3 (.str (wordS w))))) := fun c zs q => by rw [L2.upd_ne (fun z => by rw [z, hrr] at q; cases q)]; exact q
    refine ⟨⟨_, _, _, rfl⟩, s1.wr (r1.o.2 _ br) hrr (fun _ z => nomatch z) (fun _ z => nomatch z) (fun _ z => nomatch z) (fun _ _ _ z => nomatch z) (fun _ z => nomatch z), r1.br br hrr, ?_, by rw [L2.upd_ne nl]; exact l1, sp1.kt kt⟩
    have := w1.setW (wd' := wdJ vl.L x.2.2 w (j + 1)) hp hr' hrr d2
    rw [d1] at this
    exact this
  · rintro σ H1 ⟨⟨u20, u21, u23, rfl⟩, s1, r1, w1, l1, sp1⟩
    obtain ⟨k31, g31, t31⟩ := r1.t3
    obtain ⟨l0, q11, l', ts', rfl, q2', q3', q4', q5', q6', q7'⟩ := t31.some hx
    have tl' := paired_len q3'
    have dll : x.2.2.length ≤ 1000 := by
      have := tl
      exact few_recs9 g hm3 (fun p => Nat.le_trans (hL p) hi) hx
    refine ⟨_, rfl, _, rfl, la.l3, _, rfl, by rw [← q11]; exact DGet.k (k := kS n) g31, l', rfl, ⟨_, SqL.of q2'⟩, fun D1 hD1 => ?_⟩
    refine lc_list (xs := ts'.map V.ref) (fun j H' => KS.Ex H1 H' ∧ ∃ zs : List Addr, H' D1 = some (.lst (zs.map V.ref)) ∧ Paired (fun z (kv : Key × V) => H' z = some (.tup [kV kv.1, kv.2])) zs ((x.2.2.take j).map fun y => (kN y.1, V.int 1))) ⟨Ex.upd hD1, [], upd_same, by rw [List.take_zero]; exact .nil⟩ (fun j H' _ h => SqL.of (h.1 _ _ q2')) ?_ ?_
    · rintro j z H' hz ⟨e, zs, hD, pz⟩
      rw [List.getElem?_map] at hz
      obtain ⟨t, ht, rfl⟩ := Option.map_eq_some_iff.mp hz
      obtain ⟨pi, hpi, htt⟩ := paired_get q3' ht
      have hj := (List.getElem?_eq_some_iff.mp hpi).1
      have lz := paired_len pz
      rw [List.length_map, List.length_take] at lz
      refine ⟨rfl, _, rfl, t, _, 0, .int ((pi.1 : Nat) : Int), rfl, rfl, e _ _ htt, rfl, (by show 2 ≤ sizeLine; decide), fun z2 hz2 => ⟨_, Ex.upd hz2 _ _ hD, by rw [List.length_map]; omega, Ex.on (e.trans (Ex.upd hz2)) hD1, zs ++ [z2], by rw [upd_same, List.map_append]; rfl, ?_⟩⟩
      have nz : z2 ≠ D1 := fun c => by rw [c, hD] at hz2; cases hz2
      have kt : KT' H' (upd (upd H' z2 (.tup [.int ((pi.1 : Nat) : Int), .int 1])) D1 (.lst (zs.map V.ref ++ [V.ref z2]))) := fun c ys h => by
        rw [L2.upd_ne (fun z => by rw [z, hD] at h; cases h)]; exact Ex.upd hz2 _ _ h
      rw [List.take_add_one, hpi]
      simp only [Option.toList_some, List.map_append, List.map_cons, List.map_nil]
      refine paired_snoc9 ?_ (KL9.paired_mono (fun _ _ h => kt _ _ h) pz)
      show (upd (upd H' z2 _) D1 _) z2 = _
      rw [L2.upd_ne nz]
      exact upd_same
    · rintro H2 ⟨e2, zs, hD2, pz⟩
      rw [List.length_map, tl', List.take_length] at pz
      refine ⟨D1, zs, _, rfl, SqL.of hD2, KL9.paired_mono (fun _ _ h => SqT.of h) pz, fun d hd => ?_⟩
      obtain ⟨bs, ks, z1, z2, z3, z4, z5⟩ := parts_sorted (many := many) (pl := x.2.2) fun pi hpi => ((at_ pi.1 pi.2).mp hpi).1
      refine ⟨d, _, bs, rfl, upd_same, z1, fun D0 hD0 => ?_⟩
      rw [z2, List.map_map]
      have e3 : KS.Ex H2 (upd (upd H2 d (.dK (mergeK [] (x.2.2.map fun y => (kN y.1, V.int 1))))) D0 (.lst (ks.map (V.int ∘ fun (k : Nat) => (k : Int))))) := (Ex.upd hd).trans (Ex.upd hD0)
      have nO : ¬ O D0 := fun c => (((s1.ex e2).ex (Ex.upd hd)).ow _ c).2.2.2.1 hD0
      have hD3 : (upd (upd H2 d (.dK (mergeK [] (x.2.2.map fun y => (kN y.1, V.int 1))))) D0 (.lst (ks.map (V.int ∘ fun (k : Nat) => (k : Int))))) D0 = some (.lst (ks.map (V.int ∘ fun (k : Nat) => (k : Int)))) := upd_same
      generalize upd (upd H2 d (.dK (mergeK [] (x.2.2.map fun y => (kN y.1, V.int 1))))) D0 (.lst (ks.map (V.int ∘ fun (k : Nat) => (k : Int)))) = H3 at e3 hD3
      have e13 := e2.trans e3
      have s3 := s1.ex e13
      have r3 := r1.ex e13
      have w3 := w1.ex e13
      rw [List.length_map, tl] at w3
      have w3 := w3.wds (wd' := fun q k => wordOf (endF vl.L x.2.2 w (n, x.1, x.2.1) q) k) fun p k _ hk => wdJ_all g hx hw hk
      refine ⟨D0, rfl, ⟨_, SqL.of hD3⟩, for_list (xs := ks.map (V.int ∘ fun (k : Nat) => (k : Int))) (fun j σ H' => (∃ u21, σ = [a0, some (.ref la.dc), some (.ref a.o), some (.ref a.d), some mv, some (.ref la.l1), some (.ref la.l2), some (.ref la.l3), some (.ref b.wr), some (.ref la.fl), some (.ref la.rl), u11, u12, u13, some (.str n), u15, u16, some (.str (wordS w)), u18, u19, u20, u21, u22, u23, u24]) ∧ ∃ (O1 : Addr → Prop) (b1 : BA), b1.wr = b.wr ∧ Sd CD CL CP Ps Pn Pl many a la.dc O1 v' H' ∧ LwR O1 many la b1 { vl with L := endJ vl.L ks w (n, x.1, x.2.1) j } H' ∧ WrA many b1 (endJ vl.L ks w (n, x.1, x.2.1) j) (fun q k => wordOf (endF vl.L x.2.2 w (n, x.1, x.2.1) q) k) H' ∧ H' D0 = some (.lst (ks.map (V.int ∘ fun (k : Nat) => (k : Int)))) ∧ ¬ O1 D0) ⟨⟨_, rfl⟩, O, b, rfl, s3, ?_, ?_, hD3, nO⟩ ?_ ?_ ?_⟩
      · rw [endJ_zero]; exact r3
      · rw [endJ_zero]; exact w3
      · rintro j σ H' _ ⟨_, _, _, _, _, _, _, h, _⟩
        exact SqL.of h
      · rintro j z σ H' hz ⟨⟨u21, rfl⟩, O1, b1, hb, s4, r4, w4, hD, nD⟩
        rw [List.getElem?_map] at hz
        obtain ⟨p, hp', rfl⟩ := Option.map_eq_some_iff.mp hz
        have pm := List.mem_of_getElem? hp'
        have hp := z5 p pm
        have hasp : hasP x.2.2 p := Classical.byContradiction fun c => (z4 p).mp pm (firstOf_none.mpr c)
        obtain ⟨ej0, ej1⟩ := endJ_succ (L := vl.L) (w := w) (d := (n, x.1, x.2.1)) z3 hp'
        obtain ⟨kw, g1, g2⟩ := w4.get hp
        have hls := w4.ls p hp
        have hln := w4.len p hp
        rw [hb] at g1
        refine ⟨_, rfl, _, rfl, b.wr, _, rfl, by rw [← g2]; exact DGet.k (k := kN p) g1, (show tyV _ "list" (.ref (b1.wl p)) H' from Or.inl ⟨rfl, _, SqL.of hls⟩), (by show 4 ≤ sizeLine; decide), fun r hr => ?_⟩
        have e5 : KS.Ex H' (upd H' r (.lst [.non, .non, .non, .str "end"])) := Ex.upd hr
        have hr5 : (upd H' r (.lst [.non, .non, .non, .str "end"])) r = some (.lst [.non, .non, .non, .str "end"]) := upd_same
        have s5 := s4.own e5 hr hr5 (fun _ z => nomatch z)
        have r5 := r4.ex e5
        have w5 := w4.ex e5
        have nor : ¬ O1 r := fun c => (s4.ow r c).2.2.2.1 hr
        have hls5 := e5 _ _ hls
        have hD5 := e5 _ _ hD
        have nr : D0 ≠ r := fun c => by rw [← c, hD] at hr; cases hr
        refine ⟨b1.wl p, _, _, rfl, rfl, hls5, by
          have := hL p
          rw [List.length_map, hln, ej0]; omega, ?_⟩
        generalize upd H' r (.lst [.non, .non, .non, .str "end"]) = H5 at s5 r5 w5 hls5 hr5 hD5
        have bwl : BR many b1 (b1.wl p) := .inr (.inl ⟨p, hp, rfl⟩)
        have nbr : ¬ BR many b1 r := fun c => nor (r4.o.2 r c)
        have nDw : D0 ≠ b1.wl p := fun c => nD (by rw [c]; exact r4.o.2 _ bwl)
        have s6 := s5.wr (.inl (r5.o.2 _ bwl)) hls5 (u := .lst ((b1.rws p).map V.ref ++ [.ref r])) (fun _ z => nomatch z) (fun _ z => nomatch z) (fun _ z => nomatch z) (fun _ _ _ z => nomatch z) (fun _ z => nomatch z)
        have w6 := WrA.add (L' := endJ vl.L ks w (n, x.1, x.2.1) (j + 1)) (wd' := fun q k => wordOf (endF vl.L x.2.2 w (n, x.1, x.2.1) q) k) w5 hp nbr ej1.symm (e := Ev.mark w (n, x.1, x.2.1)) (by
          show H5 r = some (.lst [.non, .non, .non, .str (wordOf (endF vl.L x.2.2 w (n, x.1, x.2.1) p) (endJ vl.L ks w (n, x.1, x.2.1) j p).length)])
          rw [ej0, wd_mark hasp]; exact hr5) fun _ _ _ _ => rfl
        have r6 := ((r5.br bwl hls5 (u := .lst ((b1.rws p).map V.ref ++ [.ref r]))).add (p := p) nor).grow (L' := endJ vl.L ks w (n, x.1, x.2.1) (j + 1)) fun q => by
          rw [← ej1]
          by_cases c : q = p
          · subst c; exact ⟨_, by rw [setL_same]⟩
          · exact ⟨[], by rw [setL_ne _ _ c, List.append_nil]⟩
        refine ⟨⟨_, rfl⟩, _, b1.add p r, hb, s6, r6, w6, by rw [L2.upd_ne nDw]; exact hD5, fun c => ?_⟩
        rcases c with c | c
        · exact nD c
        · exact nr c
      · rintro σ H4 ⟨⟨u21, rfl⟩, O1, b1, hb, s4, r4, w4, hD, nD⟩
        rw [List.length_map, endJ_all z4] at r4 w4
        have lw4 := r4.a w4
        obtain ⟨k34, g34, t34⟩ := lw4.t3
        obtain ⟨lv, v1, _⟩ := t34.some hx
        refine ⟨_, rfl, la.l3, rfl, .inl ⟨_, .inl g34⟩, _, rfl, k34, kS n, lv, g34, rfl, v1, ?_⟩
        have lw5 := lw4.gone (n := n) g34 t34
        have s5 := s4.wr lw4.o.1.2.2.1 g34 (u := .dK (dropK k34 (kS n))) (fun _ z => nomatch z) (fun _ z => nomatch z) (fun _ z => nomatch z) (fun _ _ _ z => nomatch z) (fun _ z => nomatch z)
        exact fin _ O1 b1 _ _ _ _ hb ⟨s5.st, s5.dr, by rw [en, ed, eL]; exact g.done (a := x.1) (m := x.2.1) (pl := x.2.2) hx hw, lw5.cast ea en ed eL, s5.ow, s5.nd, y.bd, y.pl, y.hm⟩
end
end KL9
set_option Elab.async false
set_option linter.all false
set_option maxRecDepth 100000
set_option maxHeartbeats 4000000
namespace KL9
open PySem PySem.Spec PyProof.Rows L2 KB KC KS KN1 LamX K7 Q9 R8 TK
section
variable {CD CL CP Ps Pn Pl : Addr} {many : Nat} {a : DA} {la : LA} {O : Addr → Prop} {b : BA} {v : DV} {i : Nat} {H H' : Hp}
theorem IL.read (x : IL CD CL CP Ps Pn Pl many a la O b v i H) (fr : ∀ c u, c ≠ la.fl → c ≠ la.rl → H c = some u → H' c = some u) (re : ReA many la.fl la.rl v.L H') (nw : ∀ us : List Addr, H' la.rl = some (.lst (us.map V.ref)) → ∀ (p : Nat) (u : Addr), p < many → us[p]? = some u → H u = none) : ∃ O', IL CD CL CP Ps Pn Pl many a la O' b v i H' := by
  obtain ⟨Lo, re0, c1, c2⟩ := x.lw.re
  have hfl := re0.f
  obtain ⟨us0, hrl, _⟩ := re0.r
  obtain ⟨us, r1, r2, r3⟩ := re.r
  obtain ⟨⟨o1, o2, o3, o4, o5, o6⟩, o7⟩ := x.lw.o
  obtain ⟨j1, j2, f1, ⟨f2, f3⟩, f4, f5, f6⟩ := x.lw.dj
  obtain ⟨m1, m2, m3, m4, m5⟩ := x.ow _ o4
  obtain ⟨p1, p2, p3, p4, p5⟩ := x.ow _ o5
  have kd : ∀ {c : Addr} {u : HO}, (∀ ys, u ≠ .lst ys) → H c = some u → H' c = some u := fun {c u} n h => fr c u (fun z => by rw [z, hfl] at h; exact n _ (Option.some.inj h).symm) (fun z => by rw [z, hrl] at h; exact n _ (Option.some.inj h).symm) h
  have kt : KT' H H' := fun c ys h => kd (fun _ z => nomatch z) h
  have new : ∀ u ∈ us, H u = none := fun u hu => by
    obtain ⟨p, hp⟩ := List.getElem?_of_mem hu
    exact nw us r1 p u (by rw [← r2]; exact (List.getElem?_eq_some_iff.mp hp).1) hp
  have go : ∀ {P : Addr} {q : Str}, TabS H P q → TabS H' P q := fun t => tabS_two t (fun ps hb => kd (fun _ z => nomatch z) hb) (fun b φ hb => kd (fun _ z => nomatch z) hb)
  obtain ⟨q1, q2, q3, hd⟩ := x.st.dice
  refine ⟨fun y => O y ∨ y ∈ us, ⟨go x.st.ts, go x.st.tn, go x.st.tl, ⟨q1, q2, q3, fr _ _ m3.symm p3.symm hd⟩⟩, x.dr.keep2 kt fun y u hy h => ?_, x.g, ?_, fun y hy => ?_, x.nd, x.bd, x.pl, x.hm⟩
  · have no : ∀ {z : Addr} {ys : List V}, H z = some (.lst ys) → ¬ DR a v z → z ≠ a.q → y ≠ z := fun {z ys} hz n1 n2 e => by
      subst e
      obtain ⟨dx, ob⟩ := x.dr.ob
      obtain ⟨sts, lg, ls⟩ := x.dr.lg
      obtain ⟨dxo, obo⟩ := lg.ob
      rcases hy with hy | hy | hy | hy
      · rw [hy, ob] at hz; cases hz
      · rw [hy, obo] at hz; cases hz
      · exact n2 hy
      · exact n1 hy
    exact fr y u (no hfl m1 m2) (no hrl p1 p2) h
  · obtain ⟨k1, g1, t1⟩ := x.lw.t1
    obtain ⟨k2, g2, t2⟩ := x.lw.t2
    obtain ⟨k3, g3, t3⟩ := x.lw.t3
    refine ⟨⟨⟨.inl o1, .inl o2, .inl o3, .inl o4, .inl o5, .inl o6⟩, fun y hy => .inl (o7 y hy)⟩, ⟨k1, kd (fun _ z => nomatch z) g1, t1⟩, ⟨k2, kd (fun _ z => nomatch z) g2, t2⟩, ⟨k3, kd (fun _ z => nomatch z) g3, t3.mono fun n w y _ ⟨l, ts, e1, e2, e3, e4, e5, e6, e7⟩ => ⟨l, ts, e1, fr _ _ e5 e6 e2, e3.kt kt, .inl e4, e5, e6, e7⟩⟩, x.lw.wr.keep kt fun y u hy h => fr y u (fun z => f2 (by rw [← z]; exact hy)) (fun z => f3 (by rw [← z]; exact hy)) h, ⟨v.L, re, fun p => ⟨[], by rw [List.append_nil]⟩, x.g.marks⟩, fun us' hus u hu => ?_, fr _ _ f4 f5 x.lw.rp, x.lw.dj⟩
    rw [r1] at hus
    cases hus
    obtain ⟨u', hu', e⟩ := List.mem_map.mp hu
    cases e
    refine ⟨.inr hu', fun z => ?_⟩
    exact (x.ow _ (o7 _ z)).2.2.2.1 (new _ hu')
  · rcases hy with hy | hy
    · obtain ⟨n1, n2, n3, n4, n5⟩ := x.ow y hy
      refine ⟨n1, n2, n3, ?_⟩
      by_cases c3 : y = la.fl
      · rw [c3, re.f]; exact ⟨by simp, by intro _ z; cases z⟩
      · by_cases c4 : y = la.rl
        · rw [c4, r1]; exact ⟨by simp, by intro _ z; cases z⟩
        · cases q : H y with
          | none => exact absurd q n4
          | some u =>
            rw [fr y u c3 c4 q]
            exact ⟨by simp, fun ps z => n5 ps (by rw [q, ← z])⟩
    · have hn := new y hy
      obtain ⟨p, hp⟩ := List.getElem?_of_mem hy
      obtain ⟨_, _, ts, e1, _⟩ := r3 p y hp
      refine ⟨fun z => x.dr.live (.inr (.inr (.inr z))) hn, fun z => x.dr.live (.inr (.inr (.inl z))) hn, (fun z => by rw [z, hd] at hn; cases hn), (by rw [e1]; simp), (by rw [e1]; intro _ z; cases z)⟩
end
section
variable {P : Program} {w : World} {K : PySem.W.Frag} {mg : Str → Option Value} {base : Heap} {CP CL CD CG CR Ps Pn Pl cN cL fTo fL : Addr} {fdTo : FuncData} {A : Around} {outer : List PySem.Env} {s : Shared} {H0 : Hp} {E0' : XK}
def Sg (many : Nat) (a : DA) (la : LA) (b : BA) (σ : L2.St) : Prop := ∃ a0 u11 u12 u13 u14 u15 u16 u17 u18 u19 u20 u21 u22 u23 u24, σ = [a0, some (.ref la.dc), some (.ref a.o), some (.ref a.d), some (.int (many : Int)), some (.ref la.l1), some (.ref la.l2), some (.ref la.l3), some (.ref b.wr), some (.ref la.fl), some (.ref la.rl), u11, u12, u13, u14, u15, u16, u17, u18, u19, u20, u21, u22, u23, u24]
theorem g_look (ve : LawE P w K mg base CP CL CD CG CR Ps Pn Pl cN cL fTo fdTo) (hr : Room 14 (xLaw P w K mg base fL cL A outer s H0 E0').A) :
    ∃ t6, L2.PS (xLaw P w K mg base fL cL A outer s H0 E0') (dS 6) t6 ∧
      ∀ (D : Ends) (H : Hp) (many : Nat) (a : DA) (la : LA) (O : Addr → Prop) (b : BA) (v : DV) (i : Nat) (a0 u11 u12 u13 u14 u15 u16 u17 u18 u19 u20 u21 u22 u23 u24 : Option V), IL CD CL CP Ps Pn Pl many a la O b v i H → i ≤ 81 →
      (∀ (H' : Hp) (O' : Addr → Prop), IL CD CL CP Ps Pn Pl many a la O' b v i H' → D.nx [a0, some (.ref la.dc), some (.ref a.o), some (.ref a.d), some (.int (many : Int)), some (.ref la.l1), some (.ref la.l2), some (.ref la.l3), some (.ref b.wr), some (.ref la.fl), some (.ref la.rl), u11, u12, u13, u14, u15, u16, u17, u18, u19, u20, u21, u22, u23, u24] H') →
      t6 D [a0, some (.ref la.dc), some (.ref a.o), some (.ref a.d), some (.int (many : Int)), some (.ref la.l1), some (.ref la.l2), some (.ref la.l3), some (.ref b.wr), some (.ref la.fl), some (.ref la.rl), u11, u12, u13, u14, u15, u16, u17, u18, u19, u20, u21, u22, u23, u24] H := by
  obtain ⟨fD, fdD, GD, gD, kD, bD⟩ := ve.read
  refine ⟨_, ps_if (pt_not (pt_val (pe_call GD (hr.mono (by decide)) (by rfl) gD kD bD .nil pass0 (pa_cons (pv 3) (pa_cons (pv 2) (pa_cons (pv 8) (pa_cons (pv 9) (pa_cons (pv 10) pa_nil)))))))) (pss_one (ps_ret pe_bl)) pss_nil, ?_⟩
  intro D H many a la O b v i a0 u11 u12 u13 u14 u15 u16 u17 u18 u19 u20 u21 u22 u23 u24 y hi fin
  obtain ⟨Lo, re, c1, c2⟩ := y.lw.re
  obtain ⟨⟨o1, o2, o3, o4, o5, o6⟩, o7⟩ := y.lw.o
  obtain ⟨j1, j2, f1, ⟨f2, f3⟩, f4, f5, f6⟩ := y.lw.dj
  refine ⟨_, rfl, _, rfl, _, rfl, _, rfl, _, rfl, rd9_step y.dr y.g (by decide) y.lw.wr re ⟨c1, c2, y.pl, fun p => by have := y.bd.1 p; omega⟩ ⟨fun z hz => ?_, f1⟩ fun H' fr re' nw => ⟨_, rfl, ifF (by decide) ?_⟩⟩
  · rcases hz with rfl | rfl
    · obtain ⟨m1, m2, _⟩ := y.ow _ o4
      exact ⟨m1, m2, f2⟩
    · obtain ⟨m1, m2, _⟩ := y.ow _ o5
      exact ⟨m1, m2, f3⟩
  · obtain ⟨O', y'⟩ := y.read fr re' nw
    exact fin H' O' y'
theorem g_deed (ve : LawE P w K mg base CP CL CD CG CR Ps Pn Pl cN cL fTo fdTo) (hr : Room 14 (xLaw P w K mg base fL cL A outer s H0 E0').A) :
    ∃ t, L2.PSs (xLaw P w K mg base fL cL A outer s H0 E0') dBody t ∧
      ∀ (D : Ends) (H : Hp) (many : Nat) (a : DA) (la : LA) (O : Addr → Prop) (b : BA) (v : DV) (i : Nat) (a0 u11 u13 u14 u15 u16 u17 u18 u19 u20 u21 u22 u23 u24 : Option V), IL CD CL CP Ps Pn Pl many a la O b v i H → i ≤ 80 →
      (∀ (σ' : L2.St) (H' : Hp) (O' : Addr → Prop) (b' : BA) (v' : DV), Sg many a la b' σ' → IL CD CL CP Ps Pn Pl many a la O' b' v' (i + 1) H' → D.nx σ' H') →
      t D [a0, some (.ref la.dc), some (.ref a.o), some (.ref a.d), some (.int (many : Int)), some (.ref la.l1), some (.ref la.l2), some (.ref la.l3), some (.ref b.wr), some (.ref la.fl), some (.ref la.rl), u11, some (.int (i : Int)), u13, u14, u15, u16, u17, u18, u19, u20, u21, u22, u23, u24] H := by
  obtain ⟨t0, t1, t2, t3, T0, T1, T2, T3, h0⟩ := g_draw (fL := fL) (A := A) (outer := outer) (s := s) (H0 := H0) (E0' := E0') ve hr
  obtain ⟨e0, e1, e2, E0, E1, E2, he⟩ := g_enter (fL := fL) (A := A) (outer := outer) (s := s) (H0 := H0) (E0' := E0') ve hr
  obtain ⟨b0, b1, b2, B0, B1, B2, hb⟩ := g_begin (fL := fL) (A := A) (outer := outer) (s := s) (H0 := H0) (E0' := E0') ve hr
  obtain ⟨d0, d1, d2, d3, A0, A1, A2, A3, ha⟩ := g_add (fL := fL) (A := A) (outer := outer) (s := s) (H0 := H0) (E0' := E0') ve hr
  obtain ⟨c0, c1, c2, c3, C0, C1, C2, C3, hc⟩ := g_close (fL := fL) (A := A) (outer := outer) (s := s) (H0 := H0) (E0' := E0') ve hr
  obtain ⟨t5, T5, h5⟩ := g_end (fL := fL) (A := A) (outer := outer) (s := s) (H0 := H0) (E0' := E0') ve hr
  obtain ⟨t6, T6, h6⟩ := g_look (fL := fL) (A := A) (outer := outer) (s := s) (H0 := H0) (E0' := E0') ve hr
  refine ⟨_, pss_cons T0 (pss_cons T1 (pss_cons T2 (pss_cons T3 (pss_cons (ps_if (pt_cmpR op_eq (pv 13) pe_int (nomark _)) (pss_cons E0 (pss_cons E1 (pss_one E2)))
      (pss_one (ps_if (pt_cmpR op_lt (pv 13) pe_int (nomark _)) (pss_cons B0 (pss_cons B1 (pss_one B2)))
      (pss_one (ps_if (pt_cmpR op_lt (pv 13) pe_int (nomark _)) (pss_cons A0 (pss_cons A1 (pss_cons A2 (pss_one A3)))) (pss_cons C0 (pss_cons C1 (pss_cons C2 (pss_one C3)))))))))
    (pss_cons T5 (pss_one T6)))))), ?_⟩
  intro D H many a la O b v i a0 u11 u13 u14 u15 u16 u17 u18 u19 u20 u21 u22 u23 u24 y hi fin
  refine h0 D H many a la O b v i _ _ _ _ _ _ _ _ _ _ _ _ _ _ _ _ _ y fun H1 so n g so0 so1 hn y1 => ?_
  have last : ∀ (H' : Hp) (O' : Addr → Prop) (b' : BA) (vl v' : DV) (wd : Option Nat) (x18 x19 x20 x21 x22 : Option V), b'.wr = b.wr → EI CD CL CP Ps Pn Pl many a la O' b' vl v' (i + 1) n wd H' → tSeq t5 t6 D [a0, some (.ref la.dc), some (.ref a.o), some (.ref a.d), some (.int (many : Int)), some (.ref la.l1), some (.ref la.l2), some (.ref la.l3), some (.ref b.wr), some (.ref la.fl), some (.ref la.rl), u11, some (.int (i : Int)), some (.int so), some (.str n), some (.int g), some (.bl (decide ((v.ages n).map (fun z => (z : Int)) = some g))), some (wV wd), x18, x19, x20, x21, x22, u23, u24] H' := by
    intro H' O' b' vl v' wd x18 x19 x20 x21 x22 hb' z
    rw [← hb']
    refine h5 _ H' many a la O' b' vl v' (i + 1) n wd _ _ _ _ _ _ _ _ _ _ _ _ _ _ z (by omega) fun H2 O2 b2 x20' x21' x23 x24 hb2 z2 => ?_
    rw [← hb2]
    refine h6 D H2 many a la O2 b2 v' (i + 1) _ _ _ _ _ _ _ _ _ _ _ _ _ _ _ z2 (by omega) fun H3 O3 z3 => ?_
    exact fin _ H3 O3 b2 v' ⟨_, _, _, _, _, _, _, _, _, _, _, _, _, _, _, rfl⟩ z3
  by_cases q0 : so = 0
  · refine ⟨_, rfl, rfl, _, rfl, ifT (by rw [q0]; decide) ?_⟩
    exact he _ H1 many a la O b v i n _ _ _ _ _ _ _ _ _ _ _ _ _ _ _ y1 hn hi fun H2 vl v' wd z => last H2 O b vl v' wd _ _ _ _ _ rfl z
  refine ⟨_, rfl, rfl, _, rfl, ifF (by simp [q0]) ?_⟩
  by_cases q1 : so < 3
  · refine ⟨_, rfl, _, _, rfl, rfl, _, rfl, ifT (by rw [decide_eq_true_eq]; exact q1) ?_⟩
    exact hb _ H1 many a la O b v i n g _ _ _ _ _ _ _ _ _ _ _ _ y1 hn hi fun H2 vl v' O' x18 z => last H2 O' b vl v' none _ _ _ _ _ rfl z
  refine ⟨_, rfl, _, _, rfl, rfl, _, rfl, ifF (by rw [decide_eq_true_eq]; exact q1) ?_⟩
  by_cases q2 : so < 7
  · refine ⟨_, rfl, _, _, rfl, rfl, _, rfl, ifT (by rw [decide_eq_true_eq]; exact q2) ?_⟩
    exact ha _ H1 many a la O b v i n g _ _ _ _ _ _ _ _ _ _ y1 hn hi fun H2 vl v' O' b' x18 x19 x20 x21 hb' z => last H2 O' b' vl v' none _ _ _ _ _ hb' z
  refine ⟨_, rfl, _, _, rfl, rfl, _, rfl, ifF (by rw [decide_eq_true_eq]; exact q2) ?_⟩
  exact hc _ H1 many a la O b v i n g so _ _ _ _ _ _ _ _ _ _ _ _ y1 hn hi fun H2 vl v' wd x18 x22 z => last H2 O b vl v' wd _ _ _ _ _ rfl z
end
end KL9
set_option Elab.async false
set_option linter.all false
set_option maxRecDepth 100000
set_option maxHeartbeats 4000000
namespace KL9
open PySem PySem.Spec PyProof.Rows L2 KB KC KS KN1 LamX K7 Q9 R8 TK
theorem none_ex9 {H H' : Hp} {b : Addr} (e : KS.Ex H H') (h : H' b = none) : H b = none := by
  cases q : H b with
  | none => rfl
  | some u => rw [e _ _ q] at h; cases h
section
variable {CD CL CP CG : Addr}
theorem mk_log {o dxo : Addr} {n : Nat} {H1 : Hp} {Q : VK} {E : XK} (ho : H1 o = none) (hd : H1 dxo = none) (nd : o ≠ dxo) (h0 : 0 < n) (h1 : n ≤ 16) (fin : ∀ H3 q ps, KS.Ex H1 H3 → LogA CL CP o q ps (List.replicate n ps0) H3 → H1 q = none → (∀ pl ∈ ps, H1 pl.1 = none ∧ H1 pl.2 = none) → Q .non H3) : spLI CL CP CG [.ref o, .int (n : Int)] (upd (upd H1 dxo (.own o)) o (.ins CL dxo [])) Q E := by
  have e2 : KS.Ex H1 (upd (upd H1 dxo (.own o)) o (.ins CL dxo [])) := (Ex.upd hd).trans (Ex.upd (by rw [L2.upd_ne nd]; exact ho))
  have o2 : (upd (upd H1 dxo (.own o)) o (.ins CL dxo [])) o = some (.ins CL dxo []) := upd_same
  generalize upd (upd H1 dxo (.own o)) o (.ins CL dxo []) = H2 at e2 o2
  refine li_step o2 (by omega) (by omega) (fun c => absurd ⟨by omega, by omega⟩ c) fun _ H3 q ps e3 lg hq hps => ?_
  rw [Int.toNat_natCast] at lg
  exact fin H3 q ps (fun b u h => e3 b u (ne_of_none h ho) (e2 b u h)) lg (none_ex9 e2 hq) fun pl hpl => ⟨none_ex9 e2 (hps pl hpl).1, none_ex9 e2 (hps pl hpl).2⟩
theorem mk_door {d dxd o q : Addr} {ps : List (Addr × Addr)} {n : Nat} {nm : List Str} {H1 : Hp} {Q : VK} {E : XK} (hd : H1 d = none) (hx : H1 dxd = none) (nd : d ≠ dxd) (h1 : n ≤ 16) (lg : LogA CL CP o q ps (List.replicate n ps0) H1) (fin : ∀ H3 a1 a2 a3 a4, KS.Ex H1 H3 → DoorA CD CL CP n nm ⟨d, o, q, a1, a2, a3, a4, ps⟩ v0 H3 → (H1 a1 = none ∧ H1 a2 = none ∧ H1 a3 = none ∧ H1 a4 = none) → Q .non H3) : spEI CD [.ref d, .ref o] (upd (upd H1 dxd (.own d)) d (.ins CD dxd [])) Q E := by
  have e2 : KS.Ex H1 (upd (upd H1 dxd (.own d)) d (.ins CD dxd [])) := (Ex.upd hx).trans (Ex.upd (by rw [L2.upd_ne nd]; exact hd))
  have o2 : (upd (upd H1 dxd (.own d)) d (.ins CD dxd [])) d = some (.ins CD dxd []) := upd_same
  generalize upd (upd H1 dxd (.own d)) d (.ins CD dxd []) = H2 at e2 o2
  refine ei_step o2 fun H3 a1 a2 a3 a4 kp ob he hf hj => ?_
  have e3 : KS.Ex H1 H3 := fun b u h => kp b u (ne_of_none h hd) (e2 b u h)
  obtain ⟨f1, f2, f3, f4⟩ := hf
  exact fin H3 a1 a2 a3 a4 e3 (door_new h1 lg hd (fun b u _ h => e3 b u h) ob he hj) ⟨none_ex9 e2 f1, none_ex9 e2 f2, none_ex9 e2 f3, none_ex9 e2 f4⟩
theorem own_new {d o q a1 a2 a3 a4 : Addr} {ps : List (Addr × Addr)} {H : Hp} (hd : H d = none) (ho : H o = none) (hq : H q = none) (hps : ∀ pl ∈ ps, H pl.1 = none ∧ H pl.2 = none) (ha : H a1 = none ∧ H a2 = none ∧ H a3 = none ∧ H a4 = none) : ∀ b, Own ⟨d, o, q, a1, a2, a3, a4, ps⟩ v0 b → H b = none := by
  intro b hb
  rcases hb with hb | hb | hb | hb | hb | hb | hb | hb | hb | ⟨n, hn, _⟩
  · rw [hb]; exact hd
  · rw [hb]; exact ho
  · rw [hb]; exact hq
  · obtain ⟨pl, hpl, rfl⟩ := List.mem_map.mp hb
    exact (hps pl hpl).1
  · obtain ⟨pl, hpl, rfl⟩ := List.mem_map.mp hb
    exact (hps pl hpl).2
  · rw [hb]; exact ha.1
  · rw [hb]; exact ha.2.1
  · rw [hb]; exact ha.2.2.1
  · rw [hb]; exact ha.2.2.2
  · exact absurd rfl hn
end
end KL9
set_option Elab.async false
set_option linter.all false
set_option maxRecDepth 100000
set_option maxHeartbeats 4000000
namespace KL9
open PySem PySem.Spec PyProof.Rows L2 KB KC KS KN1 LamX K7 Q9 R8 TK
section
variable {P : Program} {w : World} {K : PySem.W.Frag} {mg : Str → Option Value} {base : Heap} {CP CL CD CG CR Ps Pn Pl cN cL fTo fL : Addr} {fdTo : FuncData} {A : Around} {outer : List PySem.Env} {s : Shared} {H0 : Hp} {E0' : XK}
theorem g_open (ve : LawE P w K mg base CP CL CD CG CR Ps Pn Pl cN cL fTo fdTo) (hr : Room 14 (xLaw P w K mg base fL cL A outer s H0 E0').A) :
    ∃ t0 t1, L2.PS (xLaw P w K mg base fL cL A outer s H0 E0') (lS 0) t0 ∧ L2.PS (xLaw P w K mg base fL cL A outer s H0 E0') (lS 1) t1 ∧
      ∀ (D : Ends) (HB : Hp) (dc : Addr) (tr : TS) (a0 u2 u3 u4 u5 u6 u7 u8 u9 u10 u11 u12 u13 u14 u15 u16 u17 u18 u19 u20 u21 u22 u23 u24 : Option V), St Ps Pn Pl dc HB →
      (∀ (H' : Hp) (many : Nat) (a : DA), 0 < many → many ≤ 3 → St Ps Pn Pl dc H' → (∀ b u, b ≠ dc → HB b = some u → H' b = some u) → DoorA CD CL CP many nm3 a v0 H' → (∀ b, Own a v0 b → HB b = none) →
        tr D [a0, some (.ref dc), some (.ref a.o), some (.ref a.d), some (.int (many : Int)), u5, u6, u7, u8, u9, u10, u11, u12, u13, u14, u15, u16, u17, u18, u19, u20, u21, u22, u23, u24] H') →
      tSeq t0 (tSeq t1 tr) D [a0, some (.ref dc), u2, u3, u4, u5, u6, u7, u8, u9, u10, u11, u12, u13, u14, u15, u16, u17, u18, u19, u20, u21, u22, u23, u24] HB := by
  obtain ⟨fR, fdR, GR, gR, kR, bR⟩ := ve.roll
  obtain ⟨fL', fdL, GL, ML, bL⟩ := ve.linit
  obtain ⟨fD, fdD, GD, MD, bD⟩ := ve.einit
  refine ⟨_, _, ps_set (i := 2) scLaw.nd rfl (Or.inl rfl) (pe_make (CX := L2.CX P w) ML GL (hr.mono (by decide)) (by rfl) ve.TO.g bL (E := fun _ _ _ => False) .nil (passes_call L2.takes0 (fun _ _ _ _ h => h)) (pa_cons (pe_op op_add pe_int (pe_call GR (hr.mono (by decide)) (by rfl) gR kR bR .nil pass0 (pa_cons (pv 1) (pa_cons pe_int pa_nil)))) pa_nil)),
    ps_asg (pe_tup (pa_cons (pe_make MD GD (hr.mono (by decide)) (by rfl) ve.TE.g bD .nil pass0 (pa_cons (pv 2) pa_nil)) (pa_cons (pe_callB call_len_seq (by rfl) ve.T.len (by decide +kernel) (pa_cons (pf 2) pa_nil)) pa_nil))) (pg_tup rfl (pgs_cons (pg_name (i := 3) scLaw.nd rfl (Or.inr rfl)) (pgs_cons (pg_name (i := 4) scLaw.nd rfl (Or.inl rfl)) pgs_nil))), ?_⟩
  intro D HB dc tr a0 u2 u3 u4 u5 u6 u7 u8 u9 u10 u11 u12 u13 u14 u15 u16 u17 u18 u19 u20 u21 u22 u23 u24 st fin
  refine ⟨_, rfl, roll_step st.dice (by decide) (by decide) fun r H1 r0 r4 e1 i1 => ⟨_, _, rfl, rfl, fun o dxo ho hdo nd => ?_⟩⟩
  have s1 := st.exD e1 i1
  obtain ⟨n, hn⟩ : ∃ n : Nat, 1 + r = (n : Int) := ⟨(1 + r).toNat, by omega⟩
  show spLI CL CP CG [.ref o, .int (1 + r)] _ _ _
  rw [hn]
  refine mk_log ho hdo nd.symm (by omega) (by omega) fun H3 q ps e3 lg hq hps => ⟨rfl, ?_⟩
  have s3 := s1.ex e3
  show tSeq _ _ _ [a0, some (.ref dc), some (.ref o), u3, u4, u5, u6, u7, u8, u9, u10, u11, u12, u13, u14, u15, u16, u17, u18, u19, u20, u21, u22, u23, u24] H3
  refine ⟨_, rfl, fun d dxd hd hdd nd2 => ?_⟩
  show spEI CD [.ref d, .ref o] _ _ _
  refine mk_door (nm := nm3) hd hdd nd2.symm (by omega) lg fun H4 a1 a2 a3 a4 e4 dr hf => ⟨rfl, ?_⟩
  have s4 := s3.ex e4
  obtain ⟨sts, lg4, ls⟩ := dr.lg
  obtain ⟨dxo4, obo⟩ := lg4.ob
  have hl := dr.len
  refine ⟨_, rfl, o, CL, dxo4, _, _, rfl, obo, ve.TO.cl, ve.TO.p, rfl, q, _, rfl, .inl (SqL.of lg4.ql), (by show 2 ≤ sizeLine; decide), fun z hz => ⟨z, _, rfl, SqT.of upd_same, rfl, _, _, rfl, _, _, rfl, rfl, ?_⟩⟩
  rw [List.length_map, hl]
  have ez := Ex.upd hz (o := .tup [.ref d, .int (n : Int)])
  have nb : ∀ b, H1 b = none → HB b = none := fun b hb => by
    cases y : HB b with
    | none => rfl
    | some u =>
      by_cases c : b = dc
      · obtain ⟨x1, x2, x3, x4⟩ := i1
        rw [c, x4] at hb; cases hb
      · rw [e1 b u c y] at hb; cases hb
  refine fin _ n ⟨d, o, q, a1, a2, a3, a4, ps⟩ (by omega) (by omega) (s4.ex ez) (fun b u hb h => (e3.trans (e4.trans ez)) _ _ (e1 b u hb h)) (dr.ex ez) fun b hb => nb b (own_new (none_ex9 e3 hd) ho hq hps ⟨none_ex9 e3 hf.1, none_ex9 e3 hf.2.1, none_ex9 e3 hf.2.2.1, none_ex9 e3 hf.2.2.2⟩ b hb)
end
end KL9
set_option Elab.async false
set_option linter.all false
set_option maxRecDepth 100000
set_option maxHeartbeats 4000000
namespace KL9
open PySem PySem.Spec PyProof.Rows L2 KB KC KS KN1 LamX K7 Q9 R8 TK
structure Made (many : Nat) (l1 l2 l3 wr fl rl u0 : Addr) (H H' : Hp) : Prop where
  ex : KS.Ex H H'
  e1 : H' l1 = some (.dK [])
  e2 : H' l2 = some (.dK [])
  e3 : H' l3 = some (.dK [])
  e4 : H' wr = some (.dK [])
  e5 : H' fl = some (.lst (List.replicate many [V.int 0]).flatten)
  e6 : H' rl = some (.lst (List.replicate many [V.ref u0]).flatten)
  e7 : H' u0 = some (.lst [])
  n : H l1 = none ∧ H l2 = none ∧ H l3 = none ∧ H wr = none ∧ H fl = none ∧ H rl = none ∧ H u0 = none
  d1 : l1 ≠ l2 ∧ l1 ≠ l3 ∧ l2 ≠ l3
  d2 : l1 ≠ wr ∧ l2 ≠ wr ∧ l3 ≠ wr
  d3 : fl ≠ rl ∧ u0 ≠ fl ∧ u0 ≠ rl
section
variable {P : Program} {w : World} {K : PySem.W.Frag} {mg : Str → Option Value} {base : Heap} {CP CL CD CG CR Ps Pn Pl cN cL fTo fL : Addr} {fdTo : FuncData} {A : Around} {outer : List PySem.Env} {s : Shared} {H0 : Hp} {E0' : XK}
theorem g_make9 (ve : LawE P w K mg base CP CL CD CG CR Ps Pn Pl cN cL fTo fdTo) (hr : Room 14 (xLaw P w K mg base fL cL A outer s H0 E0').A) :
    ∃ t2, L2.PS (xLaw P w K mg base fL cL A outer s H0 E0') (lS 2) t2 ∧
      ∀ (D : Ends) (H : Hp) (many : Nat) (a0 u1 u2 u3 u5 u6 u7 u8 u9 u10 u11 u12 u13 u14 u15 u16 u17 u18 u19 u20 u21 u22 u23 u24 : Option V), many ≤ 3 →
      (∀ (H' : Hp) (l1 l2 l3 wr fl rl x0 : Addr), Made many l1 l2 l3 wr fl rl x0 H H' →
        D.nx [a0, u1, u2, u3, some (.int (many : Int)), some (.ref l1), some (.ref l2), some (.ref l3), some (.ref wr), some (.ref fl), some (.ref rl), u11, u12, u13, u14, u15, u16, u17, u18, u19, u20, u21, u22, u23, u24] H') →
      t2 D [a0, u1, u2, u3, some (.int (many : Int)), u5, u6, u7, u8, u9, u10, u11, u12, u13, u14, u15, u16, u17, u18, u19, u20, u21, u22, u23, u24] H := by
  have hz0 : sizeLine = 16777216 := rfl
  refine ⟨_, ps_asg (pe_tup (pa_cons pe_dnewK (pa_cons pe_dnewK (pa_cons pe_dnewK (pa_cons pe_dnewK (pa_cons (pe_op op_rep (pe_lst (pa_cons pe_int pa_nil)) (pv 4)) (pa_cons (pe_op op_rep (pe_lst (pa_cons (pe_lst pa_nil) pa_nil)) (pv 4)) pa_nil)))))))
    (pg_tup rfl (pgs_cons (pg_name (i := 5) scLaw.nd rfl (Or.inl rfl)) (pgs_cons (pg_name (i := 6) scLaw.nd rfl (Or.inl rfl)) (pgs_cons (pg_name (i := 7) scLaw.nd rfl (Or.inl rfl)) (pgs_cons (pg_name (i := 8) scLaw.nd rfl (Or.inl rfl)) (pgs_cons (pg_name (i := 9) scLaw.nd rfl (Or.inl rfl)) (pgs_cons (pg_name (i := 10) scLaw.nd rfl (Or.inl rfl)) pgs_nil))))))), ?_⟩
  intro D H many a0 u1 u2 u3 u5 u6 u7 u8 u9 u10 u11 u12 u13 u14 u15 u16 u17 u18 u19 u20 u21 u22 u23 u24 hm fin
  refine fun l1 z1 => ?_
  have x1 : KS.Ex H (upd H l1 (.dK [])) := Ex.upd z1
  have p1 : (upd H l1 (.dK [])) l1 = some (.dK []) := upd_same
  generalize upd H l1 (.dK []) = H1 at x1 p1
  refine fun l2 z2 => ?_
  have x2 : KS.Ex H1 (upd H1 l2 (.dK [])) := Ex.upd z2
  have p2 : (upd H1 l2 (.dK [])) l2 = some (.dK []) := upd_same
  generalize upd H1 l2 (.dK []) = H2 at x2 p2
  refine fun l3 z3 => ?_
  have x3 : KS.Ex H2 (upd H2 l3 (.dK [])) := Ex.upd z3
  have p3 : (upd H2 l3 (.dK [])) l3 = some (.dK []) := upd_same
  generalize upd H2 l3 (.dK []) = H3 at x3 p3
  refine fun wr z4 => ?_
  have x4 : KS.Ex H3 (upd H3 wr (.dK [])) := Ex.upd z4
  have p4 : (upd H3 wr (.dK [])) wr = some (.dK []) := upd_same
  generalize upd H3 wr (.dK []) = H4 at x4 p4
  refine ⟨(by show 1 ≤ sizeLine; decide), fun t0 z5 => ?_⟩
  have x5 : KS.Ex H4 (upd H4 t0 (.lst [.int 0])) := Ex.upd z5
  have p5 : (upd H4 t0 (.lst [.int 0])) t0 = some (.lst [.int 0]) := upd_same
  generalize upd H4 t0 (.lst [.int 0]) = H5 at x5 p5
  refine ⟨_, rfl, t0, _, _, rfl, rfl, p5, by omega, by omega, by rw [Int.toNat_natCast]; show 1 * many ≤ _; omega, fun fl z6 => ?_⟩
  rw [Int.toNat_natCast]
  have x6 : KS.Ex H5 (upd H5 fl (.lst (List.replicate many [V.int 0]).flatten)) := Ex.upd z6
  have p6 : (upd H5 fl (.lst (List.replicate many [V.int 0]).flatten)) fl = some (.lst (List.replicate many [V.int 0]).flatten) := upd_same
  generalize upd H5 fl (.lst (List.replicate many [V.int 0]).flatten) = H6 at x6 p6
  refine ⟨(by show 0 ≤ sizeLine; decide), fun x0 z7 => ⟨(by show 1 ≤ sizeLine; decide), fun t1 z8 => ?_⟩⟩
  have x7 : KS.Ex H6 (upd H6 x0 (.lst [])) := Ex.upd z7
  have p7 : (upd H6 x0 (.lst [])) x0 = some (.lst []) := upd_same
  have x8 : KS.Ex (upd H6 x0 (.lst [])) (upd (upd H6 x0 (.lst [])) t1 (.lst [.ref x0])) := Ex.upd z8
  have p8 : (upd (upd H6 x0 (.lst [])) t1 (.lst [.ref x0])) t1 = some (.lst [.ref x0]) := upd_same
  have p78 := x8 _ _ p7
  have x78 := x7.trans x8
  generalize upd (upd H6 x0 (.lst [])) t1 (.lst [.ref x0]) = H8 at x78 p8 p78
  refine ⟨_, rfl, t1, _, _, rfl, rfl, p8, by omega, by omega, by rw [Int.toNat_natCast]; show 1 * many ≤ _; omega, fun rl z9 => ?_⟩
  rw [Int.toNat_natCast]
  have x9 : KS.Ex H8 (upd H8 rl (.lst (List.replicate many [V.ref x0]).flatten)) := Ex.upd z9
  have p9 : (upd H8 rl (.lst (List.replicate many [V.ref x0]).flatten)) rl = some (.lst (List.replicate many [V.ref x0]).flatten) := upd_same
  generalize upd H8 rl (.lst (List.replicate many [V.ref x0]).flatten) = H9 at x9 p9
  refine ⟨(by show 6 ≤ sizeLine; decide), fun T z10 => ⟨T, _, rfl, SqT.of upd_same, rfl, _, _, rfl, _, _, rfl, _, _, rfl, _, _, rfl, _, _, rfl, _, _, rfl, rfl, ?_⟩⟩
  have ne : ∀ {Ha : Hp} {c d : Addr} {u : HO}, Ha c = some u → Ha d = none → c ≠ d := fun h1 h2 z => by rw [z, h2] at h1; cases h1
  have x10 := Ex.upd z10 (o := .tup [.ref l1, .ref l2, .ref l3, .ref wr, .ref fl, .ref rl])
  have y2 := x1.trans x2
  have y3 := y2.trans x3
  have y4 := y3.trans x4
  have y5 := y4.trans x5
  have y6 := y5.trans x6
  have y8 := y6.trans x78
  have y9 := y8.trans x9
  have k4 := (((x5.trans x6).trans x78).trans x9).trans x10
  have k6 := (x78.trans x9).trans x10
  exact fin _ l1 l2 l3 wr fl rl x0 ⟨y9.trans x10, k4 _ _ (x4 _ _ (x3 _ _ (x2 _ _ p1))), k4 _ _ (x4 _ _ (x3 _ _ p2)), k4 _ _ (x4 _ _ p3), k4 _ _ p4, k6 _ _ p6, x10 _ _ p9, x10 _ _ (x9 _ _ p78), ⟨z1, none_ex9 x1 z2, none_ex9 y2 z3, none_ex9 y3 z4, none_ex9 y5 z6, none_ex9 y8 z9, none_ex9 y6 z7⟩, ⟨ne p1 z2, ne (x2 _ _ p1) z3, ne p2 z3⟩, ⟨ne (x3 _ _ (x2 _ _ p1)) z4, ne (x3 _ _ p2) z4, ne p3 z4⟩, ⟨ne (x78 _ _ p6) z9, (ne p6 z7).symm, ne p78 z9⟩⟩
end
end KL9
set_option Elab.async false
set_option linter.all false
set_option maxRecDepth 100000
set_option maxHeartbeats 4000000
namespace KL9
open PySem PySem.Spec PyProof.Rows L2 KB KC KS KN1 LamX K7 Q9 R8 TK
structure Book (many : Nat) (b : BA) (H H' : Hp) : Prop where
  fr : ∀ c u, c ≠ b.wr → H c = some u → H' c = some u
  w : WrA many b (fun _ => []) (fun p i => wordOf [] i) H'
  nw : ∀ p, p < many → H (b.wl p) = none
  nr : ∀ p, b.rws p = []
theorem il_zero {CD CL CP Ps Pn Pl : Addr} {many : Nat} {a : DA} {b : BA} {l1 l2 l3 fl rl x0 rp dc : Addr} {H0 H1 H2 : Hp} (hm : 0 < many ∧ many ≤ 3) (st : St Ps Pn Pl dc H0) (dr : DoorA CD CL CP many nm3 a v0 H0) (hrp : H0 rp = some (.lst [.ref dc])) (nrp : ¬ Own a v0 rp ∧ rp ≠ dc) (ndc : ¬ Own a v0 dc) (mk : Made many l1 l2 l3 b.wr fl rl x0 H0 H1) (bk : Book many b H1 H2) :
    ∃ O, IL CD CL CP Ps Pn Pl many a ⟨l1, l2, l3, fl, rl, rp, dc⟩ O b v0 0 H2 := by
  obtain ⟨m1, m2, m3, m4, m5, m6, m7⟩ := mk.n
  obtain ⟨d12, d13, d23⟩ := mk.d1
  obtain ⟨w1, w2, w3⟩ := mk.d2
  obtain ⟨f1, f2, f3⟩ := mk.d3
  obtain ⟨kw, g0, t0⟩ := bk.w.dc
  have fr1 : ∀ {c : Addr} {u : HO}, H1 c = some u → (∀ kvs, u ≠ .dK kvs) → H2 c = some u := fun {c u} h n => bk.fr c u (fun z => by rw [z, mk.e4] at h; exact n _ (Option.some.inj h).symm) h
  have fr0 : ∀ {c : Addr} {u : HO}, H0 c = some u → H2 c = some u := fun {c u} h => bk.fr c u (fun z => by rw [z, m4] at h; cases h) (mk.ex _ _ h)
  have ex0 : KS.Ex H0 H2 := fun c u h => fr0 h
  have br : ∀ {y : Addr}, BR many b y → y = b.wr ∨ ∃ p, p < many ∧ y = b.wl p := fun {y} h => by
    rcases h with h | h | ⟨p, i, _, h⟩
    · exact .inl h
    · exact .inr h
    · rw [bk.nr p] at h; cases h
  have brn : ∀ {y : Addr}, BR many b y → H0 y = none := fun {y} h => by
    rcases br h with rfl | ⟨p, hp, rfl⟩
    · exact m4
    · exact none_ex9 mk.ex (bk.nw p hp)
  have nbr : ∀ {y : Addr} {u : HO}, H1 y = some u → y ≠ b.wr → ¬ BR many b y := fun {y u} h n z => by
    rcases br z with rfl | ⟨p, hp, rfl⟩
    · exact n rfl
    · rw [bk.nw p hp] at h; cases h
  have q1 : H2 l1 = some (.dK []) := bk.fr _ _ w1 mk.e1
  have q2 : H2 l2 = some (.dK []) := bk.fr _ _ w2 mk.e2
  have q3 : H2 l3 = some (.dK []) := bk.fr _ _ w3 mk.e3
  have q5 := fr1 mk.e5 (fun _ z => nomatch z)
  have q6 := fr1 mk.e6 (fun _ z => nomatch z)
  have q7 := fr1 mk.e7 (fun _ z => nomatch z)
  have nlw : ∀ {y : Addr} {ys : List V}, H1 y = some (.lst ys) → y ≠ b.wr := fun h z => by rw [z, mk.e4] at h; cases h
  have rp1 := mk.ex _ _ hrp
  have new : ∀ {y : Addr}, H0 y = none → ¬ DR a v0 y ∧ y ≠ a.q ∧ y ≠ dc := fun {y} h => ⟨fun z => dr.live (.inr (.inr (.inr z))) h, fun z => dr.live (.inr (.inr (.inl z))) h, fun z => by
    obtain ⟨_, _, _, hd⟩ := st.dice
    rw [z, hd] at h; cases h⟩
  have cases3 : many = 1 ∨ many = 2 ∨ many = 3 := by omega
  have hfl : (List.replicate many [V.int 0]).flatten = (List.range many).map fun _ => V.int ((endL [] : Nat) : Int) := by
    rcases cases3 with rfl | rfl | rfl <;> rfl
  have hrl : (List.replicate many [V.ref x0]).flatten = (List.replicate many x0).map V.ref := by
    rcases cases3 with rfl | rfl | rfl <;> rfl
  refine ⟨fun y => y = l1 ∨ y = l2 ∨ y = l3 ∨ y = fl ∨ y = rl ∨ y = rp ∨ y = x0 ∨ BR many b y, st.ex ex0, dr.ex ex0, Good.nil, ?_, fun y hy => ?_, ⟨fun z => ndc (.inr (.inr (.inr z))), fun z => ndc (.inr (.inr (.inl z.symm)))⟩, ⟨fun _ => Nat.le_refl _, (fun _ _ h => nomatch h), (fun _ _ h => nomatch h), (fun _ _ h => nomatch h)⟩, (fun _ _ _ _ h => nomatch h), hm⟩
  · refine ⟨⟨⟨.inl rfl, .inr (.inl rfl), .inr (.inr (.inl rfl)), .inr (.inr (.inr (.inl rfl))), .inr (.inr (.inr (.inr (.inl rfl)))), .inr (.inr (.inr (.inr (.inr (.inl rfl)))))⟩, fun y hy => .inr (.inr (.inr (.inr (.inr (.inr (.inr hy))))))⟩, ⟨[], q1, Tab.nil⟩, ⟨[], q2, Tab.nil⟩, ⟨[], q3, Tab.nil⟩, bk.w, ⟨fun _ => [], ⟨by rw [q5, hfl], List.replicate many x0, by rw [q6, hrl], by rw [List.length_replicate], fun p u hu => ?_⟩, fun p => ⟨[], rfl⟩, fun p => ⟨(fun _ _ _ h => nomatch h), (fun _ _ h => nomatch h)⟩⟩, fun us hus u hu => ?_, fr1 rp1 (fun _ z => nomatch z), ⟨d12, d13, d23⟩, ⟨w1, w2, w3⟩, f1, ⟨nbr mk.e5 (nlw mk.e5), nbr mk.e6 (nlw mk.e6)⟩, (fun z => by have z : rp = fl := z; rw [z, m5] at hrp; cases hrp), (fun z => by have z : rp = rl := z; rw [z, m6] at hrp; cases hrp), nbr rp1 (nlw rp1)⟩
    · have := List.eq_of_mem_replicate (List.mem_of_getElem? hu)
      rw [this]
      exact ⟨f2, f3, [], q7, .nil⟩
    · have q6 : H2 rl = _ := q6
      rw [q6, hrl] at hus
      cases hus
      obtain ⟨u', hu', e⟩ := List.mem_map.mp hu
      cases e
      rw [List.eq_of_mem_replicate hu']
      exact ⟨.inr (.inr (.inr (.inr (.inr (.inr (.inl rfl)))))), nbr mk.e7 (nlw mk.e7)⟩
  · rcases hy with rfl | rfl | rfl | rfl | rfl | rfl | rfl | hy
    · obtain ⟨n1, n2, n3⟩ := new m1
      exact ⟨n1, n2, n3, by rw [q1]; simp, by rw [q1]; intro _ z; cases z⟩
    · obtain ⟨n1, n2, n3⟩ := new m2
      exact ⟨n1, n2, n3, by rw [q2]; simp, by rw [q2]; intro _ z; cases z⟩
    · obtain ⟨n1, n2, n3⟩ := new m3
      exact ⟨n1, n2, n3, by rw [q3]; simp, by rw [q3]; intro _ z; cases z⟩
    · obtain ⟨n1, n2, n3⟩ := new m5
      exact ⟨n1, n2, n3, by rw [q5]; simp, by rw [q5]; intro _ z; cases z⟩
    · obtain ⟨n1, n2, n3⟩ := new m6
      exact ⟨n1, n2, n3, by rw [q6]; simp, by rw [q6]; intro _ z; cases z⟩
    · refine ⟨fun z => nrp.1 (.inr (.inr (.inr z))), fun z => nrp.1 (.inr (.inr (.inl z))), nrp.2, by rw [fr0 hrp]; simp, by rw [fr0 hrp]; intro _ z; cases z⟩
    · obtain ⟨n1, n2, n3⟩ := new m7
      exact ⟨n1, n2, n3, by rw [q7]; simp, by rw [q7]; intro _ z; cases z⟩
    · obtain ⟨n1, n2, n3⟩ := new (brn hy)
      rcases br hy with rfl | ⟨p, hp, rfl⟩
      · exact ⟨n1, n2, n3, by rw [g0]; simp, by rw [g0]; intro _ z; cases z⟩
      · exact ⟨n1, n2, n3, by rw [bk.w.ls p hp]; simp, by rw [bk.w.ls p hp]; intro _ z; cases z⟩
section
variable {P : Program} {w : World} {K : PySem.W.Frag} {mg : Str → Option Value} {base : Heap} {CP CL CD CG CR Ps Pn Pl cN cL fTo fL : Addr} {fdTo : FuncData} {A : Around} {outer : List PySem.Env} {s : Shared} {H0 : Hp} {E0' : XK}
theorem g_book (ve : LawE P w K mg base CP CL CD CG CR Ps Pn Pl cN cL fTo fdTo) (hr : Room 14 (xLaw P w K mg base fL cL A outer s H0 E0').A) :
    ∃ t3, L2.PS (xLaw P w K mg base fL cL A outer s H0 E0') (lS 3) t3 ∧
      ∀ (D : Ends) (H : Hp) (many : Nat) (wr : Addr) (a0 u1 u2 u3 u5 u6 u7 u9 u10 u11 u12 u13 u14 u15 u16 u17 u18 u19 u20 u21 u22 u23 u24 : Option V), many ≤ 3 → H wr = some (.dK []) →
      (∀ (H' : Hp) (b : BA) (x11 : Option V), b.wr = wr → Book many b H H' →
        D.nx [a0, u1, u2, u3, some (.int (many : Int)), u5, u6, u7, some (.ref wr), u9, u10, x11, u12, u13, u14, u15, u16, u17, u18, u19, u20, u21, u22, u23, u24] H') →
      t3 D [a0, u1, u2, u3, some (.int (many : Int)), u5, u6, u7, some (.ref wr), u9, u10, u11, u12, u13, u14, u15, u16, u17, u18, u19, u20, u21, u22, u23, u24] H := by
  have hu := hr.units
  have hu1 := Nat.lt_trans (Nat.add_lt_add_left (by decide : 1 < 64) _) hu
  have hz0 : sizeLine = 16777216 := rfl
  refine ⟨_, ps_for PassesOwn.never rfl (pi_range1 (by rfl) ve.T.range (pa_cons (pv 4) pa_nil)) (pg_name (i := 11) scLaw.nd rfl (Or.inl rfl)) (pss_one (ps_dput hu1 (pv 8) (pv 11) (pe_lst pa_nil) rfl)), ?_⟩
  intro D H many wr a0 u1 u2 u3 u5 u6 u7 u9 u10 u11 u12 u13 u14 u15 u16 u17 u18 u19 u20 u21 u22 u23 u24 hm hwr fin
  refine ⟨_, rfl, _, rfl, by omega, by omega, ?_⟩
  rw [Int.toNat_natCast]
  refine for_range (n := many) (fun j σ H' => (∃ x11, σ = [a0, u1, u2, u3, some (.int (many : Int)), u5, u6, u7, some (.ref wr), u9, u10, x11, u12, u13, u14, u15, u16, u17, u18, u19, u20, u21, u22, u23, u24]) ∧ (∀ c u, c ≠ wr → H c = some u → H' c = some u) ∧ ∃ (wl : Nat → Addr) (kvs : List (Key × V)), H' wr = some (.dK kvs) ∧ Tab (List.range many) kN (fun p v _ => v = .ref (wl p)) kvs (upto j) ∧ (∀ p, p < j → H' (wl p) = some (.lst []) ∧ H (wl p) = none) ∧ ∀ p q, p < j → q < j → p ≠ q → wl p ≠ wl q) ⟨⟨_, rfl⟩, fun _ _ _ h => h, fun _ => 0, [], hwr, ?_, fun p h => absurd h (Nat.not_lt_zero _), fun p q h => absurd h (Nat.not_lt_zero _)⟩ ?_ ?_
  · have : upto 0 = fun _ => none := by
      funext p
      unfold upto
      rw [if_neg (by omega)]
    rw [this]
    exact Tab.nil
  · rintro j σ H1 hj ⟨⟨x11, rfl⟩, fr, wl, kvs, h1, t1, h2, h3⟩
    show sDPut _ _ _ _ [a0, u1, u2, u3, some (.int (many : Int)), u5, u6, u7, some (.ref wr), u9, u10, some (.int (0 + (j : Nat))), u12, u13, u14, u15, u16, u17, u18, u19, u20, u21, u22, u23, u24] H1
    rw [Int.zero_add]
    refine ⟨(by show 0 ≤ sizeLine; decide), fun z hz => ?_⟩
    have nz : z ≠ wr := fun c => by rw [c, h1] at hz; cases hz
    have hw1 : (upd H1 z (.lst [])) wr = some (.dK kvs) := Ex.upd hz _ _ h1
    have hz1 : (upd H1 z (.lst [])) z = some (.lst []) := upd_same
    have hzH : H z = none := by
      cases q : H z with
      | none => rfl
      | some u => rw [fr z u nz q] at hz; cases hz
    refine ⟨_, rfl, _, rfl, wr, _, rfl, DPut.k (k := kN j) hw1 (by have := t1.len; rw [List.length_range] at this; omega), ?_⟩
    have hne : ∀ p, p < j → wl p ≠ z := fun p hp c => by rw [← c, (h2 p hp).1] at hz; cases hz
    refine ⟨⟨_, rfl⟩, fun c u n h => by rw [L2.upd_ne n]; exact Ex.upd hz _ _ (fr c u n h), fun p => if p = j then z else wl p, _, upd_same, ?_, fun p hp => ?_, fun p q hp hq hpq => ?_⟩
    · have e : upto (j + 1) = putG (upto j) j (some ()) := by
        funext p
        by_cases c : p = j
        · subst c; rw [putG_same]; unfold upto; rw [if_pos (by omega)]
        · rw [putG_ne _ _ c]; unfold upto
          by_cases c2 : p < j
          · rw [if_pos c2, if_pos (by omega)]
          · rw [if_neg c2, if_neg (by omega)]
      rw [e]
      refine t1.put (R' := fun p v _ => v = V.ref (if p = j then z else wl p)) kN_inj (List.mem_range.mpr hj) (by rw [if_pos rfl]) fun p v _ hp _ h => by rw [if_neg hp]; exact h
    · dsimp only
      by_cases c : p = j
      · subst c
        rw [if_pos rfl]
        exact ⟨by rw [L2.upd_ne nz]; exact hz1, hzH⟩
      · rw [if_neg c]
        obtain ⟨k1, k2⟩ := h2 p (by omega)
        exact ⟨by rw [L2.upd_ne (fun c => by rw [c, h1] at k1; cases k1)]; exact Ex.upd hz _ _ k1, k2⟩
    · dsimp only
      by_cases c : p = j
      · subst c
        rw [if_pos rfl, if_neg (fun c => hpq c.symm)]
        exact (hne q (by omega)).symm
      · rw [if_neg c]
        by_cases c2 : q = j
        · rw [if_pos c2]; exact hne p (by omega)
        · rw [if_neg c2]; exact h3 p q (by omega) (by omega) hpq
  · rintro σ H1 ⟨⟨x11, rfl⟩, fr, wl, kvs, h1, t1, h2, h3⟩
    exact fin H1 ⟨wr, wl, fun _ => []⟩ _ rfl ⟨fr, ⟨⟨kvs, h1, t1⟩, fun p hp => (h2 p hp).1, fun _ _ => rfl, (fun _ _ _ _ _ h => nomatch h), h3, (fun _ _ _ _ _ _ _ h => nomatch h)⟩, fun p hp => (h2 p hp).2, fun _ => rfl⟩
end
end KL9
set_option Elab.async false
set_option linter.all false
set_option maxRecDepth 100000
set_option maxHeartbeats 4000000
namespace KL9
open PySem PySem.Spec PyProof.Rows L2 KB KC KS KN1 LamX K7 Q9 R8 TK
section
variable {P : Program} {w : World} {K : PySem.W.Frag} {mg : Str → Option Value} {base : Heap} {CP CL CD CG CR Ps Pn Pl cN cL fTo fL : Addr} {fdTo : FuncData} {A : Around} {outer : List PySem.Env} {s : Shared} {H0 : Hp} {E0' : XK}
theorem g_once (ve : LawE P w K mg base CP CL CD CG CR Ps Pn Pl cN cL fTo fdTo) (hr : Room 14 (xLaw P w K mg base fL cL A outer s H0 E0').A) :
    ∃ t, L2.PSs (xLaw P w K mg base fL cL A outer s H0 E0') law0 t ∧
      ∀ (D : Ends) (HB : Hp) (dc rp : Addr) (a0 u2 u3 u4 u5 u6 u7 u8 u9 u10 u11 u12 u13 u14 u15 u16 u17 u18 u19 u20 u21 u22 u23 u24 : Option V), St Ps Pn Pl dc HB → HB rp = some (.lst [.ref dc]) → rp ≠ dc →
      (∀ (σ' : L2.St) (H' : Hp), (∃ a0 u2 u3 u4 u5 u6 u7 u8 u9 u10 u11 u12 u13 u14 u15 u16 u17 u18 u19 u20 u21 u22 u23 u24, σ' = [a0, some (V.ref dc), u2, u3, u4, u5, u6, u7, u8, u9, u10, u11, u12, u13, u14, u15, u16, u17, u18, u19, u20, u21, u22, u23, u24]) → St Ps Pn Pl dc H' → H' rp = some (.lst [.ref dc]) → D.nx σ' H') →
      t D [a0, some (.ref dc), u2, u3, u4, u5, u6, u7, u8, u9, u10, u11, u12, u13, u14, u15, u16, u17, u18, u19, u20, u21, u22, u23, u24] HB := by
  obtain ⟨fR, fdR, GR, gR, kR, bR⟩ := ve.roll
  obtain ⟨t0, t1, T0, T1, h0⟩ := g_open (fL := fL) (A := A) (outer := outer) (s := s) (H0 := H0) (E0' := E0') ve hr
  obtain ⟨t2, T2, h2⟩ := g_make9 (fL := fL) (A := A) (outer := outer) (s := s) (H0 := H0) (E0' := E0') ve hr
  obtain ⟨t3, T3, h3⟩ := g_book (fL := fL) (A := A) (outer := outer) (s := s) (H0 := H0) (E0' := E0') ve hr
  obtain ⟨td, TD, hd⟩ := g_deed (fL := fL) (A := A) (outer := outer) (s := s) (H0 := H0) (E0' := E0') ve hr
  refine ⟨_, pss_cons T0 (pss_cons T1 (pss_cons T2 (pss_cons T3 (pss_one (ps_for PassesOwn.never rfl (pi_range1 (by rfl) ve.T.range (pa_cons (pe_call GR (hr.mono (by decide)) (by rfl) gR kR bR .nil pass0 (pa_cons (pv 1) (pa_cons pe_int pa_nil))) pa_nil)) (pg_name (i := 12) scLaw.nd rfl (Or.inr rfl)) TD))))), ?_⟩
  intro D HB dc rp a0 u2 u3 u4 u5 u6 u7 u8 u9 u10 u11 u12 u13 u14 u15 u16 u17 u18 u19 u20 u21 u22 u23 u24 st hrp nrd fin
  refine h0 _ HB dc _ _ _ _ _ _ _ _ _ _ _ _ _ _ _ _ _ _ _ _ _ _ _ _ _ st fun H1 many a hm0 hm3 st1 kp dr ow => ?_
  have hrp1 := kp rp _ nrd hrp
  have nrp : ¬ Own a v0 rp := fun z => by rw [ow _ z] at hrp; cases hrp
  have ndc : ¬ Own a v0 dc := fun z => by
    obtain ⟨_, _, _, h⟩ := st.dice
    rw [ow _ z] at h; cases h
  refine h2 _ H1 many _ _ _ _ _ _ _ _ _ _ _ _ _ _ _ _ _ _ _ _ _ _ _ _ hm3 fun H2 l1 l2 l3 wr fl rl x0 mk => ?_
  refine h3 _ H2 many wr _ _ _ _ _ _ _ _ _ _ _ _ _ _ _ _ _ _ _ _ _ _ _ hm3 mk.e4 fun H3 b x11 hb bk => ?_
  subst hb
  obtain ⟨O, y⟩ := il_zero ⟨hm0, hm3⟩ st1 dr hrp1 ⟨nrp, nrd⟩ ndc mk bk
  refine ⟨_, rfl, roll_step y.st.dice (by decide) (by decide) fun r H4 r0 r1 e4 i4 => ⟨_, rfl, by omega, by omega, ?_⟩⟩
  have y4 := y.exD e4 i4
  refine for_range (n := r.toNat) (fun j σ H' => ∃ (O : Addr → Prop) (b : BA) (v : DV), Sg many a ⟨l1, l2, l3, fl, rl, rp, dc⟩ b σ ∧ IL CD CL CP Ps Pn Pl many a ⟨l1, l2, l3, fl, rl, rp, dc⟩ O b v j H') ⟨O, b, v0, ⟨_, _, _, _, _, _, _, _, _, _, _, _, _, _, _, rfl⟩, y4⟩ ?_ ?_
  · rintro j σ H5 hj ⟨O, b, v, ⟨b0, b11, b12, b13, b14, b15, b16, b17, b18, b19, b20, b21, b22, b23, b24, rfl⟩, y5⟩
    show td _ [b0, some (.ref dc), some (.ref a.o), some (.ref a.d), some (.int (many : Int)), some (.ref l1), some (.ref l2), some (.ref l3), some (.ref b.wr), some (.ref fl), some (.ref rl), b11, some (.int (0 + (j : Nat))), b13, b14, b15, b16, b17, b18, b19, b20, b21, b22, b23, b24] H5
    rw [Int.zero_add]
    exact hd _ H5 many a ⟨l1, l2, l3, fl, rl, rp, dc⟩ O b v j _ _ _ _ _ _ _ _ _ _ _ _ _ _ y5 (by omega) fun σ' H6 O' b' v' hs y6 => ⟨O', b', v', hs, y6⟩
  · rintro σ H5 ⟨O, b, v, ⟨b0, b11, b12, b13, b14, b15, b16, b17, b18, b19, b20, b21, b22, b23, b24, rfl⟩, y5⟩
    exact fin _ H5 ⟨_, _, _, _, _, _, _, _, _, _, _, _, _, _, _, _, _, _, _, _, _, _, _, _, rfl⟩ y5.st y5.lw.rp
end
end KL9
set_option Elab.async false
set_option linter.all false
set_option maxRecDepth 100000
set_option maxHeartbeats 4000000
namespace KL9
open PySem PySem.Spec PyProof.Rows L2 KB KC KS KN1 LamX K7 Q9 R8 TK
abbrev nAg : List Str := ["door", "first", "second", "long", "age", "bad", "place", "row", "f"]
theorem scAg : FnScope nAg [] (defScope sAged) := ⟨rfl, rfl, rfl, by decide +kernel, rfl, by decide +kernel, by decide +kernel⟩
abbrev aS (i : Nat) : Stmt := (defBody sAged).getD i pS
theorem aged_len : (defBody sAged).length = 14 := by decide +kernel
abbrev xAg (P : Program) (w : World) (K : PySem.W.Frag) (mg : Str → Option Value) (base : Heap) (fA cN : Addr) (A : Around) (outer : List PySem.Env) (s : Shared) (H0 : Hp) (E0' : XK) : Cx := (cxOf CX0 P w K mg base nAg "_law_aged" (defScope sAged) fA (.ref cN) A outer s H0 E0').nox
theorem evok_x {m : Nat} (hm : m ≤ 100) : EvOk (Ev.add [.inl 1] ([.inr "x"], 4) ("p", 1, m)) := by
  refine ⟨⟨fun y hy => ?_, fun y hy => ?_, by show 1 ≤ 20; decide, by show 5 ≤ 20; decide, ?_⟩, ?_⟩
  · rw [List.mem_singleton.mp hy]; exact okv_i (n := 1) (by omega)
  · rcases List.mem_cons.mp hy with rfl | hy
    · exact okv_i (n := 0) (by omega)
    rcases List.mem_cons.mp hy with rfl | hy
    · exact okv_n (n := "p") (by decide)
    rcases List.mem_cons.mp hy with rfl | hy
    · exact okv_i (n := 1) (by omega)
    rcases List.mem_cons.mp hy with rfl | hy
    · exact okv_i (show m ≤ 1000 by omega)
    rcases List.mem_cons.mp hy with rfl | hy
    · exact ⟨by decide +kernel, by decide +kernel⟩
    · cases hy
  · show ((4 : Nat) : Int) < 2 ^ 2000
    decide +kernel
  · have hb : (bodyL (recE (Ev.add [.inl 1] ([.inr "x"], 4) ("p", 1, m)))).length = 17 := by
      show ((natL 1 ++ (valL tabL (.inl ((1 : Nat) : Int)) ++ [])) ++ ((natL 5 ++ (valL tabL (.inl ((0 : Nat) : Int)) ++ (valL tabL (.inr "p") ++ (valL tabL (.inl ((1 : Nat) : Int)) ++ (valL tabL (.inl (m : Int)) ++ (valL tabL (.inr "x") ++ [])))))) ++ natL 4)).length = 17
      simp only [List.length_append, vlen_t (show ("p" : Str).cps.toList.length = 1 by decide +kernel), vlen_t (show ("x" : Str).cps.toList.length = 1 by decide +kernel), vlen_i (show m < 128 by omega), vlen_i (show 0 < 128 by decide), vlen_i (show 1 < 128 by decide), natL_small (show 1 < 128 by decide), natL_small (show 5 < 128 by decide), natL_small (show 4 < 128 by decide), List.length_cons, List.length_nil]
    show (natL (bodyL _).length ++ (bodyL _ ++ sumL (bodyL _))).length ≤ 100
    rw [List.length_append, List.length_append, sumL_len, hb, natL_small (by decide)]
    decide
theorem numK1 (k : List Key) : numK k 1 = 0 := by
  have := (numK_eq (k := k) (n := 1) (by decide)).2
  omega
section
variable {P : Program} {w : World} {K : PySem.W.Frag} {mg : Str → Option Value} {base : Heap} {CP CL CD CG CR Ps Pn Pl cN cL fTo fA : Addr} {fdTo : FuncData} {A : Around} {outer : List PySem.Env} {s : Shared} {H0 : Hp} {E0' : XK}
theorem new_door {H : Hp} {σ : L2.St} {Q : VK} (TO : TxtO K mg CL) (fin : ∀ H' (a : DA), KS.Ex H H' → DoorA CD CL CP 1 nm3 a v0 H' → (∀ b, Own a v0 b → H b = none) → Q (.ref a.d) H') :
    tMake CD (spEI CD) [] E0 (tCons (tMake CL (spLI CL CP CG) [] (fun _ _ _ => False) (tCons (tC (.int 1)) tNil)) tNil) σ H Q := by
  refine fun o dxo ho hdo nd => ?_
  show spLI CL CP CG [.ref o, .int ((1 : Nat) : Int)] _ _ _
  refine mk_log ho hdo nd.symm (by decide) (by decide) fun H3 q ps e3 lg hq hps => ⟨rfl, ?_⟩
  refine fun d dxd hd hdd nd2 => ?_
  show spEI CD [.ref d, .ref o] _ _ _
  refine mk_door (nm := nm3) hd hdd nd2.symm (by decide) lg fun H4 a1 a2 a3 a4 e4 dr hf => ⟨rfl, ?_⟩
  exact fin H4 ⟨d, o, q, a1, a2, a3, a4, ps⟩ (e3.trans e4) dr (own_new (none_ex9 e3 hd) ho hq hps ⟨none_ex9 e3 hf.1, none_ex9 e3 hf.2.1, none_ex9 e3 hf.2.2.1, none_ex9 e3 hf.2.2.2⟩)
def vA (i : Addr) : DV := begV (entV v0 "p") "p" 1 i
def vB (i : Addr) : DV := addV (vA i) "p" (1, 1, []) [.inl 1] ([.inr "x"], 4) 0
def vC (i : Addr) : DV := entV (vB i) "p"
theorem vA_age (i : Addr) : (vA i).ages "p" = some 1 := Q9.putF_same v0.ages "p" (some (((v0.ages "p").getD 0) + 1))
theorem vA_deal (i : Addr) : (vA i).deals "p" = some (1, 1, []) := Q9.putF_same v0.deals "p" (some (1, 1, []))
theorem g_a1 (ve : LawE P w K mg base CP CL CD CG CR Ps Pn Pl cN cL fTo fdTo) (hr : Room 13 (xAg P w K mg base fA cN A outer s H0 E0').A) :
    ∃ t0 t1 t2 t3 t4, L2.PS (xAg P w K mg base fA cN A outer s H0 E0') (aS 0) t0 ∧ L2.PS (xAg P w K mg base fA cN A outer s H0 E0') (aS 1) t1 ∧ L2.PS (xAg P w K mg base fA cN A outer s H0 E0') (aS 2) t2 ∧ L2.PS (xAg P w K mg base fA cN A outer s H0 E0') (aS 3) t3 ∧ L2.PS (xAg P w K mg base fA cN A outer s H0 E0') (aS 4) t4 ∧
      ∀ (D : Ends) (H : Hp) (tr : TS) (u0 u1 u2 u3 u4 u5 u6 u7 u8 : Option V), Tabs (TT Ps Pn Pl) H →
      (∀ (H' : Hp) (a : DA) (i : Addr), Tabs (TT Ps Pn Pl) H' → DoorA CD CL CP 1 nm3 a (vC i) H' →
        tr D [some (.ref a.d), some (.int 1), some (.int 2), u3, u4, u5, u6, u7, u8] H') →
      tSeq t0 (tSeq t1 (tSeq t2 (tSeq t3 (tSeq t4 tr)))) D [u0, u1, u2, u3, u4, u5, u6, u7, u8] H := by
  obtain ⟨fL', fdL, GL, ML, bL⟩ := ve.linit
  obtain ⟨fD, fdD, GD, MD, bD⟩ := ve.einit
  obtain ⟨fE, fdE, GE, mE, bE⟩ := ve.enter
  obtain ⟨fB, fdB, GB, mB, bB⟩ := ve.begin
  obtain ⟨fX, fdX, GX, mX, bX⟩ := ve.add
  have hz0 : sizeLine = 16777216 := rfl
  refine ⟨_, _, _, _, _, ps_set (i := 0) scAg.nd rfl (Or.inr rfl) (pe_make MD GD (hr.mono (by decide)) (by rfl) ve.TE.g bD .nil pass0 (pa_cons (pe_make (CX := L2.CX P w) ML GL (hr.mono (by decide)) (by rfl) ve.TO.g bL (E := fun _ _ _ => False) .nil (passes_call L2.takes0 (fun _ _ _ _ h => h)) (pa_cons pe_int pa_nil)) pa_nil)),
    ps_set (i := 1) scAg.nd rfl (Or.inl rfl) (pe_meth (pv 0) ve.TE.cl mE GE (hr.mono (by decide)) bE .nil pass0 (pa_cons pe_str pa_nil)),
    ps_expr (pe_meth (pv 0) ve.TE.cl mB GB (hr.mono (by decide)) bB (E := fun _ _ _ => False) .nil (passes_call L2.takes0 (fun _ _ _ _ h => h)) (pa_cons pe_str (pa_cons (pv 1) pa_nil))),
    ps_expr (pe_meth (pv 0) ve.TE.cl mX GX (hr.mono (by decide)) bX (E := fun _ _ _ => False) .nil (passes_call L2.takes0 (fun _ _ _ _ h => h)) (pa_cons pe_str (pa_cons (pv 1) (pa_cons (pe_tup (pa_cons pe_int pa_nil)) (pa_cons (pe_tup (pa_cons pe_str pa_nil)) (pa_cons pe_int pa_nil)))))),
    ps_set (i := 2) scAg.nd rfl (Or.inl rfl) (pe_meth (pv 0) ve.TE.cl mE GE (hr.mono (by decide)) bE .nil pass0 (pa_cons pe_str pa_nil)), ?_⟩
  intro D H tr u0 u1 u2 u3 u4 u5 u6 u7 u8 tb fin
  dsimp only [tSeq, tAsg]
  refine new_door ve.TO fun H1 a e1 x1 _ => ?_
  have tb1 : Tabs (TT Ps Pn Pl) H1 := fun p hp => (tb p hp).ext e1
  have ts : ∀ {H : Hp}, Tabs (TT Ps Pn Pl) H → TabS H Ps qK := fun t => t _ (List.mem_cons_self ..)
  have hp : ("p" : Str) ∈ nm3 := by decide
  obtain ⟨dx1, ob1⟩ := x1.ob
  refine ⟨_, rfl, a.d, dx1, _, rfl, ob1, rfl, er_step x1 (ts tb1) (by decide) hp (fun x h => nomatch h) (fun _ => by show 0 < 90; decide) fun H2 f2 _ x2 => ?_⟩
  have tb2 := tabs_frD tb1 ve.ap x1 f2
  obtain ⟨dx2, ob2⟩ := x2.ob
  show tSeq _ _ _ [some (.ref a.d), some (.int 1), u2, u3, u4, u5, u6, u7, u8] H2
  refine ⟨_, rfl, a.d, dx2, _, rfl, ob2, rfl, _, rfl, eb_step (g := 1) x2 (ts tb2) (by decide +kernel) (by decide) hp (fun c => c ⟨by decide +kernel, rfl⟩) fun gN hg hgN hd H3 i fr f3 _ x3 => ?_⟩
  have : gN = 1 := by omega
  subst this
  have x3 : DoorA CD CL CP 1 nm3 a (vA i) H3 := x3
  have tb3 := tabs_frD tb2 ve.ap x2 f3
  obtain ⟨dx3, ob3⟩ := x3.ob
  refine ⟨_, rfl, a.d, dx3, _, rfl, ob3, rfl, _, rfl, (by show 1 ≤ sizeLine; decide), fun ka hka => ⟨(by show 1 ≤ sizeLine; decide), fun ra hra => ?_⟩⟩
  have e4 : KS.Ex H3 (upd H3 ka (.tup [.int 1])) := Ex.upd hka
  have e5 : KS.Ex (upd H3 ka (.tup [.int 1])) (upd (upd H3 ka (.tup [.int 1])) ra (.tup [.str "x"])) := Ex.upd hra
  have hka5 : (upd (upd H3 ka (.tup [.int 1])) ra (.tup [.str "x"])) ka = some (.tup (([.inl 1] : List Key).map kV)) := e5 _ _ upd_same
  have hra5 : (upd (upd H3 ka (.tup [.int 1])) ra (.tup [.str "x"])) ra = some (.tup (([.inr "x"] : List Key).map kV)) := upd_same
  have e35 := e4.trans e5
  generalize upd (upd H3 ka (.tup [.int 1])) ra (.tup [.str "x"]) = H5 at e35 hka5 hra5
  have x5 := x3.ex e35
  have tb5 : Tabs (TT Ps Pn Pl) H5 := fun p hp => (tb3 p hp).ext e35
  refine ea_step (kk := [.inl 1]) (rr := [.inr "x"]) (t := 4) (g := 1) x5 (ts tb5) (by decide +kernel) (by decide) hka5 hra5 (by show 1 ≤ 1000; decide) (fun x hx _ => ?_) (fun _ => by show 0 < 90; decide) (fun c => c ⟨by rw [vA_age]; rfl, by rw [vA_deal]; simp, by show 1 ≤ 16; decide⟩) fun dl hd' _ _ H6 z f6 _ x6 _ => ?_
  · have : x = (1, 1, []) := by
      have h : some (1, 1, []) = some x := hx
      exact (Option.some.inj h).symm
    subst this
    exact evok_x (by decide)
  have hdl : dl = (1, 1, []) := by
    have h : some (1, 1, []) = some dl := hd'
    exact (Option.some.inj h).symm
  subst hdl
  rw [numK1] at x6
  have x6 : DoorA CD CL CP 1 nm3 a (vB i) H6 := x6
  have tb6 := tabs_frD tb5 ve.ap x5 f6
  obtain ⟨dx6, ob6⟩ := x6.ob
  refine ⟨_, rfl, a.d, dx6, _, rfl, ob6, rfl, er_step x6 (ts tb6) (by decide) hp (fun x h => ?_) (fun p => ?_) fun H7 f7 _ x7 => ?_⟩
  · have : x = (1, 1, [(0, 0)]) := by
      have h : some (1, 1, [(0, 0)]) = some x := h
      exact (Option.some.inj h).symm
    subst this
    exact evok_mark hp (by decide) (by decide) (by decide)
  · show (setL (fun _ => []) 0 [_] p).length < 90
    unfold setL
    split
    · show 1 < 90; decide
    · show 0 < 90; decide
  · exact fin H7 a i (tabs_frD tb6 ve.ap x6 f7) x7
end
end KL9
set_option Elab.async false
set_option linter.all false
set_option maxRecDepth 100000
set_option maxHeartbeats 4000000
namespace KL9
open PySem PySem.Spec PyProof.Rows L2 KB KC KS KN1 LamX K7 Q9 R8 TK
abbrev ea : Ev := Ev.add [.inl 1] ([.inr "x"], 4) ("p", 1, 1)
abbrev em : Ev := Ev.mark 2 ("p", 1, 1)
theorem vC_L (i : Addr) : (vC i).L 0 = [ea, em] := by
  have e : (vB i).deals "p" = some (1, 1, [(0, 0)]) := Q9.putF_same (vA i).deals "p" (some (1, 1, [(0, 0)]))
  unfold vC entV
  rw [e]
  show endF (vB i).L [(0, 0)] 2 ("p", 1, 1) 0 = _
  unfold endF
  rw [if_pos ⟨0, by simp⟩]
  show setL (fun _ => []) 0 [ea] 0 ++ [em] = _
  rw [setL_same]
  rfl
theorem smp_kv {l : List Key} (h : ∀ k ∈ l, ∀ z, k = .inr z → PyData.strOk z = true) : Smp 1 (rD l) := .tup fun x hx => by
  obtain ⟨k, hk, rfl⟩ := List.mem_map.mp hx
  cases k with
  | inl i => exact .int _
  | inr z => exact .str (h _ hk z rfl)
theorem smp_ea : Smp 1 (rD (recE ea).2.1) := smp_kv fun k hk z e => by
  subst e
  rcases List.mem_cons.mp hk with h | hk
  · cases h
  rcases List.mem_cons.mp hk with h | hk
  · cases h; decide +kernel
  rcases List.mem_cons.mp hk with h | hk
  · cases h
  rcases List.mem_cons.mp hk with h | hk
  · cases h
  rcases List.mem_cons.mp hk with h | hk
  · cases h; decide +kernel
  · cases hk
theorem smp_em : Smp 1 (rD (recE em).2.1) := smp_kv fun k hk z e => by
  subst e
  rcases List.mem_cons.mp hk with h | hk
  · cases h
  rcases List.mem_cons.mp hk with h | hk
  · cases h; decide +kernel
  rcases List.mem_cons.mp hk with h | hk
  · cases h
  rcases List.mem_cons.mp hk with h | hk
  · cases h
  · cases hk
section
variable {P : Program} {w : World} {K : PySem.W.Frag} {mg : Str → Option Value} {base : Heap} {CP CL CD CG CR Ps Pn Pl cN cL fTo fA : Addr} {fdTo : FuncData} {A : Around} {outer : List PySem.Env} {s : Shared} {H0 : Hp} {E0' : XK}
theorem DoorA.part0 {many : Nat} {nm : List Str} {a : DA} {v : DV} {H : Hp} (x : DoorA CD CL CP many nm a v H) (h : 0 < many) : ∃ p l kb wb dp, H a.q = some (.lst (a.ps.map fun pl => V.ref pl.1)) ∧ (a.ps.map fun pl => V.ref pl.1)[0]? = some (.ref p) ∧ PtA CP p l kb wb ((v.L 0).map recE) 0 H ∧ ∃ fs, H p = some (.ins CP dp fs) ∧ List.lookup (Str.ofString "read") fs = none := by
  obtain ⟨sts, lg, ls⟩ := x.lg
  have hlt : 0 < sts.length := by rw [ls.len]; exact h
  obtain ⟨st, hst⟩ : ∃ st, sts[0]? = some st := ⟨_, List.getElem?_eq_getElem hlt⟩
  obtain ⟨b1, b2⟩ := ls.at_ 0 st hst
  obtain ⟨p1, l1, hj, pt⟩ := lg.get hst
  obtain ⟨dp, kk, vv, ts, g1, _⟩ := id pt
  rw [b2] at pt
  exact ⟨p1, l1, _, _, dp, lg.ql, by rw [List.getElem?_map, hj]; rfl, pt, _, g1, rfl⟩
theorem g_a2 (ve : LawE P w K mg base CP CL CD CG CR Ps Pn Pl cN cL fTo fdTo) (hr : Room 13 (xAg P w K mg base fA cN A outer s H0 E0').A) :
    ∃ t5, L2.PS (xAg P w K mg base fA cN A outer s H0 E0') (aS 5) t5 ∧
      ∀ (D : Ends) (H : Hp) (a : DA) (i : Addr) (u3 u4 u5 u6 u7 u8 : Option V), Tabs (TT Ps Pn Pl) H → DoorA CD CL CP 1 nm3 a (vC i) H →
      (∀ (H' : Hp), KS.Ex H H' → D.nx [some (.ref a.d), some (.int 1), some (.int 2), u3, u4, u5, u6, u7, u8] H') →
      t5 D [some (.ref a.d), some (.int 1), some (.int 2), u3, u4, u5, u6, u7, u8] H := by
  obtain ⟨fR, fdR, GR, mR, bR⟩ := ve.pread
  have hu := hr.units
  have hz0 : sizeLine = 16777216 := rfl
  refine ⟨_, ps_if (PW.pt (pw_or (pt_cmpR (op_neD hu) (pe_tup (pa_cons (pv 1) (pa_cons (pv 2) pa_nil))) (pe_tup (pa_cons pe_int (pa_cons pe_int pa_nil))) (nomark _))
    (pw_or1 (pt_cmpR (op_neD hu) (pe_lc (own := [("place", 6), ("row", 7)]) (g := gTup K 2 (gCons (gName 6) (gCons (gName 7) gNil))) (tt := tYes) (te := tOp rIxP (tVar 7) (tC (.int 1))) rfl scAg.nd
        (pi_tup (pe_meth (pe_ix ix_listD (pe_fld (pf 0) rfl) pe_int (fun _ _ => rfl)) ve.TP.cl mR GR (hr.mono (by decide)) bR (E := fun _ _ _ => False) .nil (passes_call L2.takes0 (fun _ _ _ _ h => h)) (pa_cons pe_int (pa_cons pe_int pa_nil))))
        (blkOk_by (N := nAg) (sc := defScope sAged) (by decide +kernel)) (fun _ _ _ _ _ => pg_tup rfl (pgs_cons (pg_name (i := 6) scAg.nd rfl (Or.inl rfl)) (pgs_cons (pg_name (i := 7) scAg.nd rfl (Or.inl rfl)) pgs_nil))) (fun _ _ _ _ _ => pts_nil) (fun _ _ _ _ _ => pe_ix ix_tupD (pv 7) pe_int (fun _ _ => rfl)))
      (pe_lst (pa_cons (pe_tup (pa_cons pe_int (pa_cons pe_str (pa_cons pe_int (pa_cons pe_int (pa_cons pe_str pa_nil)))))) (pa_cons (pe_tup (pa_cons pe_int (pa_cons pe_str (pa_cons pe_int (pa_cons pe_int pa_nil))))) pa_nil))) (nomark _))))) (pss_one (ps_ret pe_bl)) pss_nil, ?_⟩
  intro D H a i u3 u4 u5 u6 u7 u8 tb x fin
  refine ⟨_, rfl, _, rfl, (by show 2 ≤ sizeLine; decide), fun z1 hz1 => ⟨(by show 2 ≤ sizeLine; decide), fun z2 hz2 => ?_⟩⟩
  have e1 : KS.Ex H (upd H z1 (.tup [.int 1, .int 2])) := Ex.upd hz1
  have h1 : (upd H z1 (.tup [.int 1, .int 2])) z1 = some (.tup (([1, 2] : List Int).map V.int)) := upd_same
  have e2 : KS.Ex (upd H z1 (.tup [.int 1, .int 2])) (upd (upd H z1 (.tup [.int 1, .int 2])) z2 (.tup [.int 1, .int 2])) := Ex.upd hz2
  have h2 : (upd (upd H z1 (.tup [.int 1, .int 2])) z2 (.tup [.int 1, .int 2])) z2 = some (.tup (([1, 2] : List Int).map V.int)) := upd_same
  have h12 := e2 _ _ h1
  have e12 := e1.trans e2
  generalize upd (upd H z1 (.tup [.int 1, .int 2])) z2 (.tup [.int 1, .int 2]) = H2 at e12 h2 h12
  refine ne_same (dp_i h12) (dp_i h2) (smp_i2 _) (by decide) ⟨_, rfl, ifF (by decide) ?_⟩
  have x2 := x.ex e12
  obtain ⟨dx, ob⟩ := x2.ob
  obtain ⟨sts, lg, _⟩ := x2.lg
  obtain ⟨dxo, obo⟩ := lg.ob
  obtain ⟨p, l, kb, wb, dp, q1, q2, pt, fs, q3, q4⟩ := x2.part0 (by decide)
  rw [vC_L] at pt
  refine ⟨_, rfl, a.d, CD, dx, _, _, rfl, ob, ve.TE.cl, ve.TE.l, rfl, a.o, CL, dxo, _, _, rfl, obo, ve.TO.cl, ve.TO.p, rfl, a.q, _, 0, V.ref p, rfl, rfl, q1, (show atI _ ((0 : Nat) : Int) = _ from atI_nat q2), p, dp, _, rfl, q3, q4, ?_⟩
  refine pr_step pt (by decide) (by decide) (fun c => c ⟨by omega, by omega⟩) fun _ H4 q ts rs e4 hq nums rc => ?_
  have rc : Recs H4 rs [recE ea, recE em] := rc
  have lrc := paired_len rc
  have lts : ts.length = 2 := by rw [nums.1, List.length_map, lrc]; rfl
  refine ⟨q, rfl, ⟨_, SqT.of hq⟩, fun D1 hD1 => ?_⟩
  refine lc_it walk_tup (fun j H' => KS.Ex H4 H' ∧ ∃ zs : List Addr, H' D1 = some (.lst (zs.map V.ref)) ∧ Paired (fun z (x : Rc) => H' z = some (.tup (x.2.1.map kV))) zs ([recE ea, recE em].take j)) ⟨Ex.upd hD1, [], upd_same, .nil⟩ (fun j H' _ h => SqT.of (h.1 _ _ hq)) ?_ ?_
  · rintro j y H5 H6 hj ⟨e5, zs, c1, c3⟩ ⟨rfl, hy⟩
    have c2 := paired_len c3
    rw [List.length_take] at c2
    have hj2 : j < 2 := by rw [List.length_map, lts] at hj; exact hj
    rw [List.getElem?_map] at hy
    obtain ⟨t, ht, rfl⟩ := Option.map_eq_some_iff.mp hy
    obtain ⟨r, hr'⟩ : ∃ r, rs[j]? = some r := ⟨_, List.getElem?_eq_getElem (by rw [lrc]; exact hj2)⟩
    obtain ⟨t2, g1, g2⟩ := nums.2 j (V.ref r) (by rw [List.getElem?_map, hr']; rfl)
    rw [ht] at g1
    cases g1
    obtain ⟨xr, hx, ra⟩ := paired_get rc hr'
    obtain ⟨ka, rb, r1, r2, r3⟩ := ra.kt (kt_of e5)
    refine ⟨t, _, rfl, SqT.of (e5 _ _ g2), rfl, _, _, rfl, _, _, rfl, rfl, rfl, ?_⟩
    refine ⟨_, rfl, r, _, 1, .ref rb, rfl, rfl, r1, rfl, _, c1, by rw [List.length_map]; omega, Ex.on e5 hD1, zs ++ [rb], by rw [upd_same, List.map_append]; rfl, ?_⟩
    have kt : KT' H6 (upd H6 D1 (.lst (zs.map V.ref ++ [V.ref rb]))) := fun c ys h => by rw [L2.upd_ne (fun z => by rw [z, c1] at h; cases h)]; exact h
    rw [List.take_add_one, hx]
    refine paired_snoc9 ?_ (KL9.paired_mono (fun _ _ h => kt _ _ h) c3)
    exact kt _ _ r3
  · rintro H5 ⟨e5, zs, c1, c3⟩
    rw [List.length_map, lts] at c3
    have c3 : Paired (fun z (x : Rc) => H5 z = some (.tup (x.2.1.map kV))) zs [recE ea, recE em] := c3
    cases c3 with
    | @cons w0 _ _ _ f0 c3 => cases c3 with
    | @cons w1 _ _ _ f1 c3 =>
      cases c3
      refine ⟨(by show 5 ≤ sizeLine; decide), fun y1 hy1 => ⟨(by show 4 ≤ sizeLine; decide), fun y2 hy2 => ⟨(by show 2 ≤ sizeLine; decide), fun y3 hy3 => ?_⟩⟩⟩
      have g1 : KS.Ex H5 (upd H5 y1 (.tup ((recE ea).2.1.map kV))) := Ex.upd hy1
      have g2 : KS.Ex (upd H5 y1 (.tup ((recE ea).2.1.map kV))) (upd (upd H5 y1 (.tup ((recE ea).2.1.map kV))) y2 (.tup ((recE em).2.1.map kV))) := Ex.upd hy2
      have g3 : KS.Ex (upd (upd H5 y1 (.tup ((recE ea).2.1.map kV))) y2 (.tup ((recE em).2.1.map kV))) (upd (upd (upd H5 y1 (.tup ((recE ea).2.1.map kV))) y2 (.tup ((recE em).2.1.map kV))) y3 (.lst [.ref y1, .ref y2])) := Ex.upd hy3
      have k1 := g3 _ _ (g2 _ _ (show (upd H5 y1 (.tup ((recE ea).2.1.map kV))) y1 = some (.tup ((recE ea).2.1.map kV)) from upd_same))
      have k2 := g3 _ _ (show (upd (upd H5 y1 (.tup ((recE ea).2.1.map kV))) y2 (.tup ((recE em).2.1.map kV))) y2 = some (.tup ((recE em).2.1.map kV)) from upd_same)
      have k3 : (upd (upd (upd H5 y1 (.tup ((recE ea).2.1.map kV))) y2 (.tup ((recE em).2.1.map kV))) y3 (.lst [.ref y1, .ref y2])) y3 = some (.lst [.ref y1, .ref y2]) := upd_same
      have g := (g1.trans g2).trans g3
      refine ne_same (d := .list [rD (recE ea).2.1, rD (recE em).2.1]) (n := 2) (.lst (SqL.of (g _ _ c1)) (.cons (dp_r K (g _ _ f0)) (.cons (dp_r K (g _ _ f1)) .nil))) (.lst (SqL.of k3) (.cons (dp_r K k1) (.cons (dp_r K k2) .nil))) (.lst fun d hd => ?_) (by decide) ⟨_, rfl, ifF (by decide) ?_⟩
      · rcases List.mem_cons.mp hd with rfl | hd
        · exact smp_ea
        rcases List.mem_cons.mp hd with rfl | hd
        · exact smp_em
        · cases hd
      · exact fin _ (((e12.trans e4).trans e5).trans g)
end
end KL9
set_option Elab.async false
set_option linter.all false
set_option maxRecDepth 100000
set_option maxHeartbeats 4000000
namespace KL9
open PySem PySem.Spec PyProof.Rows L2 KB KC KS KN1 LamX K7 Q9 R8 TK
theorem smp_rec : Smp 2 (rcD (recE em)) := .tup fun d hd => by
  rcases List.mem_cons.mp hd with rfl | hd
  · exact smp_kv fun k hk z e => by
      rcases List.mem_cons.mp hk with rfl | hk
      · cases e; decide +kernel
      · cases hk
  rcases List.mem_cons.mp hd with rfl | hd
  · exact smp_em
  rcases List.mem_cons.mp hd with rfl | hd
  · exact .int _
  · cases hd
section
variable {P : Program} {w : World} {K : PySem.W.Frag} {mg : Str → Option Value} {base : Heap} {CP CL CD CG CR Ps Pn Pl cN cL fTo fA : Addr} {fdTo : FuncData} {A : Around} {outer : List PySem.Env} {s : Shared} {H0 : Hp} {E0' : XK}
theorem g_a3 (ve : LawE P w K mg base CP CL CD CG CR Ps Pn Pl cN cL fTo fdTo) (hr : Room 13 (xAg P w K mg base fA cN A outer s H0 E0').A) :
    ∃ t6, L2.PS (xAg P w K mg base fA cN A outer s H0 E0') (aS 6) t6 ∧
      ∀ (D : Ends) (H : Hp) (a : DA) (i : Addr) (u1 u2 u3 u4 u5 u6 u7 u8 : Option V), DoorA CD CL CP 1 nm3 a (vC i) H →
      (∀ (H' : Hp), KS.Ex H H' → D.nx [some (.ref a.d), u1, u2, u3, u4, u5, u6, u7, u8] H') →
      t6 D [some (.ref a.d), u1, u2, u3, u4, u5, u6, u7, u8] H := by
  obtain ⟨fR, fdR, GR, mR, bR⟩ := ve.pread
  have hu := hr.units
  have hz0 : sizeLine = 16777216 := rfl
  refine ⟨_, ps_if (pt_cmpR (op_neD hu) (pe_meth (pe_ix ix_listD (pe_fld (pf 0) rfl) pe_int (fun _ _ => rfl)) ve.TP.cl mR GR (hr.mono (by decide)) bR (E := fun _ _ _ => False) .nil (passes_call L2.takes0 (fun _ _ _ _ h => h)) (pa_cons pe_int (pa_cons pe_int pa_nil)))
    (pe_tup (pa_cons (pe_tup (pa_cons pe_int (pa_cons (pe_tup (pa_cons (pe_tup (pa_cons pe_str pa_nil)) (pa_cons (pe_tup (pa_cons pe_int (pa_cons pe_str (pa_cons pe_int (pa_cons pe_int pa_nil))))) (pa_cons pe_int pa_nil)))) pa_nil))) pa_nil)) (nomark _)) (pss_one (ps_ret pe_bl)) pss_nil, ?_⟩
  intro D H a i u1 u2 u3 u4 u5 u6 u7 u8 x fin
  obtain ⟨dx, ob⟩ := x.ob
  obtain ⟨sts, lg, _⟩ := x.lg
  obtain ⟨dxo, obo⟩ := lg.ob
  obtain ⟨p, l, kb, wb, dp, q1, q2, pt, fs, q3, q4⟩ := x.part0 (by decide)
  rw [vC_L] at pt
  refine ⟨_, rfl, a.d, CD, dx, _, _, rfl, ob, ve.TE.cl, ve.TE.l, rfl, a.o, CL, dxo, _, _, rfl, obo, ve.TO.cl, ve.TO.p, rfl, a.q, _, 0, V.ref p, rfl, rfl, q1, (show atI _ ((0 : Nat) : Int) = _ from atI_nat q2), p, dp, _, rfl, q3, q4, ?_⟩
  have hl2 : ([ea, em].map recE).length = 2 := rfl
  refine pr_step pt (by decide) (by decide) (fun c => c ⟨by omega, by omega⟩) fun _ H4 q ts rs e4 hq nums rc => ?_
  have rc : Recs H4 rs [recE em] := rc
  refine ⟨(by show 1 ≤ sizeLine; decide), fun y1 hy1 => ⟨(by show 4 ≤ sizeLine; decide), fun y2 hy2 => ⟨(by show 3 ≤ sizeLine; decide), fun y3 hy3 => ⟨(by show 2 ≤ sizeLine; decide), fun y4 hy4 => ⟨(by show 1 ≤ sizeLine; decide), fun y5 hy5 => ?_⟩⟩⟩⟩⟩
  have g1 : KS.Ex H4 (upd H4 y1 (.tup ((recE em).1.map kV))) := Ex.upd hy1
  have k1 : (upd H4 y1 (.tup ((recE em).1.map kV))) y1 = some (.tup ((recE em).1.map kV)) := upd_same
  have g2 : KS.Ex (upd H4 y1 (.tup ((recE em).1.map kV))) (upd (upd H4 y1 (.tup ((recE em).1.map kV))) y2 (.tup ((recE em).2.1.map kV))) := Ex.upd hy2
  have k2 : (upd (upd H4 y1 (.tup ((recE em).1.map kV))) y2 (.tup ((recE em).2.1.map kV))) y2 = some (.tup ((recE em).2.1.map kV)) := upd_same
  have k12 := g2 _ _ k1
  have g12 := g1.trans g2
  have hy3 : (upd (upd H4 y1 (.tup ((recE em).1.map kV))) y2 (.tup ((recE em).2.1.map kV))) y3 = none := hy3
  have hy4 : (upd (upd (upd H4 y1 (.tup ((recE em).1.map kV))) y2 (.tup ((recE em).2.1.map kV))) y3 (.tup [.ref y1, .ref y2, .int 0])) y4 = none := hy4
  have hy5 : (upd (upd (upd (upd H4 y1 (.tup ((recE em).1.map kV))) y2 (.tup ((recE em).2.1.map kV))) y3 (.tup [.ref y1, .ref y2, .int 0])) y4 (.tup [.int 1, .ref y3])) y5 = none := hy5
  have g3 := Ex.upd hy3 (o := .tup [.ref y1, .ref y2, .int 0])
  have g4 := Ex.upd hy4 (o := .tup [.int 1, .ref y3])
  have g5 := Ex.upd hy5 (o := .tup [.ref y4])
  have k3 := g5 _ _ (g4 _ _ (show (upd (upd (upd H4 y1 (.tup ((recE em).1.map kV))) y2 (.tup ((recE em).2.1.map kV))) y3 (.tup [.ref y1, .ref y2, .int 0])) y3 = some (.tup [.ref y1, .ref y2, .int 0]) from upd_same))
  have k4 := g5 _ _ (show (upd (upd (upd (upd H4 y1 (.tup ((recE em).1.map kV))) y2 (.tup ((recE em).2.1.map kV))) y3 (.tup [.ref y1, .ref y2, .int 0])) y4 (.tup [.int 1, .ref y3])) y4 = some (.tup [.int 1, .ref y3]) from upd_same)
  have g35 := (g3.trans g4).trans g5
  have k1' := g35 _ _ k12
  have k2' := g35 _ _ k2
  have g := g12.trans g35
  have lrs := paired_len rc
  refine ne_same (d := prsD 1 [recE em]) (n := 4) (dp_prs (g _ _ hq) (by rw [nums.1, List.length_map, lrs]) fun j z hz => ?_) (dp_prs (ts := [y4]) upd_same rfl fun j z hz => ?_) (smp_prs fun z hz => ?_) (by decide) ⟨_, rfl, ifF (by decide) ?_⟩
  · have hlt : j < rs.length := by rw [lrs]; exact (List.getElem?_eq_some_iff.mp hz).1
    obtain ⟨y, hy, ra⟩ := paired_get rc (List.getElem?_eq_getElem hlt)
    rw [hz] at hy
    cases hy
    obtain ⟨t, ht, h⟩ := nums.2 j (V.ref rs[j]) (by rw [List.getElem?_map, List.getElem?_eq_getElem hlt]; rfl)
    exact ⟨t, rs[j], ht, g _ _ h, ra.kt (kt_of g)⟩
  · match j, hz with
    | 0, hz =>
      cases hz
      exact ⟨y4, y3, rfl, k4, y1, y2, k3, k1', k2'⟩
    | j + 1, hz => cases hz
  · rw [List.mem_singleton.mp hz]; exact smp_rec
  · exact fin _ (e4.trans g)
end
end KL9
set_option Elab.async false
set_option linter.all false
set_option maxRecDepth 100000
set_option maxHeartbeats 4000000
namespace KL9
open PySem PySem.Spec PyProof.Rows L2 KB KC KS KN1 LamX K7 Q9 R8 TK
theorem evok_16 : EvOk (Ev.add [.inl 1] (List.replicate 16 (.inl 1), 0) ("p", 1, 1)) := by
  refine ⟨⟨fun y hy => ?_, fun y hy => ?_, by show 1 ≤ 20; decide, by show 20 ≤ 20; decide, ?_⟩, ?_⟩
  · rw [List.mem_singleton.mp hy]; exact okv_i (n := 1) (by omega)
  · rcases List.mem_cons.mp hy with rfl | hy
    · exact okv_i (n := 0) (by omega)
    rcases List.mem_cons.mp hy with rfl | hy
    · exact okv_n (n := "p") (by decide)
    rcases List.mem_cons.mp hy with rfl | hy
    · exact okv_i (n := 1) (by omega)
    rcases List.mem_cons.mp hy with rfl | hy
    · exact okv_i (n := 1) (by omega)
    · rw [List.eq_of_mem_replicate hy]; exact okv_i (n := 1) (by omega)
  · show ((0 : Nat) : Int) < 2 ^ 2000
    decide +kernel
  · have l1 : (valL tabL (.inl 1)).length = 2 := vlen_i (n := 1) (by decide)
    have l0 : (valL tabL (.inl 0)).length = 2 := vlen_i (n := 0) (by decide)
    have lp : (valL tabL (.inr "p")).length = 3 := vlen_t (by decide +kernel)
    have hb : (bodyL (recE (Ev.add [.inl 1] (List.replicate 16 (.inl 1), 0) ("p", 1, 1)))).length = 46 := by
      show ((natL 1 ++ (valL tabL (.inl 1) ++ [])) ++ ((natL 20 ++ (valL tabL (.inl 0) ++ (valL tabL (.inr "p") ++ (valL tabL (.inl 1) ++ (valL tabL (.inl 1) ++ (valL tabL (.inl 1) ++ (valL tabL (.inl 1) ++ (valL tabL (.inl 1) ++ (valL tabL (.inl 1) ++ (valL tabL (.inl 1) ++ (valL tabL (.inl 1) ++ (valL tabL (.inl 1) ++ (valL tabL (.inl 1) ++ (valL tabL (.inl 1) ++ (valL tabL (.inl 1) ++ (valL tabL (.inl 1) ++ (valL tabL (.inl 1) ++ (valL tabL (.inl 1) ++ (valL tabL (.inl 1) ++ (valL tabL (.inl 1) ++ (valL tabL (.inl 1) ++ []))))))))))))))))))))) ++ natL 0)).length = 46
      simp only [List.length_append, l1, l0, lp, natL_small (show 1 < 128 by decide), natL_small (show 20 < 128 by decide), natL_small (show 0 < 128 by decide), List.length_cons, List.length_nil]
    show (natL (bodyL _).length ++ (bodyL _ ++ sumL (bodyL _))).length ≤ 100
    rw [List.length_append, List.length_append, sumL_len, hb, natL_small (by decide)]
    decide
section
variable {CD CL CP Ps Pn Pl : Addr} {many : Nat} {nm : List Str} {a a' : DA} {v v' v'' : DV} {H H' : Hp}
theorem DoorA.notT (x : DoorA CD CL CP many nm a v H) {b : Addr} {u : HO} (hb : Own a v b) (h : H b = some u) : ∀ ps, u ≠ .tbl ps := fun ps z => by
  obtain ⟨dx, ob⟩ := x.ob
  obtain ⟨sts, lg, ls⟩ := x.lg
  obtain ⟨dxo, obo⟩ := lg.ob
  have ql := lg.ql
  rcases hb with hy | hy | hy | hy
  · rw [hy, ob, z] at h; cases h
  · rw [hy, obo, z] at h; cases h
  · rw [hy, ql, z] at h; cases h
  · rcases x.kind hy with ⟨_, _, _, q⟩ | ⟨_, q⟩ | ⟨_, q⟩ <;> rw [q, z] at h <;> cases h
theorem DoorA.exN (x : DoorA CD CL CP many nm a v H) (e : ExtN H H') : DoorA CD CL CP many nm a v H' := x.keep2 (fun b ys h => e _ _ h (fun _ z => nomatch z)) fun b u hb h => e _ _ h (x.notT hb h)
theorem DoorA.two (x : DoorA CD CL CP many nm a v H) (y : DoorA CD CL CP many nm a' v' H) (t : TabS H Ps qK) (f : FrD Ps a' v' H H') (gr : Grow a' v' v'' H) (sep : ∀ b, Own a v b → ¬ DR a' v' b) : DoorA CD CL CP many nm a v H' ∧ ∀ b, Own a v b → ¬ DR a' v'' b := by
  obtain ⟨tb, hP, _⟩ := id t
  refine ⟨x.keep2 (f.kt y t) fun b u hb h => f.2 b u (fun z => by rw [z, hP] at h; exact x.notT hb (by rw [z]; exact hP) _ rfl) (sep b hb) h, fun b hb z => ?_⟩
  rcases gr b z with q | q
  · exact sep b hb q
  · exact x.live hb q
end
theorem three {H : Hp} {ka rb ra : Addr} (n : Nat) (h1 : H ka = none) (h2 : (upd H ka (.tup [.int 1])) rb = none) (h3 : (upd (upd H ka (.tup [.int 1])) rb (.tup [.int 1])) ra = none) : KS.Ex H (upd (upd (upd H ka (.tup [.int 1])) rb (.tup [.int 1])) ra (.tup (List.replicate n [V.int 1]).flatten)) ∧ (upd (upd (upd H ka (.tup [.int 1])) rb (.tup [.int 1])) ra (.tup (List.replicate n [V.int 1]).flatten)) ka = some (.tup (([.inl 1] : List Key).map kV)) ∧ (upd (upd (upd H ka (.tup [.int 1])) rb (.tup [.int 1])) ra (.tup (List.replicate n [V.int 1]).flatten)) ra = some (.tup ((List.replicate n (.inl 1 : Key)).map kV)) := by
  have e1 := Ex.upd h1 (o := .tup [.int 1])
  have e2 := Ex.upd h2 (o := .tup [.int 1])
  have e3 := Ex.upd h3 (o := .tup (List.replicate n [V.int 1]).flatten)
  refine ⟨(e1.trans e2).trans e3, e3 _ _ (e2 _ _ upd_same), ?_⟩
  rw [upd_same, List.flatten_replicate_singleton, List.map_replicate]
  rfl
theorem qNe : (Str.ofString "_law_aged" ++ Str.ofString ".<locals>.") ++ Str.ofString "<lambda>" = qN := by decide +kernel
theorem mem_Pn {Ps Pn Pl : Addr} : (Pn, (Str.ofString "_law_aged" ++ Str.ofString ".<locals>.") ++ Str.ofString "<lambda>") ∈ TT Ps Pn Pl := by rw [qNe]; exact List.mem_cons_of_mem _ (List.mem_cons_self ..)
theorem only_Pn {Ps Pn Pl : Addr} (ap : Apt Ps Pn Pl) : ∀ p ∈ TT Ps Pn Pl, p.1 = Pn → p.2 = (Str.ofString "_law_aged" ++ Str.ofString ".<locals>.") ++ Str.ofString "<lambda>" := by
  rw [qNe]
  intro p hp e
  rcases List.mem_cons.mp hp with z | hp
  · rw [z] at e; exact absurd e ap.sn
  rcases List.mem_cons.mp hp with z | hp
  · rw [z]
  rcases List.mem_cons.mp hp with z | hp
  · rw [z] at e; exact absurd e.symm ap.nl
  cases hp
section
variable {P : Program} {w : World} {K : PySem.W.Frag} {mg : Str → Option Value} {base : Heap} {CP CL CD CG CR Ps Pn Pl cN cL fTo fA : Addr} {fdTo : FuncData} {A : Around} {outer : List PySem.Env} {s : Shared} {H0 : Hp} {E0' : XK}
theorem g_a4 (ve : LawE P w K mg base CP CL CD CG CR Ps Pn Pl cN cL fTo fdTo) (hr : Room 13 (xAg P w K mg base fA cN A outer s H0 E0').A) :
    ∃ t7 t8 t9 t10, L2.PS (xAg P w K mg base fA cN A outer s H0 E0') (aS 7) t7 ∧ L2.PS (xAg P w K mg base fA cN A outer s H0 E0') (aS 8) t8 ∧ L2.PS (xAg P w K mg base fA cN A outer s H0 E0') (aS 9) t9 ∧ L2.PS (xAg P w K mg base fA cN A outer s H0 E0') (aS 10) t10 ∧
      ∀ (D : Ends) (H : Hp) (a : DA) (i : Addr) (tr : TS) (u1 u2 u3 u4 u5 u6 u7 u8 : Option V), Tabs (TT Ps Pn Pl) H → DoorA CD CL CP 1 nm3 a (vC i) H →
      (∀ (H' : Hp) (x3 x4 : Option V), Tabs (TT Ps Pn Pl) H' → DoorA CD CL CP 1 nm3 a (vC i) H' → tr D [some (.ref a.d), u1, u2, x3, x4, u5, u6, u7, u8] H') →
      tSeq t7 (tSeq t8 (tSeq t9 (tSeq t10 tr))) D [some (.ref a.d), u1, u2, u3, u4, u5, u6, u7, u8] H := by
  obtain ⟨fL', fdL, GL, ML, bL⟩ := ve.linit
  obtain ⟨fD, fdD, GD, MD, bD⟩ := ve.einit
  obtain ⟨fE, fdE, GE, mE, bE⟩ := ve.enter
  obtain ⟨fB, fdB, GB, mB, bB⟩ := ve.begin
  obtain ⟨fX, fdX, GX, mX, bX⟩ := ve.add
  obtain ⟨oc, od, dV, kVs, doc, pm, an, cdv, ct, osl, rfl, lk, hcd, _, _⟩ := ve.told.ex
  have bTo := ve.told.bindsN (ps := ["what"]) fun _ _ _ _ _ _ us hl => match us, hl with | [_], _ => rfl
  have hu := hr.units
  have hz0 : sizeLine = 16777216 := rfl
  refine ⟨_, _, _, _, ps_set (i := 3) scAg.nd rfl (Or.inr rfl) (pe_make MD GD (hr.mono (by decide)) (by rfl) ve.TE.g bD .nil pass0 (pa_cons (pe_make (CX := L2.CX P w) ML GL (hr.mono (by decide)) (by rfl) ve.TO.g bL (E := fun _ _ _ => False) .nil (passes_call L2.takes0 (fun _ _ _ _ h => h)) (pa_cons pe_int pa_nil)) pa_nil)),
    ps_set (i := 4) scAg.nd rfl (Or.inr rfl) (pe_meth (pv 3) ve.TE.cl mE GE (hr.mono (by decide)) bE .nil pass0 (pa_cons pe_str pa_nil)),
    ps_expr (pe_meth (pv 3) ve.TE.cl mB GB (hr.mono (by decide)) bB (E := fun _ _ _ => False) .nil (passes_call L2.takes0 (fun _ _ _ _ h => h)) (pa_cons pe_str (pa_cons (pv 4) pa_nil))),
    ps_if (PW.pt (pw_or (pt_cmpR op_ne (pe_lamcall (T := TT Ps Pn Pl) (P := Pn) (c := cN) (k := 11) (t := fun E => tMeth CD "add" (spEA CD CL CP CG Ps) [] E (tVar 3) (tCons (tC (.str "p")) (tCons (tVar 4) (tCons (tTup (tCons (tC (.int 1)) tNil)) (tCons (tOp (rRepT K) (tTup (tCons (tC (.int 1)) tNil)) (tC (.int 17))) (tCons (tC (.int 0)) tNil)))))) (by rfl) ve.gTold ve.told.kp lk hcd bTo (Ng := ["what"]) (sg := defScope sTold) ⟨rfl, rfl, rfl, by decide +kernel, rfl, by decide +kernel, by decide +kernel⟩ rfl (Or.inl rfl)
        (told_gives (by rfl) ve.G.g (by decide +kernel) (fun f => rfl)) ve.TBn rfl mem_Pn (only_Pn ve.ap) hr (lamS_by (by show lamSB (defScope sAged) _ = true; decide +kernel)) rfl (fun _ _ _ _ _ => rfl)
        (fun A outer s H E f c' hr' => pe_meth (pv 3) ve.TE.cl mX GX (hr'.mono (by decide)) bX .nil (passes_call (takes_of rfl rfl rfl rfl) (fun _ _ _ _ h => h)) (pa_cons pe_str (pa_cons (pv 4) (pa_cons (pe_tup (pa_cons pe_int pa_nil)) (pa_cons (pe_op op_repT (pe_tup (pa_cons pe_int pa_nil)) pe_int) (pa_cons pe_int pa_nil))))))) pe_str (nomark _))
      (pw_or1 (pt_cmpR (op_neD hu) (pe_meth (pv 3) ve.TE.cl mX GX (hr.mono (by decide)) bX (E := fun _ _ _ => False) .nil (passes_call L2.takes0 (fun _ _ _ _ h => h)) (pa_cons pe_str (pa_cons (pv 4) (pa_cons (pe_tup (pa_cons pe_int pa_nil)) (pa_cons (pe_op op_repT (pe_tup (pa_cons pe_int pa_nil)) pe_int) (pa_cons pe_int pa_nil)))))) (pe_tup (pa_cons pe_int (pa_cons pe_int pa_nil))) (nomark _))))) (pss_one (ps_ret pe_bl)) pss_nil, ?_⟩
  intro D H a i tr u1 u2 u3 u4 u5 u6 u7 u8 tb x fin
  have ts : ∀ {H : Hp}, Tabs (TT Ps Pn Pl) H → TabS H Ps qK := fun t => t _ (List.mem_cons_self ..)
  have hp : ("p" : Str) ∈ nm3 := by decide
  dsimp only [tSeq, tAsg]
  refine new_door ve.TO fun H1 a' e1 y1 ow => ?_
  have x1 := x.ex e1
  have tb1 : Tabs (TT Ps Pn Pl) H1 := fun p hp => (tb p hp).ext e1
  have sep1 : ∀ b, Own a (vC i) b → ¬ DR a' v0 b := fun b hb z => x.live hb (ow b (.inr (.inr (.inr z))))
  obtain ⟨dx1, ob1⟩ := y1.ob
  refine ⟨_, rfl, a'.d, dx1, _, rfl, ob1, rfl, er_step y1 (ts tb1) (by decide) hp (fun x h => nomatch h) (fun _ => by show 0 < 90; decide) fun H2 f2 gr2 y2 => ?_⟩
  have tb2 := tabs_frD tb1 ve.ap y1 f2
  obtain ⟨x2, sep2⟩ := x1.two y1 (ts tb1) f2 gr2 sep1
  obtain ⟨dx2, ob2⟩ := y2.ob
  show tSeq _ _ _ [some (.ref a.d), u1, u2, some (.ref a'.d), some (.int 1), u5, u6, u7, u8] H2
  refine ⟨_, rfl, a'.d, dx2, _, rfl, ob2, rfl, _, rfl, eb_step (g := 1) y2 (ts tb2) (by decide +kernel) (by decide) hp (fun c => c ⟨by decide +kernel, rfl⟩) fun gN hg hgN hd H3 j fr f3 gr3 y3 => ?_⟩
  have : gN = 1 := by omega
  subst this
  have tb3 := tabs_frD tb2 ve.ap y2 f3
  obtain ⟨x3, sep3⟩ := x2.two y2 (ts tb2) f3 gr3 sep2
  have y3 : DoorA CD CL CP 1 nm3 a' (vA j) H3 := y3
  have sep3 : ∀ b, Own a (vC i) b → ¬ DR a' (vA j) b := sep3
  refine ⟨tb3, fun H6 e6 tb6 => ?_⟩
  have x6 := x3.exN e6
  have y6 := y3.exN e6
  obtain ⟨dx6, ob6⟩ := y6.ob
  refine ⟨_, rfl, a'.d, dx6, _, rfl, ob6, rfl, _, rfl, (by show 1 ≤ sizeLine; decide), fun ka hka => ⟨(by show 1 ≤ sizeLine; decide), fun rb hrb => ⟨rb, 17, [.int 1], rfl, rfl, SqT.of upd_same, (fun c => nomatch c), by decide, by decide, by decide, fun ra hra => ?_⟩⟩⟩
  obtain ⟨e7, hka7, hra7⟩ := three 17 hka hrb hra
  show spEA CD CL CP CG Ps [.ref a'.d, .str "p", .int 1, .ref ka, .ref ra, .int 0] (upd (upd (upd H6 ka (.tup [.int 1])) rb (.tup [.int 1])) ra (.tup (List.replicate 17 [V.int 1]).flatten)) _ _
  generalize upd (upd (upd H6 ka (.tup [.int 1])) rb (.tup [.int 1])) ra (.tup (List.replicate 17 [V.int 1]).flatten) = H7 at e7 hka7 hra7
  have x7 := x6.ex e7
  have y7 := y6.ex e7
  have tb7 : Tabs (TT Ps Pn Pl) H7 := fun p hp => (tb6 p hp).ext e7
  refine ea_step (kk := [.inl 1]) (rr := List.replicate 17 (.inl 1)) (t := 0) (g := 1) y7 (ts tb7) (by decide +kernel) (by decide) hka7 hra7 (by rw [List.length_replicate]; decide) (fun x _ h => absurd h (by rw [List.length_replicate]; decide)) (fun _ => by show 0 < 90; decide) (fun _ => ⟨true, ve.G.e, fun _ => ?_, fun z => nomatch z⟩) fun dl _ _ h => absurd h (by rw [List.length_replicate]; decide)
  refine ⟨rfl, _, rfl, ifF (by decide) ?_⟩
  obtain ⟨dx7, ob7⟩ := y7.ob
  refine ⟨_, rfl, a'.d, dx7, _, rfl, ob7, rfl, _, rfl, (by show 1 ≤ sizeLine; decide), fun kb hkb => ⟨(by show 1 ≤ sizeLine; decide), fun rc hrc => ⟨rc, 16, [.int 1], rfl, rfl, SqT.of upd_same, (fun c => nomatch c), by decide, by decide, by decide, fun rd hrd => ?_⟩⟩⟩
  obtain ⟨e8, hka8, hra8⟩ := three 16 hkb hrc hrd
  show spEA CD CL CP CG Ps [.ref a'.d, .str "p", .int 1, .ref kb, .ref rd, .int 0] (upd (upd (upd H7 kb (.tup [.int 1])) rc (.tup [.int 1])) rd (.tup (List.replicate 16 [V.int 1]).flatten)) _ _
  generalize upd (upd (upd H7 kb (.tup [.int 1])) rc (.tup [.int 1])) rd (.tup (List.replicate 16 [V.int 1]).flatten) = H8 at e8 hka8 hra8
  have x8 := x7.ex e8
  have y8 := y7.ex e8
  have tb8 : Tabs (TT Ps Pn Pl) H8 := fun p hp => (tb7 p hp).ext e8
  refine ea_step (kk := [.inl 1]) (rr := List.replicate 16 (.inl 1)) (t := 0) (g := 1) y8 (ts tb8) (by decide +kernel) (by decide) hka8 hra8 (by rw [List.length_replicate]; decide) (fun x hx _ => ?_) (fun _ => by show 0 < 90; decide) (fun c => c ⟨by rw [vA_age]; rfl, by rw [vA_deal]; simp, by rw [List.length_replicate]; decide⟩) fun dl hd' _ _ H9 z f9 gr9 y9 hz9 => ?_
  · have : x = (1, 1, []) := by
      have h : some (1, 1, []) = some x := hx
      exact (Option.some.inj h).symm
    subst this
    exact evok_16
  have tb9 := tabs_frD tb8 ve.ap y8 f9
  obtain ⟨x9, _⟩ := x8.two y8 (ts tb8) f9 gr9 sep3
  rw [numK1] at hz9
  have hz9 : H9 z = some (.tup (([0, 0] : List Int).map V.int)) := hz9
  refine ⟨(by show 2 ≤ sizeLine; decide), fun t1 ht1 => ?_⟩
  have e10 := Ex.upd ht1 (o := .tup [.int 0, .int 0])
  refine ne_same (dp_i (e10 _ _ hz9)) (dp_i (l := [0, 0]) upd_same) (smp_i2 _) (by decide) ⟨_, rfl, ifF (by decide) ?_⟩
  exact fin _ _ _ (fun p hp => (tb9 p hp).ext e10) (x9.ex e10)
end
end KL9
set_option Elab.async false
set_option linter.all false
set_option maxRecDepth 100000
set_option maxHeartbeats 2000000
namespace RC
open PySem PySem.Spec PyProof.Rows L2
def Back (X : Cx) (pins : List (Addr × Obj)) (σ : L2.St) (Y : Cx) : Prop := ∀ (pins' : List (Addr × Obj)) (σ' : L2.St) (H' : Hp) (s' : Shared), Inv Y pins' σ' H' s' → Inv X pins σ H' s'
section
variable {X : Cx}
theorem pe_lcB {elt tg iter : Expr} {ifs : List Expr} {scope : Scope} {own : List (Str × Nat)} {pos : Pos} {wi : TI} {g : TG} {tt : L2.St → TT} {te : TE} {E : XK} (hc : X.calm = true) (hN : X.N.Nodup) (hst : X.stack = X.env :: X.outer) (hf : X.env.frame = some X.env.locals) (tk : Takes X (fun cls d _ H => E cls d H)) (hi : PI X tg iter wi) (ok : BlkOk X.N X.env.scope scope own)
    (hg : ∀ (s : Shared) (H : Hp) (C : Addr) (cl : List (Str × Addr)) (fp : List Addr) (xe : Value → Shared → Prop), PassB X E (blkX X s H scope (compEnvC scope cl C X.env) fp xe) → PG (blkX X s H scope (compEnvC scope cl C X.env) fp xe) tg g)
    (ht : ∀ (pins : List (Addr × Obj)) (σ : L2.St) (s : Shared) (H : Hp) (C : Addr) (cl : List (Str × Addr)) (fp : List Addr) (xe : Value → Shared → Prop), Back X pins σ (blkX X s H scope (compEnvC scope cl C X.env) fp xe) → PassB X E (blkX X s H scope (compEnvC scope cl C X.env) fp xe) → PTs (blkX X s H scope (compEnvC scope cl C X.env) fp xe) ifs (tt σ))
    (he : ∀ (s : Shared) (H : Hp) (C : Addr) (cl : List (Str × Addr)) (fp : List Addr) (xe : Value → Shared → Prop), PassB X E (blkX X s H scope (compEnvC scope cl C X.env) fp xe) → PE (blkX X s H scope (compEnvC scope cl C X.env) fp xe) elt te) (hs : ∀ x, foldedSetIterable iter X.env x = pure x := by intro _; rfl) :
    PE X (.ListComp elt [⟨tg, iter, ifs, 0⟩] scope pos) (fun σ H Q => tLc wi g (tt σ) te (own.map (·.2)) σ H Q) := by
  refine ⟨fun pins s σ H Q I h => ?_⟩
  rw [eval_ListComp]
  have hfree : ∀ y ∈ scope.names, y.2 = .free → ∃ c, X.env.cells.lookup y.1 = some c := fun y hy e => (ok.free y hy e).elim (fun k => I.ok.has _ (.inl k)) fun k => I.ok.has _ (.inr k)
  refine comprehension_at (use := none) rfl hs (closure_ok hfree) ok.kind (fun y hy e => by rw [ok.uniq y hy, e]) (thn (hi.run pins s σ H _ I h) fun xv s1 hx => thn hx fun itv s2 ⟨it, fp, tn, J, H2, e, I2, T, st2, f2, q⟩ => ?_)
  subst e
  refine wpAny_newObj_type (newEnv_comp ?_) (by show 0 ≤ sizeLine; decide)
  generalize hD : s2.heap.objs.size = D
  obtain ⟨W, ⟨m0, w0⟩, turn⟩ := q D (I2.hok.fresh (Nat.le_of_eq hD))
  generalize hs3 : ({ s2 with heap := s2.heap.push { cls := .type "list", data := .seq ([] : List Value).toArray } } : Shared) = s3
  have I3 : Inv X pins σ (upd H2 D (.lst [])) s3 := by
    rw [← hs3]
    refine I2.laid (t' := s2.toks) (fun b o e => Heap.get?_push_of_some _ e) (Nat.le_of_eq hD) ⟨Nat.zero_le _, [], 0, .nil, ?_⟩
    rw [← hD]
    exact Heap.get?_push_size _ rfl
  have h3 : s3.heap = s2.heap.push { cls := .type "list", data := .seq ([] : List Value).toArray } := by rw [← hs3]
  have f3 : ∀ b ∈ fp, FpOk X pins (upd H2 D (.lst [])) b ∧ b < s3.heap.objs.size := fun b hb => by
    obtain ⟨o, e, _⟩ := T.obj _ _ st2 b hb
    have hlt := Heap.lt_size e
    refine ⟨⟨?_, (f2 b hb).2⟩, by rw [h3, Heap.size_push]; exact Nat.lt_succ_of_lt hlt⟩
    rw [upd_ne (by rw [← hD]; exact Nat.ne_of_lt hlt)]
    exact (f2 b hb).1
  have st3 : tn 0 s3.heap := T.keep _ _ _ st2 fun b _ o e => by rw [h3]; exact Heap.get?_push_of_some _ e
  have I4 := block_start I3 ok hN f3
  have pg := fun xe => hg s3 (upd H2 D (.lst [])) s3.heap.objs.size (cellsFrom (s3.heap.objs.size + 1) scope.names (cloFrom X.env.cells scope.names [])) fp xe
  have pt := fun xe => ht pins σ s3 (upd H2 D (.lst [])) s3.heap.objs.size (cellsFrom (s3.heap.objs.size + 1) scope.names (cloFrom X.env.cells scope.names [])) fp xe
  have pe := fun xe => he s3 (upd H2 D (.lst [])) s3.heap.objs.size (cellsFrom (s3.heap.objs.size + 1) scope.names (cloFrom X.env.cells scope.names [])) fp xe
  show codeAny _ _ (.compStart (.ListComp elt [⟨tg, iter, ifs, 0⟩] scope pos) 0 (.ref it) (.ref D) (compEnvC scope (cellsFrom (s3.heap.objs.size + 1) scope.names (cloFrom X.env.cells scope.names [])) s3.heap.objs.size X.env)) (compEnds (model X.prog X.w) X.A X.xe none (fun v s' => EP X pins σ Q v s') (.ref D) (compEnvC scope (cellsFrom (s3.heap.objs.size + 1) scope.names (cloFrom X.env.cells scope.names [])) s3.heap.objs.size X.env)) { s3 with heap := pushCells (s3.heap.push { cls := .type "dict", data := .dict #[] }) scope.names }
  have nfp : ∀ b ∈ fp, (upd H2 D (.lst [])) b = none := fun b hb => (f3 b hb).1.1
  generalize hce : compEnvC scope (cellsFrom (s3.heap.objs.size + 1) scope.names (cloFrom X.env.cells scope.names [])) s3.heap.objs.size X.env = ce at I4 pg pt pe ⊢
  have cL : ce.locals = s3.heap.objs.size := by subst hce; rfl
  have cF : ce.frame = X.env.frame := by subst hce; rfl
  generalize hH3 : upd H2 D (.lst []) = H3 at I3 I4 pg pt pe w0 nfp f3
  generalize hs4 : ({ s3 with heap := pushCells (s3.heap.push { cls := .type "dict", data := .dict #[] }) scope.names } : Shared) = s4 at I4 ⊢
  have st4 : tn 0 s4.heap := T.keep _ _ _ st3 fun b _ o e => by rw [← hs4]; exact pushCells_keeps _ _ _ _ (Heap.get?_push_of_some _ e)
  generalize hxe : notedBy (model X.prog X.w) X.A ce (fun e s' => CompFails (model X.prog X.w) X.A X.xe ce e s') = xe
  have back : ∀ {pins' : List (Addr × Obj)} {σ' : L2.St} {H' : Hp} {s' : Shared}, Inv (blkX X s3 H3 scope ce fp xe) pins' σ' H' s' → Inv X pins σ H' s' := fun {pins' σ' H' s'} I' => I3.call' (ch := fp) I'.os I'.base I'.hok I'.bare fun b hb => ⟨(f3 b hb).1.2.2.2.1, (f3 b hb).1.2.1, (f3 b hb).1.2.2.2.2.1, (f3 b hb).1.2.2.2.2.2⟩
  have bk : Back X pins σ (blkX X s3 H3 scope ce fp xe) := fun _ _ _ _ I' => back I'
  have freeC : ∀ {pins' : List (Addr × Obj)} {σ' : L2.St} {H' : Hp} {s' : Shared}, Inv (blkX X s3 H3 scope ce fp xe) pins' σ' H' s' → H' ce.locals = none := fun I' => I'.free
  have pass : PassB X E (blkX X s3 H3 scope ce fp xe) := fun pins' σ' H' s5 u s' I' c => by
    have nC := freeC I'
    have I7 := back I'
    have nC' : H' s3.heap.objs.size = none := by rw [← cL]; exact nC
    obtain ⟨f0, f1, f2', f3', f4', f5'⟩ := I3.fpOk (Nat.le_refl _) nC'
    have fC : ce.locals ∉ frs X.stack := by
      rw [cL, hst]
      intro z
      obtain ⟨en, hen, hz⟩ := List.mem_filterMap.mp z
      rcases List.mem_cons.mp hen with rfl | hen
      · rw [hf] at hz
        exact f1 (Option.some.inj hz).symm
      · exact f2' (List.mem_filterMap.mpr ⟨en, hen, hz⟩)
    obtain ⟨mm, hn, _⟩ := I'.loc
    have hn : s5.heap.Ns ce.locals mm := hn
    obtain ⟨oC, es, ep, hoC, rest⟩ := id hn
    obtain ⟨hO, r1, r2⟩ := restrict s5.heap fun b => decide (b ≠ ce.locals)
    have kO : ∀ b o, hO.get? b = some o → s5.heap.get? b = some o := fun b o e => by
      by_cases z : b = ce.locals
      · rw [r2 b (by simp [z])] at e; cases e
      · rw [r1 b (by simp [z])] at e; exact e
    have IO : Inv X pins σ H' { s5 with heap := hO, toks := s5.toks } := by
      refine I7.turned (it := s3.heap.objs.size) (t' := s5.toks) (fun b o hb e => ?_) f0 f1 f3' f4' f5'
      rw [r1 b (by rw [cL]; simp [hb])]
      exact e
    have fly : FlyC X (fun cls d _ H => E cls d H) ce.locals u s' := fly_of (s := s5) (sO := { s5 with heap := hO, toks := s5.toks }) (oC := oC) IO (r2 _ (by simp)) kO rfl hoC nC fC (fun _ _ _ z => z) c
    have hn' : s'.heap.Ns ce.locals mm := ns_keeps hn fun o ho => by
      obtain ⟨a, B, H6, cls, d, _, fl, _, ub, _⟩ := c
      exact fl.1 _ _ (ub.keep _ _ ho nC fC)
    rw [← hxe]
    exact noted hst hf cF tk fly hn'
  have stat : ∀ {σ' : L2.St} {H' : Hp} {s' : Shared}, Inv (blkX X s3 H3 scope ce fp xe) [] σ' H' s' → (∀ b ∈ fp, H' b = none) → ∀ b ∈ fp, FpOk (blkX X s3 H3 scope ce fp xe) [] H' b := fun {σ' H' s'} I' hn b hb =>
    ⟨hn b hb, (I'.ok.exf b hb).1, I'.ok.exfs b hb, .inl hb, fun x c e => (I'.ok.exf b hb).2 x c e, fun p hp => absurd (show p ∈ ([] : List (Addr × Obj)) ++ [] from hp) (by simp)⟩
  have loop : codeAny (model X.prog X.w) X.A (.compLoop (.ListComp elt [⟨tg, iter, ifs, 0⟩] scope pos) 0 (.ref it) (.ref D) ce) (compEnds (model X.prog X.w) X.A X.xe none (fun v s' => EP X pins σ Q v s') (.ref D) ce) s4 := by
    refine compLoop_any (fun n s' => ∃ i H', Inv (blkX X s3 H3 scope ce fp xe) [] (wipe σ (own.map (·.2))) H' s' ∧ tn i s'.heap ∧ (∀ b ∈ fp, H' b = none) ∧ W i n H') ?_ m0 ⟨0, H3, inv_blkX I4, st4, nfp, w0⟩
    rintro n s5 ⟨i, H5, I5, st5, n5, w5⟩
    have err : ∀ {α : Type} {t : Sem α} {R R' : α → Shared → Prop} {sx : Shared}, wpAny (model X.prog X.w) X.A t R xe sx → (∀ a s', R a s' → R' a s') → wpAny (model X.prog X.w) X.A t R' (notedBy (model X.prog X.w) X.A ce fun e s' => compEnds (model X.prog X.w) X.A X.xe none (fun v s' => EP X pins σ Q v s') (.ref D) ce (.error e) s') sx := fun hw hR => by
      refine wpAny_mono hw hR fun e s' he => ?_
      rw [← hxe] at he
      exact he
    rcases turn i n H5 w5 with ⟨stop, qq⟩ | ⟨go, Nx, hNx, step⟩
    · refine thnF (T.done (blkX X s3 H3 scope ce fp xe) rfl rfl rfl hc i [] s5 _ H5 (fun _ _ => False) I5 (stat I5 n5) st5 stop) fun r s6 ⟨hr, I6⟩ => ?_
      subst hr
      have nC : H5 s3.heap.objs.size = none := by rw [← cL]; exact freeC I6
      obtain ⟨m, hn, _⟩ := I6.loc
      have hn : s6.heap.Ns ce.locals m := hn
      refine ⟨m, hn, fun h'' sb => ?_⟩
      obtain ⟨f0, f1, f2, f3, f4, f5⟩ := I3.fpOk (Nat.le_refl _) nC
      exact ⟨.ref D, H5, (back I6).turned (t' := s6.toks) (fun b o hb e => (sb.2 b (by rw [cL]; exact hb)).trans e) f0 f1 f3 f4 f5, rfl, qq⟩
    · refine thnF (T.item (blkX X s3 H3 scope ce fp xe) rfl rfl rfl hc i [] s5 _ H5 (fun _ _ => False) I5 (stat I5 n5) st5 go) fun r s6 ⟨u, hr, h6⟩ => ?_
      subst hr
      refine thnF h6 fun _ s7 ⟨x, H7, I7, r7, y7, st7, n7⟩ => ?_
      have I7' := I7.pinned (stat I7 n7) (T.obj _ _ st7)
      refine err ((pg xe pass).run _ s7 _ H7 x u _ I7' r7 (step x H7 y7)) fun _ s8 ⟨σ8, H8, I8, hw8, q8⟩ => ?_
      refine err ((pt xe bk pass).run _ s8 σ8 H8 _ I8 q8) fun b s9 ⟨H9, I9, q9⟩ => ?_
      have fin : ∀ {s' : Shared} {H' : Hp}, Inv (blkX X s3 H3 scope ce fp xe) ([] ++ pinsAt fp s7.heap) σ8 H' s' → Nx H' → ∃ m, m < n ∧ ∃ i H', Inv (blkX X s3 H3 scope ce fp xe) [] (wipe σ (own.map (·.2))) H' s' ∧ tn i s'.heap ∧ (∀ b ∈ fp, H' b = none) ∧ W i m H' := fun {s' H'} I' nx => by
        obtain ⟨m', hm, w'⟩ := hNx H' nx
        have pin' : ∀ b ∈ fp, ∀ o, s7.heap.get? b = some o → s'.heap.get? b = some o ∧ H' b = none := fun b hb o e =>
          let z := I'.pin (b, o) (List.mem_append_right _ (List.mem_append_right _ (mem_pinsAt hb e)))
          ⟨z.1, z.2.1⟩
        refine ⟨m', hm, i + 1, H', (I'.unpinned (pins := [])).weak (by rw [← hw8, wipe_length]) (fun j v e => (wipe_some (by rw [hw8]; exact e)).1), T.keep _ _ _ st7 fun b hb o e => (pin' b hb o e).1, fun b hb => ?_, w'⟩
        obtain ⟨o, e, _⟩ := T.obj _ _ st7 b hb
        exact (pin' b hb o e).2
      cases b with
      | false =>
        simp only [Bool.false_eq_true, if_false] at q9 ⊢
        exact fin I9 q9
      | true =>
        simp only [if_true] at q9 ⊢
        refine err ((pe xe pass).run _ s9 σ8 H9 _ I9 q9) fun z s10 ⟨yv, H10, I10, r10, acc, hD10, hz10, nx⟩ => ?_
        exact app_ok (X := blkX X s3 H3 scope ce fp xe) I10 hD10 hz10 r10 fun s11 I11 => fin I11 nx
  exact codeAny_compStart_list loop (T.self X.A 0 _ _ _ st4 loop)
end
end RC
set_option Elab.async false
set_option linter.all false
set_option maxRecDepth 100000
set_option maxHeartbeats 2000000
namespace CL
open PySem PySem.Spec PyProof.Rows L2 KB KC KD LamX CP RC
def Held (X : Cx) (params : Arguments) (body : Expr) (scope : Scope) (f c' : Addr) (H : Hp) : Prop :=
  H f = some (CloO f (X.env.qual ++ "<lambda>") params body scope (cloFrom X.env.cells scope.names []) c') ∧ H c' = some (CodeO c' (X.env.qual ++ "<lambda>"))
def GivesH (X : Cx) (Ng : List Str) (x : Str) (sg : Scope) (g : Addr) (cdg : Value) (bg : List Stmt) (a : Str) (TT : (XK → Hp → VK → Prop) → Hp → VK → Prop) : Prop :=
  ∀ (f : Addr) (Hd : Hp → Prop) (s : Shared) (H : Hp) (Q : VK) (tl : XK → Hp → VK → Prop),
    (∀ (W : WX) (pn : List (Addr × Obj)) (xe : Value → Shared → Prop) (E : XK) (p1 p2 : Pos), Takes ((cxOf C8.CX0 X.prog X.w X.K X.mg X.base Ng x sg g cdg X.A X.stack s H C8.E0).tr pn xe) W → (∀ cls d σ' H', E cls d H' → W cls d σ' H') →
      PE ((cxOf C8.CX0 X.prog X.w X.K X.mg X.base Ng x sg g cdg X.A X.stack s H C8.E0).tr pn xe) (.Call (.Name a p1) [] [] p2) (fun σZ HZ Q => σZ[0]? = some (some (.ref f)) ∧ Hd HZ ∧ tl E HZ Q)) →
    Hd H → TT tl H Q →
    ∃ t, PSs (cxOf C8.CX0 X.prog X.w X.K X.mg X.base Ng x sg g cdg X.A X.stack s H C8.E0).nox bg t ∧ t { nx := fun _ H' => Q .non H', rt := Q } (L2.start Ng [.ref f]) H
section
variable {X : Cx} {pins : List (Addr × Obj)} {σ : L2.St} {H : Hp} {s : Shared}
theorem pe_actH {CXg : CXT} {Eg : XK} {Ng : List Str} {qg : Str} {sg : Scope} {g f c' : Addr} {cdg : Value} {params : Arguments} {body : Expr} {scope : Scope} {k i : Nat} {a : Str} {pn : List (Addr × Obj)} {xe : Value → Shared → Prop} {W : WX} {E : XK} {tb : TE} {p1 p2 : Pos}
    (I : Inv X pins σ H s) (L : LamS X.env.scope scope)
    (hbind : ∀ pm ctv : Value, bindArgs (PySem.W.kla_fn "<lambda>" (X.env.qual ++ "<lambda>") params body scope (cloFrom X.env.cells scope.names []) pm (.ref c') ctv) ⟨[], []⟩ = pure [])
    (tk : Takes ((cxOf CXg X.prog X.w X.K X.mg X.base Ng qg sg g cdg X.A X.stack s H Eg).tr pn xe) W) (hW : ∀ cls d σ' H', E cls d H' → W cls d σ' H') (hr : Room (k + 1) (X.A.deeper (envOfC qg sg s.heap.objs.size g cdg)))
    (hbody : ∀ (A : Around) (outer : List Env) (s : Shared) (H : Hp), Room k (A.deeper (lamEnv X scope s.heap.objs.size f c')) → PE (lamCx X A outer s H E scope f c') body tb)
    (hN : Ng[i]? = some a) (hv : Vis sg a) (hd : (a == ("__debug__" : Str)) = false := by decide) (hcd : (a == ("__classdict__" : Str)) = false := by decide) :
    PE ((cxOf CXg X.prog X.w X.K X.mg X.base Ng qg sg g cdg X.A X.stack s H Eg).tr pn xe) (.Call (.Name a p1) [] [] p2)
      (fun σZ HZ Q => σZ[i]? = some (some (.ref f)) ∧ Held X params body scope f c' HZ ∧ tb σ HZ Q) := by
  refine ⟨fun pinsZ sZ σZ HZ Q IZ h => ?_⟩
  obtain ⟨hs, ⟨hf, hc⟩, ht⟩ := h
  have nm := (pe_var (pos := p1) (i := i) hN hv hd hcd).run pinsZ sZ σZ HZ (fun v H1 => v = .ref f ∧ H1 = HZ) IZ ⟨.ref f, hs, rfl, rfl⟩
  refine wpAny_Call_Name_kw (thn nm fun u s1 hu => ?_)
  obtain ⟨v, H1, I1, r1, ev, eH⟩ := hu
  subst ev
  rw [eH] at I1
  have eu : u = Value.ref f := r1
  subst eu
  obtain ⟨⟨pm, ctv, of1⟩, _, _⟩ := I1.hok f _ hf
  obtain ⟨⟨oc, vsc, tc, hoc, hdc, hvc⟩, _, _⟩ := I1.hok c' _ hc
  refine PySem.W.callWith_F0 ⟨_, _, _, _, of1⟩ ?_
  have un : Un (frs X.stack) [] H HZ s.heap s1.heap := I1.base
  have run : codeAny (model X.prog X.w) (X.A.deeper (envOfC qg sg s.heap.objs.size g cdg)) (.call (.ref f) ⟨[], []⟩) (CR (L2.CX X.prog X.w) (envOfC qg sg s.heap.objs.size g cdg :: X.stack) X.prog X.w HZ s1 Q E) s1 := by
    refine PySem.W.kla_callFunE hr.depth of1 rfl L.co L.gen rfl ⟨c', oc, vsc, tc, rfl, hoc, hdc, hvc⟩ ?_
    rw [hbind pm ctv]
    refine wpAny_pure (wpAny_newFunctionEnv (fun y hy => (L.own y hy).2) (fun y hy => absurd hy (by simp)) (fun h₁ hns hsb => ⟨I1.nolimit.fresh _ hsb, ?_⟩) L.kind)
    have kp : ∀ b o, s1.heap.get? b = some o → h₁.get? b = some o := fun b o e => hsb.extBut b o (Nat.ne_of_lt (Heap.lt_size e)) (Heap.get?_push_of_some _ e)
    have J := lam_start2 (E := E) (f := f) (c' := c') (tk := s1.toks + ([] : List (Str × Value)).length) I L I1.env0 hr.hd un hns kp
    exact PySem.W.kla_codeExpr (wpAny_mono ((hbody _ _ s1 HZ (hr.deeper _)).run [] _ _ HZ Q J ht) (fun v s' ⟨w', H', J', rv, q⟩ => ⟨w', H', J'.os, J'.bare, J'.base, J'.hok, rv, q⟩) fun e s' hq => hq)
  have hx : Passes (L2.CX X.prog X.w) ((cxOf CXg X.prog X.w X.K X.mg X.base Ng qg sg g cdg X.A X.stack s H Eg).tr pn xe) E := passes_call tk hW
  refine wpAny_call (codeAny_mono run fun r s' hq => ?_)
  match r, hq with
  | .error e, hq => exact hx pinsZ σZ HZ s1 e s' I1 hq
  | .ok (.ret u), hq => exact I1.after hq
  | .ok .next, hq => exact False.elim hq
  | .ok .brk, hq => exact False.elim hq
  | .ok .cont, hq => exact False.elim hq
def CloAt (X : Cx) (k : Nat) (σ : L2.St) (f : Addr) (H : Hp) (R : (XK → Hp → VK → Prop) → Prop) : Prop :=
  ∃ (c' : Addr) (params : Arguments) (body : Expr) (scope : Scope) (t : XK → TE), Held X params body scope f c' H ∧ LamS X.env.scope scope ∧
    (∀ (q : Str) (cl : List (Str × Addr)) (pm cv ctv : Value), bindArgs (PySem.W.kla_fn "<lambda>" q params body scope cl pm cv ctv) ⟨[], []⟩ = pure []) ∧
    (∀ (A : Around) (outer : List Env) (s : Shared) (H : Hp) (E : XK), Room k (A.deeper (lamEnv X scope s.heap.objs.size f c')) → PE (lamCx X A outer s H E scope f c') body (t E)) ∧ R (fun E H' Q' => t E σ H' Q')
end
section
variable {X : Cx} {pins : List (Addr × Obj)} {σ : L2.St} {s0 : Shared} {H0 : Hp} {sc : Scope} {ce : Env} {fp : List Addr} {xe0 : Value → Shared → Prop}
theorem pe_clocall {TT : (XK → Hp → VK → Prop) → Hp → VK → Prop} {x a : Str} {g : Addr} {k : Nat} {pg : Arguments} {bg : List Stmt} {sg : Scope} {dV kV doc pm cdv ct oc : Value} {an od : Option Addr} {osl : Array (Option Value)} {Ng : List Str} {ea : Expr} {p pos : Pos}
    (bk : Back X pins σ (blkX X s0 H0 sc ce fp xe0)) (hg : Gl (blkX X s0 H0 sc ce fp xe0) x) (hm : X.mg x = some (.ref g)) (hk : PySem.W.keepIn X.K (.ref g) = true)
    (lk : X.K.lookup g = some ⟨oc, od, .func (PySem.W.fnOf x x pg bg sg dV kV doc pm an cdv ct), osl⟩) (hcg : PySem.W.codeIn X.K cdv x = true) (hb : L2.Binds X.K (PySem.W.fnOf x x pg bg sg dV kV doc pm an cdv ct) [a] []) (Sg : FnScope Ng [a] sg) (hNg : Ng[0]? = some a) (hva : Vis sg a)
    (hG : GivesH X Ng x sg g cdv bg a TT) (hr : Room (k + 2) X.A) {ta : TA} (ha : PA (blkX X s0 H0 sc ce fp xe0) [ea] ta)
    (hdb : (x == ("__debug__" : Str)) = false := by decide) (hd : (a == ("__debug__" : Str)) = false := by decide) (hcd : (a == ("__classdict__" : Str)) = false := by decide)
    (he : starEach [ea] (blkX X s0 H0 sc ce fp xe0).env = (false, eval ea (blkX X s0 H0 sc ce fp xe0).env) :: starEach [] (blkX X s0 H0 sc ce fp xe0).env := by rfl) (hpl : (backTo pos (starEach [] (blkX X s0 H0 sc ce fp xe0).env)).any (·.1) = false := by rfl) :
    PE (blkX X s0 H0 sc ce fp xe0) (.Call (.Name x p) [ea] [] pos) (fun σ' H Q => ta σ' H fun vs H1 => ∃ f, vs = [.ref f] ∧ CloAt X k σ f H1 fun tl => TT tl H1 Q) := by
  refine ⟨fun pins' s σ' H Q I h => ?_⟩
  refine wpAny_Call_Name_kw (ld_glob I hg hm ?_ hdb)
  refine PySem.W.callWith_K (h₀ := X.base) I.ok.mod.kin hk (thn (ha.run pos pins' s σ' H _ I h) fun us s1 ⟨vs, H1, I1, r, f, ev, ca⟩ => ⟨I1.kIn, ?_⟩) he hpl
  subst ev
  obtain rfl : us = [.ref f] := by
    cases r with
    | cons r1 rs =>
      cases rs
      have z : _ = Value.ref f := r1
      rw [z]
  obtain ⟨c', params, body, scope, t, hd', L, hb', hbody, q⟩ := ca
  have IX : Inv X pins σ H1 s1 := bk _ _ _ _ I1
  have run : codeAny (model X.prog X.w) X.A (.call (.ref g) ⟨[.ref f], []⟩) (CR C8.CX0 X.stack X.prog X.w H1 s1 Q C8.E0) s1 := by
    refine run_ofS (N := Ng) (ps := [a]) (us := [.ref f]) (vs := [.ref f]) lk hcg Sg hr IX.env0 (hb s1 [.ref f] IX.kIn rfl) (.cons rfl .nil) rfl fun hr' => ?_
    obtain ⟨t', ht', hq'⟩ := hG f (Held X params body scope f c') s1 H1 Q _ (fun W pn xe E p1 p2 tk hW => pe_actH (i := 0) (tb := t E) IX L (fun _ _ => hb' _ _ _ _ _) tk hW hr' (fun A outer s H hr2 => hbody A outer s H E hr2) hNg hva hd hcd) hd' q
    exact ⟨t', ht'.nox, hq'⟩
  refine wpAny_call (codeAny_mono run fun r s2 hq => ?_)
  match r, hq with
  | .error e, hq => exact (show False from hq).elim
  | .ok (.ret u), hq => exact I1.after hq
  | .ok .next, hq => exact False.elim hq
  | .ok .brk, hq => exact False.elim hq
  | .ok .cont, hq => exact False.elim hq
theorem told_givesH {X : Cx} {Ng : List Str} {x a e ret : Str} {sg : Scope} {g CS : Addr} {cdg : Value} {j : Nat} {p1 p2 p3 p4 p5 p6 p7 p8 : Pos} (hge : sg.names.lookup e = some .globalImplicit) (hme : X.mg e = some (.ref CS)) (hde : (e == ("__debug__" : Str)) = false) (h0 : ∀ f : Addr, (L2.start Ng [V.ref f])[0]? = some (some (V.ref f))) :
    GivesH X Ng x sg g cdg [.Try [.Return (some (.Call (.Name a p1) [] [] p2)) p3] [.ExceptHandler (some (.Name e p4)) none [.Return (some (.Constant (.str ret) j p5)) p6] p7] [] [] p8] a (TTold X.K CS ret) := by
  intro f Hd s H Q tl act hd h
  have hgl : Gl (cxOf C8.CX0 X.prog X.w X.K X.mg X.base Ng x sg g cdg X.A X.stack s H C8.E0).nox e := hge
  refine ⟨_, pss_one (ps_try_only (X := (cxOf C8.CX0 X.prog X.w X.K X.mg X.base Ng x sg g cdg X.A X.stack s H C8.E0).nox) (c := .ref CS) (tb := fun W D σ H => ∃ E' : XK, (∀ cls d σ' H', E' cls d H' → W cls d σ' H') ∧ σ[0]? = some (some (.ref f)) ∧ Hd H ∧ tl E' H D.rt)
      rfl rfl ⟨hgl, hde, .inl hme⟩ L2.takes0 (fun W pn xe tk _ => ⟨fun pins s' σ H' D I ⟨E', hW, w1, w2, w3⟩ => (pss_one (ps_ret (pos := p3) (act W pn xe E' p1 p2 tk hW))).run pins s' σ H' D I ⟨w1, w2, w3⟩⟩) (fun _ _ _ _ _ _ _ => pss_one (ps_ret pe_str))), ?_⟩
  exact ⟨_, fun cls d σ' H' ⟨b, e1, e2, e3⟩ => ⟨b, e1, fun hb _ _ => e2 hb, fun hb => e3 hb⟩, h0 f, hd, h⟩
end
end CL
set_option Elab.async false
set_option linter.all false
set_option maxRecDepth 100000
set_option maxHeartbeats 4000000
namespace KL9
open PySem PySem.Spec PyProof.Rows L2 KB KC KS KN1 LamX K7 Q9 R8 TK CL
theorem DoorA.wide {CD CL CP : Addr} {many : Nat} {nm nm' : List Str} {a : DA} {v : DV} {H : Hp} (x : DoorA CD CL CP many nm a v H) (h : ∀ n ∈ nm, n ∈ nm') : DoorA CD CL CP many nm' a v H := by
  have wd : ∀ {α : Type} {R : Str → V → α → Prop} {kvs : List (Key × V)} {f : Str → Option α}, Tab nm kS R kvs f → Tab nm' kS R kvs f := fun {α R kvs f} t => ⟨t.nd, fun kv hkv => by
    obtain ⟨k, hk, e⟩ := t.ks kv hkv
    exact ⟨k, h k hk, e⟩, t.at_⟩
  obtain ⟨k1, g1, t1⟩ := x.t1
  obtain ⟨k2, g2, t2⟩ := x.t2
  obtain ⟨k3, g3, t3⟩ := x.t3
  obtain ⟨k4, g4, t4⟩ := x.t4
  exact ⟨x.ob, x.lg, ⟨k1, g1, wd t1⟩, ⟨k2, g2, wd t2⟩, ⟨k3, g3, wd t3⟩, ⟨k4, g4, wd t4⟩, x.t5, x.nj, x.ni, x.nn, x.nd, x.nz⟩
def lamsOf : Stmt → List Expr
  | .Assign _ (.List es _) _ => es
  | .Assign _ (.BinOp _ _ (.List es _) _) _ => es
  | _ => []
abbrev noE : Expr := .Constant (.int 0) 0 ⟨0, 0, 0, 0⟩
abbrev lamE (j i : Nat) : Expr := (lamsOf (aS j)).getD i noE
def lamP : Expr → Arguments
  | .Lambda a _ _ _ => a
  | _ => { posonlyargs := [], args := [], vararg := none, kwonlyargs := [], kw_defaults := [], kwarg := none, defaults := [] }
def lamB : Expr → Expr
  | .Lambda _ b _ _ => b
  | e => e
def lamSc : Expr → Scope
  | .Lambda _ _ sc _ => sc
  | _ => defScope sAged
def S0 (a : DA) (σ : L2.St) : Prop := ∃ u1 u2 u3 u4 u5 u6 u7 u8, σ = [some (.ref a.d), u1, u2, u3, u4, u5, u6, u7, u8]
section
variable {P : Program} {w : World} {K : PySem.W.Frag} {mg : Str → Option Value} {base : Heap} {CP CL CD CG CR Ps Pn Pl cN cL fTo fA : Addr} {fdTo : FuncData} {A : Around} {outer : List PySem.Env} {s : Shared} {H0 : Hp} {E0' : XK}
def Beh (X : Cx) (CD CL CP CG Ps Pn Pl : Addr) (a : DA) (i : Addr) (body : Expr) (scope : Scope) : Prop :=
  ∃ t : XK → TE, (∀ (A : Around) (outer : List Env) (s : Shared) (H : Hp) (E : XK) (f c' : Addr), Room 10 (A.deeper (lamEnv X scope s.heap.objs.size f c')) → PE (lamCx X A outer s H E scope f c') body (t E)) ∧
    ∀ (σ : L2.St) (H : Hp) (E : XK) (Q : VK), S0 a σ → Tabs (TT Ps Pn Pl) H → DoorA CD CL CP 1 nm3 a (vC i) H → (∀ H', ExtN H H' → Tabs (TT Ps Pn Pl) H' → E (.ref CG) none H') → t E σ H Q
def BadC (X : Cx) (CD CL CP CG Ps Pn Pl : Addr) (a : DA) (i f : Addr) (H : Hp) : Prop :=
  ∃ (c' : Addr) (params : Arguments) (body : Expr) (scope : Scope), Held X params body scope f c' H ∧ LamS X.env.scope scope ∧
    (∀ (q : Str) (cl : List (Str × Addr)) (pm cv ctv : Value), bindArgs (PySem.W.kla_fn "<lambda>" q params body scope cl pm cv ctv) ⟨[], []⟩ = pure []) ∧ Beh X CD CL CP CG Ps Pn Pl a i body scope
theorem BadC.exN {X : Cx} {a : DA} {i f : Addr} {H H' : Hp} (b : BadC X CD CL CP CG Ps Pn Pl a i f H) (e : ExtN H H') : BadC X CD CL CP CG Ps Pn Pl a i f H' := by
  obtain ⟨c', params, body, scope, ⟨h1, h2⟩, r⟩ := b
  refine ⟨c', params, body, scope, ⟨e _ _ h1 (fun ps z => ?_), e _ _ h2 codeO_ne⟩, r⟩
  unfold _root_.CP.CloO at z
  cases z
theorem BadC.told {X : Cx} {a : DA} {i f : Addr} {H : Hp} {σ : L2.St} {Q : VK} (J : TxtG K mg CG) (b : BadC X CD CL CP CG Ps Pn Pl a i f H) (hσ : S0 a σ) (tb : Tabs (TT Ps Pn Pl) H) (x : DoorA CD CL CP 1 nm3 a (vC i) H) (q : ∀ H', ExtN H H' → Tabs (TT Ps Pn Pl) H' → Q (.str "LogError") H') :
    CloAt X 10 σ f H fun tl => TTold K CG "LogError" tl H Q := by
  obtain ⟨c', params, body, scope, hd, L, hb, t, ht, hq⟩ := b
  exact ⟨c', params, body, scope, t, hd, L, hb, fun A outer s H E hr => ht A outer s H E f c' hr, hq σ H _ Q hσ tb x fun H' e s' => ⟨true, J.e, fun _ => q H' e s', fun z => nomatch z⟩⟩
abbrev BehA (P : Program) (w : World) (K : PySem.W.Frag) (mg : Str → Option Value) (base : Heap) (fA cN : Addr) (A : Around) (outer : List PySem.Env) (s : Shared) (H0 : Hp) (E0' : XK) (CD CL CP CG Ps Pn Pl : Addr) (a : DA) (i : Addr) (j k : Nat) : Prop := Beh (xAg P w K mg base fA cN A outer s H0 E0') CD CL CP CG Ps Pn Pl a i (lamB (lamE j k)) (lamSc (lamE j k))
end
end KL9
set_option Elab.async false
set_option linter.all false
set_option maxRecDepth 100000
set_option maxHeartbeats 4000000
namespace KL9
open PySem PySem.Spec PyProof.Rows L2 KB KC KS KN1 LamX K7 Q9 R8 TK CL
theorem vB_deal (i : Addr) : (vB i).deals "p" = some (1, 1, [(0, 0)]) := Q9.putF_same (vA i).deals "p" (some (1, 1, [(0, 0)]))
theorem vC_eq (i : Addr) : vC i = agedV (doneV (vB i) "p" (1, 1, [(0, 0)]) 2) "p" := by unfold vC entV; rw [vB_deal]
theorem vC_age (i : Addr) : (vC i).ages "p" = some 2 := by
  rw [vC_eq]
  have h1 : (vB i).ages "p" = some 1 := vA_age i
  show Q9.putF (vB i).ages "p" (some (((vB i).ages "p").getD 0 + 1)) "p" = some 2
  rw [Q9.putF_same, h1]; rfl
theorem vC_deal (i : Addr) : (vC i).deals "p" = none := by
  rw [vC_eq]
  exact Q9.putF_same (vB i).deals "p" none
theorem vC_z (i : Addr) : (vC i).ages "z" = none := by
  rw [vC_eq]
  show Q9.putF (Q9.putF v0.ages "p" (some 1)) "p" (some (((vB i).ages "p").getD 0 + 1)) "z" = none
  rw [Q9.putF_ne _ _ (by decide), Q9.putF_ne _ _ (by decide)]
  rfl
theorem vC_90 (i : Addr) (p : Nat) : ((vC i).L p).length < 90 := by
  rw [vC_eq]
  show (endF (setL (fun _ => []) 0 [ea]) [(0, 0)] 2 ("p", 1, 1) p).length < 90
  have h1 := endF_len (setL (fun _ => []) 0 [ea]) [(0, 0)] 2 ("p", 1, 1) p
  have h2 : (setL (fun _ => []) 0 [ea] p).length ≤ 1 := by
    unfold setL
    split
    · exact Nat.le_refl _
    · exact Nat.zero_le _
  omega
section
variable {P : Program} {w : World} {K : PySem.W.Frag} {mg : Str → Option Value} {base : Heap} {CP CL CD CG CR Ps Pn Pl cN cL fTo fA : Addr} {fdTo : FuncData} {A : Around} {outer : List PySem.Env} {s : Shared} {H0 : Hp} {E0' : XK} {a : DA} {i : Addr}
theorem beh_00 (ve : LawE P w K mg base CP CL CD CG CR Ps Pn Pl cN cL fTo fdTo) : BehA P w K mg base fA cN A outer s H0 E0' CD CL CP CG Ps Pn Pl a i 11 0 := by
  obtain ⟨fM, fdM, GM, mM, bM⟩ := ve.begin
  refine ⟨fun E => tMeth CD "begin" (spEB CD CL CP CG Ps) [] E (tVar 0) (tCons (tC (.str "p")) (tCons (tC (.int 1)) tNil)), fun A' outer' s' H E f c' hr' => pe_meth (pv 0) ve.TE.cl mM GM (hr'.mono (by decide)) bM .nil (passes_call (takes_of rfl rfl rfl rfl) (fun _ _ _ _ h => h)) (pa_cons pe_str (pa_cons pe_int pa_nil)), ?_⟩
  rintro σ H E Q ⟨u1, u2, u3, u4, u5, u6, u7, u8, rfl⟩ tb x q
  obtain ⟨dx, ob⟩ := x.ob
  refine ⟨_, rfl, a.d, dx, _, rfl, ob, rfl, eb_step (g := 1) x (tb _ (List.mem_cons_self ..)) (by decide +kernel) (by decide) (by decide) (fun _ => q H (ExtN.refl H) tb) fun gN hg hgN _ => ?_⟩
  rw [vC_age] at hg
  cases hg
  exact absurd hgN (by decide)
theorem beh_01 (ve : LawE P w K mg base CP CL CD CG CR Ps Pn Pl cN cL fTo fdTo) : BehA P w K mg base fA cN A outer s H0 E0' CD CL CP CG Ps Pn Pl a i 11 1 := by
  obtain ⟨fM, fdM, GM, mM, bM⟩ := ve.commit
  refine ⟨fun E => tMeth CD "commit" (spEC 1 CD CL CP CG Ps) [] E (tVar 0) (tCons (tC (.str "p")) (tCons (tC (.int 2)) tNil)), fun A' outer' s' H E f c' hr' => pe_meth (pv 0) ve.TE.cl mM GM (hr'.mono (by decide)) bM .nil (passes_call (takes_of rfl rfl rfl rfl) (fun _ _ _ _ h => h)) (pa_cons pe_str (pa_cons pe_int pa_nil)), ?_⟩
  rintro σ H E Q ⟨u1, u2, u3, u4, u5, u6, u7, u8, rfl⟩ tb x q
  obtain ⟨dx, ob⟩ := x.ob
  refine ⟨_, rfl, a.d, dx, _, rfl, ob, rfl, ec_step (w := 1) (g := 2) x (tb _ (List.mem_cons_self ..)) (by decide +kernel) (fun x h => by rw [vC_deal] at h; cases h) (vC_90 i) (fun _ => q H (ExtN.refl H) tb) fun dl hd => by rw [vC_deal] at hd; cases hd⟩
theorem beh_02 (ve : LawE P w K mg base CP CL CD CG CR Ps Pn Pl cN cL fTo fdTo) : BehA P w K mg base fA cN A outer s H0 E0' CD CL CP CG Ps Pn Pl a i 11 2 := by
  obtain ⟨fM, fdM, GM, mM, bM⟩ := ve.add
  refine ⟨fun E => tMeth CD "add" (spEA CD CL CP CG Ps) [] E (tVar 0) (tCons (tC (.str "p")) (tCons (tC (.int 2)) (tCons (tTup (tCons (tC (.int 1)) tNil)) (tCons (tTup (tCons (tC (.int 1)) tNil)) (tCons (tC (.int 0)) tNil))))), fun A' outer' s' H E f c' hr' => pe_meth (pv 0) ve.TE.cl mM GM (hr'.mono (by decide)) bM .nil (passes_call (takes_of rfl rfl rfl rfl) (fun _ _ _ _ h => h)) (pa_cons pe_str (pa_cons pe_int (pa_cons (pe_tup (pa_cons pe_int pa_nil)) (pa_cons (pe_tup (pa_cons pe_int pa_nil)) (pa_cons pe_int pa_nil))))), ?_⟩
  rintro σ H E Q ⟨u1, u2, u3, u4, u5, u6, u7, u8, rfl⟩ tb x q
  obtain ⟨dx, ob⟩ := x.ob
  refine ⟨_, rfl, a.d, dx, _, rfl, ob, rfl, (by show 1 ≤ sizeLine; decide), fun ka hka => ⟨(by show 1 ≤ sizeLine; decide), fun ra hra => ?_⟩⟩
  have e1 := Ex.upd hka (o := .tup [.int 1])
  have e2 := Ex.upd hra (o := .tup [.int 1])
  have hk := e2 _ _ (show (upd H ka (.tup [.int 1])) ka = some (.tup (([.inl 1] : List Key).map kV)) from upd_same)
  have e := e1.trans e2
  have tb2 : Tabs (TT Ps Pn Pl) _ := fun p hp => (tb p hp).ext e
  exact ea_step (kk := [.inl 1]) (rr := [.inl 1]) (t := 0) (g := 2) (x.ex e) (tb2 _ (List.mem_cons_self ..)) (by decide +kernel) (by decide) hk upd_same (by show 1 ≤ 1000; decide) (fun x h => by rw [vC_deal] at h; cases h) (vC_90 i) (fun _ => q _ (ExtN.of e) tb2) fun dl hd => by rw [vC_deal] at hd; cases hd
theorem beh_10 (ve : LawE P w K mg base CP CL CD CG CR Ps Pn Pl cN cL fTo fdTo) : BehA P w K mg base fA cN A outer s H0 E0' CD CL CP CG Ps Pn Pl a i 12 0 := by
  obtain ⟨fM, fdM, GM, mM, bM⟩ := ve.drop
  refine ⟨fun E => tMeth CD "drop" (spEC 2 CD CL CP CG Ps) [] E (tVar 0) (tCons (tC (.str "p")) (tCons (tC (.int 2)) tNil)), fun A' outer' s' H E f c' hr' => pe_meth (pv 0) ve.TE.cl mM GM (hr'.mono (by decide)) bM .nil (passes_call (takes_of rfl rfl rfl rfl) (fun _ _ _ _ h => h)) (pa_cons pe_str (pa_cons pe_int pa_nil)), ?_⟩
  rintro σ H E Q ⟨u1, u2, u3, u4, u5, u6, u7, u8, rfl⟩ tb x q
  obtain ⟨dx, ob⟩ := x.ob
  refine ⟨_, rfl, a.d, dx, _, rfl, ob, rfl, ec_step (w := 2) (g := 2) x (tb _ (List.mem_cons_self ..)) (by decide +kernel) (fun x h => by rw [vC_deal] at h; cases h) (vC_90 i) (fun _ => q H (ExtN.refl H) tb) fun dl hd => by rw [vC_deal] at hd; cases hd⟩
theorem beh_11 (ve : LawE P w K mg base CP CL CD CG CR Ps Pn Pl cN cL fTo fdTo) : BehA P w K mg base fA cN A outer s H0 E0' CD CL CP CG Ps Pn Pl a i 12 1 := by
  obtain ⟨fM, fdM, GM, mM, bM⟩ := ve.begin
  refine ⟨fun E => tMeth CD "begin" (spEB CD CL CP CG Ps) [] E (tVar 0) (tCons (tC (.str "z")) (tCons (tC (.int 1)) tNil)), fun A' outer' s' H E f c' hr' => pe_meth (pv 0) ve.TE.cl mM GM (hr'.mono (by decide)) bM .nil (passes_call (takes_of rfl rfl rfl rfl) (fun _ _ _ _ h => h)) (pa_cons pe_str (pa_cons pe_int pa_nil)), ?_⟩
  rintro σ H E Q ⟨u1, u2, u3, u4, u5, u6, u7, u8, rfl⟩ tb x q
  obtain ⟨dx, ob⟩ := x.ob
  refine ⟨_, rfl, a.d, dx, _, rfl, ob, rfl, eb_step (nm := ["p", "q", "r", "z"]) (g := 1) (x.wide (by decide)) (tb _ (List.mem_cons_self ..)) (by decide +kernel) (by decide) (by decide) (fun _ => q H (ExtN.refl H) tb) fun gN hg hgN _ => ?_⟩
  rw [vC_z] at hg
  cases hg
theorem beh_12 (ve : LawE P w K mg base CP CL CD CG CR Ps Pn Pl cN cL fTo fdTo) : BehA P w K mg base fA cN A outer s H0 E0' CD CL CP CG Ps Pn Pl a i 12 2 := by
  obtain ⟨fM, fdM, GM, mM, bM⟩ := ve.need
  refine ⟨fun E => tMeth CD "need" (spEN CD CL CP CG) [] E (tVar 0) (tCons (tC (.str "p")) (tCons (tC (.int 3)) tNil)), fun A' outer' s' H E f c' hr' => pe_meth (pv 0) ve.TE.cl mM GM (hr'.mono (by decide)) bM .nil (passes_call (takes_of rfl rfl rfl rfl) (fun _ _ _ _ h => h)) (pa_cons pe_str (pa_cons pe_int pa_nil)), ?_⟩
  rintro σ H E Q ⟨u1, u2, u3, u4, u5, u6, u7, u8, rfl⟩ tb x q
  obtain ⟨dx, ob⟩ := x.ob
  refine ⟨_, rfl, a.d, dx, _, rfl, ob, rfl, en_step (g := 3) x (by decide +kernel) (fun _ => q H (ExtN.refl H) tb) fun c => ?_⟩
  rw [vC_age] at c
  exact absurd c (by decide)
end
end KL9
set_option Elab.async false
set_option linter.all false
set_option maxRecDepth 100000
set_option maxHeartbeats 4000000
namespace KL9
open PySem PySem.Spec PyProof.Rows L2 KB KC KS KN1 LamX K7 Q9 R8 TK CL RC
theorem good_C (i : Addr) : Good 1 (vC i).nums (vC i).deals (vC i).L := by
  rw [vC_eq]
  have g1 : Good 1 (vA i).nums (vA i).deals (vA i).L := (Good.nil (many := 1)).begin (n := "p") (a := 1) rfl
  have g2 : Good 1 (vB i).nums (vB i).deals (vB i).L := g1.add (n := "p") (a := 1) (m := 1) (p := 0) (k := [.inl 1]) (s := ([.inr "x"], 4)) (pl := []) (vA_deal i) (by decide)
  exact g2.done (n := "p") (a := 1) (m := 1) (pl := [(0, 0)]) (vB_deal i) (.inr rfl)
theorem vC_num (i : Addr) : (vC i).nums "p" = some 1 := by
  rw [vC_eq]
  exact Q9.putF_same v0.nums "p" (some 1)
theorem end_C (i : Addr) : endL ((vC i).L 0) = 2 := by
  rw [vC_L]
  decide +kernel
@[irreducible] def spAged (Ps Pn Pl : Addr) : Sp := fun vs H Q _ => vs = [] ∧ Tabs (TT Ps Pn Pl) H ∧ ∀ H', Q (.bl true) H'
theorem aged_step {Ps Pn Pl : Addr} {H : Hp} {Q : VK} {E : XK} (t : Tabs (TT Ps Pn Pl) H) (q : ∀ H', Q (.bl true) H') : spAged Ps Pn Pl [] H Q E := by
  unfold spAged
  exact ⟨rfl, t, q⟩
section
variable {P : Program} {w : World} {K : PySem.W.Frag} {mg : Str → Option Value} {base : Heap} {CP CL CD CG CR Ps Pn Pl cN cL fTo fA : Addr} {fdTo fdA : FuncData} {A : Around} {outer : List PySem.Env} {s : Shared} {H0 : Hp} {E0' : XK} {a : DA} {i : Addr}
theorem clo_step {j k : Nat} {σ : L2.St} {H : Hp} {Q : VK} (hb : BehA P w K mg base fA cN A outer s H0 E0' CD CL CP CG Ps Pn Pl a i j k) (L : lamSB (defScope sAged) (lamSc (lamE j k)) = true)
    (hbind : ∀ (q : Str) (cl : List (Str × Addr)) (pm cv ctv : Value), bindArgs (PySem.W.kla_fn "<lambda>" q (lamP (lamE j k)) (lamB (lamE j k)) (lamSc (lamE j k)) cl pm cv ctv) ⟨[], []⟩ = pure []) (st : Tabs (TT Ps Pn Pl) H)
    (q : ∀ f H1, ExtN H H1 → Tabs (TT Ps Pn Pl) H1 → BadC (xAg P w K mg base fA cN A outer s H0 E0') CD CL CP CG Ps Pn Pl a i f H1 → Q (.ref f) H1) :
    _root_.CP.tClo (TT Ps Pn Pl) ((xAg P w K mg base fA cN A outer s H0 E0').env.qual ++ "<lambda>") (lamP (lamE j k)) (lamB (lamE j k)) (lamSc (lamE j k)) (cloFrom (xAg P w K mg base fA cN A outer s H0 E0').env.cells (lamSc (lamE j k)).names []) σ H Q :=
  ⟨st, fun f c' H1 e1 t1 hf hc _ => q f H1 e1 t1 ⟨c', _, _, _, ⟨hf, hc⟩, lamS_by L, hbind, hb⟩⟩
theorem bad_lc (ve : LawE P w K mg base CP CL CD CG CR Ps Pn Pl cN cL fTo fdTo) {params : Arguments} {body : Expr} {scope : Scope} {pos : Pos} (hdef : defaultsOf params (xAg P w K mg base fA cN A outer s H0 E0').env = ([], [])) (L : lamSB (defScope sAged) scope = true) :
    PE (xAg P w K mg base fA cN A outer s H0 E0') (.Lambda params body scope pos) (_root_.CP.tClo (TT Ps Pn Pl) ((xAg P w K mg base fA cN A outer s H0 E0').env.qual ++ "<lambda>") params body scope (cloFrom (xAg P w K mg base fA cN A outer s H0 E0').env.cells scope.names [])) :=
  _root_.CP.pe_cloV (X := xAg P w K mg base fA cN A outer s H0 E0') (T := TT Ps Pn Pl) ve.TBn rfl mem_Pn (only_Pn ve.ap) hdef (lamS_by (sc := defScope sAged) L).free
theorem g_bad (ve : LawE P w K mg base CP CL CD CG CR Ps Pn Pl cN cL fTo fdTo) (hr : Room 13 (xAg P w K mg base fA cN A outer s H0 E0').A) :
    ∃ t11 t12, L2.PS (xAg P w K mg base fA cN A outer s H0 E0') (aS 11) t11 ∧ L2.PS (xAg P w K mg base fA cN A outer s H0 E0') (aS 12) t12 ∧
      ∀ (D : Ends) (H : Hp) (a : DA) (i : Addr) (tr : TS) (u1 u2 u3 u4 u5 u6 u7 u8 : Option V), Tabs (TT Ps Pn Pl) H → DoorA CD CL CP 1 nm3 a (vC i) H →
      (∀ (H' : Hp) (l : Addr) (fs : List Addr), Tabs (TT Ps Pn Pl) H' → DoorA CD CL CP 1 nm3 a (vC i) H' → H' l = some (.lst (fs.map V.ref)) → (∀ f ∈ fs, BadC (xAg P w K mg base fA cN A outer s H0 E0') CD CL CP CG Ps Pn Pl a i f H') → tr D [some (.ref a.d), u1, u2, u3, u4, some (.ref l), u6, u7, u8] H') →
      tSeq t11 (tSeq t12 tr) D [some (.ref a.d), u1, u2, u3, u4, u5, u6, u7, u8] H := by
  refine ⟨_, _, ps_set (i := 5) scAg.nd rfl (Or.inl rfl) (pe_lst (pa_cons (bad_lc ve rfl (by decide +kernel)) (pa_cons (bad_lc ve rfl (by decide +kernel)) (pa_cons (bad_lc ve rfl (by decide +kernel)) pa_nil)))),
    ps_set (i := 5) scAg.nd rfl (Or.inl rfl) (pe_op op_cat (pv 5) (pe_lst (pa_cons (bad_lc ve rfl (by decide +kernel)) (pa_cons (bad_lc ve rfl (by decide +kernel)) (pa_cons (bad_lc ve rfl (by decide +kernel)) pa_nil))))), ?_⟩
  intro D H a i tr u1 u2 u3 u4 u5 u6 u7 u8 tb x fin
  dsimp only [tSeq, tAsg, tLst, tCons]
  refine clo_step (j := 11) (k := 0) (show BehA P w K mg base fA cN A outer s H0 E0' CD CL CP CG Ps Pn Pl a i 11 0 from beh_00 ve) (by decide +kernel) (fun _ _ _ _ _ => rfl) tb fun f0 H1 e1 s1 b1 => ?_
  refine clo_step (j := 11) (k := 1) (show BehA P w K mg base fA cN A outer s H0 E0' CD CL CP CG Ps Pn Pl a i 11 1 from beh_01 ve) (by decide +kernel) (fun _ _ _ _ _ => rfl) s1 fun f1 H2 e2 s2 b2 => ?_
  refine clo_step (j := 11) (k := 2) (show BehA P w K mg base fA cN A outer s H0 E0' CD CL CP CG Ps Pn Pl a i 11 2 from beh_02 ve) (by decide +kernel) (fun _ _ _ _ _ => rfl) s2 fun f2 H3 e3 s3 b3 => ?_
  refine ⟨(by show 3 ≤ sizeLine; decide), fun l hl => ?_⟩
  have e4 : KS.Ex H3 (upd H3 l (.lst [.ref f0, .ref f1, .ref f2])) := Ex.upd hl
  have h4 : (upd H3 l (.lst [.ref f0, .ref f1, .ref f2])) l = some (.lst [.ref f0, .ref f1, .ref f2]) := upd_same
  have s4 : Tabs (TT Ps Pn Pl) _ := fun p hp => (s3 p hp).ext e4
  refine ⟨_, rfl, ?_⟩
  generalize upd H3 l (.lst [.ref f0, .ref f1, .ref f2]) = H4 at e4 h4 s4
  dsimp only [tLst, tCons]
  refine clo_step (j := 12) (k := 0) (show BehA P w K mg base fA cN A outer s H0 E0' CD CL CP CG Ps Pn Pl a i 12 0 from beh_10 ve) (by decide +kernel) (fun _ _ _ _ _ => rfl) s4 fun f3 H5 e5 s5 b5 => ?_
  refine clo_step (j := 12) (k := 1) (show BehA P w K mg base fA cN A outer s H0 E0' CD CL CP CG Ps Pn Pl a i 12 1 from beh_11 ve) (by decide +kernel) (fun _ _ _ _ _ => rfl) s5 fun f4 H6 e6 s6 b6 => ?_
  refine clo_step (j := 12) (k := 2) (show BehA P w K mg base fA cN A outer s H0 E0' CD CL CP CG Ps Pn Pl a i 12 2 from beh_12 ve) (by decide +kernel) (fun _ _ _ _ _ => rfl) s6 fun f5 H7 e7 s7 b7 => ?_
  refine ⟨(by show 3 ≤ sizeLine; decide), fun m hm => ?_⟩
  have e8 : KS.Ex H7 (upd H7 m (.lst [.ref f3, .ref f4, .ref f5])) := Ex.upd hm
  have h8 : (upd H7 m (.lst [.ref f3, .ref f4, .ref f5])) m = some (.lst [.ref f3, .ref f4, .ref f5]) := upd_same
  have hl8 := e8 _ _ (((e5.trans e6).trans e7) _ _ h4 (fun _ z => nomatch z))
  generalize upd H7 m (.lst [.ref f3, .ref f4, .ref f5]) = H8 at e8 h8 hl8
  refine ⟨l, m, _, _, rfl, rfl, hl8, h8, by show 6 ≤ sizeLine; decide, fun n hn => ?_⟩
  have e9 : KS.Ex H8 (upd H8 n (.lst ([.ref f0, .ref f1, .ref f2] ++ [.ref f3, .ref f4, .ref f5]))) := Ex.upd hn
  have e79 := ExtN.of (e8.trans e9)
  have e49 := ((e5.trans e6).trans e7).trans e79
  have e39 := (ExtN.of e4).trans e49
  have e09 := ((e1.trans e2).trans e3).trans e39
  refine fin _ n [f0, f1, f2, f3, f4, f5] (fun p hp => (s7 p hp).ext (e8.trans e9)) (x.exN e09) upd_same fun f hf => ?_
  simp only [List.mem_cons, List.not_mem_nil, or_false] at hf
  rcases hf with rfl | rfl | rfl | rfl | rfl | rfl
  · exact b1.exN ((e2.trans e3).trans e39)
  · exact b2.exN (e3.trans e39)
  · exact b3.exN e39
  · exact b5.exN ((e6.trans e7).trans e79)
  · exact b6.exN (e7.trans e79)
  · exact b7.exN e79
end
end KL9
set_option Elab.async false
set_option linter.all false
set_option maxRecDepth 100000
set_option maxHeartbeats 4000000
namespace KL9
open PySem PySem.Spec PyProof.Rows L2 KB KC KS KN1 LamX K7 Q9 R8 TK CL RC
abbrev tTold (CG : Addr) (K : PySem.W.Frag) (X : Cx) (ta : TA) (σ : L2.St) : TE := fun σ' H Q => ta σ' H fun vs H1 => ∃ f, vs = [.ref f] ∧ CloAt X 10 σ f H1 fun tl => TTold K CG "LogError" tl H1 Q
section
variable {P : Program} {w : World} {K : PySem.W.Frag} {mg : Str → Option Value} {base : Heap} {CP CL CD CG CR Ps Pn Pl cN cL fTo fA : Addr} {fdTo fdA : FuncData} {A : Around} {outer : List PySem.Env} {s : Shared} {H0 : Hp} {E0' : XK} {a : DA} {i : Addr}
theorem clo_told {X : Cx} {pins : List (Addr × Obj)} {σ : L2.St} {s0 : Shared} {H1 : Hp} {sc : Scope} {ce : Env} {fp : List Addr} {xe0 : Value → Shared → Prop} (ve : LawE X.prog X.w X.K X.mg X.base CP CL CD CG CR Ps Pn Pl cN cL fTo fdTo) (hr : Room 12 X.A)
    (bk : Back X pins σ (blkX X s0 H1 sc ce fp xe0)) (hg : Gl (blkX X s0 H1 sc ce fp xe0) "_law_told") {ea : Expr} {ta : TA} {p pos : Pos} (ha : PA (blkX X s0 H1 sc ce fp xe0) [ea] ta)
    (he : starEach [ea] (blkX X s0 H1 sc ce fp xe0).env = (false, eval ea (blkX X s0 H1 sc ce fp xe0).env) :: starEach [] (blkX X s0 H1 sc ce fp xe0).env) (hpl : (backTo pos (starEach [] (blkX X s0 H1 sc ce fp xe0).env)).any (·.1) = false) :
    PE (blkX X s0 H1 sc ce fp xe0) (.Call (.Name "_law_told" p) [ea] [] pos) (tTold CG X.K X ta σ) := by
  obtain ⟨oc, od, dV, kV, doc, pm, an, cdv, ct, osl, rfl, lk, hcd, _, _⟩ := ve.told.ex
  have bT := ve.told.bindsN (ps := ["what"]) fun _ _ _ _ _ _ us hl => match us, hl with | [_], _ => rfl
  exact pe_clocall (k := 10) bk hg ve.gTold ve.told.kp lk hcd bT (Ng := ["what"]) (sg := defScope sTold) ⟨rfl, rfl, rfl, by decide +kernel, rfl, by decide +kernel, by decide +kernel⟩ rfl (Or.inl rfl)
    (told_givesH (by rfl) ve.G.g (by decide +kernel) (fun f => rfl)) hr ha (he := he) (hpl := hpl)
theorem g_aret (ve : LawE P w K mg base CP CL CD CG CR Ps Pn Pl cN cL fTo fdTo) (hr : Room 13 (xAg P w K mg base fA cN A outer s H0 E0').A) :
    ∃ t, L2.PS (xAg P w K mg base fA cN A outer s H0 E0') (aS 13) t ∧ ∀ (D : Ends) (H : Hp) (a : DA) (i l : Addr) (fs : List Addr) (u1 u2 u3 u4 u6 u7 u8 : Option V), Tabs (TT Ps Pn Pl) H → DoorA CD CL CP 1 nm3 a (vC i) H → H l = some (.lst (fs.map V.ref)) → (∀ f ∈ fs, BadC (xAg P w K mg base fA cN A outer s H0 E0') CD CL CP CG Ps Pn Pl a i f H) → (∀ H', D.rt (.bl true) H') → t D [some (.ref a.d), u1, u2, u3, u4, some (.ref l), u6, u7, u8] H := by
  have hu := hr.units
  obtain ⟨fB, fdB, GB, mB, bB⟩ := ve.begin
  obtain ⟨fF, fdF, GF, mF, bF⟩ := ve.firm
  refine ⟨_, ps_ret (pe_and (pe_cmpR (op_eqD hu) (RC.pe_lcB (X := xAg P w K mg base fA cN A outer s H0 E0') (own := [("f", 8)]) (g := gName 8) (tt := fun σ => tTest (tOp rNe (tTold CG K (xAg P w K mg base fA cN A outer s H0 E0') (tCons (tVar 8) tNil) σ) (tC (.str "LogError")))) (te := tC (.int 1)) (E := fun _ _ _ => False) rfl scAg.nd rfl rfl L2.takes0
        (pi_list (pv 5)) (blkOk_by (N := nAg) (sc := defScope sAged) (by decide +kernel)) (fun _ _ _ _ _ _ _ => pg_name (i := 8) scAg.nd rfl (Or.inl rfl))
        (fun pins σ s1 H1 C cl fp xe bk _ => pts_one (pt_cmpR op_ne (clo_told (X := xAg P w K mg base fA cN A outer s H0 E0') ve (hr.mono (by decide)) bk (by rfl) (pa_cons (pv 8) pa_nil) (by rfl) (by rfl)) pe_str (nomark _)))
        (fun _ _ _ _ _ _ _ => pe_int)) (pe_lst pa_nil) (nomark _))
      (pe_and (pe_cmpR op_eq (pe_meth (pv 0) ve.TE.cl mB GB (hr.mono (by decide)) bB (E := fun _ _ _ => False) .nil (passes_call L2.takes0 (fun _ _ _ _ h => h)) (pa_cons pe_str (pa_cons pe_int pa_nil))) pe_int (nomark _))
      (pe_one (pe_cmpR op_eq (pe_meth (pv 0) ve.TE.cl mF GF (hr.mono (by decide)) bF .nil pass0 (pa_cons pe_int pa_nil)) pe_int (nomark _))))), ?_⟩
  intro D H a i l fs u1 u2 u3 u4 u6 u7 u8 tb x hl bad fin
  refine ⟨_, rfl, l, rfl, ⟨_, SqL.of hl⟩, fun L hL' => ?_⟩
  have eL : KS.Ex H (upd H L (.lst [])) := Ex.upd hL'
  refine lc_it walk_list (fun j H' => ExtN H H' ∧ Tabs (TT Ps Pn Pl) H' ∧ H' L = some (.lst [])) ⟨ExtN.of eL, fun p hp => (tb p hp).ext eL, upd_same⟩ (fun j H' _ h => SqL.of (h.1 _ _ hl (fun _ z => nomatch z))) ?_ ?_
  · rintro j v H5 H6 hj ⟨e5, s5, h5⟩ ⟨rfl, hx⟩
    rw [List.getElem?_map] at hx
    obtain ⟨f, hf, rfl⟩ := Option.map_eq_some_iff.mp hx
    refine ⟨rfl, .ref f, rfl, f, rfl, ((bad f (List.mem_of_getElem? hf)).exN e5).told ve.G ⟨_, _, _, _, _, _, _, _, rfl⟩ s5 (x.exN e5) fun H7 e7 s7 => ⟨rfl, _, rfl, ?_⟩⟩
    exact ifF (by decide) ⟨e5.trans e7, s7, e7 _ _ h5 (fun _ z => nomatch z)⟩
  · rintro H5 ⟨e5, s5, h5⟩
    refine ⟨(by show 0 ≤ sizeLine; decide), fun l2 hl2 => ?_⟩
    have e6 : KS.Ex H5 (upd H5 l2 (.lst [])) := Ex.upd hl2
    have s6 : Tabs (TT Ps Pn Pl) (upd H5 l2 (.lst [])) := fun p hp => (s5 p hp).ext e6
    refine ⟨.list [], .list [], .lst (SqL.of (e6 _ _ h5)) .nil, .lst (SqL.of upd_same) .nil, by decide +kernel, by decide +kernel, _, rfl, ifT rfl ?_⟩
    have x6 := x.exN (e5.trans (ExtN.of e6))
    generalize upd H5 l2 (.lst []) = H6 at s6 x6
    obtain ⟨dx, ob⟩ := x6.ob
    refine ⟨_, rfl, a.d, dx, _, rfl, ob, rfl, eb_step (g := 2) x6 (s6 _ (List.mem_cons_self ..)) (by decide +kernel) (by decide) (by decide) (fun c => c ⟨by rw [vC_age]; rfl, vC_deal i⟩) fun gN hg hgN hd H7 j _ f7 _ x7 => ?_⟩
    rw [vC_num]
    refine ⟨rfl, _, rfl, ifT (by decide) ?_⟩
    obtain ⟨dx7, ob7⟩ := x7.ob
    have gd : Good 1 (begV (vC i) "p" gN j).nums (begV (vC i) "p" gN j).deals (begV (vC i) "p" gN j).L := (good_C i).begin (n := "p") (a := gN) (vC_deal i)
    refine ⟨_, rfl, a.d, dx7, _, rfl, ob7, rfl, ef_step (p := 0) x7 (by decide) gd (by decide) fun H8 e8 => ?_⟩
    rw [show endL ((begV (vC i) "p" gN j).L 0) = 2 from end_C i]
    refine ⟨rfl, ?_⟩
    exact fin H8
end
end KL9
set_option Elab.async false
set_option linter.all false
set_option maxRecDepth 100000
set_option maxHeartbeats 4000000
namespace KL9
open PySem PySem.Spec PyProof.Rows L2 KB KC KD KS KN1 LamX K7 TL
def spLaw (K : PySem.W.Frag) (Ps Pn Pl : Addr) : Sp := fun vs H Q _ => ∃ (a : Addr) (ns : List Int), vs = [.ref a] ∧ SqL K H a (ns.map V.int) ∧ TabS H Ps qK ∧ TabS H Pn qN ∧ TabS H Pl qL ∧ ∀ H', Q (.bl true) H'
section
variable {P : Program} {w : World} {K : PySem.W.Frag} {mg : Str → Option Value} {base : Heap} {CP CL CD CG CR Ps Pn Pl cN cL fTo fL fA : Addr} {fdTo fdL fdA : FuncData}
theorem ok_aged (F : FnP K "_law_aged" "_law_aged" sAged [] fA fdA) (hc : fdA.code = .ref cN) (ve : LawE P w K mg base CP CL CD CG CR Ps Pn Pl cN cL fTo fdTo) : FnOk P w K mg base CX0 14 fA fdA [] (spAged Ps Pn Pl) := by
  refine okC F hc scAg (fun vs H Q E h => ?_) (fun A outer s H vs Q E hr h => ?_)
  · unfold spAged at h
    obtain ⟨rfl, _⟩ := h; rfl
  · unfold spAged at h
    obtain ⟨rfl, tb, fin⟩ := h
    obtain ⟨t0, t1, t2, t3, t4, T0, T1, T2, T3, T4, h1⟩ := g_a1 (fA := fA) (A := A) (outer := outer) (s := s) (H0 := H) (E0' := E) ve hr
    obtain ⟨t5, T5, h2⟩ := g_a2 (fA := fA) (A := A) (outer := outer) (s := s) (H0 := H) (E0' := E) ve hr
    obtain ⟨t6, T6, h3⟩ := g_a3 (fA := fA) (A := A) (outer := outer) (s := s) (H0 := H) (E0' := E) ve hr
    obtain ⟨t7, t8, t9, t10, T7, T8, T9, T10, h4⟩ := g_a4 (fA := fA) (A := A) (outer := outer) (s := s) (H0 := H) (E0' := E) ve hr
    obtain ⟨t11, t12, T11, T12, h5⟩ := g_bad (fA := fA) (A := A) (outer := outer) (s := s) (H0 := H) (E0' := E) ve hr
    obtain ⟨t13, T13, h6⟩ := g_aret (fA := fA) (A := A) (outer := outer) (s := s) (H0 := H) (E0' := E) ve hr
    refine ⟨_, PSs.nox <| (pss_cons T0 (pss_cons T1 (pss_cons T2 (pss_cons T3 (pss_cons T4 (pss_cons T5 (pss_cons T6 (pss_cons T7 (pss_cons T8 (pss_cons T9 (pss_cons T10 (pss_cons T11 (pss_cons T12 (pss_one T13))))))))))))) : PSs (xAg P w K mg base fA cN A outer s H E) (defBody sAged) _), ?_⟩
    refine h1 _ H _ _ _ _ _ _ _ _ _ _ tb fun H1 a i tb1 x1 => ?_
    refine h2 _ H1 a i _ _ _ _ _ _ tb1 x1 fun H2 e2 => ?_
    have x2 := x1.ex e2
    have tb2 : Tabs (TT Ps Pn Pl) H2 := fun p hp => (tb1 p hp).ext e2
    refine h3 _ H2 a i _ _ _ _ _ _ _ _ x2 fun H3 e3 => ?_
    have x3 := x2.ex e3
    have tb3 : Tabs (TT Ps Pn Pl) H3 := fun p hp => (tb2 p hp).ext e3
    refine h4 _ H3 a i _ _ _ _ _ _ _ _ _ tb3 x3 fun H4 _ _ tb4 x4 => ?_
    refine h5 _ H4 a i _ _ _ _ _ _ _ _ _ tb4 x4 fun H5 l fs tb5 x5 hl bad => ?_
    exact h6 _ H5 a i l fs _ _ _ _ _ _ _ tb5 x5 hl bad fin
theorem ok_law (F : FnP K "law" "law" sLaw [] fL fdL) (hc : fdL.code = .ref cL) (ve : LawE P w K mg base CP CL CD CG CR Ps Pn Pl cN cL fTo fdTo)
    (FA : FnP K "_law_aged" "_law_aged" sAged [] fA fdA) (hcA : fdA.code = .ref cN) (gA : mg "_law_aged" = some (.ref fA)) : FnOk P w K mg base CX0 15 fL fdL ["script"] (spLaw K Ps Pn Pl) := by
  have GA : FnOk P w K mg base CX0 14 fA fdA [] (spAged Ps Pn Pl) := ok_aged FA hcA ve
  have bA : Binds K fdA [] [] := FA.bindsN fun _ _ _ _ _ _ us hl => match us, hl with | [], _ => rfl
  refine okC F hc scLaw (fun vs H Q E h => ?_) (fun A outer s H vs Q E hr h => ?_)
  · obtain ⟨_, _, rfl, _⟩ := h; rfl
  · obtain ⟨a, ns, rfl, hS, hts, htn, htl, fin⟩ := h
    obtain ⟨fR, fdR, GR, gR, kR, bR⟩ := ve.rounds
    obtain ⟨t, T, h⟩ := g_once (fL := fL) (A := A) (outer := outer) (s := s) (H0 := H) (E0' := E) ve hr
    refine ⟨_, PSs.nox <| (pss_cons (ps_for PassesOwn.never rfl (pi_list (pe_call GR (hr.mono (by decide)) (by rfl) gR kR bR .nil pass0 (pa_cons (pv 0) (pa_cons pe_int pa_nil)))) (pg_name (i := 1) scLaw.nd rfl (Or.inl rfl)) T)
      (pss_one (ps_ret (pe_call0 GA hr (by rfl) gA FA.kp bA .nil pass0))) : PSs (xLaw P w K mg base fL cL A outer s H E) (defBody sLaw) _), ?_⟩
    refine ⟨_, rfl, rounds_step hS fun H1 rp d e1 hp hd => ⟨rp, rfl, ⟨_, SqL.of hp⟩, for_list (xs := [V.ref d]) (fun i σ H2 => St Ps Pn Pl d H2 ∧ H2 rp = some (.lst [.ref d]) ∧ (i = 0 → σ = L2.start nLaw [.ref a])) ⟨⟨hts.ext e1, htn.ext e1, htl.ext e1, hd⟩, hp, fun _ => rfl⟩ (fun i σ H2 _ h => SqL.of h.2.1) ?_ ?_⟩⟩
    · rintro i x σ H2 hx ⟨st, hp2, hi⟩
      cases i with
      | succ i => cases hx
      | zero =>
        obtain rfl := hi rfl
        cases hx
        have nrd : rp ≠ d := fun z => by
          obtain ⟨x1, x2, x3, h⟩ := st.dice
          rw [z, h] at hp2; cases hp2
        exact h _ H2 d rp _ _ _ _ _ _ _ _ _ _ _ _ _ _ _ _ _ _ _ _ _ _ _ _ st hp2 nrd fun σ' H3 _ st3 hp3 => ⟨st3, hp3, fun z => nomatch z⟩
    · rintro σ H2 ⟨st, _, _⟩
      exact aged_step st.tabs fin
end
end KL9
set_option Elab.async false
set_option linter.all false
set_option maxRecDepth 100000
set_option maxHeartbeats 0
namespace KL9
open PySem PySem.Spec PyProof.Rows L2
def dD (x : Str) (st : Stmt) : He.DefD := ⟨(x, none), x, x, defArgs st, defBody st, defScope st, [], []⟩
def dM (c m q : Str) (st : Stmt) : He.DefD := ⟨(c, some m), m, q, defArgs st, defBody st, defScope st, [], []⟩
def fnL : List He.DefD := [dD "kind_of" sKind, dD "natural_bytes" sNat, dD "value_bytes" sVal, dD "row_bytes" sRow, dD "hash_of" sHash, dD "_law_dice" sDice, dD "_law_roll" sRoll, dD "_law_rounds" sRounds, dD "_law_told" sTold, dD "law" sLaw, dM "Part" "__init__" "Part.__init__" (sPM 0), dM "Part" "append" "Part.append" (sPM 1), dM "Part" "end" "Part.end" (sPM 3), dM "Part" "read" "Part.read" (sPM 5), dM "Log" "__init__" "Log.__init__" (sOM 0), dM "Log" "part_of" "Log.part_of" (sOM 1), dM "Log" "append" "Log.append" (sOM 2), dM "DealDoor" "__init__" "DealDoor.__init__" (sEM 0), dM "DealDoor" "enter" "DealDoor.enter" (sEM 1), dM "DealDoor" "need" "DealDoor.need" (sEM 2), dM "DealDoor" "begin" "DealDoor.begin" (sEM 3), dM "DealDoor" "add" "DealDoor.add" (sEM 4), dM "DealDoor" "commit" "DealDoor.commit" (sEM 5), dM "DealDoor" "drop" "DealDoor.drop" (sEM 6), dM "DealDoor" "need_open" "DealDoor.need_open" (sEM 7), dM "DealDoor" "end" "DealDoor.end" (sEM 8), dM "DealDoor" "firm_end" "DealDoor.firm_end" (sEM 9), dD "sum_of_bytes" sSum, dD "record_bytes" sRec, dD "read_kept" sKept, dD "_law_read" sRead, dD "_law_aged" sAged]
def faL : List He.Fa := [.glo "kind_of", .glo "natural_bytes", .glo "value_bytes", .glo "row_bytes", .glo "hash_of", .glo "_law_dice", .glo "_law_roll", .glo "_law_rounds", .glo "_law_told", .glo "law", .glo "sum_of_bytes", .glo "record_bytes", .glo "read_kept", .glo "_law_read", .glo "_law_aged", .glo "Part", .glo "Log", .glo "DealDoor", .glo "RowError", .glo "LogError", .free "abs", .free "int", .free "range", .free "dict", .free "list", .free "tuple", .free "len", .free "zip", .free "isinstance", .free "str", .free "sorted", .free "all", .free "bool", .free "any", .free "max", .free "min", .free "sum", .free "enumerate", .int "CHECK_BASE" 65521, .int "MOST_PARTS" 16, .int "MOST_VALUES" 16, .int "OF_DEAL" 0, .int "KEPT" 1, .int "DROPPED" 2, .str "LETTERS" ltrs, .cls "Part", .noat "Part" "kept", .noat "Part" "waiting", .noat "Part" "records", .noat "Part" "first", .mkr "Part", .meth "Part" "append", .meth "Part" "end", .meth "Part" "read", .cls "Log", .noat "Log" "parts", .mkr "Log", .meth "Log" "part_of", .meth "Log" "append", .cls "DealDoor", .noat "DealDoor" "log", .noat "DealDoor" "ages", .noat "DealDoor" "numbers", .noat "DealDoor" "open_deals", .noat "DealDoor" "firsts", .mkr "DealDoor", .meth "DealDoor" "enter", .meth "DealDoor" "need", .meth "DealDoor" "begin", .meth "DealDoor" "add", .meth "DealDoor" "commit", .meth "DealDoor" "drop", .meth "DealDoor" "need_open", .meth "DealDoor" "end", .meth "DealDoor" "firm_end", .exc "RowError", .exm "RowError" "RowError" true, .exc "LogError", .exm "LogError" "LogError" true]
def tK : He.Defn := ("kind_of", none)
def tN : He.Defn := ("_law_aged", none)
def tL : He.Defn := ("law", none)
def tfL : List He.Defn := [tK, tN, tL]
def exL (K : PySem.W.Frag) : Bool := ((He.cT K tK).2 != (He.cT K tN).2) && ((He.cT K tK).2 != (He.cT K tL).2) && ((He.cT K tN).2 != (He.cT K tL).2)
abbrev RL : PySem.W.OpenRow := PySem.W.OpenLaw.row PySem.Challenge.rw_streamstack_k09_deals_on_logs
abbrev hkL : PySem.W.Hook := He.hookX 6 faL fnL [] tfL exL
def obL (s : PySem.W.SharedT) : He.AlX := He.obsX 6 faL fnL [] tfL exL (HandSHeadRun.getT s)
theorem obL_eq (s : PySem.W.SharedT) : obL s = hkL.obs s.abs := He.obsX_eq (HandSHeadRun.getT_eq s)
def looseL : List Str := ["_wall", "StreamError", "RowError", "LogError", "MOST_VALUES", "OF_DEAL", "KEPT", "DROPPED", "DealDoor", "read_kept", "LETTERS", "kind_of", "natural_bytes", "value_bytes", "row_bytes", "hash_of", "MOST_PARTS", "CHECK_BASE", "sum_of_bytes", "record_bytes", "Part", "Log", "_law_dice", "_law_roll", "_law_rounds", "_law_told", "_law_read", "_law_aged"]
theorem runL (w : World) : HandSHeadRun.RunEq RL (PySem.W.view RL.prog [33]) hkL obL 3000 looseL w := by
  intro os
  kernel_rfl
end KL9
set_option Elab.async false
set_option linter.all false
set_option maxRecDepth 100000
set_option maxHeartbeats 4000000
namespace KL9
open PySem PySem.Spec PyProof.Rows L2 KB KC KS KN1 LamX K7 R8
theorem code_at {K : PySem.W.Frag} {x q : Str} {st : Stmt} {dvs : List V} {p : He.Defn} {fd : FuncData} (F : FnP K x q st dvs (He.fAd K p) fd) : fd.code = .ref (He.cT K p).1 := by
  obtain ⟨oc, od, dV, kV, doc, pm, an, cdv, ct, osl, rfl, lk, hcd, _, _⟩ := F.ex
  obtain ⟨c, e⟩ := He.codeIn_ref hcd
  subst e
  have z : He.codeOf K p = c := He.codeOf_eq lk rfl
  show Value.ref c = Value.ref (He.codeOf K p)
  rw [z]
def pickL (K : PySem.W.Frag) : List (Addr × Addr) := [He.cT K tK, He.cT K tN, He.cT K tL]
abbrev pr : Program := PySem.Challenge.rw_streamstack_k09_deals_on_logs.prog
theorem lawAt {w : World} {mg : Str → Option Value} {fa : Addr} {h : Heap} {K : PySem.W.Frag} (X : K.In h) (G : h.Ns mainGlobals mg) (hmg : mg ("law" : Str) = some (.ref fa)) (c : He.SaysX faL fnL [] tfL exL w h K) :
    LawAtS PySem.Challenge.rw_streamstack_k09_deals_on_logs w K CX0 15 63 "script" mg fa h := by
  have D := c.t.d
  obtain ⟨fd0, F0⟩ := D.def_ 0 (d := dD "kind_of" sKind) rfl
  obtain ⟨fd1, F1⟩ := D.def_ 1 (d := dD "natural_bytes" sNat) rfl
  obtain ⟨fd2, F2⟩ := D.def_ 2 (d := dD "value_bytes" sVal) rfl
  obtain ⟨fd3, F3⟩ := D.def_ 3 (d := dD "row_bytes" sRow) rfl
  obtain ⟨fd4, F4⟩ := D.def_ 4 (d := dD "hash_of" sHash) rfl
  obtain ⟨fd5, F5⟩ := D.def_ 5 (d := dD "_law_dice" sDice) rfl
  obtain ⟨fd6, F6⟩ := D.def_ 6 (d := dD "_law_roll" sRoll) rfl
  obtain ⟨fd7, F7⟩ := D.def_ 7 (d := dD "_law_rounds" sRounds) rfl
  obtain ⟨fd8, F8⟩ := D.def_ 8 (d := dD "_law_told" sTold) rfl
  obtain ⟨fd9, F9⟩ := D.def_ 9 (d := dD "law" sLaw) rfl
  obtain ⟨fd10, F10⟩ := D.def_ 10 (d := dM "Part" "__init__" "Part.__init__" (sPM 0)) rfl
  obtain ⟨fd11, F11⟩ := D.def_ 11 (d := dM "Part" "append" "Part.append" (sPM 1)) rfl
  obtain ⟨fd12, F12⟩ := D.def_ 12 (d := dM "Part" "end" "Part.end" (sPM 3)) rfl
  obtain ⟨fd13, F13⟩ := D.def_ 13 (d := dM "Part" "read" "Part.read" (sPM 5)) rfl
  obtain ⟨fd14, F14⟩ := D.def_ 14 (d := dM "Log" "__init__" "Log.__init__" (sOM 0)) rfl
  obtain ⟨fd15, F15⟩ := D.def_ 15 (d := dM "Log" "part_of" "Log.part_of" (sOM 1)) rfl
  obtain ⟨fd16, F16⟩ := D.def_ 16 (d := dM "Log" "append" "Log.append" (sOM 2)) rfl
  obtain ⟨fd17, F17⟩ := D.def_ 17 (d := dM "DealDoor" "__init__" "DealDoor.__init__" (sEM 0)) rfl
  obtain ⟨fd18, F18⟩ := D.def_ 18 (d := dM "DealDoor" "enter" "DealDoor.enter" (sEM 1)) rfl
  obtain ⟨fd19, F19⟩ := D.def_ 19 (d := dM "DealDoor" "need" "DealDoor.need" (sEM 2)) rfl
  obtain ⟨fd20, F20⟩ := D.def_ 20 (d := dM "DealDoor" "begin" "DealDoor.begin" (sEM 3)) rfl
  obtain ⟨fd21, F21⟩ := D.def_ 21 (d := dM "DealDoor" "add" "DealDoor.add" (sEM 4)) rfl
  obtain ⟨fd22, F22⟩ := D.def_ 22 (d := dM "DealDoor" "commit" "DealDoor.commit" (sEM 5)) rfl
  obtain ⟨fd23, F23⟩ := D.def_ 23 (d := dM "DealDoor" "drop" "DealDoor.drop" (sEM 6)) rfl
  obtain ⟨fd24, F24⟩ := D.def_ 24 (d := dM "DealDoor" "need_open" "DealDoor.need_open" (sEM 7)) rfl
  obtain ⟨fd25, F25⟩ := D.def_ 25 (d := dM "DealDoor" "end" "DealDoor.end" (sEM 8)) rfl
  obtain ⟨fd26, F26⟩ := D.def_ 26 (d := dM "DealDoor" "firm_end" "DealDoor.firm_end" (sEM 9)) rfl
  obtain ⟨fd27, F27⟩ := D.def_ 27 (d := dD "sum_of_bytes" sSum) rfl
  obtain ⟨fd28, F28⟩ := D.def_ 28 (d := dD "record_bytes" sRec) rfl
  obtain ⟨fd29, F29⟩ := D.def_ 29 (d := dD "read_kept" sKept) rfl
  obtain ⟨fd30, F30⟩ := D.def_ 30 (d := dD "_law_read" sRead) rfl
  obtain ⟨fd31, F31⟩ := D.def_ 31 (d := dD "_law_aged" sAged) rfl
  have gl : ∀ (i : Nat) (x : Str), faL[i]? = some (.glo x) → mg x = some (.ref (He.ga K x)) := fun i x h => He.glo_ok X G (D.fact i h)
  have fr : ∀ (i : Nat) (x : Str), faL[i]? = some (.free x) → mg x = none := fun i x h => He.free_ok X G (D.fact i h)
  have me : ∀ (i : Nat) (C m : Str), faL[i]? = some (.meth C m) → Meth K (He.ga K C) m (He.ma K (He.ga K C) m) := fun i C m h => He.meth_ok (D.fact i h)
  have na : ∀ (i : Nat) (C m : Str), faL[i]? = some (.noat C m) → NoAttr K (He.ga K C) m := fun i C m h => He.noat_ok (D.fact i h)
  have T : TxtL mg := ⟨fr 20 _ rfl, fr 21 _ rfl, fr 22 _ rfl, fr 23 _ rfl, fr 24 _ rfl, fr 25 _ rfl, fr 26 _ rfl, fr 27 _ rfl, fr 28 _ rfl, fr 29 _ rfl, fr 30 _ rfl, fr 31 _ rfl⟩
  have hM : TxtM mg := ⟨fr 34 _ rfl, fr 35 _ rfl, fr 36 _ rfl, fr 37 _ rfl⟩
  have N : TxtN mg := ⟨He.int_ok X G (D.fact 38 (f := .int "CHECK_BASE" 65521) rfl), He.int_ok X G (D.fact 39 (f := .int "MOST_PARTS" 16) rfl)⟩
  have W9 : TxtW mg := ⟨He.int_ok X G (D.fact 40 (f := .int "MOST_VALUES" 16) rfl), He.int_ok X G (D.fact 41 (f := .int "OF_DEAL" 0) rfl), He.int_ok X G (D.fact 42 (f := .int "KEPT" 1) rfl), He.int_ok X G (D.fact 43 (f := .int "DROPPED" 2) rfl)⟩
  have TK : TxtK mg := ⟨He.str_ok X G (D.fact 44 (f := .str "LETTERS" ltrs) rfl), fr 32 _ rfl, fr 33 _ rfl⟩
  have TP : TxtP K mg (He.ga K "Part") := ⟨He.cls_ok (D.fact 45 (f := .cls "Part") rfl), na 46 _ _ rfl, na 47 _ _ rfl, na 48 _ _ rfl, na 49 _ _ rfl, gl 15 _ rfl⟩
  have MTP := He.mkr_ok (D.fact 50 (f := .mkr "Part") rfl)
  have TO : TxtO K mg (He.ga K "Log") := ⟨He.cls_ok (D.fact 54 (f := .cls "Log") rfl), na 55 _ _ rfl, gl 16 _ rfl⟩
  have MTO := He.mkr_ok (D.fact 56 (f := .mkr "Log") rfl)
  have TE : TxtE K mg (He.ga K "DealDoor") := ⟨He.cls_ok (D.fact 59 (f := .cls "DealDoor") rfl), na 60 _ _ rfl, na 61 _ _ rfl, na 62 _ _ rfl, na 63 _ _ rfl, na 64 _ _ rfl, gl 17 _ rfl⟩
  have MTE := He.mkr_ok (D.fact 65 (f := .mkr "DealDoor") rfl)
  obtain ⟨x1, x2, x3, x4⟩ := He.exc_ok (D.fact 75 (f := .exc "RowError") rfl)
  have J : TxtX K mg (He.ga K "RowError") := ⟨gl 18 _ rfl, x1, x2, x3, x4, He.exm_ok (D.fact 76 (f := .exm "RowError" "RowError" true) rfl)⟩
  obtain ⟨x1, x2, x3, x4⟩ := He.exc_ok (D.fact 77 (f := .exc "LogError") rfl)
  have TG : TxtG K mg (He.ga K "LogError") := ⟨gl 19 _ rfl, x1, x2, x3, x4, He.exm_ok (D.fact 78 (f := .exm "LogError" "LogError" true) rfl)⟩
  have hex := c.more
  unfold exL at hex
  rw [Bool.and_eq_true, Bool.and_eq_true, bne_iff_ne, bne_iff_ne, bne_iff_ne] at hex
  have ap : Apt (He.cT K tK).2 (He.cT K tN).2 (He.cT K tL).2 := ⟨hex.1.1, hex.1.2, hex.2⟩
  have e := hmg.symm.trans (gl 9 _ rfl)
  cases e
  have memL : ∀ p ∈ pickL K, ∃ q ∈ tfL, p = He.cT K q := fun p hp => by
    rcases List.mem_cons.mp hp with rfl | hp
    · exact ⟨tK, List.mem_cons_self .., rfl⟩
    rcases List.mem_cons.mp hp with rfl | hp
    · exact ⟨tN, List.mem_cons_of_mem _ (List.mem_cons_self ..), rfl⟩
    rcases List.mem_cons.mp hp with rfl | hp
    · exact ⟨tL, List.mem_cons_of_mem _ (List.mem_cons_of_mem _ (List.mem_cons_self ..)), rfl⟩
    cases hp
  refine ⟨fd9, pickL K, spLaw K (He.cT K tK).2 (He.cT K tN).2 (He.cT K tL).2, fun p hp => ?_, fun p hp => ?_, fun p hp => ?_, fun s u => ?_, fun H a ns hl hb hT hS => ?_, fun base KB GB TB => ?_⟩
  · obtain ⟨q, hq, rfl⟩ := memL p hp
    exact c.empty q hq
  · obtain ⟨q, hq, rfl⟩ := memL p hp
    exact c.out q hq
  · obtain ⟨q, hq, rfl⟩ := memL p hp
    exact PySem.W.codeHd_of_K X (c.hd q hq)
  · exact F9.bindsA (ps := ["script"]) (fun _ _ _ _ _ _ us hl => match us, hl with | [_], _ => rfl) s [u] rfl
  · exact ⟨a, ns, rfl, hS, TabS.nil (hT (He.cT K tK) (List.mem_cons_self ..)), TabS.nil (hT (He.cT K tN) (List.mem_cons_of_mem _ (List.mem_cons_self ..))), TabS.nil (hT (He.cT K tL) (List.mem_cons_of_mem _ (List.mem_cons_of_mem _ (List.mem_cons_self ..)))), fun _ => rfl⟩
  · have tbK := TB (He.cT K tK) (List.mem_cons_self ..)
    have tbN := TB (He.cT K tN) (List.mem_cons_of_mem _ (List.mem_cons_self ..))
    have tbL := TB (He.cT K tL) (List.mem_cons_of_mem _ (List.mem_cons_of_mem _ (List.mem_cons_self ..)))
    have hcK := code_at (p := tK) (st := sKind) (dvs := []) F0
    have gK := gl 0 _ rfl
    have gN := gl 1 _ rfl
    have gV := gl 2 _ rfl
    have gR := gl 3 _ rfl
    have gS := gl 10 _ rfl
    have gQ := gl 11 _ rfl
    have gRk := gl 12 _ rfl
    have gH := gl 4 _ rfl
    have gRo := gl 6 _ rfl
    have tb1 : GxR.TabB base mg (He.cT K tK).1 (He.cT K tK).2 := ⟨tbK.code, tbK.bm, tbK.gP⟩
    have GNat : FnOk pr w K mg base CX0 1 _ fd1 ["number"] spNat := ok_nat F1 T
    have bNat : L2.Binds K fd1 ["number"] [] := (F1.bindsN fun _ _ _ _ _ _ us hl => match us, hl with | [_], _ => rfl)
    have GRow : FnOk pr w K mg base (L2.CX pr w) 3 _ fd3 ["row"] (spRow (He.ga K "RowError") (He.cT K tK).2) := ok_row F3 F2 gV F0 gK hcK tb1 F1 gN T TK J
    have bRow : L2.Binds K fd3 ["row"] [] := (F3.bindsN fun _ _ _ _ _ _ us hl => match us, hl with | [_], _ => rfl)
    have GHash : FnOk pr w K mg base (L2.CX pr w) 4 _ fd4 ["row"] (spHash (He.cT K tK).2) := ok_hash F4 F3 gR F2 gV F0 gK hcK tb1 F1 gN T TK J
    have bHash : L2.Binds K fd4 ["row"] [] := (F4.bindsN fun _ _ _ _ _ _ us hl => match us, hl with | [_], _ => rfl)
    have GSum : FnOk pr w K mg base CX0 1 _ fd27 ["data"] spSum := ok_sum F27 N
    have bSum : L2.Binds K fd27 ["data"] [] := (F27.bindsN fun _ _ _ _ _ _ us hl => match us, hl with | [_], _ => rfl)
    have GRec : FnOk pr w K mg base CX0 4 _ fd28 ["key", "row", "time"] (spRec (He.ga K "RowError") (He.cT K tK).2) := ok_rec F28 GRow gR F3.kp bRow GNat gN F1.kp bNat GSum gS F27.kp bSum T
    have bRec : L2.Binds K fd28 ["key", "row", "time"] [] := (F28.bindsN fun _ _ _ _ _ _ us hl => match us, hl with | [_, _, _], _ => rfl)
    have GPi : FnOk pr w K mg base CX0 1 _ fd10 ["self"] (spPI (He.ga K "Part")) := ok_pinit F10 TP
    have bPi : L2.Binds K fd10 ["self"] [] := (F10.bindsN fun _ _ _ _ _ _ us hl => match us, hl with | [_], _ => rfl)
    have GPe : FnOk pr w K mg base CX0 1 _ fd12 ["self"] (spPE (He.ga K "Part")) := ok_pend F12 TP T
    have bPe : L2.Binds K fd12 ["self"] [] := (F12.bindsN fun _ _ _ _ _ _ us hl => match us, hl with | [_], _ => rfl)
    have GPa : FnOk pr w K mg base (L2.CX pr w) 5 _ fd11 ["self", "key", "row", "time"] (spPA (He.ga K "Part") (He.ga K "LogError") (He.ga K "RowError") (He.cT K tK).2) := ok_papp F11 TP TG GRec gQ F28.kp bRec (me 52 _ _ rfl) GPe bPe
    have bPa : L2.Binds K fd11 ["self", "key", "row", "time"] [] := (F11.bindsN fun _ _ _ _ _ _ us hl => match us, hl with | [_, _, _, _], _ => rfl)
    have GPr : FnOk pr w K mg base (L2.CX pr w) 2 _ fd13 ["self", "place", "most"] (spPR (He.ga K "Part") (He.ga K "LogError")) := ok_pread F13 TP TG T hM (me 52 _ _ rfl) GPe bPe
    have bPr : L2.Binds K fd13 ["self", "place", "most"] [] := (F13.bindsN fun _ _ _ _ _ _ us hl => match us, hl with | [_, _, _], _ => rfl)
    have GLi : FnOk pr w K mg base (L2.CX pr w) 3 _ fd14 ["self", "many"] (spLI (He.ga K "Log") (He.ga K "Part") (He.ga K "LogError")) := ok_linit F14 TO TP TG T N MTP GPi bPi
    have bLi : L2.Binds K fd14 ["self", "many"] [] := (F14.bindsN fun _ _ _ _ _ _ us hl => match us, hl with | [_, _], _ => rfl)
    have GLo : FnOk pr w K mg base CX0 5 _ fd15 ["self", "key"] (spPO (He.ga K "Log") (He.ga K "Part") (He.cT K tK).2) := ok_partof F15 TO T GHash gH F4.kp bHash
    have bLo : L2.Binds K fd15 ["self", "key"] [] := (F15.bindsN fun _ _ _ _ _ _ us hl => match us, hl with | [_, _], _ => rfl)
    have GLa : FnOk pr w K mg base CX0 6 _ fd16 ["self", "key", "row", "time"] (spLA (He.ga K "Log") (He.ga K "Part") (He.cT K tK).2) := ok_lapp F16 TO TP (me 57 _ _ rfl) GLo bLo (me 51 _ _ rfl) GPa bPa
    have bLa : L2.Binds K fd16 ["self", "key", "row", "time"] [] := (F16.bindsN fun _ _ _ _ _ _ us hl => match us, hl with | [_, _, _, _], _ => rfl)
    have GEi : FnOk pr w K mg base CX0 1 _ fd17 ["self", "log"] (spEI (He.ga K "DealDoor")) := ok_einit F17 TE
    have bEi : L2.Binds K fd17 ["self", "log"] [] := (F17.bindsN fun _ _ _ _ _ _ us hl => match us, hl with | [_, _], _ => rfl)
    have GEn : FnOk pr w K mg base (L2.CX pr w) 1 _ fd19 ["self", "name", "age"] (spEN (He.ga K "DealDoor") (He.ga K "Log") (He.ga K "Part") (He.ga K "LogError")) := ok_need F19 TE TG
    have bEn : L2.Binds K fd19 ["self", "name", "age"] [] := (F19.bindsN fun _ _ _ _ _ _ us hl => match us, hl with | [_, _, _], _ => rfl)
    have GEo : FnOk pr w K mg base (L2.CX pr w) 2 _ fd24 ["self", "name", "age"] (spEO (He.ga K "DealDoor") (He.ga K "Log") (He.ga K "Part") (He.ga K "LogError")) := ok_needopen F24 TE TG (me 67 _ _ rfl) GEn bEn
    have bEo : L2.Binds K fd24 ["self", "name", "age"] [] := (F24.bindsN fun _ _ _ _ _ _ us hl => match us, hl with | [_, _, _], _ => rfl)
    have GEb : FnOk pr w K mg base (L2.CX pr w) 2 _ fd20 ["self", "name", "age"] (spEB (He.ga K "DealDoor") (He.ga K "Log") (He.ga K "Part") (He.ga K "LogError") (He.cT K tK).2) := ok_begin F20 TE TG (me 67 _ _ rfl) GEn bEn
    have bEb : L2.Binds K fd20 ["self", "name", "age"] [] := (F20.bindsN fun _ _ _ _ _ _ us hl => match us, hl with | [_, _, _], _ => rfl)
    have GEe : FnOk pr w K mg base CX0 6 _ fd25 ["self", "name", "word"] (spEE (He.ga K "DealDoor") (He.ga K "Log") (He.ga K "Part") (He.cT K tK).2) := ok_end F25 TE TO TP T (me 51 _ _ rfl) GPa bPa
    have bEe : L2.Binds K fd25 ["self", "name", "word"] [] := (F25.bindsN fun _ _ _ _ _ _ us hl => match us, hl with | [_, _, _], _ => rfl)
    have GEr : FnOk pr w K mg base CX0 7 _ fd18 ["self", "name"] (spER (He.ga K "DealDoor") (He.ga K "Log") (He.ga K "Part") (He.cT K tK).2) := ok_enter F18 TE W9 (me 73 _ _ rfl) GEe bEe
    have bEr : L2.Binds K fd18 ["self", "name"] [] := (F18.bindsN fun _ _ _ _ _ _ us hl => match us, hl with | [_, _], _ => rfl)
    have GEc : FnOk pr w K mg base (L2.CX pr w) 7 _ fd22 ["self", "name", "age"] (spEC 1 (He.ga K "DealDoor") (He.ga K "Log") (He.ga K "Part") (He.ga K "LogError") (He.cT K tK).2) := ok_commit F22 TE W9 (me 72 _ _ rfl) GEo bEo (me 73 _ _ rfl) GEe bEe
    have bEc : L2.Binds K fd22 ["self", "name", "age"] [] := (F22.bindsN fun _ _ _ _ _ _ us hl => match us, hl with | [_, _, _], _ => rfl)
    have GEd : FnOk pr w K mg base (L2.CX pr w) 7 _ fd23 ["self", "name", "age"] (spEC 2 (He.ga K "DealDoor") (He.ga K "Log") (He.ga K "Part") (He.ga K "LogError") (He.cT K tK).2) := ok_dropd F23 TE W9 (me 72 _ _ rfl) GEo bEo (me 73 _ _ rfl) GEe bEe
    have bEd : L2.Binds K fd23 ["self", "name", "age"] [] := (F23.bindsN fun _ _ _ _ _ _ us hl => match us, hl with | [_, _, _], _ => rfl)
    have GEf : FnOk pr w K mg base CX0 2 _ fd26 ["self", "part"] (spEF (He.ga K "DealDoor") (He.ga K "Log") (He.ga K "Part")) := ok_firm F26 TE TO TP hM (me 52 _ _ rfl) GPe bPe
    have bEf : L2.Binds K fd26 ["self", "part"] [] := (F26.bindsN fun _ _ _ _ _ _ us hl => match us, hl with | [_, _], _ => rfl)
    have GEa : FnOk pr w K mg base (L2.CX pr w) 7 _ fd21 ["self", "name", "age", "key", "row", "time"] (spEA (He.ga K "DealDoor") (He.ga K "Log") (He.ga K "Part") (He.ga K "LogError") (He.cT K tK).2) := ok_add F21 TE TO TG W9 T (me 67 _ _ rfl) GEn bEn (me 58 _ _ rfl) GLa bLa
    have bEa : L2.Binds K fd21 ["self", "name", "age", "key", "row", "time"] [] := (F21.bindsN fun _ _ _ _ _ _ us hl => match us, hl with | [_, _, _, _, _, _], _ => rfl)
    have GKp : FnOk pr w K mg base CX0 3 _ fd29 ["part", "end"] (spRK (He.ga K "Part")) := ok_kept F29 TP W9 T (me 53 _ _ rfl) GPr bPr
    have bKp : L2.Binds K fd29 ["part", "end"] [] := (F29.bindsN fun _ _ _ _ _ _ us hl => match us, hl with | [_, _], _ => rfl)
    have GRd : FnOk pr w K mg base CX0 4 _ fd30 ["door", "log", "written", "firm", "read"] (spRd (He.ga K "DealDoor") (He.ga K "Log") (He.ga K "Part")) := ok_read9 F30 TE TO TP T hM gRk F29.kp GKp bKp (me 74 _ _ rfl) GEf bEf (me 52 _ _ rfl) GPe bPe
    have bRd : L2.Binds K fd30 ["door", "log", "written", "firm", "read"] [] := (F30.bindsN fun _ _ _ _ _ _ us hl => match us, hl with | [_, _, _, _, _], _ => rfl)
    have GRoll : FnOk pr w K mg base CX0 1 _ fd6 ["dice", "many"] spRoll := ok_roll F6 T
    have bRoll : L2.Binds K fd6 ["dice", "many"] [] := (F6.bindsN fun _ _ _ _ _ _ us hl => match us, hl with | [_, _], _ => rfl)
    have ve : LawE pr w K mg base (He.ga K "Part") (He.ga K "Log") (He.ga K "DealDoor") (He.ga K "LogError") (He.ga K "RowError") (He.cT K tK).2 (He.cT K tN).2 (He.cT K tL).2 (He.cT K tN).1 (He.cT K tL).1 (He.ga K "_law_told") fd8 :=
      { T := T, M := hM, G := TG, TP := TP, TO := TO, TE := TE, W := W9, TBn := tbN, TBl := tbL, ap := ap
        rounds := ⟨_, _, ok_rounds F7 T F5 (gl 5 _ rfl), gl 7 _ rfl, F7.kp, (F7.bindsN fun _ _ _ _ _ _ us hl => match us, hl with | [_, _], _ => rfl)⟩
        roll := ⟨_, _, GRoll, gRo, F6.kp, bRoll⟩
        hash := ⟨_, _, GHash, gH, F4.kp, bHash⟩
        pread := ⟨_, _, GPr, (me 53 _ _ rfl), bPr⟩
        linit := ⟨_, _, GLi, MTO, bLi⟩
        einit := ⟨_, _, GEi, MTE, bEi⟩
        enter := ⟨_, _, GEr, (me 66 _ _ rfl), bEr⟩
        need := ⟨_, _, GEn, (me 67 _ _ rfl), bEn⟩
        begin := ⟨_, _, GEb, (me 68 _ _ rfl), bEb⟩
        add := ⟨_, _, GEa, (me 69 _ _ rfl), bEa⟩
        commit := ⟨_, _, GEc, (me 70 _ _ rfl), bEc⟩
        drop := ⟨_, _, GEd, (me 71 _ _ rfl), bEd⟩
        firm := ⟨_, _, GEf, (me 74 _ _ rfl), bEf⟩
        read := ⟨_, _, GRd, gl 13 _ rfl, F30.kp, bRd⟩
        told := F8
        gTold := gl 8 _ rfl }
    exact ok_law F9 (code_at (p := tL) (st := sLaw) (dvs := []) F9) ve F31 (code_at (p := tN) (st := sAged) (dvs := []) F31) (gl 14 _ rfl)
end KL9
open PySem PySem.W PySem.Calls PyProof.Rows
theorem PySem.Challenge.cw_streamstack_k09_deals_on_logs_holds : PySem.Challenge.rw_streamstack_k09_deals_on_logs.Holds := by
  w_on; o_law
  refine HandSHeadRun.head_any (r := OpenLaw.row PySem.Challenge.rw_streamstack_k09_deals_on_logs) (q := view (OpenLaw.row PySem.Challenge.rw_streamstack_k09_deals_on_logs).prog [33]) (H := KL9.hkL) (ob := KL9.obL) (M := 3000) (loose := KL9.looseL) (d := HandSHeadRun.topDef (OpenLaw.row PySem.Challenge.rw_streamstack_k09_deals_on_logs).prog 33) (kwd := []) KL9.obL_eq
    (by kernel_rfl) (fun s => by kernel_rfl) KL9.runL (by kernel_rfl) (by kernel_rfl) (by kernel_rfl) (by rfl) (by first | assumption | decide +kernel) (by decide +kernel) ⟨rfl, rfl, rfl, rfl, rfl, by decide +kernel⟩ ?hw ?hc
  case hw => w_witness2
  case hc =>
    refine LamX.walk_ofTsE (l := PySem.Challenge.rw_streamstack_k09_deals_on_logs) (n := 63) (k := 15) (x := "script") (CX := fun _ => L2.CX0) rfl (by decide) (by kernel_rfl) ⟨rfl, by decide, by decide⟩ ?F (fun _ _ _ _ _ z => z)
    intro w mg fa h Y G hmg0
    obtain ⟨K, KX, c⟩ := Y
    have hmg : mg ("law" : PySem.Str) = some (.ref fa) := by
      have e : (HandSHeadRun.topDef (OpenLaw.row PySem.Challenge.rw_streamstack_k09_deals_on_logs).prog 33).name = ("law" : PySem.Str) := by kernel_rfl
      rw [← e]
      exact hmg0
    exact ⟨K, KX, KL9.lawAt KX G hmg c⟩
