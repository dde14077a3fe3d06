import PyProof.Rows.All
import Wide.All
import OpenK.AllK
import Wide.FinOn
import HandS.ForMost
import HandS.Lambda
import HandS.AnyAll
import HandS.EndTab
import HandS.TupAny
import HandS.Zip
import HandS.DictTup
import HandS.Codes
import HandS.ExcOwn
import HandS.TryOnly
import HandS.IsInst
import HandS.Wide
import HandS.DictComp
import HandS.DictEq
import HandS.ListItems
import KE.LtSeq
import KE.KSortTup
import HandS.SortOrd
import HandS.SortKw
import HandS.SortRule
import HandS.Defaults
import HandS.WordsExc
import HandS.Dict
import PySem.Challenge.RW_streamstack_k06_logs_that_go_down
import KE.KDictPairs
import KE.KDictWalk
import HandS.Walk
import HandS.Replace
import HandS.Deep
import HandS.Conv
import PyProof.P3In
import KE.DatumOrd
import KE.SortKeyHeap
import KE.DataMinKey
import HandS.RaiseMore
import HandS.FStr
import HandS.RevRange
import HandS.Comp
import HandS.Exc
import KE.KAsSuite
import KE.GoesRaise
import HandS.SuiteRaise
import KE.KExcRaise
import HandS.Iter
import KE.GoesEnumKw
import KE.KDictZip
import PyProof.CollectWalk
import PyProof.TupleOps
import PyProof.TupleOfGen
import PyProof.TupleCall
import PyProof.AssignAttr
import HandS.SetKeys
import PyProof.StrOps2
import KE.KStateDown
import Lean
import HandS.Ends
import HandS.More
import HandS.Words
import HandS.Head0
import HandS.Head1
import HandS.Head2
import HandS.HeadEnd
import HandS.HeadHook1
import HandS.HeadHook2
import HandS.HeadHook3
import HandS.HeadHook4
import HandS.HeadWalk
set_option Elab.async false
set_option linter.all false
set_option maxRecDepth 100000
set_option maxHeartbeats 4000000
namespace KB
open PySem PySem.Spec PyProof.Rows L2
section
variable {prog : Program} {w : World} {K : Type} [DecidableEq K] {knd : HeapKind prog w K} {A : Around} {E : Value → Shared → Prop} {s : Shared}
def hitH (ys : List (K × Addr × Value)) (eqb : Value → Value → Bool) (x : K × Addr × Value) : Bool :=
  match atKey ys x.1 with
  | none => false
  | some q => eqb x.2.2 q.2
theorem samePairsH {nm : String} {a b : Addr} {xs ys : List (K × Addr × Value)} {eqb : Value → Value → Bool} {Q : Bool → Shared → Prop} (ha : (a == sysModules) = false) (hb : (b == sysModules) = false)
    (da : s.heap.DictOfH knd a xs) (db : s.heap.DictOfH knd b ys) (hu : knd.room A)
    (heq : ∀ x ∈ xs, ∀ q, atKey ys x.1 = some q → ∀ (R : Bool → Shared → Prop) (F : Value → Shared → Prop), R (eqb x.2.2 q.2) s → wpAny (model prog w) A (eqBool x.2.2 q.2) R F s)
    (h : Q (xs.length == ys.length && xs.all (hitH ys eqb)) s) :
    wpAny (model prog w) A (Builtin.Dict.samePairs nm a b) Q E s := by
  obtain ⟨oa, es, ep, hoa, _, hda, hka, hia, hna⟩ := da
  obtain ⟨ob, es', ep', hob, _, hdb, hkb, hib, hnb⟩ := db
  have hla : xs.length = es.size := (size_of_entries hka).symm
  have hlb : ys.length = es'.size := (size_of_entries hkb).symm
  rw [hla, hlb] at h
  unfold Builtin.Dict.samePairs Builtin.Dict.showsAll
  rw [if_neg (show ¬ (a == sysModules) = true by rw [ha]; exact Bool.false_ne_true), if_neg (show ¬ (b == sysModules) = true by rw [hb]; exact Bool.false_ne_true)]
  refine wpAny_bind (wpAny_pure (wpAny_bind (wpAny_pure ?_)))
  refine wpAny_bind (wpAny_dictEntries hoa hda ?_)
  dsimp only
  refine wpAny_bind (wpAny_dictEntries hob hdb ?_)
  by_cases hsz : es.size = es'.size
  case neg =>
    rw [if_pos (by simpa using hsz)]
    have hbf : (es.size == es'.size) = false := by simpa using hsz
    rw [hbf, Bool.false_and] at h
    exact wpAny_bind (wpAny_rule (wpAny_pure h))
  case pos =>
    have h' : Q (xs.all (hitH ys eqb)) s := by simpa [hsz] using h
    rw [if_neg (by rw [hsz]; simp)]
    refine wpAny_bind (wpAny_dictEpoch hoa hda ?_)
    refine wpAny_bind ?_
    rw [Std.Legacy.Range.forIn_eq_forIn_range']
    simp only [Std.Legacy.Range.size, Nat.sub_zero, Nat.add_sub_cancel, Nat.div_one]
    refine wpAny_forIn_list _
      (fun rest q s' => s' = s ∧ q = (none, ()) ∧ ∃ i, rest = List.range' i (es.size - i) ∧ i ≤ es.size ∧ (xs.drop i).all (hitH ys eqb) = xs.all (hitH ys eqb))
      _ ?_ ?_ _ _ ⟨rfl, rfl, 0, by simp, Nat.zero_le _, by simp⟩
    · rintro x rest q s' ⟨rfl, rfl, i, hr, hi, hpre⟩
      have hlt : i < es.size := by
        rcases Nat.lt_or_ge i es.size with h | h
        · exact h
        · rw [Nat.sub_eq_zero_of_le h] at hr; simp at hr
      obtain ⟨rfl, hrest⟩ : x = i ∧ rest = List.range' (i + 1) (es.size - (i + 1)) := by
        have e : es.size - i = (es.size - (i + 1)) + 1 := by omega
        rw [e, List.range'_succ] at hr
        injection hr with h1 h2
        exact ⟨h1, h2⟩
      refine wpAny_bind (wpAny_dictEntries hoa hda ?_)
      have hlt' : x < xs.length := by rw [hla]; exact hlt
      obtain ⟨k, c, v, hkv⟩ : ∃ k c v, xs[x] = (k, c, v) := ⟨_, _, _, rfl⟩
      have hdrop : xs.drop x = (k, c, v) :: xs.drop (x + 1) := by rw [← hkv]; exact List.drop_eq_getElem_cons hlt'
      have hget : xs[x]? = some (k, c, v) := by rw [List.getElem?_eq_getElem hlt', hkv]
      have hmem : (k, c, v) ∈ xs := List.mem_of_getElem? hget
      have hex : es[x]? = some (entryOfKey knd (k, c, v)) := by rw [entry_at hka x, hget]; rfl
      rw [hex]
      rw [hdrop, List.all_cons] at hpre
      have hkey : knd.is s'.heap k c := hia _ hmem
      show wpAny _ _ (holding [Value.ref c, v] _ >>= _) _ _ _
      refine wpAny_bind (wpAny_holding (wpAny_bind (wpAny_dictFind_heap hu hkey hob hdb hkb hib hnb ?_ ?_)))
      · intro hno
        have hn : atKey ys k = none := atKey_none_of_get hno
        have e1 : hitH ys eqb (k, c, v) = false := by unfold hitH; simp only [hn]
        rw [e1, Bool.false_and] at hpre
        rw [← hpre] at h'
        refine wpAny_pure ?_
        show wpAny _ _ (if (!false) = true then _ else _) _ _ _
        rw [if_pos (by decide)]
        exact wpAny_pure (wpAny_pure h')
      · intro j p hj
        have hp : atKey ys k = some p := atKey_of_get hnb hj
        have e1 : hitH ys eqb (k, c, v) = eqb v p.2 := by unfold hitH; simp only [hp]
        have hey : es'[j]? = some (entryOfKey knd (k, p)) := by rw [entry_at hkb j, hj]; rfl
        refine wpAny_bind (wpAny_dictEntries hob hdb ?_)
        rw [hey]
        refine wpAny_holding (heq _ hmem p hp _ _ ?_)
        show wpAny _ _ (if (!eqb v p.2) = true then _ else _) _ _ _
        cases he : eqb v p.2 with
        | false =>
          rw [e1, he, Bool.false_and] at hpre
          rw [← hpre] at h'
          rw [if_pos (by decide)]
          exact wpAny_pure (wpAny_pure h')
        | true =>
          rw [e1, he, Bool.true_and] at hpre
          rw [if_neg (by decide)]
          refine wpAny_bind (wpAny_dictEpoch hoa hda ?_)
          rw [if_neg (by simp)]
          exact wpAny_pure ⟨rfl, rfl, x + 1, hrest, hlt, hpre⟩
    · rintro q s' ⟨rfl, rfl, i, hr, hi, hpre⟩
      have hin : i = es.size := by
        rcases Nat.lt_or_ge i es.size with h | h
        · have e : es.size - i = (es.size - (i + 1)) + 1 := by omega
          rw [e, List.range'_succ] at hr; exact nomatch hr
        · exact Nat.le_antisymm hi h
      have e2 : xs.all (hitH ys eqb) = true := by
        rw [← hpre, hin, ← hla, List.drop_length]; rfl
      rw [e2] at h'
      exact wpAny_pure h'
end
section
variable {prog : Program} {w : World} {K : Type} [DecidableEq K] {knd : HeapKind prog w K} {A : Around} {E : Value → Shared → Prop} {s : Shared}
theorem eqH {a b : Addr} {xs ys : List (K × Addr × Value)} {eqb : Value → Value → Bool} {Q : Value → Shared → Prop} (ha : (a == sysModules) = false) (hb : (b == sysModules) = false)
    (da : s.heap.DictOfH knd a xs) (db : s.heap.DictOfH knd b ys) (hA : A.units < cLine) (hu : knd.room A.in1)
    (heq : ∀ x ∈ xs, ∀ q, atKey ys x.1 = some q → ∀ (R : Bool → Shared → Prop) (F : Value → Shared → Prop), R (eqb x.2.2 q.2) s → wpAny (model prog w) A.in1 (eqBool x.2.2 q.2) R F s)
    (h : Q (.bool (xs.length == ys.length && xs.all (hitH ys eqb))) s) :
    wpAny (model prog w) A (compareOp .Eq (.ref a) (.ref b)) Q E s := by
  refine wpAny_richCompare_same_room (op := .Eq) da.typeIs db.typeIs PySem.F.slot_dict_eq (wpAny_call_entry PySem.F.slot_dict_eq da.typeIs PySem.F.entry_dict_eq ?_ (PySem.F.args_dict_eq_2 _ _)) hA
  show wpAny _ _ (Builtin.Dict.dictSlotArgs "__eq__" ⟨[.ref a, .ref b], []⟩ >>= _) _ _ s
  refine wpAny_bind ?_
  unfold Builtin.Dict.dictSlotArgs
  refine wpAny_bind (wpAny_notOrdered_dict da.typeIs ?_)
  show wpAny _ _ (pure (Value.ref a, Value.ref b)) _ _ s
  refine wpAny_pure ?_
  refine wpAny_bind (wpAny_isInstance (T := "dict") db.typeIs PySem.F.sub_dict_dict ?_)
  simp only [Bool.not_true, Bool.false_eq_true, if_false]
  refine wpAny_bind (wpAny_pure (wpAny_bind (wpAny_pure ?_)))
  refine wpAny_bind (samePairsH ha hb da db hu heq ?_)
  refine wpAny_pure ⟨_, rfl, ?_, ?_⟩
  · exact fun x => nomatch x
  · simpa using h
theorem neH {a b : Addr} {xs ys : List (K × Addr × Value)} {eqb : Value → Value → Bool} {Q : Value → Shared → Prop} (ha : (a == sysModules) = false) (hb : (b == sysModules) = false)
    (da : s.heap.DictOfH knd a xs) (db : s.heap.DictOfH knd b ys) (hA : A.units < cLine) (hu : knd.room A.in1)
    (heq : ∀ x ∈ xs, ∀ q, atKey ys x.1 = some q → ∀ (R : Bool → Shared → Prop) (F : Value → Shared → Prop), R (eqb x.2.2 q.2) s → wpAny (model prog w) A.in1 (eqBool x.2.2 q.2) R F s)
    (h : Q (.bool (!(xs.length == ys.length && xs.all (hitH ys eqb)))) s) :
    wpAny (model prog w) A (compareOp .NotEq (.ref a) (.ref b)) Q E s := by
  refine wpAny_richCompare_same_room (op := .NotEq) da.typeIs db.typeIs PySem.F.slot_dict_ne (wpAny_call_entry PySem.F.slot_dict_ne da.typeIs PySem.F.entry_dict_ne ?_ (PySem.F.args_dict_ne_2 _ _)) hA
  show wpAny _ _ (Builtin.Dict.dictSlotArgs "__ne__" ⟨[.ref a, .ref b], []⟩ >>= _) _ _ s
  refine wpAny_bind ?_
  unfold Builtin.Dict.dictSlotArgs
  refine wpAny_bind (wpAny_notOrdered_dict da.typeIs ?_)
  show wpAny _ _ (pure (Value.ref a, Value.ref b)) _ _ s
  refine wpAny_pure ?_
  refine wpAny_bind (wpAny_isInstance (T := "dict") db.typeIs PySem.F.sub_dict_dict ?_)
  simp only [Bool.not_true, Bool.false_eq_true, if_false]
  refine wpAny_bind (wpAny_pure (wpAny_bind (wpAny_pure ?_)))
  refine wpAny_bind (samePairsH ha hb da db hu heq ?_)
  refine wpAny_pure ⟨_, rfl, ?_, ?_⟩
  · exact fun x => nomatch x
  · simpa using h
end
def eqT (ks ls : List (List Key × V)) : Bool := (ks.length == ls.length) && ks.all fun p => decide (valV ls p.1 = some p.2)
def intB : Value → Value → Bool
  | .int i _, .int j _ => i == j
  | _, _ => false
def IntVals (ks : List (List Key × V)) : Prop := ∀ p ∈ ks, ∃ i, p.2 = V.int i
theorem mem_r {α β : Type} {R : α → β → Prop} : ∀ {l : List α} {m : List β}, Paired R l m → ∀ y ∈ m, ∃ x ∈ l, R x y
  | _, _, .nil, y, h => nomatch h
  | _, _, .cons (a := a) (b := b) r t, y, h => by
    rcases List.mem_cons.mp h with rfl | h
    · exact ⟨a, List.mem_cons_self, r⟩
    · obtain ⟨x, hx, q⟩ := mem_r t y h
      exact ⟨x, List.mem_cons_of_mem _ hx, q⟩
theorem kt_int {H : Hp} {ks : List (List Key × V)} {xs : List (List Key × Addr × Value)} (r : KT H ks xs) (hi : IntVals ks) : ∀ x ∈ xs, ∃ i t, x.2.2 = Value.int i t := by
  intro x hx
  obtain ⟨p, hp, _, _, rv⟩ := mem_r r x hx
  obtain ⟨i, e⟩ := hi p hp
  rw [e] at rv
  obtain ⟨t, rv⟩ := rv
  exact ⟨i, t, rv⟩
theorem atKey_mem {K : Type} [DecidableEq K] {xs : List (K × Addr × Value)} {k : K} {q : Addr × Value} (h : atKey xs k = some q) : (k, q) ∈ xs := by
  unfold atKey at h
  rw [Option.map_eq_some_iff] at h
  obtain ⟨x, h1, h2⟩ := h
  have h3 := List.find?_some h1
  have h4 := List.mem_of_find?_eq_some h1
  have h5 : x.1 = k := of_decide_eq_true h3
  rw [← h5, ← h2]
  exact h4
theorem all_hits {H : Hp} {ls : List (List Key × V)} {ys : List (List Key × Addr × Value)} (rb : KT H ls ys) : ∀ {ks : List (List Key × V)} {xs : List (List Key × Addr × Value)}, KT H ks xs → IntVals ks → IntVals ls →
    xs.all (hitH ys intB) = ks.all fun p => decide (valV ls p.1 = some p.2)
  | _, _, .nil, _, _ => rfl
  | _, _, .cons (a := p) (b := x) (l₁ := ks) (l₂ := xs) h t, hi, hj => by
    rw [List.all_cons, List.all_cons, all_hits rb t (fun q hq => hi q (List.mem_cons_of_mem _ hq)) hj]
    refine congrArg (fun z => z && _) ?_
    obtain ⟨h1, _, h2⟩ := h
    obtain ⟨i, ei⟩ := hi p List.mem_cons_self
    have rv := rb.val p.1
    unfold hitH
    rw [← h1]
    cases hx : atKey ys p.1 with
    | none =>
      rw [hx] at rv
      cases hv : valV ls p.1 with
      | none => simp
      | some v => rw [hv] at rv; exact rv.elim
    | some q =>
      rw [hx] at rv
      cases hv : valV ls p.1 with
      | none => rw [hv] at rv; exact rv.elim
      | some v =>
        rw [hv] at rv
        have rv : RelV v q.2 := rv
        obtain ⟨j, ej⟩ : ∃ j, v = V.int j := by
          have hm : (p.1, v) ∈ ls := by
            unfold valV at hv
            rw [Option.map_eq_some_iff] at hv
            obtain ⟨y, y1, y2⟩ := hv
            have y3 : y.1 = p.1 := by
              have z := List.find?_some y1
              simpa using z
            have y4 := List.mem_of_find?_eq_some y1
            rw [← y3, ← y2]
            exact y4
          exact hj _ hm
        rw [ei] at h2
        rw [ej] at rv
        obtain ⟨t1, e1⟩ := h2
        obtain ⟨t2, e2⟩ := rv
        show intB x.2.2 q.2 = _
        rw [e1, e2, ei, ej]
        unfold intB
        rw [Bool.eq_iff_iff]
        simp
        exact ⟨fun z => z.symm, fun z => z.symm⟩
def rEqDT : R2 := fun x y H Q => ∃ a b ks ls, x = .ref a ∧ y = .ref b ∧ H a = some (.dT ks) ∧ H b = some (.dT ls) ∧ IntVals ks ∧ IntVals ls ∧ Q (.bl (eqT ks ls)) H
def rNeDT : R2 := fun x y H Q => ∃ a b ks ls, x = .ref a ∧ y = .ref b ∧ H a = some (.dT ks) ∧ H b = some (.dT ls) ∧ IntVals ks ∧ IntVals ls ∧ Q (.bl (!eqT ks ls)) H
section
variable {X : Cx}
theorem eq_ints {A : Around} {s : Shared} {H : Hp} {ks ls : List (List Key × V)} {xs ys : List (List Key × Addr × Value)} (ra : KT H ks xs) (rb : KT H ls ys) (hi : IntVals ks) (hj : IntVals ls) :
    ∀ x ∈ xs, ∀ q, atKey ys x.1 = some q → ∀ (R : Bool → Shared → Prop) (F : Value → Shared → Prop), R (intB x.2.2 q.2) s → wpAny (model X.prog X.w) A (eqBool x.2.2 q.2) R F s := by
  intro x hx q hq R F hR
  obtain ⟨i, t, e1⟩ := kt_int ra hi x hx
  obtain ⟨j, u, e2⟩ := kt_int rb hj (x.1, q) (atKey_mem hq)
  have e2 : q.2 = Value.int j u := e2
  rw [e1, e2] at hR ⊢
  exact SeqAt.EqAt.int_int i t j u _ _ _ _ (by unfold intB at hR; exact hR)
theorem op_eqDT (hu : X.A.units + 1 < cLine) : OpR X (compareOp .Eq) rEqDT := by
  intro pins s σ H x y v u Q I rx ry h
  obtain ⟨a, b, ks, ls, rfl, rfl, ea, eb, hi, hj, q⟩ := h
  obtain rfl : v = Value.ref a := rx
  obtain rfl : u = Value.ref b := ry
  obtain ⟨_, ya, xs, ra, da⟩ := dt_of I.hok ea
  obtain ⟨_, yb, ys, rb, db⟩ := dt_of I.hok eb
  refine eqH (eqb := intB) ya yb da db (by omega) (tupleKind_room_in1 hu) (eq_ints ra rb hi hj) (fin_bl I q ?_)
  unfold eqT
  rw [all_hits rb ra hi hj, Paired.length ra, Paired.length rb]
theorem op_neDT (hu : X.A.units + 1 < cLine) : OpR X (compareOp .NotEq) rNeDT := by
  intro pins s σ H x y v u Q I rx ry h
  obtain ⟨a, b, ks, ls, rfl, rfl, ea, eb, hi, hj, q⟩ := h
  obtain rfl : v = Value.ref a := rx
  obtain rfl : u = Value.ref b := ry
  obtain ⟨_, ya, xs, ra, da⟩ := dt_of I.hok ea
  obtain ⟨_, yb, ys, rb, db⟩ := dt_of I.hok eb
  refine neH (eqb := intB) ya yb da db (by omega) (tupleKind_room_in1 hu) (eq_ints ra rb hi hj) (fin_bl I q ?_)
  unfold eqT
  rw [all_hits rb ra hi hj, Paired.length ra, Paired.length rb]
end
theorem paired_of {α β : Type} {R : α → β → Prop} : ∀ {l : List α} {m : List β}, l.length = m.length → (∀ (j : Nat) a b, l[j]? = some a → m[j]? = some b → R a b) → Paired R l m
  | [], [], _, _ => .nil
  | [], _ :: _, h, _ => by cases h
  | _ :: _, [], h, _ => by cases h
  | a :: l, b :: m, h, k => .cons (k 0 a b rfl rfl) (paired_of (Nat.succ.inj h) fun j x y e1 e2 => k (j + 1) x y e1 e2)
def PairsOf (H : Hp) (ts : List Addr) (kvs : List (List Key × V)) : Prop := Paired (fun (t : Addr) (p : List Key × V) => ∃ q, H t = some (.tup [.ref q, p.2]) ∧ H q = some (.tup (p.1.map kV))) ts kvs
section
variable {X : Cx}
theorem take_all {pins : List (Addr × Obj)} {σ : L2.St} {H0 : Hp} {s : Shared} {h' : Heap} {tk : Nat} {P : Addr → List V → Prop} (I0 : Inv X pins σ H0 s) (L : List Addr) : ∀ H1 : Hp, Inv X pins σ H1 { s with heap := h', toks := tk } → L.Nodup →
    (∀ a ∈ L, s.heap.objs.size ≤ a ∧ H1 a = none ∧ ∃ vs, P a vs ∧ ∀ H2, ObjOk X.prog X.w H2 h' a (.tup vs)) →
    ∃ H2, Inv X pins σ H2 { s with heap := h', toks := tk } ∧ (∀ b o, H1 b = some o → H2 b = some o) ∧ (∀ a ∈ L, ∃ vs, P a vs ∧ H2 a = some (.tup vs)) ∧ ∀ b, b ∉ L → H2 b = H1 b := by
  induction L with
  | nil => exact fun H1 I1 _ _ => ⟨H1, I1, fun _ _ e => e, (fun _ h => nomatch h), fun _ _ => rfl⟩
  | cons a L ih =>
    intro H1 I1 hn h
    obtain ⟨hb, hnone, vs, hP, ok⟩ := h a List.mem_cons_self
    obtain ⟨na, nd⟩ := List.nodup_cons.mp hn
    have J := I1.take (h' := h') (t' := tk) (fun b ob _ e => e) (I0.fpOk hb hnone) (ok _)
    obtain ⟨H2, I3, g, q, off⟩ := ih _ J nd fun c hc => by
      obtain ⟨c1, c2, c3⟩ := h c (List.mem_cons_of_mem _ hc)
      exact ⟨c1, by rw [upd_ne fun z => na (by rw [← z]; exact hc)]; exact c2, c3⟩
    refine ⟨H2, I3, fun b o e => g b o (by rw [upd_ne (ne_of_none e hnone)]; exact e), fun c hc => ?_, fun b hb' => ?_⟩
    · rcases List.mem_cons.mp hc with rfl | hc
      · exact ⟨vs, hP, g _ _ upd_same⟩
      · exact q c hc
    · rw [off b fun z => hb' (List.mem_cons_of_mem _ z), upd_ne fun z => hb' (by rw [z]; exact List.mem_cons_self)]
theorem made_tracked {pins : List (Addr × Obj)} {σ : L2.St} {H H1 : Hp} {s : Shared} {h' : Heap} {tk : Nat} {kvs : List (List Key × V)} {xs : List (List Key × Addr × Value)} {es : Array DictEntry} {as : List Addr} (I : Inv X pins σ H s)
    (rel : KT H kvs xs) (hes : es.toList = xs.map (entryOfKey (tupleKind (mixKind X.prog X.w)))) (hl : as.length = es.size) (hG : DT.Made es s.heap.objs.size h' as)
    (I1 : Inv X pins σ H1 { s with heap := h', toks := tk }) (g1 : ∀ b o, H b = some o → H1 b = some o) (hn : ∀ b ∈ as, H1 b = none) :
    ∃ H2, Inv X pins σ H2 { s with heap := h', toks := tk } ∧ (∀ b o, H1 b = some o → H2 b = some o) ∧ PairsOf H2 as kvs ∧ ∀ b, b ∉ as → H2 b = H1 b := by
  have l1 : kvs.length = xs.length := Paired.length rel
  have l2 : es.size = xs.length := size_of_entries hes
  have nd : as.Nodup := List.Pairwise.imp (fun h => Nat.ne_of_lt h) hG.rise
  have pr : ∀ (j : Nat) (b : Addr), as[j]? = some b → ∃ (p : List Key × V) (q : Addr) (u : Value), kvs[j]? = some p ∧ H q = some (.tup (p.1.map kV)) ∧ RelV p.2 u ∧ h'.get? b = some { cls := .type "tuple", data := .seq #[Value.ref q, u] } := by
    intro j b hj
    obtain ⟨en, he, hg⟩ := hG.pairs j b hj
    rw [entry_at hes j] at he
    cases hxj : xs[j]? with
    | none =>
      rw [hxj] at he
      exact nomatch (show (none : Option DictEntry) = some en from he)
    | some x =>
      rw [hxj] at he
      have een : entryOfKey (tupleKind (mixKind X.prog X.w)) x = en := Option.some.inj he
      obtain ⟨e0, he0, r1, r2, r3⟩ := L2.DX.pget rel hxj
      exact ⟨e0, x.2.1, x.2.2, he0, r2, r3, by rw [hg, ← een]; rfl⟩
  obtain ⟨H2, I2, g, qt, off⟩ := take_all (P := fun b vs => ∃ (j : Nat) (p : List Key × V) (q : Addr), as[j]? = some b ∧ kvs[j]? = some p ∧ vs = [.ref q, p.2] ∧ H q = some (.tup (p.1.map kV))) I as H1 I1 nd fun b hb => by
    obtain ⟨j, hj⟩ := List.mem_iff_getElem?.mp hb
    obtain ⟨p, q, u, hp, hq, ru, hg⟩ := pr j b hj
    exact ⟨Nat.le_of_lt (hG.above b hb), hn b hb, [.ref q, p.2], ⟨j, p, q, hj, hp, rfl, hq⟩, fun H3 => ⟨(by rw [sizeLine_eq]; show 2 ≤ 16777216; omega), [Value.ref q, u], .cons rfl (.cons ru .nil), ⟨_, hg, rfl, 0, rfl⟩⟩⟩
  refine ⟨H2, I2, g, paired_of (by omega) fun j b p hj hp => ?_, off⟩
  obtain ⟨vs, ⟨i, p', q, i1, i2, ev, hq⟩, hH⟩ := qt b (List.mem_of_getElem? hj)
  have eij : j = i := (List.getElem?_inj (List.getElem?_eq_some_iff.mp hj).1 nd).mp (hj.trans i1.symm)
  subst eij
  have ep : p' = p := Option.some.inj (i2.symm.trans hp)
  rw [ev, ep] at hH
  rw [ep] at hq
  exact ⟨q, hH, g _ _ (g1 _ _ hq)⟩
theorem vals_refs : ∀ as : List Addr, Vals (as.map V.ref) (as.map Value.ref)
  | [] => .nil
  | _ :: as => .cons rfl (vals_refs as)
end
section
variable {prog : Program} {w : World} {A : Around} {E : Value → Shared → Prop} {s : Shared} {r d : Addr} {es : Array DictEntry} {ep : Nat}
theorem initI {R : Result → Shared → Prop} (hh : A.handled = none) (hv : s.heap.IsItemsView r d) (hm : DT.Raw s.heap d es ep) (S : Addr) (hSr : S ≠ r) (hSd : d ≠ S) (hS : s.heap.get? S = some { cls := .type "list", data := .seq #[] })
    (hR : ∀ h' tk acc c as, (∀ b o, b ≠ S → s.heap.get? b = some o → h'.get? b = some o) → h'.get? S = some { cls := .type "list", dict := none, data := .seq acc c, slots := #[] } → as.length = es.size → DT.Made es S h' as →
      acc.toList = as.map Value.ref → R (.ok (.ret .none)) { s with heap := h', toks := tk }) (hn : es.size ≤ sizeLine) :
    wpAny (model prog w) A.in1 (Builtin.«list.__init__» ⟨[.ref S, .ref r], []⟩)
      (fun fin s' => match fin with | .done f => R (.ok f) s' | .again c' => c'.quiet = true ∧ codeAny (model prog w) A c' R s') (fun e s' => R (.error e) s') s := by
  show wpAny _ _ (do let old ← Builtin.List.listItems (.ref S); Builtin.List.listUpdate (.ref S) (fun _ => #[]); letGo old.toList.reverse; Builtin.List.listExtendWith (.ref S) (.ref r) .none) _ _ s
  refine wpAny_bind ?_
  unfold Builtin.List.listItems
  refine wpAny_bind (wpAny_seqItems hS rfl (wpAny_pure ?_))
  show wpAny _ _ (updateSeq S (fun _ => #[]) >>= fun _ => letGo (#[] : Array Value).toList.reverse >>= fun _ => Builtin.List.listExtendWith (.ref S) (.ref r) .none) _ _ s
  refine wpAny_bind (wpAny_updateSeq hS rfl ?_)
  have hS₂ := Heap.get?_update_self (Obj.mapSeq (fun _ => (#[] : Array Value))) hS rfl
  have oth : ∀ b o, b ≠ S → s.heap.get? b = some o → (s.heap.update S (Obj.mapSeq (fun _ => (#[] : Array Value)))).get? b = some o :=
    fun b o hb e => (Heap.get?_update_other _ _ (Ne.symm hb)).trans e
  refine wpAny_bind (wpAny_letGo ?_)
  refine DT.extI (es := es) (ep := ep) hh (let ⟨o, ho, x⟩ := hv; ⟨o, oth r o hSr.symm ho, x⟩) (hm.at' fun o e => oth d o hSd e) S hSr hSd .none _ hS₂ (fun h' tk acc c as hk hS' hl hG hacc => ?_) hn
  exact hR h' tk acc c as (fun b o hb e => hk b o hb (oth b o hb e)) hS' hl (hG.low (Nat.le_of_lt (Heap.lt_size hS₂))) hacc
theorem listCallI {Q : Value → Shared → Prop} (hh : A.handled = none) (hv : s.heap.IsItemsView r d) (hm : DT.Raw s.heap d es ep) (hn : es.size ≤ sizeLine)
    (hQ : ∀ h' tk acc c as, (∀ b o, s.heap.get? b = some o → h'.get? b = some o) → h'.get? s.heap.objs.size = some { cls := .type "list", dict := none, data := .seq acc c, slots := #[] } → as.length = es.size → DT.Made es s.heap.objs.size h' as →
      acc.toList = as.map Value.ref → Q (.ref s.heap.objs.size) { s with heap := h', toks := tk }) :
    wpAny (model prog w) A (call (.type "list") [.ref r]) Q E s := by
  refine callType_codes (Q₁ := fun obj s₁ => obj = .ref s.heap.objs.size ∧ s₁ = { s with heap := s.heap.push { cls := .type "list", data := .seq #[] } }) PySem.F.called_list (PySem.F.typeCall_list_1 _) PySem.F.entry_list_init
    (code_list_new _ ⟨rfl, rfl⟩) fun obj s₁ h₁ => ?_
  obtain ⟨rfl, rfl⟩ := h₁
  have hS : (s.heap.push { cls := .type "list", data := .seq #[] }).get? s.heap.objs.size = some { cls := .type "list", data := .seq #[] } := Heap.get?_push_size _ rfl
  have hr : r < s.heap.objs.size := let ⟨_, ho, _⟩ := hv; Heap.lt_size ho
  have hd : d < s.heap.objs.size := hm.lt
  refine ⟨⟨_, hS, rfl⟩, PySem.F.args_list_init_2 _ _, initI (es := es) (ep := ep) (A := A.in1) hh (let ⟨o, ho, x⟩ := hv; ⟨o, Heap.get?_push_of_some _ ho, x⟩) (hm.push _) _ (Nat.ne_of_gt hr) (Nat.ne_of_lt hd) hS (fun h' tk acc c as hk hS' hl hG hacc => ?_) hn⟩
  exact ⟨rfl, hQ h' tk acc c as (fun b o e => hk b o (Nat.ne_of_lt (Heap.lt_size e)) (Heap.get?_push_of_some _ e)) hS' hl hG hacc⟩
end
def rListItT : List V → Hp → VK → Prop := fun vs H Q => ∃ (p a : Addr) (kvs : List (List Key × V)), vs = [.ref p] ∧ H p = some (L2.DX.itemsO p a) ∧ H a = some (.dT kvs) ∧
  ∀ (H' : Hp) (l : Addr) (ts : List Addr), (∀ b o, H b = some o → H' b = some o) → H l = none → H' l = some (.lst (ts.map V.ref)) → PairsOf H' ts kvs → Q (.ref l) H'
section
variable {X : Cx}
theorem cr_listItT (hc : X.calm = true) : CallR X (.type "list") rListItT := by
  intro pins s σ H xs us Q I r h
  obtain ⟨p, a, kvs, rfl, hp, ha, q⟩ := h
  obtain rfl := Vals.ref1 r
  have view : s.heap.IsItemsView p a := (show ObjOk X.prog X.w H s.heap p (L2.DX.itemsO p a) from I.hok p _ hp).1
  obtain ⟨z, hd, xs', rel, o, es, ep, ho, hx, hdat, hes, his, hn⟩ := dt_of I.hok ha
  have l1 : kvs.length = xs'.length := Paired.length rel
  have l2 : es.size = xs'.length := size_of_entries hes
  refine listCallI (es := es) (ep := ep) (I.ok.hd hc) view ⟨o, ho, hx, hdat⟩ (by omega) fun h' tk acc c as hk hS hl hG hacc => ?_
  have newS : H s.heap.objs.size = none := I.hok.fresh (Nat.le_refl _)
  have nS : ∀ b ∈ as, b ≠ s.heap.objs.size := fun b hb => Nat.ne_of_gt (hG.above b hb)
  have I1 : Inv X pins σ (upd H s.heap.objs.size (.lst (as.map V.ref))) { s with heap := h', toks := tk } :=
    I.laid (t' := tk) hk (Nat.le_refl _) ⟨by rw [List.length_map]; omega, acc.toList, c, by rw [hacc]; exact vals_refs as, by rw [Array.toArray_toList]; exact hS⟩
  obtain ⟨H2, I2, g, pp, _⟩ := made_tracked (h' := h') (tk := tk) I rel hes hl hG I1 (fun b o e => by rw [upd_ne (ne_of_none e newS)]; exact e) fun b hb => by
    rw [upd_ne (nS b hb)]
    exact I.hok.fresh (Nat.le_of_lt (hG.above b hb))
  exact ⟨.ref _, H2, I2, rfl, q H2 _ as (fun b o e => g b o (by rw [upd_ne (ne_of_none e newS)]; exact e)) newS (g _ _ upd_same) pp⟩
end
end KB
set_option Elab.async false
set_option linter.all false
set_option maxRecDepth 100000
set_option maxHeartbeats 4000000
namespace PySem.SeqAt
open AutoSeq1 (wpAny_loadPart')
open MeetsSeq MeetsSeq2 MeetsSeq3 SeqRoads2
theorem kc_tuple_lt (l b : Addr) (items items2 : Array Value) (n n2 : Nat) (dd dd2 : Option Addr) (sl sl2 : Array (Option Value)) (e r : Nat → Bool) :
    Meets (Builtin.«tuple.__lt__» ⟨[.ref l, .ref b], []⟩)
      (fun A R s => s.heap.get? l = some { cls := .type "tuple", dict := dd, data := .seq items n, slots := sl } ∧ s.heap.get? b = some { cls := .type "tuple", dict := dd2, data := .seq items2 n2, slots := sl2 } ∧
        (∀ j (h1 : j < items.size) (h2 : j < items2.size), EqAt A.in1 s items[j] items2[j] (e j)) ∧ (∀ j (h1 : j < items.size) (h2 : j < items2.size), (∀ i, i < j → e i = true) → e j = false → RcLt A.in1 s items[j] items2[j] (r j)) ∧
        R (.ok (.ret (.bool (firstLt e r (decide (items.size < items2.size)) (List.range (min items.size items2.size)))))) s) :=
  .of_wp fun prog w A R s h => by
    obtain ⟨hp, g, d, tk, os⟩ := s; obtain ⟨hl, hb, he, hr, h⟩ := h
    have f2 := AutoSeq1.sub_tuple_tuple
    have hZ : (items.toList.zip items2.toList).length = min items.size items2.size := by simp
    wp_walk using wpAny_loadPart' hl, wpAny_loadPart' hb, wpAny_forIn_list _ (fun rest b s' => b.1 = none ∧ s' = ⟨hp, g, d, tk, os⟩ ∧ ∃ i, rest = (items.toList.zip items2.toList).drop i ∧ (∀ m, m < i → e m = true) ∧
      R (.ok (.ret (.bool (firstLt e r (decide (items.size < items2.size)) ((List.range (min items.size items2.size)).drop i))))) ⟨hp, g, d, tk, os⟩) _
    case turn =>
      rintro ⟨y, x⟩ rest b s' ⟨hb', rfl, i, hz, hpre, hR⟩
      have hlt : i < (items.toList.zip items2.toList).length := by
        rcases Nat.lt_or_ge i (items.toList.zip items2.toList).length with h' | h'
        · exact h'
        · rw [List.drop_of_length_le h'] at hz; cases hz
      have hm : i < min items.size items2.size := hZ ▸ hlt
      have h1 : i < items.size := Nat.lt_of_lt_of_le hm (Nat.min_le_left _ _)
      have h2 : i < items2.size := Nat.lt_of_lt_of_le hm (Nat.min_le_right _ _)
      rw [List.drop_eq_getElem_cons hlt] at hz
      injection hz with hyx hrest
      have hy : y = items[i] := by have := congrArg Prod.fst hyx; simpa using this
      have hx : x = items2[i] := by have := congrArg Prod.snd hyx; simpa using this
      subst hy hx
      have hd : (List.range (min items.size items2.size)).drop i = i :: (List.range (min items.size items2.size)).drop (i + 1) := by simp [List.drop_eq_getElem_cons, hm]
      rw [hd] at hR
      refine wpAny_bind (he i h1 h2 prog w _ _ ?_)
      cases hy : e i with
      | true =>
        rw [firstLt_yes hy] at hR
        wp_walk
        refine ⟨rfl, rfl, i + 1, hrest, fun m hm => ?_, hR⟩
        rcases Nat.lt_or_ge m i with z | z
        · exact hpre m z
        · have : m = i := by omega
          rw [this]; exact hy
      | false =>
        rw [firstLt_no hy] at hR
        rw [if_pos (by rfl)]
        show wpAny _ _ (do rule "tuple.compare.by-the-first-pair-that-differs"; let v ← richCompare CmpOp.Lt items[i] items2[i]; let v' ← ret v; pure (ForInStep.done (some v', ()))) _ _ _
        refine wpAny_bind (wpAny_rule ?_)
        refine wpAny_bind (hr i h1 h2 hpre hy prog w _ _ ?_)
        wp_walk
        exact ⟨_, rfl, hR⟩
    case fin =>
      rintro ⟨b1, b2⟩ s' ⟨hb', rfl, i, hz, hpre, hR⟩
      simp only at hb'
      subst hb'
      have hge : min items.size items2.size ≤ i := by
        rcases Nat.lt_or_ge i (items.toList.zip items2.toList).length with h' | h'
        · rw [List.drop_eq_getElem_cons h'] at hz; cases hz
        · exact hZ ▸ h'
      rw [List.drop_of_length_le (by simpa using hge)] at hR
      wp_walk
      exact ⟨_, rfl, by simpa [Builtin.Tuple.tupleCompareSizes, firstLt] using hR⟩
    case h =>
      exact ⟨rfl, rfl, 0, rfl, fun m hm => absurd hm (Nat.not_lt_zero _), by simpa using h⟩
section
variable {A : Around} {s : Shared}
theorem RcLt.tuplesF {l b : Addr} {items items2 : Array Value} {e r : Nat → Bool} (hl : s.heap.IsTuple l items) (hb : s.heap.IsTuple b items2) (hu : A.units < cLine)
    (he : ∀ j (h1 : j < items.size) (h2 : j < items2.size), EqAt A.in1 s items[j] items2[j] (e j)) (hr : ∀ j (h1 : j < items.size) (h2 : j < items2.size), (∀ i, i < j → e i = true) → e j = false → RcLt A.in1 s items[j] items2[j] (r j)) :
    RcLt A s (.ref l) (.ref b) (firstLt e r (decide (items.size < items2.size)) (List.range (min items.size items2.size))) := fun prog w E Q h => by
  obtain ⟨⟨cls, dd, data, sl⟩, ho, hc, n, hd⟩ := id hl
  obtain ⟨⟨cls2, dd2, data2, sl2⟩, ho2, hc2, n2, hd2⟩ := id hb
  simp only at hc hd hc2 hd2
  subst hc hd hc2 hd2
  exact richCompare_meets_room (op := .Lt) ⟨_, ho, rfl⟩ ⟨_, ho2, rfl⟩ F.slot_tuple_lt F.entry_tuple_lt (F.args_tuple_lt_2 _ _) (kc_tuple_lt l b items items2 n n2 dd dd2 sl sl2 e r)
    ⟨ho, ho2, he, hr, show Value.bool (firstLt e r (decide (items.size < items2.size)) (List.range (min items.size items2.size))) ≠ Value.notImplemented ∧ Q (.bool (firstLt e r (decide (items.size < items2.size)) (List.range (min items.size items2.size)))) s from ⟨(fun x => nomatch x), h⟩⟩ hu
end
end PySem.SeqAt
namespace KC
open PySem PySem.Spec PyProof.Rows L2 KB PySem.SeqAt
mutual
def ltD : PyData → PyData → Bool
  | .int i, .int j => decide (i < j)
  | .str x, .str y => decide (x.cps.toList < y.cps.toList)
  | .tuple xs, .tuple ys => ltL xs ys
  | _, _ => false
def ltL : List PyData → List PyData → Bool
  | [], [] => false
  | [], _ :: _ => true
  | _ :: _, [] => false
  | x :: xs, y :: ys => if PyData.eqv x y = true then ltL xs ys else ltD x y
end
mutual
def okD : PyData → PyData → Bool
  | .int _, .int _ => true
  | .str _, .str _ => true
  | .tuple xs, .tuple ys => okL xs ys
  | _, _ => false
def okL : List PyData → List PyData → Bool
  | [], _ => true
  | _ :: _, [] => true
  | x :: xs, y :: ys => if PyData.eqv x y = true then okL xs ys else okD x y
end
theorem firstLt_shift {e r : Nat → Bool} {fin : Bool} : ∀ l : List Nat, firstLt e r fin (l.map (· + 1)) = firstLt (fun j => e (j + 1)) (fun j => r (j + 1)) fin l
  | [] => rfl
  | j :: l => by
    show (if e (j + 1) = true then firstLt e r fin (l.map (· + 1)) else r (j + 1)) = _
    rw [firstLt_shift l]
    rfl
theorem ltL_first : ∀ (xs ys : List PyData) (e r : Nat → Bool), (∀ j x y, xs[j]? = some x → ys[j]? = some y → e j = PyData.eqv x y ∧ r j = ltD x y) →
    firstLt e r (decide (xs.length < ys.length)) (List.range (min xs.length ys.length)) = ltL xs ys
  | [], [], _, _, _ => by unfold ltL; rfl
  | [], _ :: _, _, _, _ => by
    unfold ltL
    simp [firstLt]
  | _ :: _, [], _, _, _ => by
    unfold ltL
    simp [firstLt]
  | x :: xs, y :: ys, e, r, h => by
    have h0 := h 0 x y rfl rfl
    have e1 : min (x :: xs).length (y :: ys).length = min xs.length ys.length + 1 := by simp only [List.length_cons]; omega
    rw [e1, List.range_succ_eq_map]
    have e2 : decide ((x :: xs).length < (y :: ys).length) = decide (xs.length < ys.length) := by simp
    rw [e2]
    unfold ltL
    show (if e 0 = true then firstLt e r _ (List.map Nat.succ _) else r 0) = _
    rw [h0.1, h0.2]
    by_cases q : PyData.eqv x y = true
    · rw [if_pos q, if_pos q]
      rw [show (List.map Nat.succ (List.range (min xs.length ys.length))) = (List.range (min xs.length ys.length)).map (· + 1) from rfl, firstLt_shift]
      exact ltL_first xs ys _ _ fun j a b ha hb => h (j + 1) a b ha hb
    · rw [if_neg q, if_neg q]
end KC
namespace KC
open PySem PySem.Spec PyProof.Rows L2 KB PySem.SeqAt
theorem lt_str_b {prog : Program} {w : World} {A : Around} {E : Value → Shared → Prop} {s : Shared} {x y : Str} {t u : Tok} {Q : Value → Shared → Prop} (h : Q (.bool (decide (x.cps.toList < y.cps.toList))) s) :
    wpAny (model prog w) A (richCompare .Lt (.str x t) (.str y u)) Q E s := DT.rcLt_str A s x t y u prog w E Q h
mutual
theorem rcLt_data : ∀ (da db : PyData) (A : Around) (s : Shared) (a b : Value) (as bs : List Addr), Reads s.heap a da as → Reads s.heap b db bs → da.canLay0 = true → db.canLay0 = true → okD da db = true →
    A.units + min da.depth db.depth < cLine → RcLt A s a b (ltD da db)
  | .int x, .int y, A, s, _, _, _, _, ra, rb, _, _, _, hu => by
    cases ra; cases rb
    intro prog w E Q h
    exact PyProof.Rows.lt_int (by unfold ltD at h; exact h)
  | .str x, .str y, A, s, _, _, _, _, ra, rb, _, _, _, hu => by
    cases ra; cases rb
    intro prog w E Q h
    exact lt_str_b (by unfold ltD at h; exact h)
  | .tuple xs, .tuple ys, A, s, _, _, _, _, ra, rb, ha, hb, hok, hu => by
    cases ra with
    | @tuple l o vs n _ as₁ h1 h2 h3 h4 =>
      cases rb with
      | @tuple l' o' vs' n' _ bs₁ k1 k2 k3 k4 =>
        have hl : s.heap.IsTuple l vs := ⟨_, h1, h2, _, h3⟩
        have hl' : s.heap.IsTuple l' vs' := ⟨_, k1, k2, _, k3⟩
        have n1 : vs.size = xs.length := by simpa using ReadsAll.length _ _ _ h4
        have n2 : vs'.size = ys.length := by simpa using ReadsAll.length _ _ _ k4
        have hok' : okL xs ys = true := by unfold okD at hok; exact hok
        have e : ltD (.tuple xs) (.tuple ys) = firstLt (pairEq xs ys) (fun j => ltD (xs.getD j .none) (ys.getD j .none)) (decide (vs.size < vs'.size)) (List.range (min vs.size vs'.size)) := by
          rw [n1, n2, ltL_first xs ys]
          · unfold ltD; rfl
          · intro j x y hx hy
            simp [pairEq, List.getD, hx, hy]
        rw [e]
        refine RcLt.tuplesF hl hl' (room_here hu) (fun j j1 j2 => ?_) (fun j j1 j2 hp hf => ?_)
        · have := eqAt_readsAll xs ys A.in1 s vs.toList vs'.toList _ _ h4 k4 ha hb (room_in hu) j (by simpa using j1) (by simpa using j2)
          simpa using this
        · have := rcLt_all xs ys A.in1 s vs.toList vs'.toList _ _ h4 k4 ha hb hok' (room_in hu) j (by simpa using j1) (by simpa using j2) hp hf
          simpa using this
  | .none, _, _, _, _, _, _, _, _, _, _, _, hok, _ => by unfold okD at hok; cases hok
  | .bool _, _, _, _, _, _, _, _, _, _, _, _, hok, _ => by unfold okD at hok; cases hok
  | .list _, _, _, _, _, _, _, _, _, _, _, _, hok, _ => by unfold okD at hok; cases hok
  | .dict _, _, _, _, _, _, _, _, _, _, _, _, hok, _ => by unfold okD at hok; cases hok
  | .int _, .none, _, _, _, _, _, _, _, _, _, _, hok, _ => by unfold okD at hok; cases hok
  | .int _, .bool _, _, _, _, _, _, _, _, _, _, _, hok, _ => by unfold okD at hok; cases hok
  | .int _, .str _, _, _, _, _, _, _, _, _, _, _, hok, _ => by unfold okD at hok; cases hok
  | .int _, .list _, _, _, _, _, _, _, _, _, _, _, hok, _ => by unfold okD at hok; cases hok
  | .int _, .tuple _, _, _, _, _, _, _, _, _, _, _, hok, _ => by unfold okD at hok; cases hok
  | .int _, .dict _, _, _, _, _, _, _, _, _, _, _, hok, _ => by unfold okD at hok; cases hok
  | .str _, .none, _, _, _, _, _, _, _, _, _, _, hok, _ => by unfold okD at hok; cases hok
  | .str _, .bool _, _, _, _, _, _, _, _, _, _, _, hok, _ => by unfold okD at hok; cases hok
  | .str _, .int _, _, _, _, _, _, _, _, _, _, _, hok, _ => by unfold okD at hok; cases hok
  | .str _, .list _, _, _, _, _, _, _, _, _, _, _, hok, _ => by unfold okD at hok; cases hok
  | .str _, .tuple _, _, _, _, _, _, _, _, _, _, _, hok, _ => by unfold okD at hok; cases hok
  | .str _, .dict _, _, _, _, _, _, _, _, _, _, _, hok, _ => by unfold okD at hok; cases hok
  | .tuple _, .none, _, _, _, _, _, _, _, _, _, _, hok, _ => by unfold okD at hok; cases hok
  | .tuple _, .bool _, _, _, _, _, _, _, _, _, _, _, hok, _ => by unfold okD at hok; cases hok
  | .tuple _, .int _, _, _, _, _, _, _, _, _, _, _, hok, _ => by unfold okD at hok; cases hok
  | .tuple _, .str _, _, _, _, _, _, _, _, _, _, _, hok, _ => by unfold okD at hok; cases hok
  | .tuple _, .list _, _, _, _, _, _, _, _, _, _, _, hok, _ => by unfold okD at hok; cases hok
  | .tuple _, .dict _, _, _, _, _, _, _, _, _, _, _, hok, _ => by unfold okD at hok; cases hok
theorem rcLt_all : ∀ (xs ys : List PyData) (A : Around) (s : Shared) (vs ws : List Value) (as bs : List Addr), ReadsAll s.heap vs xs as → ReadsAll s.heap ws ys bs → PyData.canLayAll0 xs = true → PyData.canLayAll0 ys = true → okL xs ys = true →
    A.units + min (PyData.depthAll xs) (PyData.depthAll ys) < cLine → ∀ j (h1 : j < vs.length) (h2 : j < ws.length), (∀ i, i < j → pairEq xs ys i = true) → pairEq xs ys j = false → RcLt A s vs[j] ws[j] (ltD (xs.getD j .none) (ys.getD j .none))
  | [], _, _, _, _, _, _, _, ra, _, _, _, _, _, j, h1, _, _, _ => by cases ra; exact absurd h1 (Nat.not_lt_zero _)
  | _ :: _, [], _, _, _, _, _, _, _, rb, _, _, _, _, j, _, h2, _, _ => by cases rb; exact absurd h2 (Nat.not_lt_zero _)
  | x :: xs, y :: ys, A, s, _, _, _, _, ra, rb, ha, hb, hok, hu, j, h1, h2, hp, hf => by
    have ha' : x.canLay0 = true ∧ PyData.canLayAll0 xs = true := by simpa [PyData.canLayAll0] using ha
    have hb' : y.canLay0 = true ∧ PyData.canLayAll0 ys = true := by simpa [PyData.canLayAll0] using hb
    unfold okL at hok
    cases ra with
    | cons r rs =>
      cases rb with
      | cons r' rs' =>
        cases j with
        | zero =>
          have e0 : PyData.eqv x y = false := hf
          rw [if_neg (by rw [e0]; exact Bool.false_ne_true)] at hok
          exact rcLt_data x y A s _ _ _ _ r r' ha'.1 hb'.1 hok (room_head hu)
        | succ j =>
          have e0 : PyData.eqv x y = true := hp 0 (Nat.succ_pos _)
          rw [if_pos e0] at hok
          exact rcLt_all xs ys A s _ _ _ _ rs rs' ha'.2 hb'.2 hok (room_tail hu) j (Nat.lt_of_succ_lt_succ h1) (Nat.lt_of_succ_lt_succ h2) (fun i hi => hp (i + 1) (Nat.succ_lt_succ hi)) hf
end
def rLtD (K : PySem.W.Frag) : R2 := fun x y H Q => ∃ d e, Dp K H x d ∧ Dp K H y e ∧ shaped d = true ∧ shaped e = true ∧ okD d e = true ∧ Q (.bl (ltD d e)) H
theorem op_ltD {X : Cx} (hu : X.A.units + 64 < cLine) : OpR X (compareOp .Lt) (rLtD X.K) := by
  intro pins s σ H x y v u Q I rx ry h
  obtain ⟨d, e, hd, he, sd, se, hok, q⟩ := h
  obtain ⟨as, r1⟩ := Dp.reads I d x v hd rx
  obtain ⟨bs, r2⟩ := Dp.reads I e y u he ry
  exact rcLt_data d e X.A s v u as bs r1 r2 (canLay_of_shaped sd) (canLay_of_shaped se) hok (room_of_shaped sd hu) X.prog X.w X.xe _ ⟨.bl _, H, I, rfl, q⟩
theorem keyLt_data {prog : Program} {w : World} {A : Around} {E : Value → Shared → Prop} {s : Shared} {xs ys : List PyData} {u v : Value} {as bs : List Addr} {Q : Bool → Shared → Prop} (ra : Reads s.heap u (.tuple xs) as) (rb : Reads s.heap v (.tuple ys) bs)
    (ha : (PyData.tuple xs).canLay0 = true) (hb : (PyData.tuple ys).canLay0 = true) (hok : okL xs ys = true) (hu : A.units + min (PyData.tuple xs).depth (PyData.tuple ys).depth < cLine) (h : Q (ltL xs ys) s) :
    wpAny (model prog w) A (keyLt' (tuples' false) u v) Q E s := by
  cases ra with
  | @tuple l o vs n _ as₁ h1 h2 h3 h4 =>
    cases rb with
    | @tuple l' o' vs' n' _ bs₁ k1 k2 k3 k4 =>
      refine PySem.W.kat_lt h1 h3 k1 k3 ?_
      have n1 : vs.size = xs.length := by simpa using ReadsAll.length _ _ _ h4
      have n2 : vs'.size = ys.length := by simpa using ReadsAll.length _ _ _ k4
      rw [n1, n2]
      have hu0 : A.units + min (PyData.depthAll xs) (PyData.depthAll ys) < cLine := by
        have q := room_in hu
        omega
      clear h3 k3 n1 n2 h1 k1
      generalize vs.toList = us at h4
      generalize vs'.toList = ws at k4
      have key : ∀ (xs ys : List PyData) (us ws : List Value) (as bs : List Addr) (i : Nat), ReadsAll s.heap us xs as → ReadsAll s.heap ws ys bs → PyData.canLayAll0 xs = true → PyData.canLayAll0 ys = true → okL xs ys = true →
          A.units + min (PyData.depthAll xs) (PyData.depthAll ys) < cLine → Q (ltL xs ys) s → PySem.W.KatLex prog w A false (decide (xs.length < ys.length)) Q (us.zip ws) i s := by
        intro xs
        induction xs with
        | nil =>
          intro ys us ws as bs i ra rb _ _ _ _ hq
          cases ra
          cases ys with
          | nil =>
            cases rb
            exact PySem.W.kat_nil (by unfold ltL at hq; exact hq)
          | cons y ys =>
            cases rb
            exact PySem.W.kat_nil (by unfold ltL at hq; simpa using hq)
        | cons x xs ih =>
          intro ys us ws as bs i ra rb ha hb hok hu hq
          cases ys with
          | nil =>
            cases rb
            cases ra
            exact PySem.W.kat_nil (by unfold ltL at hq; simpa using hq)
          | cons y ys =>
            have ha' : x.canLay0 = true ∧ PyData.canLayAll0 xs = true := by simpa [PyData.canLayAll0] using ha
            have hb' : y.canLay0 = true ∧ PyData.canLayAll0 ys = true := by simpa [PyData.canLayAll0] using hb
            unfold okL at hok
            unfold ltL at hq
            cases ra with
            | cons r rs =>
              cases rb with
              | cons r' rs' =>
                have e1 : decide ((x :: xs).length < (y :: ys).length) = decide (xs.length < ys.length) := by simp
                rw [e1]
                refine PySem.W.kat_cons (eqAt_reads x y A s _ _ _ _ r r' ha'.1 hb'.1 (room_head hu) prog w _ _ ?_)
                refine PySem.W.kat_go (fun e => ?_) (fun e => ?_)
                · rw [if_pos e] at hok hq
                  exact PySem.W.kat_yes (ih ys _ _ _ _ (i + 1) rs rs' ha'.2 hb'.2 hok (room_tail hu) hq)
                · rw [if_neg (by rw [e]; exact Bool.false_ne_true)] at hok hq
                  refine PySem.W.kat_no ?_
                  rw [Bool.false_and]
                  exact PySem.W.kat_one _ _ (rcLt_data x y A s _ _ _ _ r r' ha'.1 hb'.1 hok (room_head hu) prog w _ _ hq)
      exact key xs ys _ _ _ _ 0 h4 k4 ha hb hok hu0 h
end KC
set_option Elab.async false
set_option linter.all false
set_option maxRecDepth 100000
set_option maxHeartbeats 4000000
namespace KD
open PySem PySem.Spec PyProof.Rows L2 KB KC LamX
def LamO (f : Addr) (q : Str) (params : Arguments) (body : Expr) (scope : Scope) (c' : Addr) : HO := .ext fun h => ∃ pm ctv, h.get? f = some (PySem.W.kla_obj "<lambda>" q params body scope [] pm c' ctv)
theorem lam_run {CX : CXT} {P : Program} {w : World} {K : PySem.W.Frag} {mg : Str → Option Value} {base : Heap} {k : Nat} {f c' : Addr} {q : Str} {params : Arguments} {body : Expr} {scope : Scope} {N ps : List Str} (S : FnScope N ps scope)
    {A : Around} {outer : List Env} {s : Shared} {H : Hp} {args : Args} {us : List Value} {vs : List V} {Q : VK} {E : XK} (hr : Room (k + 1) A) (e0 : Env0 P w K mg base A outer s H)
    (hf : H f = some (LamO f q params body scope c')) (hc : H c' = some (CodeO c' q)) (hb : ∀ pm ctv, BindsTo s (PySem.W.kla_fn "<lambda>" q params body scope [] pm (.ref c') ctv) args (ps.zip us)) (r : Vals vs us) (hl : vs.length = ps.length)
    (hbody : Room k (A.deeper (envOfC q scope s.heap.objs.size f (.ref c'))) → ∃ t, PE (cxOf CX P w K mg base N q scope f (.ref c') A outer s H E) body t ∧ t (start N vs) H Q) :
    codeAny (model P w) A (.call (.ref f) args) (CR CX outer P w H s Q E) s := by
  have lim : s.heap.NoLimit := e0.mod.nolimit.keeps fun b o e => (e0.bs b o e).1
  have hkind : ∀ y ∈ ps.zip us, scope.names.lookup y.1 = some .local ∨ (scope.names.lookup y.1 = some .cell ∧ ((cellsFrom (s.heap.objs.size + 1) scope.names []).lookup y.1).isSome = true) := fun ⟨n, v⟩ hy =>
    (S.par n (List.of_mem_zip hy).1).elim .inl fun q => .inr ⟨q, PySem.W.cellsFrom_some _ _ _ (.inl q)⟩
  obtain ⟨⟨pm, ctv, of1⟩, _, _⟩ := e0.hok f _ hf
  obtain ⟨⟨oc, vsc, t, hoc, hdc, hvc⟩, _, _⟩ := e0.hok c' _ hc
  refine PySem.W.kla_callFunE hr.depth of1 rfl S.co S.gen rfl ⟨c', oc, vsc, t, rfl, hoc, hdc, hvc⟩ ?_
  refine hb pm ctv _ _ _ _ ?_
  refine wpAny_newFunctionEnv_cells S.kind hkind fun env he s1 x => ?_
  subst he
  refine ⟨lim.keeps x.toInCall.keep, ?_⟩
  obtain ⟨t, ht, hq⟩ := hbody (hr.deeper _)
  have I : Inv (cxOf CX P w K mg base N q scope f (.ref c') A outer s H E) [] (start N vs) H s1 := inv_start S hr.hd e0 hl r x
  refine PySem.W.kla_codeExpr (wpAny_mono (ht.run [] s1 (start N vs) H Q I hq) (fun v s' hs => ?_) fun e s' hs => hs)
  obtain ⟨v', H', J, rv, q⟩ := hs
  exact ⟨v', H', J.os, J.bare, J.base, J.hok, rv, q⟩
theorem lamO_ok {P : Program} {w : World} {H : Hp} {h : Heap} {f c' : Addr} {q : Str} {params : Arguments} {body : Expr} {scope : Scope} {pm ctv : Value} (e : h.get? f = some (PySem.W.kla_obj "<lambda>" q params body scope [] pm c' ctv)) :
    ObjOk P w H h f (LamO f q params body scope c') := ⟨⟨pm, ctv, e⟩, ⟨_, e⟩, fun h1 h2 ⟨a, b, z⟩ k => ⟨a, b, k _ z⟩⟩
theorem tabs_upd {T : List (Addr × Str)} {H : Hp} {a : Addr} {o : HO} (t : Tabs T H) (n : H a = none) : Tabs T (upd H a o) := t.ext fun b u e => by rw [upd_ne (ne_of_none e n)]; exact e
theorem extN_upd {H : Hp} {a : Addr} {o : HO} (n : H a = none) : ExtN H (upd H a o) := fun b u e _ => by rw [upd_ne (ne_of_none e n)]; exact e
def tLamV (T : List (Addr × Str)) (q : Str) (params : Arguments) (body : Expr) (scope : Scope) : TE := fun _ H Q => Tabs T H ∧ ∀ f c' H1, ExtN H H1 → Tabs T H1 → H1 f = some (LamO f q params body scope c') → H1 c' = some (CodeO c' q) → H f = none → Q (.ref f) H1
section
variable {X : Cx}
theorem pe_lamV {T : List (Addr × Str)} {c P : Addr} {params : Arguments} {body : Expr} {scope : Scope} {pos : Pos} (TB : TabB X.base X.mg c P) (hcode : X.env.code = .ref c) (hm : (P, X.env.qual ++ "<lambda>") ∈ T) (hu : ∀ p ∈ T, p.1 = P → p.2 = X.env.qual ++ "<lambda>")
    (hdef : defaultsOf params X.env = ([], [])) (hfree : ∀ y ∈ scope.names, y.2 ≠ .free) (hclo : cloFrom X.env.cells scope.names [] = []) : PE X (.Lambda params body scope pos) (tLamV T (X.env.qual ++ "<lambda>") params body scope) := by
  refine ⟨fun pins s σ H Q I h => ?_⟩
  obtain ⟨hT, h⟩ := h
  obtain ⟨ps, hP, ht, ha⟩ := hT _ hm
  refine PySem.W.kla_eval hdef ?_
  have bP : s.heap.BuiltinsAt X.mg P := TB.bm.keeps I.bk
  have hP' : s.heap.get? P = some { cls := .none, data := .fields ps } := I.hok P _ hP
  have hcl : closureFor scope X.env = pure [] := by
    have z := closure_ok (env := X.env) (scope := scope) (fun y hy e => absurd e (hfree y hy))
    rw [hclo] at z
    exact z
  have end_ : ∀ (f c' : Addr) (ctv : Value) (H1 : Hp) (h' : Heap) (tk : Nat), Inv X pins σ H1 { s with heap := h', toks := tk } → s.heap.objs.size ≤ h'.objs.size → ExtN H H1 → Tabs T H1 → H1 h'.objs.size = none → H1 c' = some (CodeO c' (X.env.qual ++ "<lambda>")) →
      EP X pins σ Q (.ref h'.objs.size) { s with heap := h'.push (PySem.W.kla_obj "<lambda>" (X.env.qual ++ "<lambda>") params body scope [] ((X.mg "__name__").getD .none) c' ctv), toks := tk } := by
    intro f c' ctv H1 h' tk I1 hz e1 t1 n1 co
    have J : Inv X pins σ (upd H1 h'.objs.size (LamO h'.objs.size (X.env.qual ++ "<lambda>") params body scope c')) { s with heap := h'.push (PySem.W.kla_obj "<lambda>" (X.env.qual ++ "<lambda>") params body scope [] ((X.mg "__name__").getD .none) c' ctv), toks := tk } :=
      I1.laid (t' := tk) (fun b u e => Heap.get?_push_of_some _ e) (Nat.le_refl _) (lamO_ok (Heap.get?_push_size _ rfl))
    refine ⟨.ref h'.objs.size, _, J, rfl, h h'.objs.size c' _ (e1.trans (extN_upd n1)) (tabs_upd t1 n1) upd_same (by rw [upd_ne (ne_of_none co n1)]; exact co) (I.hok.fresh hz)⟩
  cases hc : codeAmong pos ps.toList with
  | none =>
    refine PySem.W.kla_makeFunction (mg := X.mg) (c := c) (P := P) (ps := ps) hcl I.ok.glob (I.mod.glob.keeps I.bk) hcode (TB.code.keeps I.bk) hP' ht hc TB.gP bP fun c' ctv h' tk hx hge hlt hrec htb => ?_
    obtain ⟨c2, oc, vs, t, e2, hoc, hd, hv⟩ := hrec
    cases e2
    have nC : H c' = none := I.hok.fresh hge
    have nPc : P ≠ c' := ne_of_none hP nC
    have I1 := inv_table (t' := tk) (more := #[rawInt pos.line, rawInt pos.col, .ref c']) (h' := h') I hP hx htb hge ⟨oc, vs, t, hoc, hd, hv⟩
    have hE : ExtN H (upd (upd H P (.tbl (ps ++ #[rawInt pos.line, rawInt pos.col, .ref c']))) c' (CodeO c' (X.env.qual ++ "<lambda>"))) := fun b o e n => by
      rw [upd_ne (ne_of_none e nC), upd_ne (fun z => n ps (Option.some.inj (e.symm.trans (by rw [z]; exact hP))))]
      exact e
    have eL : (ps ++ #[rawInt pos.line, rawInt pos.col, .ref c']).toList = ps.toList ++ [rawInt pos.line, rawInt pos.col, .ref c'] := by simp
    refine end_ h'.objs.size c' ctv _ h' tk I1 (Nat.le_trans hge (Nat.le_of_lt hlt)) hE (fun p hp => ?_) ?_ upd_same
    · by_cases hb : p.1 = P
      · rw [hu p hp hb, hb]
        refine ⟨_, by rw [upd_ne nPc, upd_same], by rw [eL]; exact PySem.TriplesOk_snoc _ _ _ _ ht, fun p' cv hcv => ?_⟩
        rw [eL] at hcv
        rcases among_app _ ht hcv with z | z
        · obtain ⟨c0, e1, e2⟩ := ha p' cv z
          exact ⟨c0, e1, hE _ _ e2 codeO_ne⟩
        · exact ⟨c', z, upd_same⟩
      · obtain ⟨ps', a1, a2, a3⟩ := hT p hp
        refine ⟨ps', by rw [upd_ne (ne_of_none a1 nC), upd_ne hb]; exact a1, a2, fun p' cv hcv => ?_⟩
        obtain ⟨c0, e1, e2⟩ := a3 p' cv hcv
        exact ⟨c0, e1, hE _ _ e2 codeO_ne⟩
    · have n1 : h'.objs.size ≠ c' := Nat.ne_of_gt hlt
      have n2 : h'.objs.size ≠ P := Nat.ne_of_gt (Nat.lt_of_lt_of_le (Heap.lt_size hP') (Nat.le_trans hge (Nat.le_of_lt hlt)))
      rw [upd_ne n1, upd_ne n2]
      exact I.hok.fresh (Nat.le_trans hge (Nat.le_of_lt hlt))
  | some cv =>
    obtain ⟨c', e, hco⟩ := ha pos cv hc
    subst e
    refine PySem.W.kla_makeFunctionHit (mg := X.mg) (c := c) (P := P) (ps := ps) hcl I.ok.glob (I.mod.glob.keeps I.bk) hcode (TB.code.keeps I.bk) hP' ht hc bP fun ctv h' tk hx hsz => ?_
    exact end_ h'.objs.size c' ctv H h' tk (I.kept (t' := tk) hx) hsz (ExtN.refl H) hT (I.hok.fresh hsz) hco
end
end KD
set_option Elab.async false
set_option linter.all false
set_option maxRecDepth 100000
set_option maxHeartbeats 4000000
namespace KS
open PySem PySem.Spec PyProof.Rows L2 KB KC KD LamX PySem.SeqAt SrtO Srt
def Ex (H H' : Hp) : Prop := ∀ b o, H b = some o → H' b = some o
theorem Ex.refl (H : Hp) : Ex H H := fun _ _ h => h
theorem Ex.trans {H H1 H2 : Hp} (a : Ex H H1) (b : Ex H1 H2) : Ex H H2 := fun c o h => b c o (a c o h)
theorem Ex.upd {H : Hp} {a : Addr} {o : HO} (n : H a = none) : Ex H (upd H a o) := fun b u e => by rw [upd_ne (ne_of_none e n)]; exact e
theorem Ex.rd {H H' : Hp} {a : Addr} {u : HO} (e : Ex H H') (h : Rd H a u) : Rd H' a u := h.elim (fun h => .inl (e _ _ h)) fun ⟨o, h⟩ => .inr ⟨o, e _ _ h⟩
mutual
theorem dp_ex {K : PySem.W.Frag} {H H' : Hp} (e : Ex H H') : ∀ {v : V} {d : PyData}, Dp K H v d → Dp K H' v d
  | _, _, .non => .non
  | _, _, .bl b => .bl b
  | _, _, .int i => .int i
  | _, _, .str x => .str x
  | _, _, .lst h t => .lst (h.elim (fun h => .inl (e.rd h)) .inr) (dpAll_ex e t)
  | _, _, .tup h t => .tup (h.elim (fun h => .inl (e.rd h)) .inr) (dpAll_ex e t)
theorem dpAll_ex {K : PySem.W.Frag} {H H' : Hp} (e : Ex H H') : ∀ {vs : List V} {ds : List PyData}, DpAll K H vs ds → DpAll K H' vs ds
  | _, _, .nil => .nil
  | _, _, .cons h t => .cons (dp_ex e h) (dpAll_ex e t)
end
def KeyCall (X : Cx) (f : Addr) (H : Hp) (kvs : List (List Key × V)) (kd : List Key × V → List PyData) : Prop :=
  ∀ x ∈ kvs, ∀ (t q : Addr) (H1 : Hp), Ex H H1 → H1 t = some (.tup [.ref q, x.2]) → H1 q = some (.tup (x.1.map kV)) → ∀ (pins : List (Addr × Obj)) (σ : L2.St) (s1 : Shared) (R : Value → Shared → Prop), Inv X pins σ H1 s1 →
    (∀ y u H2 s2, Inv X pins σ H2 s2 → Ex H1 H2 → RelV y u → Dp X.K H2 y (.tuple (kd x)) → R u s2) → wpAny (model X.prog X.w) X.A.in1.in1 (call (.ref f) [.ref t]) R (fun _ _ => False) s1
section
variable {X : Cx} {pins : List (Addr × Obj)} {σ : L2.St}
theorem lst_raw {H : Hp} {s : Shared} {a : Addr} {ys : List V} (I : Inv X pins σ H s) (h : H a = some (.lst ys)) : ys.length ≤ sizeLine ∧ ∃ (its : List Value) (n : Nat), Vals ys its ∧ s.heap.get? a = some (seqObj "list" its.toArray n) := I.hok a _ h
theorem lst_write {H : Hp} {s : Shared} {a : Addr} {ys zs : List V} {us vs : List Value} {n tk : Nat} (I : Inv X pins σ H s) (h : H a = some (.lst ys)) (hr : s.heap.get? a = some (seqObj "list" us.toArray n)) (hz : zs.length ≤ sizeLine) (rz : Vals zs vs) (g : Array Value → Array Value) (hg : g us.toArray = vs.toArray) :
    Inv X pins σ (upd H a (.lst zs)) { s with heap := s.heap.update a (Obj.mapSeq g), toks := tk } := by
  have e := get?_update_seq hr g
  rw [hg] at e
  exact I.write (t' := tk) (x := a) (e := a) (by rw [h]; exact True.intro) (.inl rfl) (fun b u hb q => (Heap.get?_update_ne _ _ _ _ hb).trans q) ⟨_, e⟩ ⟨hz, vs, _, rz, e⟩
theorem swo_rank {α : Type} (r : α → Int) : Swo fun p q : α => decide (r p < r q) :=
  ⟨fun x y h => by have h := of_decide_eq_true h; exact decide_eq_false (by omega), fun x y z h1 h2 => by have h1 := of_decide_eq_false h1; have h2 := of_decide_eq_false h2; exact decide_eq_false (by omega)⟩
def rankOf (as : List Addr) (kvs : List (List Key × V)) (ρ : List Key × V → Int) (v : Value) : Int :=
  match v with
  | .ref t => match (as.zip kvs).find? (fun z => decide (z.1 = t)) with
    | some z => ρ z.2
    | none => 0
  | _ => 0
theorem find_zip {as : List Addr} {kvs : List (List Key × V)} (nd : as.Nodup) : ∀ {j : Nat} {t : Addr} {x : List Key × V}, as[j]? = some t → kvs[j]? = some x → (as.zip kvs).find? (fun z => decide (z.1 = t)) = some (t, x) := by
  induction as generalizing kvs with
  | nil => intro j t x h; simp at h
  | cons b as ih =>
    intro j t x h1 h2
    rw [List.nodup_cons] at nd
    cases kvs with
    | nil => simp at h2
    | cons y kvs =>
      cases j with
      | zero =>
        simp only [List.getElem?_cons_zero, Option.some.injEq] at h1 h2
        subst h1 h2
        simp
      | succ j =>
        simp only [List.getElem?_cons_succ] at h1 h2
        have hne : ¬ b = t := fun z => nd.1 (by rw [z]; exact List.mem_of_getElem? h1)
        rw [List.zip_cons_cons, List.find?_cons_of_neg (by simpa using hne)]
        exact ih nd.2 h1 h2
theorem rank_at {as : List Addr} {kvs : List (List Key × V)} {ρ : List Key × V → Int} (nd : as.Nodup) {j : Nat} {t : Addr} {x : List Key × V} (h1 : as[j]? = some t) (h2 : kvs[j]? = some x) : rankOf as kvs ρ (.ref t) = ρ x := by
  unfold rankOf
  simp only [find_zip nd h1 h2]
end
mutual
def pureD : PyData → Bool
  | .none => true
  | .bool _ => true
  | .int _ => true
  | .str _ => true
  | .tuple xs => pureL xs
  | _ => false
def pureL : List PyData → Bool
  | [] => true
  | x :: xs => pureD x && pureL xs
end
mutual
theorem dp_tups {K : PySem.W.Frag} {H H' : Hp} (e : ∀ b xs, Rd H b (.tup xs) → Rd H' b (.tup xs)) : ∀ {v : V} {d : PyData}, pureD d = true → Dp K H v d → Dp K H' v d
  | _, _, _, .non => .non
  | _, _, _, .bl b => .bl b
  | _, _, _, .int i => .int i
  | _, _, _, .str x => .str x
  | _, _, h, .lst _ _ => by unfold pureD at h; cases h
  | _, _, h, .tup a t => .tup (a.elim (fun a => .inl (e _ _ a)) .inr) (dpAll_tups e (by unfold pureD at h; exact h) t)
theorem dpAll_tups {K : PySem.W.Frag} {H H' : Hp} (e : ∀ b xs, Rd H b (.tup xs) → Rd H' b (.tup xs)) : ∀ {vs : List V} {ds : List PyData}, pureL ds = true → DpAll K H vs ds → DpAll K H' vs ds
  | _, _, _, .nil => .nil
  | _, _, h, .cons a t => by
    have h2 := h
    unfold pureL at h2
    rw [Bool.and_eq_true] at h2
    exact .cons (dp_tups e h2.1 a) (dpAll_tups e h2.2 t)
end
theorem kat_of {h : Heap} : ∀ its : List Value, (∀ u ∈ its, ∃ l r as, Reads h u (.tuple (.tuple l :: r)) as) → ∃ fs : List Value, PySem.W.KatTups h its fs ∧ fs.length = its.length ∧ ∀ v ∈ fs, ∃ (b : Addr) (o : Obj), v = .ref b ∧ h.get? b = some o ∧ o.cls = .type "tuple"
  | [], _ => ⟨[], PySem.W.KatTups.nil, rfl, fun v hv => by simp at hv⟩
  | u :: its, hr => by
    obtain ⟨fs, k1, k2, k3⟩ := kat_of its fun u' hu' => hr u' (List.mem_cons_of_mem _ hu')
    obtain ⟨l, r, as, q⟩ := hr u List.mem_cons_self
    cases q with
    | @tuple a o vs n _ as₁ h1 h2 h3 h4 =>
      generalize ev : vs.toList = vl at h4
      cases h4 with
      | @cons v0 vr _ _ as1 as2 r0 rr =>
        cases r0 with
        | @tuple b ob vs' n' _ as₂ g1 g2 g3 g4 =>
          refine ⟨.ref b :: fs, PySem.W.KatTups.cons h1 h2 h3 (by rw [← Array.getElem?_toList, ev]; rfl) k1, by rw [List.length_cons, List.length_cons, k2], fun v hv => ?_⟩
          rcases List.mem_cons.mp hv with e | hv
          · exact ⟨b, ob, e, g1, g2⟩
          · exact k3 v hv
section
variable {X : Cx} {pins : List (Addr × Obj)} {σ : L2.St}
theorem sort_body {f D : Addr} {H : Hp} {s : Shared} {h2 : Heap} {tk : Nat} {kvs : List (List Key × V)} {xs : List (List Key × Addr × Value)} {es : Array DictEntry} {as : List Addr} {kd : List Key × V → List PyData} {ρ : List Key × V → Int} {P : PySem.Fin → Shared → Prop} {E : Value → Shared → Prop}
    (I : Inv X pins σ H s) (hk : ∀ b o, s.heap.get? b = some o → h2.get? b = some o) (hD : h2.get? D = some (seqObj "list" (as.map Value.ref).toArray 0)) (hsD : s.heap.objs.size ≤ D)
    (rel : KT H kvs xs) (hes : es.toList = xs.map (entryOfKey (tupleKind (mixKind X.prog X.w)))) (hl : as.length = es.size) (hG : DT.Made es s.heap.objs.size h2 as) (hz : kvs.length ≤ sizeLine)
    (hsh : ∀ x ∈ kvs, shaped (.tuple (kd x)) = true) (hpu : ∀ x ∈ kvs, pureL (kd x) = true) (hft : ∀ x ∈ kvs, ∃ l r, kd x = .tuple l :: r) (hok : ∀ x ∈ kvs, ∀ y ∈ kvs, okL (kd x) (kd y) = true) (hρ : ∀ x ∈ kvs, ∀ y ∈ kvs, ltL (kd x) (kd y) = decide (ρ x < ρ y))
    (hu : X.A.units + 66 < cLine) (hcall : KeyCall X f H kvs kd)
    (q : ∀ (H' : Hp) (s' : Shared) (zs : List (Addr × (List Key × V))), Inv X pins σ H' s' → Ex H H' → H D = none → H' D = some (.lst (zs.map fun z => V.ref z.1)) → (zs.map (·.2)).Perm kvs → (zs.map (·.2)).Pairwise (fun x y => ¬ ρ y < ρ x) →
      (∀ z ∈ zs, ∃ q, H' z.1 = some (.tup [.ref q, z.2.2]) ∧ H' q = some (.tup (z.2.1.map kV))) → P (.done (.ret .none)) s') :
    wpAny (model X.prog X.w) X.A.in1.in1 (ksk_tree D (.ref f) false) P E { s with heap := h2, toks := tk } := by
  have l1 : kvs.length = xs.length := Paired.length rel
  have l2 : es.size = xs.length := size_of_entries hes
  have lak : as.length = kvs.length := by omega
  have nd : as.Nodup := List.Pairwise.imp (fun h => Nat.ne_of_lt h) hG.rise
  have szl : (as.map Value.ref).toArray.size = kvs.length := by rw [List.size_toArray, List.length_map, lak]
  have asz : (as.map Value.ref).length ≤ sizeLine := by rw [List.length_map]; omega
  have nD : H D = none := I.hok.fresh hsD
  have asD : ∀ b ∈ as, b ≠ D ∧ b < h2.objs.size := fun b hb => by
    obtain ⟨j, hj⟩ := List.mem_iff_getElem?.mp hb
    obtain ⟨_, _, e⟩ := hG.pairs j b hj
    refine ⟨fun z => ?_, Heap.lt_size e⟩
    rw [z, hD] at e
    exact absurd (Value.type.inj (congrArg Obj.cls (Option.some.inj e))) (by decide)
  unfold ksk_tree
  refine wpAny_bind (listItems_at hD rfl ?_)
  refine wpAny_bind (listUpdate_at hD rfl ?_ (by rw [szl]; exact hz) (Nat.zero_le _))
  obtain ⟨e1, ho1⟩ : ∃ e1, (h2.update D (Obj.mapSeq fun _ => (#[] : Array Value))).get? D = some (seqObj "list" #[] e1) := ⟨_, get?_update_seq hD fun _ => #[]⟩
  refine wpAny_bind (seqEpoch_at ho1 rfl ?_)
  refine wpAny_bind (wpAny_newTuple ?_ asz)
  refine wpAny_bind (wpAny_newList ?_ (Nat.zero_le _))
  refine wpAny_holding ?_
  generalize hh4 : (h2.update D (Obj.mapSeq fun _ => (#[] : Array Value))).push (seqObj "tuple" (as.map Value.ref).toArray 0) = h4
  have z4 : h4.objs.size = h2.objs.size + 1 := by rw [← hh4, size_push', Heap.size_update]
  have keep4 : ∀ b o, b ≠ D → h2.get? b = some o → h4.get? b = some o := fun b o hb e => by
    rw [← hh4]
    exact Heap.get?_push_of_some _ ((Heap.get?_update_ne _ _ _ _ hb).trans e)
  have hD4 : h4.get? D = some (seqObj "list" #[] e1) := by rw [← hh4]; exact Heap.get?_push_of_some _ ho1
  have I1 : Inv X pins σ (upd H h4.objs.size (.lst [])) { s with heap := h4.push (seqObj "list" #[] 0), toks := tk } :=
    I.laid (t' := tk) (fun b o e => Heap.get?_push_of_some _ (keep4 b o (fun z => by rw [z] at e; exact absurd (Heap.lt_size e) (Nat.not_lt.mpr hsD)) (hk b o e))) (by rw [z4]; exact Nat.le_succ_of_le (Nat.le_trans hsD (Nat.le_of_lt (Heap.lt_size hD))))
      ⟨Nat.zero_le _, [], 0, .nil, Heap.get?_push_size _ rfl⟩
  have hkn : H h4.objs.size = none := I.hok.fresh (by rw [z4]; exact Nat.le_succ_of_le (Nat.le_trans hsD (Nat.le_of_lt (Heap.lt_size hD))))
  have hDk : D ≠ h4.objs.size := by rw [z4]; exact Nat.ne_of_lt (Nat.lt_succ_of_lt (Heap.lt_size hD))
  have hG5 : DT.Made es s.heap.objs.size (h4.push (seqObj "list" #[] 0)) as := ⟨hG.rise, hG.above, fun j b hj => by
    obtain ⟨e, he, hg⟩ := hG.pairs j b hj
    exact ⟨e, he, Heap.get?_push_of_some _ (keep4 b _ (asD b (List.mem_of_getElem? hj)).1 hg)⟩⟩
  obtain ⟨H2, I2, g2, pp, off⟩ := made_tracked (h' := h4.push (seqObj "list" #[] 0)) (tk := tk) I rel hes hl hG5 I1 (Ex.upd hkn) fun b hb => by
    rw [upd_ne (by rw [z4]; exact Nat.ne_of_lt (Nat.lt_succ_of_lt (asD b hb).2))]
    exact I.hok.fresh (Nat.le_of_lt (hG.above b hb))
  have exH2 : Ex H H2 := (Ex.upd hkn).trans g2
  have hkS2 : H2 h4.objs.size = some (.lst []) := g2 _ _ upd_same
  have hD2 : H2 D = none := by rw [off D fun z => (asD D z).1 rfl, upd_ne hDk]; exact nD
  have fD : ∀ H', H' D = none → FpOk X pins H' D := fun H' n => I.fpOk hsD n
  have I3 : Inv X (pins ++ [(D, seqObj "list" #[] e1)]) σ H2 { s with heap := h4.push (seqObj "list" #[] 0), toks := tk } := I2.pins_of fun p hp => by
    rcases List.mem_append.mp hp with hp | hp
    · exact I2.pin p (List.mem_append_right _ hp)
    · rw [List.mem_singleton.mp hp]
      obtain ⟨_, f1, f2, _⟩ := fD H2 hD2
      exact ⟨Heap.get?_push_of_some _ hD4, hD2, f1, f2, fun v z => by cases z⟩
  have pget : ∀ {j : Nat} {t : Addr}, as[j]? = some t → ∃ x q, kvs[j]? = some x ∧ H2 t = some (.tup [.ref q, x.2]) ∧ H2 q = some (.tup (x.1.map kV)) := fun {j t} hj => by
    obtain ⟨x, hx, q, q1, q2⟩ := LiI.paired_get pp hj
    exact ⟨x, q, hx, q1, q2⟩
  unfold ksk_rest
  refine wpAny_bind (wpAny_rule ?_)
  first
    | rw [List.forIn_toArray]
    | (rw [← Array.forIn_toList]; simp only [List.toList_toArray])
  refine wpAny_bind (ksk_fold (fun i s' => ∃ (Hi : Hp) (ys : List V), Inv X (pins ++ [(D, seqObj "list" #[] e1)]) σ Hi s' ∧ (∀ b o, b ≠ h4.objs.size → H2 b = some o → Hi b = some o) ∧ Hi h4.objs.size = some (.lst ys) ∧ ys.length = i ∧
      ∀ (j : Nat) (y : V), ys[j]? = some y → ∃ x, kvs[j]? = some x ∧ Dp X.K Hi y (.tuple (kd x))) (as.map Value.ref) 0 _ ⟨H2, [], I3, fun b o _ e => e, hkS2, rfl, fun j y h => by simp at h⟩ ?step ?done)
  case step =>
    rintro j v s' hv ⟨Hi, ys, Ii, ei, hki, hlen, hdp⟩
    simp only [Nat.zero_add] at hlen ⊢
    rw [List.getElem?_map] at hv
    obtain ⟨t, ht, rfl⟩ := Option.map_eq_some_iff.mp hv
    obtain ⟨x, qa, hx, q1, q2⟩ := pget ht
    have nk : ∀ {b : Addr} {vs : List V}, H2 b = some (.tup vs) → b ≠ h4.objs.size := fun e z => by rw [z, hkS2] at e; cases e
    have hxm : x ∈ kvs := List.mem_of_getElem? hx
    refine wpAny_bind (wpAny_attempt (wpAny_mono (hcall x hxm t qa Hi (fun b o e => ei b o (fun z => by rw [z, hkn] at e; cases e) (exH2 b o e)) (ei _ _ (nk q1) q1) (ei _ _ (nk q2) q2) _ _ s'
      (fun u s'' => ∃ y H3, Inv X (pins ++ [(D, seqObj "list" #[] e1)]) σ H3 s'' ∧ Ex Hi H3 ∧ RelV y u ∧ Dp X.K H3 y (.tuple (kd x))) Ii fun y u H3 s2 J e3 ry dy => ⟨y, H3, J, e3, ry, dy⟩) (fun u s'' he => ?_) fun _ _ hF => hF.elim))
    obtain ⟨y, H3, J, e3, ry, dy⟩ := he
    have hk3 := e3 _ _ hki
    obtain ⟨hzy, its, n, ri, hraw⟩ := lst_raw J hk3
    have jl : j < as.length := (List.getElem?_eq_some_iff.mp ht).1
    have il : its.length = ys.length := ri.length.symm
    try dsimp only
    refine wpAny_bind (listUpdate_at hraw rfl ?_ (by rw [List.size_toArray]; omega) (by rw [Array.size_push, List.size_toArray]; omega))
    refine wpAny_pure ⟨rfl, _, ys ++ [y], lst_write (tk := s''.toks) J hk3 hraw (by rw [List.length_append, List.length_singleton]; omega) (ri.append (.cons ry .nil)) (·.push u) (by simp), fun b o hb e => ?_, upd_same, by rw [List.length_append, List.length_singleton]; omega, fun i z hz' => ?_⟩
    · rw [upd_ne hb]
      exact e3 _ _ (ei b o hb e)
    · have mono : ∀ {v : V} {x : List Key × V}, x ∈ kvs → Dp X.K H3 v (.tuple (kd x)) → Dp X.K (upd H3 h4.objs.size (.lst (ys ++ [y]))) v (.tuple (kd x)) := fun {v x} hm hd =>
        dp_tups (fun b vs r => r.elim (fun r => .inl (by rw [upd_ne (ne_of r hk3 (fun z => by cases z))]; exact r)) fun ⟨o, r⟩ => .inr ⟨o, by rw [upd_ne (ne_of r hk3 (fun z => by cases z))]; exact r⟩) (by unfold pureD; exact hpu x hm) hd
      by_cases hi : i < ys.length
      · rw [List.getElem?_append_left hi] at hz'
        obtain ⟨x', hx', hd'⟩ := hdp i z hz'
        exact ⟨x', hx', mono (List.mem_of_getElem? hx') (dp_ex e3 hd')⟩
      · rw [List.getElem?_append_right (by omega)] at hz'
        have e0 : i - ys.length = 0 := by
          have := (List.getElem?_eq_some_iff.mp hz').1
          simp at this
          omega
        rw [e0] at hz'
        have e4 : y = z := by simpa using hz'
        have e5 : i = j := by omega
        rw [← e4, e5]
        exact ⟨x, hx, mono hxm dy⟩
  case done =>
    rintro s' ⟨Hi, ys, Ii, ei, hki, hlen, hdp⟩
    rw [List.length_map, Nat.zero_add] at hlen
    obtain ⟨_, its, n, ri, hraw⟩ := lst_raw Ii hki
    have il : its.length = ys.length := ri.length.symm
    try dsimp only
    refine wpAny_bind (listItems_at hraw rfl ?_)
    have pairsL : (its.toArray.zip (as.map Value.ref).toArray).toList = its.zip (as.map Value.ref) := by
      first
        | simp
        | rfl
    have mem_at : ∀ p ∈ its.zip (as.map Value.ref), ∃ (j : Nat) (t : Addr) (x : List Key × V), p.2 = .ref t ∧ as[j]? = some t ∧ kvs[j]? = some x ∧ its[j]? = some p.1 := fun p hp => by
      obtain ⟨j, hj⟩ := List.mem_iff_getElem?.mp hp
      obtain ⟨j1, j2⟩ := List.getElem?_zip_eq_some.mp hj
      rw [List.getElem?_map] at j2
      obtain ⟨t, ht, e⟩ := Option.map_eq_some_iff.mp j2
      obtain ⟨x, _, hx, _⟩ := pget ht
      exact ⟨j, t, x, e.symm, ht, hx, j1⟩
    have tail : ∀ st' : SortSt, Srtd (fun p q : Keyed => decide (rankOf as kvs ρ p.2 < rankOf as kvs ρ q.2)) (arrOf st').toList → Stb (fun p q : Keyed => decide (rankOf as kvs ρ p.2 < rankOf as kvs ρ q.2)) (arrOf st').toList (its.zip (as.map Value.ref)) → failedOf st' = none →
        wpAny (model X.prog X.w) X.A.in1.in1 (ksk_tail D false e1 (.ref h4.objs.size) st') P E s' := by
      intro st' hs hb hf
      have out_perm : ((arrOf st').toList.map (·.2)).Perm (as.map Value.ref) := by
        have z := hb.perm.map (·.2)
        rw [List.map_snd_zip (by rw [List.length_map]; omega)] at z
        exact z
      have ezip : (as.zip kvs).map (fun z => Value.ref z.1) = as.map Value.ref := by
        rw [show (fun z : Addr × (List Key × V) => Value.ref z.1) = Value.ref ∘ Prod.fst from rfl, ← List.map_map, List.map_fst_zip (by omega)]
      obtain ⟨zs, pz, ez⟩ := perm_lift (fun z : Addr × (List Key × V) => Value.ref z.1) out_perm (as.zip kvs) ezip
      have zmem : ∀ z ∈ zs, ∃ j : Nat, as[j]? = some z.1 ∧ kvs[j]? = some z.2 := fun z hz => by
        obtain ⟨j, hj⟩ := List.mem_iff_getElem?.mp (pz.mem_iff.mp hz)
        exact ⟨j, List.getElem?_zip_eq_some.mp hj⟩
      have zlen : zs.length = kvs.length := by
        rw [pz.length_eq, List.length_zip]
        omega
      have osz : ((arrOf st').map (·.2)).size = kvs.length := by
        have z := out_perm.length_eq
        rw [List.length_map, Array.length_toList, List.length_map] at z
        rw [Array.size_map]
        omega
      have oeq : ((arrOf st').map (·.2)).toList = zs.map fun z => Value.ref z.1 := by rw [Array.toList_map, ← ez]
      have J1 := lst_write (tk := s'.toks) (zs := []) (vs := []) Ii hki hraw (Nat.zero_le _) .nil (fun _ => (#[] : Array Value)) rfl
      obtain ⟨pD, nD5, _⟩ := J1.pin (D, seqObj "list" #[] e1) (List.mem_append_right _ (List.mem_append_right _ (List.mem_singleton.mpr rfl)))
      unfold ksk_tail
      try dsimp only
      refine wpAny_bind (listUpdate_at hraw rfl ?_ (by rw [List.size_toArray]; omega) (Nat.zero_le _))
      refine wpAny_bind (wpAny_letGo ?_)
      refine wpAny_bind (seqEpoch_at pD rfl ?_)
      refine wpAny_bind (listUpdate_at pD rfl ?_ (Nat.zero_le _) (by simp only [Bool.false_eq_true, if_false]; rw [osz]; omega))
      rw [hf]
      simp only [bne_self_eq_false, Bool.false_eq_true, if_false]
      refine wpAny_pure ?_
      have J2 := J1.pins_of (pins' := pins) fun p hp => J1.pin p (List.mem_append_right _ (List.mem_append_left _ hp))
      have eD := get?_update_seq pD fun _ => (arrOf st').map (·.2)
      have dk : D ≠ h4.objs.size := hDk
      have J3 := J2.take (t' := s'.toks) (o := .lst (zs.map fun z => V.ref z.1)) (h' := (s'.heap.update h4.objs.size (Obj.mapSeq fun _ => (#[] : Array Value))).update D (Obj.mapSeq fun _ => (arrOf st').map (·.2))) (fun b u hb e => (Heap.get?_update_ne _ _ _ _ hb).trans e) (fD _ nD5)
        ⟨by rw [List.length_map]; omega, zs.map (fun z => Value.ref z.1), _, vals_maps (fun z : Addr × (List Key × V) => V.ref z.1) (fun z => Value.ref z.1) zs fun _ _ => rfl, by rw [← oeq, Array.toArray_toList]; exact eD⟩
      refine q _ _ zs J3 (fun b o e => ?_) nD upd_same ?_ ?_ fun z hz' => ?_
      · rw [upd_ne (ne_of_none e nD), upd_ne (ne_of_none e hkn)]
        exact ei b o (ne_of_none e hkn) (exH2 b o e)
      · have z := pz.map (·.2)
        rw [List.map_snd_zip (by omega)] at z
        exact z
      · have s1 : (zs.map fun z => Value.ref z.1).Pairwise (fun v u => decide (rankOf as kvs ρ u < rankOf as kvs ρ v) = false) := by
          rw [ez, List.pairwise_map]
          exact hs
        rw [List.pairwise_map] at s1 ⊢
        refine List.Pairwise.imp_of_mem (fun {x y} hx hy h => ?_) s1
        obtain ⟨j, j1, j2⟩ := zmem x hx
        obtain ⟨i, i1, i2⟩ := zmem y hy
        rw [rank_at nd j1 j2, rank_at nd i1 i2] at h
        exact of_decide_eq_false h
      · obtain ⟨j, j1, j2⟩ := zmem z hz'
        obtain ⟨x, qa, hx, q1, q2⟩ := pget j1
        have e : x = z.2 := Option.some.inj (hx.symm.trans j2)
        rw [e] at q1 q2
        have up : ∀ {b : Addr} {vs : List V}, H2 b = some (.tup vs) → (upd (upd Hi h4.objs.size (.lst [])) D (.lst (zs.map fun z => V.ref z.1))) b = some (.tup vs) := fun {b vs} h => by
          rw [upd_ne (fun z => by rw [z, hD2] at h; cases h), upd_ne (fun z => by rw [z, hkS2] at h; cases h)]
          exact ei _ _ (fun z => by rw [z, hkS2] at h; cases h) h
        exact ⟨qa, up q1, up q2⟩
    unfold ksk_end
    simp only [Bool.false_eq_true, if_false]
    by_cases h2s : (as.map Value.ref).toArray.size < 2
    · rw [if_pos h2s, if_pos h2s]
      refine wpAny_bind (wpAny_pure ?_)
      rw [StateT.run_pure]
      refine wpAny_bind (wpAny_pure ?_)
      try dsimp only
      refine tail (SortSt.mk' general' (its.toArray.zip (as.map Value.ref).toArray) #[] 7 none) ?_ ?_ rfl
      · show List.Pairwise _ (its.toArray.zip (as.map Value.ref).toArray).toList
        rw [pairsL]
        have ll : (its.zip (as.map Value.ref)).length < 2 := by
          rw [List.length_zip, List.length_map]
          rw [szl] at h2s
          omega
        match h : its.zip (as.map Value.ref), ll with
        | [], _ => exact List.Pairwise.nil
        | [v], _ => exact List.pairwise_singleton _ _
        | _ :: _ :: l, h3 => exact absurd h3 (by rw [List.length_cons, List.length_cons]; omega)
      · show Stb _ (its.toArray.zip (as.map Value.ref).toArray).toList _
        rw [pairsL]
        exact Stb.refl _
    · rw [if_neg h2s, if_neg h2s]
      have rd : ∀ {j : Nat} {u : Value}, its[j]? = some u → ∃ x as', kvs[j]? = some x ∧ Reads s'.heap u (.tuple (kd x)) as' := fun {j u} hj => by
        have jl : j < ys.length := by
          have := (List.getElem?_eq_some_iff.mp hj).1
          omega
        obtain ⟨x, hx, hd⟩ := hdp j ys[j] (List.getElem?_eq_getElem jl)
        obtain ⟨u', hu', ru⟩ := ri.get (List.getElem?_eq_getElem jl)
        have e : u' = u := Option.some.inj (hu'.symm.trans hj)
        rw [e] at ru
        obtain ⟨as', r⟩ := Dp.reads Ii _ _ _ hd ru
        exact ⟨x, as', hx, r⟩
      have cmp : Cmp X.prog X.w X.A.in1.in1 s' (tuples' false) (fun p => p ∈ its.zip (as.map Value.ref)) (fun p q : Keyed => decide (rankOf as kvs ρ p.2 < rankOf as kvs ρ q.2)) := by
        intro p q hp hq
        obtain ⟨j, t, x, e1, h1, h2, h3⟩ := mem_at p hp
        obtain ⟨i, t', x', e1', h1', h2', h3'⟩ := mem_at q hq
        obtain ⟨y, bs, hy, r⟩ := rd h3
        obtain ⟨y', bs', hy', r'⟩ := rd h3'
        have ey : y = x := Option.some.inj (hy.symm.trans h2)
        have ey' : y' = x' := Option.some.inj (hy'.symm.trans h2')
        rw [ey] at r
        rw [ey'] at r'
        have m := List.mem_of_getElem? h2
        have m' := List.mem_of_getElem? h2'
        refine keyLt_data r r' (canLay_of_shaped (hsh x m)) (canLay_of_shaped (hsh x' m')) (hok x m x' m') (room_of_shaped (hsh x m) (by show X.A.units + 1 + 1 + 64 < cLine; omega)) ⟨rfl, ?_⟩
        show ltL (kd x) (kd x') = decide (rankOf as kvs ρ p.2 < rankOf as kvs ρ q.2)
        rw [e1, e1', rank_at nd h1 h2, rank_at nd h1' h2', hρ x m x' m']
      have kk : ∀ (R : SortKind → Shared → Prop), R (tuples' false) s' → wpAny (model X.prog X.w) X.A.in1.in1 (keyKind' its.toArray) R E s' := by
        intro R hR
        obtain ⟨fs, k1, k2, k3⟩ := kat_of (h := s'.heap) its fun u hu' => by
          obtain ⟨j, hj⟩ := List.mem_iff_getElem?.mp hu'
          obtain ⟨x, as', hx, r⟩ := rd hj
          obtain ⟨l, r', e⟩ := hft x (List.mem_of_getElem? hx)
          rw [e] at r
          exact ⟨l, r', as', r⟩
        refine PySem.W.kat_kind (T := .type "tuple") k1 (by rw [szl] at h2s; omega) (fun v hv => ?_) (by decide) (by
          have z : (Value.type "tuple" != Value.type "tuple") = false := by decide
          rw [z]
          exact hR)
        obtain ⟨b, o, rfl, ho, hc⟩ := k3 v hv
        rw [← hc]
        exact (PySem.W.Looks.ld ho).andThen .now
      refine wpAny_bind (kk _ ?_)
      refine wpAny_bind (wpAny_mono (wpS_sortO (st0 := SortSt.mk' (tuples' false) (its.toArray.zip (as.map Value.ref).toArray) #[] 7 none)
        (Q := fun _ st' => Srtd (fun p q : Keyed => decide (rankOf as kvs ρ p.2 < rankOf as kvs ρ q.2)) (arrOf st').toList ∧ Stb (fun p q : Keyed => decide (rankOf as kvs ρ p.2 < rankOf as kvs ρ q.2)) (arrOf st').toList (its.zip (as.map Value.ref)) ∧ failedOf st' = none) (swo_rank fun p : Keyed => rankOf as kvs ρ p.2) cmp rfl
        (fun p hp => by
          have hp : p ∈ (its.toArray.zip (as.map Value.ref).toArray).toList := hp
          rw [pairsL] at hp
          exact hp) rfl rfl fun st' a1 a2 a3 => ⟨a1, by
            have a2 : Stb _ (arrOf st').toList (its.toArray.zip (as.map Value.ref).toArray).toList := a2
            rw [pairsL] at a2
            exact a2, a3⟩) ?_ fun _ _ e => e)
      rintro ⟨⟨⟩, st'⟩ s'' ⟨rfl, a1, a2, a3⟩
      try dsimp only
      exact tail st' a1 a2 a3
end
end KS
set_option Elab.async false
set_option linter.all false
set_option maxRecDepth 100000
set_option maxHeartbeats 2000000
namespace TL
open PySem PySem.Spec PyProof.Rows L2 KB KC KD LamX
def Beh (P : Program) (w : World) (K : PySem.W.Frag) (mg : Str → Option Value) (base : Heap) (k : Nat) (f c' : Addr) (q : Str) (body : Expr) (scope : Scope) (N : List Str) (H : Hp) (Q : VK) (E1 : XK) : Prop :=
  ∀ E : XK, (∀ cls d H', E1 cls d H' → E cls d H') → ∀ (A : Around) (outer : List Env) (s : Shared), Room k (A.deeper (envOfC q scope s.heap.objs.size f (.ref c'))) →
    ∃ t, PE (cxOf (L2.CX P w) P w K mg base N q scope f (.ref c') A outer s H E) body t ∧ t (start N []) H Q
def LamAt (P : Program) (w : World) (K : PySem.W.Frag) (mg : Str → Option Value) (base : Heap) (k : Nat) (f : Addr) (H : Hp) (Q : VK) (E1 : XK) : Prop :=
  ∃ (c' : Addr) (q : Str) (params : Arguments) (body : Expr) (scope : Scope) (N : List Str), H f = some (LamO f q params body scope c') ∧ H c' = some (CodeO c' q) ∧ FnScope N [] scope ∧
    (∀ pm ctv, bindArgs (PySem.W.kla_fn "<lambda>" q params body scope [] pm (.ref c') ctv) ⟨[], []⟩ = pure []) ∧ Beh P w K mg base k f c' q body scope N H Q E1
section
variable {X : Cx}
theorem pe_callLam {k i : Nat} {a : Str} {E : L2.St → XK} {p1 p2 : Pos} (hr : Room (k + 1) X.A) (hx : ∀ σ, PassesAt (L2.CX X.prog X.w) X σ (E σ)) (hN : X.N[i]? = some a) (hv : Vis X.env.scope a) (hd : (a == ("__debug__" : Str)) = false := by decide) (hcd : (a == ("__classdict__" : Str)) = false := by decide) :
    PE X (.Call (.Name a p1) [] [] p2) (fun σ H Q => ∃ f, σ[i]? = some (some (.ref f)) ∧ LamAt X.prog X.w X.K X.mg X.base k f H Q (E σ)) := by
  refine ⟨fun pins s σ H Q I hw => ?_⟩
  obtain ⟨f, hs, c', q, params, body, scope, N, hf, hc, S, hb, beh⟩ := hw
  have nm := (pe_var (pos := p1) (i := i) hN hv hd hcd).run pins s σ H (fun v H1 => v = .ref f ∧ H1 = H) I ⟨_, hs, rfl, rfl⟩
  refine wpAny_Call_Name_kw (thn nm fun u s1 hu => ?_)
  obtain ⟨v, H1, I1, rv, ev, eH⟩ := hu
  subst ev
  subst eH
  have eu : u = Value.ref f := rv
  subst eu
  obtain ⟨⟨pm, ctv, of1⟩, _, _⟩ := I1.hok f _ hf
  refine PySem.W.callWith_F0 ⟨_, _, _, _, of1⟩ ?_
  have run := lam_run (CX := L2.CX X.prog X.w) (Q := Q) (E := E σ) (vs := []) (us := []) (args := ⟨[], []⟩) (ps := []) S hr I1.env0 hf hc (fun pm ctv => .of_eq (hb pm ctv)) .nil rfl (fun hr' => beh (E σ) (fun _ _ _ z => z) _ _ _ hr')
  refine wpAny_call (codeAny_mono run fun r s2 hq => ?_)
  match r, hq with
  | .error e, hq => exact hx σ pins H1 s1 e s2 I1 hq
  | .ok (.ret u), hq => exact I1.after hq
  | .ok .next, hq => exact False.elim hq
  | .ok .brk, hq => exact False.elim hq
  | .ok .cont, hq => exact False.elim hq
end
theorem LamAt.mono {P : Program} {w : World} {K : PySem.W.Frag} {mg : Str → Option Value} {base : Heap} {k : Nat} {f : Addr} {H : Hp} {Q : VK} {E1 E2 : XK} (h : LamAt P w K mg base k f H Q E1) (e : ∀ cls d H', E1 cls d H' → E2 cls d H') : LamAt P w K mg base k f H Q E2 := by
  obtain ⟨c', q, params, body, scope, N, hf, hc, S, hb, beh⟩ := h
  exact ⟨c', q, params, body, scope, N, hf, hc, S, hb, fun E he => beh E fun cls d H' z => he cls d H' (e cls d H' z)⟩
@[irreducible] def spToldV (P : Program) (w : World) (K : PySem.W.Frag) (mg : Str → Option Value) (base : Heap) (k : Nat) (CR : Addr) (ret : Str) : Sp := fun vs H Q _ => ∃ f, vs = [.ref f] ∧
  LamAt P w K mg base k f H Q (fun cls _ H' => ∃ b, PySem.W.exmOne K cls (.ref CR) = some b ∧ (b = true → Q (.str ret) H') ∧ (b = false → False))
section
variable {P : Program} {w : World} {K : PySem.W.Frag} {mg : Str → Option Value} {base : Heap}
theorem ok_toldV {x a e ret : Str} {pg : Arguments} {sg : Scope} {Ng : List Str} {f CR : Addr} {fd : FuncData} {j k : Nat} {p1 p2 p3 p4 p5 p6 p7 p8 : Pos}
    (F : FunD K x x pg [.Try [.Return (some (.Call (.Name a p1) [] [] p2)) p3] [.ExceptHandler (some (.Name e p4)) none [.Return (some (.Constant (.str ret) j p5)) p6] p7] [] [] p8] sg [] [] f fd) (S : FnScope Ng [a] sg) (hN : Ng[0]? = some a) (hva : Vis sg a)
    (h0 : ∀ f : Addr, (L2.start Ng [V.ref f])[0]? = some (some (V.ref f))) (hge : sg.names.lookup e = some .globalImplicit) (hme : mg e = some (.ref CR)) (hde : (e == ("__debug__" : Str)) = false) (hd : (a == ("__debug__" : Str)) = false) (hcd : (a == ("__classdict__" : Str)) = false) :
    FnOk P w K mg base CX0 (k + 2) f fd [a] (spToldV P w K mg base k CR ret) := by
  refine F.ok S (fun vs H Q E h => ?_) (fun cdv A outer s H vs Q E hr h => ?_)
  · unfold spToldV at h
    obtain ⟨_, rfl, _⟩ := h; rfl
  · unfold spToldV at h
    obtain ⟨fl, rfl, hl⟩ := h
    have hgl : Gl (cxOf CX0 P w K mg base Ng x sg f cdv A outer s H E).nox e := hge
    refine ⟨_, PSs.nox <| pss_one (ps_try_only (c := .ref CR) (tb := fun W => tRet fun σ H Q => ∃ fz, σ[0]? = some (some (V.ref fz)) ∧ LamAt P w K mg base k fz H Q (WE W σ)) rfl rfl ⟨hgl, hde, .inl hme⟩ L2.takes0
      (fun W pn xe tk _ => pss_one (ps_ret (pe_callLam (k := k) (i := 0) (E := fun σ => WE W σ) hr (fun σ => passAt tk σ) hN hva hd hcd))) (fun a oe cls d pn _ _ => pss_one (ps_ret pe_str))), ?_⟩
    exact ⟨fl, h0 fl, hl.mono fun cls d H' ⟨b, e1, e2, e3⟩ => ⟨b, e1, fun hb a _ => e2 hb, fun hb => e3 hb⟩⟩
end
end TL
set_option Elab.async false
set_option linter.all false
set_option maxRecDepth 100000
namespace KN1
open PySem PySem.Spec L2
def natL (n : Nat) : List Int := if n < 128 then [(n : Int)] else ((n % 128 : Nat) + 128 : Int) :: natL (n / 128)
termination_by n
decreasing_by omega
theorem natL_small {n : Nat} (h : n < 128) : natL n = [(n : Int)] := by rw [natL, if_pos h]
theorem natL_big {n : Nat} (h : ¬ n < 128) : natL n = ((n % 128 : Nat) + 128 : Int) :: natL (n / 128) := by rw [natL, if_neg h]
def pN1 : List Int → Option (Nat × List Int)
  | [] => none
  | b :: r => if 128 ≤ b then (pN1 r).map fun q => ((b - 128).toNat + 128 * q.1, q.2) else if b = 0 then none else some (b.toNat, r)
def pN : List Int → Option (Nat × List Int)
  | [] => none
  | b :: r => if 128 ≤ b then (pN1 r).map fun q => ((b - 128).toNat + 128 * q.1, q.2) else some (b.toNat, r)
theorem pN1_enc : ∀ (n : Nat) (rest : List Int), 0 < n → pN1 (natL n ++ rest) = some (n, rest)
  | n, rest, h0 => by
    by_cases h : n < 128
    · rw [natL_small h]
      show (if 128 ≤ (n : Int) then _ else if (n : Int) = 0 then none else some ((n : Int).toNat, rest)) = _
      rw [if_neg (by omega), if_neg (by omega)]
      rfl
    · rw [natL_big h]
      have ih := pN1_enc (n / 128) rest (by omega)
      show (if 128 ≤ ((n % 128 : Nat) + 128 : Int) then (pN1 (natL (n / 128) ++ rest)).map _ else _) = _
      rw [if_pos (by omega), ih]
      show some ((((n % 128 : Nat) + 128 : Int) - 128).toNat + 128 * (n / 128), rest) = _
      congr 2
      omega
termination_by n => n
decreasing_by omega
theorem pN_enc (n : Nat) (rest : List Int) : pN (natL n ++ rest) = some (n, rest) := by
  by_cases h : n < 128
  · rw [natL_small h]
    show (if 128 ≤ (n : Int) then _ else some ((n : Int).toNat, rest)) = _
    rw [if_neg (by omega)]
    rfl
  · rw [natL_big h]
    show (if 128 ≤ ((n % 128 : Nat) + 128 : Int) then (pN1 (natL (n / 128) ++ rest)).map _ else _) = _
    rw [if_pos (by omega), pN1_enc (n / 128) rest (by omega)]
    show some ((((n % 128 : Nat) + 128 : Int) - 128).toNat + 128 * (n / 128), rest) = _
    congr 2
    omega
def Bytes (l : List Int) : Prop := ∀ b ∈ l, 0 ≤ b ∧ b < 256
theorem Bytes.tail {b : Int} {r : List Int} (h : Bytes (b :: r)) : Bytes r := fun x hx => h x (List.mem_cons_of_mem _ hx)
theorem enc_pN1 : ∀ {l : List Int} {n : Nat} {rest : List Int}, Bytes l → pN1 l = some (n, rest) → 0 < n ∧ l = natL n ++ rest
  | [], n, rest, _, e => by cases e
  | b :: r, n, rest, hb, e => by
    have h := hb b (List.mem_cons_self ..)
    have e' : (if 128 ≤ b then (pN1 r).map (fun q => ((b - 128).toNat + 128 * q.1, q.2)) else if b = 0 then none else some (b.toNat, r)) = some (n, rest) := e
    by_cases c : 128 ≤ b
    · rw [if_pos c] at e'
      obtain ⟨q, hq, eq⟩ := Option.map_eq_some_iff.mp e'
      obtain ⟨m, rs⟩ := q
      obtain ⟨e1, e2⟩ := Prod.mk.inj eq
      obtain ⟨p, ih⟩ := enc_pN1 hb.tail hq
      have e1' : (b - 128).toNat + 128 * m = n := e1
      have e2' : rs = rest := e2
      subst e2'
      refine ⟨by omega, ?_⟩
      rw [natL_big (by omega), ih]
      have a1 : n / 128 = m := by omega
      have a2 : ((n % 128 : Nat) + 128 : Int) = b := by omega
      rw [a1, a2]
      rfl
    · rw [if_neg c] at e'
      by_cases c0 : b = 0
      · rw [if_pos c0] at e'; cases e'
      · rw [if_neg c0] at e'
        obtain ⟨e1, e2⟩ := Prod.mk.inj (Option.some.inj e')
        subst e2
        refine ⟨by omega, ?_⟩
        rw [natL_small (by omega)]
        have : ((n : Nat) : Int) = b := by omega
        rw [this]
        rfl
theorem enc_pN {l : List Int} {n : Nat} {rest : List Int} (hb : Bytes l) (e : pN l = some (n, rest)) : l = natL n ++ rest := by
  cases l with
  | nil => cases e
  | cons b r =>
    have h := hb b (List.mem_cons_self ..)
    have e' : (if 128 ≤ b then (pN1 r).map (fun q => ((b - 128).toNat + 128 * q.1, q.2)) else some (b.toNat, r)) = some (n, rest) := e
    by_cases c : 128 ≤ b
    · rw [if_pos c] at e'
      obtain ⟨q, hq, eq⟩ := Option.map_eq_some_iff.mp e'
      obtain ⟨m, rs⟩ := q
      obtain ⟨e1, e2⟩ := Prod.mk.inj eq
      obtain ⟨p, ih⟩ := enc_pN1 hb.tail hq
      have e1' : (b - 128).toNat + 128 * m = n := e1
      have e2' : rs = rest := e2
      subst e2'
      rw [natL_big (by omega), ih]
      have a1 : n / 128 = m := by omega
      have a2 : ((n % 128 : Nat) + 128 : Int) = b := by omega
      rw [a1, a2]
      rfl
    · rw [if_neg c] at e'
      obtain ⟨e1, e2⟩ := Prod.mk.inj (Option.some.inj e')
      subst e2
      rw [natL_small (by omega)]
      have : ((n : Nat) : Int) = b := by omega
      rw [this]
      rfl
theorem natL_bytes : ∀ n : Nat, Bytes (natL n)
  | n => by
    by_cases h : n < 128
    · rw [natL_small h]
      intro b hb
      rw [List.mem_singleton] at hb
      omega
    · rw [natL_big h]
      intro b hb
      rcases List.mem_cons.mp hb with rfl | hb
      · omega
      · exact natL_bytes (n / 128) b hb
termination_by n => n
decreasing_by omega
section
variable (tab : List Nat)
def idx (c : Nat) : Nat := tab.findIdx fun d => decide (d = c)
def pT : Nat → List Int → Option (List Nat × List Int)
  | 0, l => some ([], l)
  | _ + 1, [] => none
  | n + 1, b :: r => match tab[b.toNat]? with
    | none => none
    | some c => (pT n r).map fun q => (c :: q.1, q.2)
theorem pT_enc : ∀ (cs : List Nat) (rest : List Int), (∀ c ∈ cs, c ∈ tab) → pT tab cs.length (cs.map (fun c => ((idx tab c : Nat) : Int)) ++ rest) = some (cs, rest)
  | [], rest, _ => rfl
  | c :: cs, rest, h => by
    have hc := h c (List.mem_cons_self ..)
    have hl : idx tab c < tab.length := List.findIdx_lt_length_of_exists ⟨c, hc, by simp⟩
    have hg : tab[idx tab c]? = some c := by
      rw [List.getElem?_eq_getElem hl]
      have := List.findIdx_getElem (w := hl)
      have h2 : tab[idx tab c] = c := by
        unfold idx
        simpa using this
      rw [h2]
    show (match tab[(((idx tab c : Nat) : Int)).toNat]? with | none => none | some d => (pT tab cs.length (cs.map (fun c => ((idx tab c : Nat) : Int)) ++ rest)).map fun q : List Nat × List Int => (d :: q.1, q.2)) = some (c :: cs, rest)
    rw [Int.toNat_natCast, hg, pT_enc cs rest fun d hd => h d (List.mem_cons_of_mem _ hd)]
    rfl
theorem enc_pT (nd : tab.Nodup) : ∀ {n : Nat} {l : List Int} {cs : List Nat} {rest : List Int}, Bytes l → pT tab n l = some (cs, rest) → cs.length = n ∧ (∀ c ∈ cs, c ∈ tab) ∧ l = cs.map (fun c => ((idx tab c : Nat) : Int)) ++ rest
  | 0, l, cs, rest, _, e => by
    obtain ⟨rfl, rfl⟩ := Prod.mk.inj (Option.some.inj e)
    exact ⟨rfl, fun c h => (by cases h), rfl⟩
  | n + 1, [], cs, rest, _, e => by cases e
  | n + 1, b :: r, cs, rest, hb, e => by
    have hb0 := hb b (List.mem_cons_self ..)
    have e' : (match tab[b.toNat]? with | none => none | some c => (pT tab n r).map fun q => (c :: q.1, q.2)) = some (cs, rest) := e
    cases ht : tab[b.toNat]? with
    | none => rw [ht] at e'; cases e'
    | some c =>
      rw [ht] at e'
      obtain ⟨q, hq, eq⟩ := Option.map_eq_some_iff.mp e'
      obtain ⟨cs', rs⟩ := q
      obtain ⟨e1, e2⟩ := Prod.mk.inj eq
      have e1' : c :: cs' = cs := e1
      have e2' : rs = rest := e2
      subst e1' e2'
      obtain ⟨h1, h2, h3⟩ := enc_pT nd hb.tail hq
      obtain ⟨hlt, hget⟩ := List.getElem?_eq_some_iff.mp ht
      have hi : idx tab c = b.toNat := by
        have hc : c ∈ tab := List.mem_of_getElem? ht
        have hl : idx tab c < tab.length := List.findIdx_lt_length_of_exists ⟨c, hc, by simp⟩
        have hv : tab[idx tab c] = c := by
          have := List.findIdx_getElem (w := hl)
          unfold idx
          simpa using this
        exact (List.getElem_inj nd).mp (hv.trans hget.symm)
      refine ⟨by rw [List.length_cons, h1], fun d hd => (List.mem_cons.mp hd).elim (fun z => by rw [z]; exact List.mem_of_getElem? ht) (h2 d), ?_⟩
      rw [h3]
      show b :: _ = ((idx tab c : Nat) : Int) :: _
      rw [hi]
      congr 1
      omega
end
end KN1
set_option Elab.async false
set_option linter.all false
set_option maxRecDepth 100000
namespace KN1
open PySem PySem.Spec L2
section
variable (tab : List Nat)
def valL : Key → List Int
  | .inl v => if v < 0 then 1 :: natL (-v - 1).toNat else 0 :: natL v.toNat
  | .inr s => 2 :: (natL s.cps.toList.length ++ s.cps.toList.map fun c => ((idx tab c : Nat) : Int))
theorem valL_neg {v : Int} (c : v < 0) : valL tab (.inl v) = 1 :: natL (-v - 1).toNat := if_pos c
theorem valL_pos {v : Int} (c : ¬ v < 0) : valL tab (.inl v) = 0 :: natL v.toNat := if_neg c
def rowL (k : List Key) : List Int := natL k.length ++ k.flatMap (valL tab)
def pV : List Int → Option (Key × List Int)
  | [] => none
  | m :: r => if m = 0 then (pN r).map fun q => (.inl (q.1 : Int), q.2) else if m = 1 then (pN r).map fun q => (.inl (-(q.1 : Int) - 1), q.2) else if m = 2 then
      (match pN r with
      | none => none
      | some q => if q.2.length < q.1 then none else (pT tab q.1 q.2).map fun z => (.inr ⟨z.1.toArray⟩, z.2)) else none
def pVs : Nat → List Int → Option (List Key × List Int)
  | 0, l => some ([], l)
  | n + 1, l => match pV tab l with
    | none => none
    | some q => (pVs n q.2).map fun z => (q.1 :: z.1, z.2)
def pRow (l : List Int) : Option (List Key × List Int) := match pN l with
  | none => none
  | some q => if 20 < q.1 then none else pVs tab q.1 q.2
def InTab : Key → Prop
  | .inl _ => True
  | .inr s => ∀ c ∈ s.cps.toList, c ∈ tab
theorem pV_0 (r : List Int) : pV tab (0 :: r) = (pN r).map fun q : Nat × List Int => ((.inl (q.1 : Int) : Key), q.2) := rfl
theorem pV_1 (r : List Int) : pV tab (1 :: r) = (pN r).map fun q : Nat × List Int => ((.inl (-(q.1 : Int) - 1) : Key), q.2) := rfl
theorem pV_2 (r : List Int) : pV tab (2 :: r) = (match pN r with
  | none => none
  | some q => if q.2.length < q.1 then none else (pT tab q.1 q.2).map fun z : List Nat × List Int => ((.inr ⟨z.1.toArray⟩ : Key), z.2)) := rfl
theorem pV_enc {k : Key} (rest : List Int) (h : InTab tab k) : pV tab (valL tab k ++ rest) = some (k, rest) := by
  cases k with
  | inl v =>
    by_cases c : v < 0
    · have e : valL tab (.inl v) ++ rest = 1 :: (natL (-v - 1).toNat ++ rest) := by rw [valL_neg tab c]; rfl
      rw [e]
      rw [pV_1, pN_enc]
      show some (Sum.inl (-(((-v - 1).toNat : Nat) : Int) - 1), rest) = _
      congr 3
      omega
    · have e : valL tab (.inl v) ++ rest = 0 :: (natL v.toNat ++ rest) := by rw [valL_pos tab c]; rfl
      rw [e]
      rw [pV_0, pN_enc]
      show some (Sum.inl ((v.toNat : Nat) : Int), rest) = _
      congr 3
      omega
  | inr s =>
    have e : valL tab (.inr s) ++ rest = 2 :: (natL s.cps.toList.length ++ (s.cps.toList.map (fun c => ((idx tab c : Nat) : Int)) ++ rest)) := by
      show 2 :: ((natL _ ++ _) ++ rest) = _
      rw [List.append_assoc]
    rw [e]
    rw [pV_2, pN_enc]
    show (if (s.cps.toList.map (fun c => ((idx tab c : Nat) : Int)) ++ rest).length < s.cps.toList.length then none else (pT tab s.cps.toList.length (s.cps.toList.map (fun c => ((idx tab c : Nat) : Int)) ++ rest)).map fun z : List Nat × List Int => (Sum.inr (⟨z.1.toArray⟩ : Str), z.2)) = some (Sum.inr s, rest)
    rw [if_neg (by rw [List.length_append, List.length_map]; omega), pT_enc tab _ _ h]
    show some (Sum.inr (⟨s.cps.toList.toArray⟩ : Str), rest) = _
    rw [Array.toArray_toList]
theorem pVs_enc : ∀ (k : List Key) (rest : List Int), (∀ x ∈ k, InTab tab x) → pVs tab k.length (k.flatMap (valL tab) ++ rest) = some (k, rest)
  | [], rest, _ => rfl
  | x :: k, rest, h => by
    have e : (x :: k).flatMap (valL tab) ++ rest = valL tab x ++ (k.flatMap (valL tab) ++ rest) := by rw [List.flatMap_cons, List.append_assoc]
    rw [e]
    show (match pV tab (valL tab x ++ (k.flatMap (valL tab) ++ rest)) with | none => none | some q => (pVs tab k.length q.2).map fun z : List Key × List Int => (q.1 :: z.1, z.2)) = some (x :: k, rest)
    rw [pV_enc tab _ (h x (List.mem_cons_self ..))]
    show (pVs tab k.length (k.flatMap (valL tab) ++ rest)).map (fun z : List Key × List Int => (x :: z.1, z.2)) = _
    rw [pVs_enc k rest fun y hy => h y (List.mem_cons_of_mem _ hy)]
    rfl
theorem pRow_enc {k : List Key} (rest : List Int) (h : ∀ x ∈ k, InTab tab x) (hl : k.length ≤ 20) : pRow tab (rowL tab k ++ rest) = some (k, rest) := by
  have e : rowL tab k ++ rest = natL k.length ++ (k.flatMap (valL tab) ++ rest) := by unfold rowL; rw [List.append_assoc]
  unfold pRow
  rw [e, pN_enc]
  show (if 20 < k.length then none else pVs tab k.length (k.flatMap (valL tab) ++ rest)) = _
  rw [if_neg (by omega), pVs_enc tab k rest h]
theorem Bytes.of_app {a b : List Int} (h : Bytes (a ++ b)) : Bytes b := fun x hx => h x (List.mem_append_right _ hx)
theorem enc_pV (nd : tab.Nodup) {l rest : List Int} {k : Key} (hb : Bytes l) (e : pV tab l = some (k, rest)) : InTab tab k ∧ l = valL tab k ++ rest := by
  cases l with
  | nil => cases e
  | cons m r =>
    have e' : (if m = 0 then (pN r).map (fun q => ((.inl (q.1 : Int) : Key), q.2)) else if m = 1 then (pN r).map (fun q => ((.inl (-(q.1 : Int) - 1) : Key), q.2)) else if m = 2 then
      (match pN r with
      | none => none
      | some q => if q.2.length < q.1 then none else (pT tab q.1 q.2).map fun z : List Nat × List Int => ((.inr ⟨z.1.toArray⟩ : Key), z.2)) else none) = some (k, rest) := e
    by_cases c0 : m = 0
    · rw [if_pos c0] at e'
      obtain ⟨⟨n, rs⟩, hq, eq⟩ := Option.map_eq_some_iff.mp e'
      obtain ⟨e1, e2⟩ := Prod.mk.inj eq
      have e1' : (.inl (n : Int) : Key) = k := e1
      have e2' : rs = rest := e2
      subst e1' e2' c0
      refine ⟨trivial, ?_⟩
      rw [enc_pN hb.tail hq]
      rw [valL_pos tab (by omega), Int.toNat_natCast]
      rfl
    · rw [if_neg c0] at e'
      by_cases c1 : m = 1
      · rw [if_pos c1] at e'
        obtain ⟨⟨n, rs⟩, hq, eq⟩ := Option.map_eq_some_iff.mp e'
        obtain ⟨e1, e2⟩ := Prod.mk.inj eq
        have e1' : (.inl (-(n : Int) - 1) : Key) = k := e1
        have e2' : rs = rest := e2
        subst e1' e2' c1
        refine ⟨trivial, ?_⟩
        rw [enc_pN hb.tail hq]
        have z : (-(-(n : Int) - 1) - 1).toNat = n := by omega
        rw [valL_neg tab (by omega), z]
        rfl
      · rw [if_neg c1] at e'
        by_cases c2 : m = 2
        · rw [if_pos c2] at e'
          cases hp : pN r with
          | none => rw [hp] at e'; cases e'
          | some q =>
            obtain ⟨n, r2⟩ := q
            rw [hp] at e'
            have e3 : (if r2.length < n then none else (pT tab n r2).map fun z : List Nat × List Int => ((.inr ⟨z.1.toArray⟩ : Key), z.2)) = some (k, rest) := e'
            by_cases c3 : r2.length < n
            · rw [if_pos c3] at e3; cases e3
            · rw [if_neg c3] at e3
              obtain ⟨⟨cs, rs⟩, hq, eq⟩ := Option.map_eq_some_iff.mp e3
              obtain ⟨e1, e2⟩ := Prod.mk.inj eq
              have e1' : (.inr ⟨cs.toArray⟩ : Key) = k := e1
              have e2' : rs = rest := e2
              have hr := enc_pN hb.tail hp
              have hb2 : Bytes r2 := by
                have h := hb.tail
                rw [hr] at h
                exact h.of_app
              obtain ⟨h1, h2, h3⟩ := enc_pT tab nd hb2 hq
              subst e1' e2' c2
              refine ⟨h2, ?_⟩
              rw [hr, h3]
              show 2 :: (natL n ++ (cs.map (fun c => ((idx tab c : Nat) : Int)) ++ rs)) = 2 :: ((natL cs.length ++ cs.map (fun c => ((idx tab c : Nat) : Int))) ++ rs)
              rw [List.append_assoc, h1]
        · rw [if_neg c2] at e'; cases e'
theorem enc_pVs (nd : tab.Nodup) : ∀ {n : Nat} {l rest : List Int} {k : List Key}, Bytes l → pVs tab n l = some (k, rest) → k.length = n ∧ (∀ x ∈ k, InTab tab x) ∧ l = k.flatMap (valL tab) ++ rest
  | 0, l, rest, k, _, e => by
    obtain ⟨rfl, rfl⟩ := Prod.mk.inj (Option.some.inj e)
    exact ⟨rfl, fun x h => (by cases h), rfl⟩
  | n + 1, l, rest, k, hb, e => by
    have e' : (match pV tab l with | none => none | some q => (pVs tab n q.2).map fun z : List Key × List Int => (q.1 :: z.1, z.2)) = some (k, rest) := e
    cases hp : pV tab l with
    | none => rw [hp] at e'; cases e'
    | some q =>
      obtain ⟨x, r⟩ := q
      rw [hp] at e'
      obtain ⟨⟨ks, rs⟩, hq, eq⟩ := Option.map_eq_some_iff.mp e'
      obtain ⟨e1, e2⟩ := Prod.mk.inj eq
      have e1' : x :: ks = k := e1
      have e2' : rs = rest := e2
      obtain ⟨h0, h0'⟩ := enc_pV tab nd hb hp
      have hb2 : Bytes r := by
        rw [h0'] at hb
        exact hb.of_app
      obtain ⟨h1, h2, h3⟩ := enc_pVs nd hb2 hq
      subst e1' e2'
      refine ⟨by rw [List.length_cons, h1], fun y hy => (List.mem_cons.mp hy).elim (fun z => by rw [z]; exact h0) (h2 y), ?_⟩
      rw [h0', List.flatMap_cons, List.append_assoc, h3]
theorem enc_pRow (nd : tab.Nodup) {l rest : List Int} {k : List Key} (hb : Bytes l) (e : pRow tab l = some (k, rest)) : k.length ≤ 20 ∧ (∀ x ∈ k, InTab tab x) ∧ l = rowL tab k ++ rest := by
  unfold pRow at e
  cases hp : pN l with
  | none => rw [hp] at e; cases e
  | some q =>
    obtain ⟨n, r⟩ := q
    rw [hp] at e
    have e' : (if 20 < n then none else pVs tab n r) = some (k, rest) := e
    by_cases c : 20 < n
    · rw [if_pos c] at e'; cases e'
    · rw [if_neg c] at e'
      have hl := enc_pN hb hp
      have hb2 : Bytes r := by
        rw [hl] at hb
        exact hb.of_app
      obtain ⟨h1, h2, h3⟩ := enc_pVs tab nd hb2 e'
      refine ⟨by omega, h2, ?_⟩
      unfold rowL
      rw [hl, h3, h1, List.append_assoc]
theorem cut_none (nd : tab.Nodup) {k k' : List Key} {a b rest : List Int} (h : ∀ x ∈ k, InTab tab x) (hl : k.length ≤ 20) (e : rowL tab k = a ++ b) (hb : b ≠ []) (ha : Bytes a) : pRow tab a ≠ some (k', rest) := by
  intro z
  obtain ⟨h1, h2, h3⟩ := enc_pRow tab nd ha z
  have p1 := pRow_enc tab [] h hl
  rw [List.append_nil, e, h3, List.append_assoc, pRow_enc tab (rest ++ b) h2 h1] at p1
  obtain ⟨_, e2⟩ := Prod.mk.inj (Option.some.inj p1)
  exact hb (List.append_eq_nil_iff.mp e2).2
end
end KN1
set_option Elab.async false
set_option linter.all false
set_option maxRecDepth 100000
set_option maxHeartbeats 4000000
namespace KL6
open PySem PySem.Spec PyProof.Rows L2 KB KC
def top (i : Nat) : Stmt := PySem.Challenge.pw_streamstack_k06_logs_that_go_down.main.body.getD i (.Pass ⟨0, 0, 0, 0⟩)
abbrev sKind : Stmt := top 7
abbrev sNat : Stmt := top 8
abbrev sVal : Stmt := top 9
abbrev sRow : Stmt := top 10
abbrev sReader : Stmt := top 11
abbrev sHash : Stmt := top 12
abbrev sSum : Stmt := top 17
abbrev sRec : Stmt := top 18
abbrev sReads : Stmt := top 19
abbrev sRd1 : Stmt := top 20
abbrev sPart : Stmt := top 21
abbrev sLog : Stmt := top 22
abbrev sMaker : Stmt := top 23
abbrev sDoor : Stmt := top 24
abbrev sDice : Stmt := top 26
abbrev sRoll : Stmt := top 27
abbrev sRounds : Stmt := top 28
abbrev sTold : Stmt := top 29
abbrev sLSum : Stmt := top 30
abbrev sLRec : Stmt := top 31
abbrev sLBytes : Stmt := top 32
abbrev sSent : Stmt := top 33
abbrev sLaw : Stmt := top 34
abbrev FnP (K : PySem.W.Frag) (x q : Str) (st : Stmt) (dvs : List V) (f : Addr) (fd : FuncData) : Prop := FunD K x q (defArgs st) (defBody st) (defScope st) dvs [] f fd
def rIxD : R2 := fun x y H Q => ∃ p xs i v, x = .ref p ∧ y = .int i ∧ H p = some (.lst xs) ∧ atI xs i = some v ∧ Q v H
theorem ix_listD {X : Cx} : IxR X rIxD := by
  intro value slice pins s σ H x y v u Q I rx ry h hs
  obtain ⟨p, xs, i, z, e1, e2, hq, he, q⟩ := h
  exact ix_list value slice pins s σ H x y v u Q I rx ry ⟨p, xs, i, z, e1, e2, SqL.of hq, he, q⟩ hs
theorem sc_int {a b : Int} : scal (.int a) (.int b) = true := rfl
theorem at3_0 {a b c : V} : atI [a, b, c] 0 = some a := rfl
theorem at3_1 {a b c : V} : atI [a, b, c] 1 = some b := rfl
theorem at3_2 {a b c : V} : atI [a, b, c] 2 = some c := rfl
theorem at2_0 {a b : V} : atI [a, b] 0 = some a := rfl
theorem at2_1 {a b : V} : atI [a, b] 1 = some b := rfl
theorem ix3_0 : ixN (0 + 1 + 1 + 1) 0 = some 0 := rfl
theorem ix3_1 : ixN (0 + 1 + 1 + 1) 1 = some 1 := rfl
theorem ix3_2 : ixN (0 + 1 + 1 + 1) 2 = some 2 := rfl
theorem upd2 {H : Hp} {a : Addr} {o o' : HO} : upd (upd H a o) a o' = upd H a o' := by
  funext b
  by_cases e : b = a
  · subst e; rw [upd_same, upd_same]
  · rw [upd_ne e, upd_ne e, upd_ne e]
structure TxtL (mg : Str → Option Value) : Prop where
  abs : mg "abs" = none
  int : mg "int" = none
  range : mg "range" = none
  dict : mg "dict" = none
  list : mg "list" = none
  tuple : mg "tuple" = none
  len : mg "len" = none
  zip : mg "zip" = none
  isi : mg "isinstance" = none
  str : mg "str" = none
  sorted : mg "sorted" = none
  all : mg "all" = none
def IsDice (H : Hp) (d : Addr) : Prop := ∃ a b k : Int, H d = some (.lst [.int a, .int b, .int k])
def ExD (d : Addr) (H H' : Hp) : Prop := ∀ b o, b ≠ d → H b = some o → H' b = some o
def spDice : Sp := fun vs H Q _ => ∃ c : Int, vs = [.int c] ∧ ∀ p a b k, H p = none → Q (.ref p) (upd H p (.lst [.int a, .int b, .int k]))
@[irreducible] def spRoll : Sp := fun vs H Q _ => ∃ (d : Addr) (m : Int), vs = [.ref d, .int m] ∧ IsDice H d ∧ 0 < m ∧ m ≤ 100000000 ∧
  ∀ (r : Int) a b k, 0 ≤ r → r < m → Q (.int r) (upd H d (.lst [.int a, .int b, .int k]))
section
variable {P : Program} {w : World} {K : PySem.W.Frag} {mg : Str → Option Value} {base : Heap} {f : Addr} {fd : FuncData}
theorem scDice : FnScope ["cell"] ["cell"] (defScope sDice) := ⟨rfl, rfl, rfl, by decide +kernel, rfl, by decide +kernel, by decide +kernel⟩
theorem ok_dice (F : FnP K "_law_dice" "_law_dice" sDice [] f fd) (T : TxtL mg) : FnOk P w K mg base CX0 1 f fd ["cell"] spDice := by
  refine F.ok scDice (fun vs H Q E h => ?_) (fun cdv A outer s H vs Q E hr h => ?_)
  · obtain ⟨c, rfl, _⟩ := h; rfl
  · obtain ⟨c, rfl, k⟩ := h
    refine ⟨_, PSs.nox <| pss_cons (ps_if (pt_chain op_lt op_lt (pe_op op_sub pe_int pe_int) (pv 0) pe_int)
        (pss_one (ps_ret (pe_lst (pa_cons (pe_callB call_abs (by rfl) T.abs (by decide +kernel) (pa_cons (pv 0) pa_nil)) (pa_cons pe_int (pa_cons pe_int pa_nil)))))) pss_nil)
      (pss_one (ps_ret (pe_lst (pa_cons (pv 0) (pa_cons (pe_op op_add pe_int (pe_op op_mod (pe_callTy call_int1 (by rfl) T.int (by decide +kernel) (pa_cons (pv 0) pa_nil)) pe_int))
        (pa_cons (pe_callTy call_int1 (by rfl) T.int (by decide +kernel) (pa_cons (pe_cmpR op_ge (pv 0) (pe_op op_pow pe_int pe_int) (nomark _)) pa_nil)) pa_nil)))))), ?_⟩
    simp only [tSeq, tIfS, tIf, tTest, tChain, tOp, tC, tVar, tRet, tLst, tTup, tCons, tCB, tNil, tAsg, gName, tCall, tDrop, tOr, tAnd, tNot, gSub, rI0, rI, tNext, L2.start, List.set_cons_zero, List.set_cons_succ, List.map, List.replicate, List.length, List.append_nil, List.getElem?_cons_zero, List.getElem?_cons_succ, List.cons_append, List.nil_append, Option.some.injEq, exists_eq_left', exists_eq_left, exists_and_left, V.int.injEq, V.ref.injEq, List.cons.injEq, and_true, true_and, V.bl.injEq, reduceCtorEq, false_and, and_false, exists_false, or_false, false_or, HO.lst.injEq]
    have hs : 0 + 1 + 1 + 1 ≤ sizeLine := by decide
    have hp : CPow 10 18 := by unfold CPow; decide
    have h9 : (0 : Int) < 1009 := by decide
    split
    · split
      · exact ⟨hs, fun p e => k p _ _ _ e⟩
      · exact ⟨h9, hp, hs, fun p e => k p _ _ _ e⟩
    · rw [if_neg (fun z => z)]
      exact ⟨h9, hp, hs, fun p e => k p _ _ _ e⟩
theorem scRoll : FnScope ["dice", "many", "found"] ["dice", "many"] (defScope sRoll) := ⟨rfl, rfl, rfl, by decide +kernel, rfl, by decide +kernel, by decide +kernel⟩
theorem ok_roll (F : FnP K "_law_roll" "_law_roll" sRoll [] f fd) (T : TxtL mg) : FnOk P w K mg base CX0 1 f fd ["dice", "many"] spRoll := by
  refine F.ok scRoll (fun vs H Q E h => ?_) (fun cdv A outer s H vs Q E hr h => ?_)
  · unfold spRoll at h
    obtain ⟨d, m, rfl, _⟩ := h; rfl
  · unfold spRoll at h
    obtain ⟨d, m, rfl, ⟨a, b, k, hd⟩, h0, h1, q⟩ := h
    refine ⟨_, PSs.nox <| pss_cons (ps_if (PW.pt (pw_or (pt_cmpR op_eq (pe_ix ix_listD (pv 0) pe_int (fun _ _ => rfl)) pe_int (nomark _)) (pw_or1 (PW.pt (pw_and (pt_cmpR op_eq (pe_ix ix_listD (pv 0) pe_int (fun _ _ => rfl)) pe_int (nomark _)) (pw_and1 (pt_cmpR op_gt (pe_ix ix_listD (pv 0) pe_int (fun _ _ => rfl)) pe_int (nomark _))))))))
        (pss_cons (ps_set (i := 2) scRoll.nd rfl (Or.inl rfl) (pe_op op_mod (pe_callTy call_int1 (by rfl) T.int (by decide +kernel) (pa_cons (pe_ix ix_listD (pv 0) pe_int (fun _ _ => rfl)) pa_nil)) (pv 1)))
          (pss_cons (ps_asg (pe_op op_fdiv (pe_ix ix_listD (pv 0) pe_int (fun _ _ => rfl)) (pv 1)) (pg_sub (pv 0) pe_int set_list)) (pss_one (ps_ret (pv 2))))) pss_nil)
      (pss_cons (ps_asg pe_int (pg_sub (pv 0) pe_int set_list))
      (pss_cons (ps_if (pt_cmpR op_gt (pv 1) pe_int (nomark _)) pss_never pss_nil)
      (pss_cons (ps_asg (pe_op op_mod (pe_callTy call_int1 (by rfl) T.int (by decide +kernel) (pa_cons (pe_op op_add (pe_op op_add (pe_op op_mul (pe_ix ix_listD (pv 0) pe_int (fun _ _ => rfl)) pe_int) (pe_op op_mul (pe_ix ix_listD (pv 0) pe_int (fun _ _ => rfl)) pe_int)) pe_int) pa_nil)) pe_int) (pg_sub (pv 0) pe_int set_list))
      (pss_cons (ps_asg (pe_op op_add (pe_ix ix_listD (pv 0) pe_int (fun _ _ => rfl)) pe_int) (pg_sub (pv 0) pe_int set_list))
      (pss_one (ps_ret (pe_op op_mod (pe_callTy call_int1 (by rfl) T.int (by decide +kernel) (pa_cons (pe_op op_fdiv (pe_ix ix_listD (pv 0) pe_int (fun _ _ => rfl)) pe_int) pa_nil)) (pv 1)))))))), ?_⟩
    have hm : decide ((100000000 : Int) < m) = false := decide_eq_false (by omega)
    simp only [tSeq, tIfS, tIf, tTest, tChain, tOp, tC, tVar, tRet, tLst, tTup, tCons, tCB, tNil, tAsg, gName, tCall, tDrop, tOr, tAnd, tNot, gSub, rI0, rI, tNext, L2.start, List.set_cons_zero, List.set_cons_succ, List.map, List.replicate, List.length, List.append_nil, List.getElem?_cons_zero, List.getElem?_cons_succ, List.cons_append, List.nil_append, Option.some.injEq, exists_eq_left', exists_eq_left, exists_and_left, V.int.injEq, V.ref.injEq, List.cons.injEq, and_true, true_and, V.bl.injEq, reduceCtorEq, false_and, and_false, exists_false, or_false, false_or, HO.lst.injEq, rIxD, rSetL, rEq, sc_int, hd, upd_same, upd2, at3_0, at3_1, at3_2, ix3_0, ix3_1, ix3_2, hm, if_true, if_false, Bool.false_eq_true]
    have g0 : (0 : Int) < 2147483647 := by decide
    have gm : ∀ x : Int, CMul x 48271 := fun x => .inr ⟨by decide, by decide⟩
    have gn : ∀ x : Int, CMul x 69621 := fun x => .inr ⟨by decide, by decide⟩
    have gd : ∀ x : Int, CDiv x 7 := fun x => ⟨by decide, by decide⟩
    have gq : ∀ x : Int, CDiv x m := fun x => ⟨h0, by omega⟩
    have lo : ∀ x : Int, 0 ≤ x % m := fun x => Int.emod_nonneg _ (by omega)
    have hi : ∀ x : Int, x % m < m := fun x => Int.emod_lt_of_pos _ h0
    split
    · exact ⟨h0, gq _, q _ _ _ _ (lo _) (hi _)⟩
    · split
      · split
        · exact ⟨h0, gq _, q _ _ _ _ (lo _) (hi _)⟩
        · exact ⟨gm _, gn _, g0, gd _, h0, q _ _ _ _ (lo _) (hi _)⟩
      · exact ⟨gm _, gn _, g0, gd _, h0, q _ _ _ _ (lo _) (hi _)⟩
end
end KL6
set_option Elab.async false
set_option linter.all false
set_option maxRecDepth 100000
set_option maxHeartbeats 4000000
namespace KL6
open PySem PySem.Spec PyProof.Rows L2 KB KC KS
@[irreducible] def spRounds (K : PySem.W.Frag) : Sp := fun vs H Q _ => ∃ (s : Addr) (ns : List Int), vs = [.ref s, .int 1] ∧ SqL K H s (ns.map V.int) ∧ ∀ H' p d, Ex H H' → H' p = some (.lst [.ref d]) → IsDice H' d → Q (.ref p) H'
theorem IsDice.upd_ne {H : Hp} {d a : Addr} {o : HO} (h : IsDice H d) (n : H a = none) : IsDice (upd H a o) d := by
  obtain ⟨x, y, z, e⟩ := h
  exact ⟨x, y, z, by rw [L2.upd_ne (ne_of_none e n)]; exact e⟩
theorem Ex.on {H H1 : Hp} {a : Addr} {o : HO} (e : Ex H H1) (n : H a = none) : Ex H (upd H1 a o) := fun b u h => by rw [L2.upd_ne (ne_of_none h n)]; exact e b u h
section
variable {P : Program} {w : World} {K : PySem.W.Frag} {mg : Str → Option Value} {base : Heap} {f fD : Addr} {fd fdD : FuncData}
theorem scRounds : FnScope ["script", "most", "cells", "cell"] ["script", "most"] (defScope sRounds) := ⟨rfl, rfl, rfl, by decide +kernel, rfl, by decide +kernel, by decide +kernel⟩
theorem ok_rounds (F : FnP K "_law_rounds" "_law_rounds" sRounds [] f fd) (T : TxtL mg) (FD : FnP K "_law_dice" "_law_dice" sDice [] fD fdD) (gD : mg "_law_dice" = some (.ref fD)) :
    FnOk P w K mg base CX0 2 f fd ["script", "most"] (spRounds K) := by
  have GD : FnOk P w K mg base CX0 1 fD fdD ["cell"] spDice := ok_dice FD T
  have bD : Binds K fdD ["cell"] [] := FD.bindsN fun _ _ _ _ _ _ us hl => match us, hl with | [_], _ => rfl
  refine F.ok scRounds (fun vs H Q E h => ?_) (fun cdv A outer s H vs Q E hr h => ?_)
  · unfold spRounds at h
    obtain ⟨c, d, rfl, _⟩ := h; rfl
  · unfold spRounds at h
    obtain ⟨a, ns, rfl, hS, q⟩ := h
    refine ⟨_, PSs.nox <| pss_cons (ps_set (i := 2) scRounds.nd rfl (Or.inl rfl) (pe_slice sl_list (pv 0) po_none (po_some (pv 1))))
      (pss_cons (ps_if (pt_cmpR (op_eqD hr.units) (pv 2) (pe_lst pa_nil) (nomark _)) (pss_one (ps_set (i := 2) scRounds.nd rfl (Or.inl rfl) (pe_lst (pa_cons pe_int pa_nil)))) pss_nil)
      (pss_one (ps_ret (pe_lc (own := [("cell", 3)]) (g := gName 3) (tt := tYes) rfl scRounds.nd (pi_list (pv 2)) (blkOk_by (N := ["script", "most", "cells", "cell"]) (sc := defScope sRounds) (by decide +kernel))
        (fun _ _ _ _ _ => pg_name (i := 3) scRounds.nd rfl (Or.inl rfl)) (fun _ _ _ _ _ => pts_nil)
        (fun _ _ _ _ _ => pe_call GD hr rfl gD FD.kp bD .nil pass0 (pa_cons (pv 3) pa_nil)))))), ?_⟩
    have fin : ∀ (c : Addr) (n : Int) (H1 : Hp), Ex H H1 → H1 c = some (.lst [.int n]) →
        (tRet (tLc (iList K (tVar 2)) (gName 3) tYes (tCall spDice [] E0 (tCons (tVar 3) tNil)) [3])) { nx := fun _ H' => Q .non H', rt := Q } [some (.ref a), some (.int 1), some (.ref c), none] H1 := by
      intro c n H1 e1 hc
      refine ⟨_, rfl, c, rfl, ⟨_, SqL.of hc⟩, fun D hD => lc_list (xs := [V.int n])
        (fun i H2 => Ex H1 H2 ∧ ((i = 0 ∧ H2 D = some (.lst [])) ∨ (i = 1 ∧ ∃ d, H2 D = some (.lst [.ref d]) ∧ IsDice H2 d))) ?_ ?_ ?_ ?_⟩
      · exact ⟨Ex.upd hD, .inl ⟨rfl, upd_same⟩⟩
      · rintro i H2 _ ⟨e2, _⟩
        exact SqL.of (e2 c _ hc)
      · rintro i x H2 hx ⟨e2, h2⟩
        rcases h2 with ⟨rfl, h2⟩ | ⟨rfl, _⟩
        · cases hx
          refine ⟨rfl, ?_⟩
          refine ⟨_, rfl, n, rfl, fun p x y z hp => ⟨[], ?_, (by decide), ?_⟩⟩
          · rw [L2.upd_ne (ne_of_none h2 hp)]; exact h2
          · refine ⟨Ex.on (e2.trans (Ex.upd hp)) hD, .inr ⟨rfl, p, upd_same, x, y, z, ?_⟩⟩
            rw [L2.upd_ne (fun e => by rw [e, h2] at hp; cases hp), upd_same]
        · cases hx
      · rintro H2 ⟨e2, h2⟩
        rcases h2 with ⟨h, _⟩ | ⟨_, d, h2, h3⟩
        · cases h
        · exact q H2 D d (e1.trans e2) h2 h3
    refine ⟨_, rfl, _, rfl, 1, rfl, a, _, rfl, hS, fun p hp => ?_⟩
    cases ns with
    | nil =>
      refine ⟨_, rfl, (by decide), fun p2 hp2 => ⟨.list [], .list [], .lst (.inl (.inl ?_)) .nil, .lst (.inl (.inl upd_same)) .nil, rfl, rfl, true, rfl, ?_⟩⟩
      · rw [L2.upd_ne (ne_of_none upd_same hp2)]; exact upd_same
      · refine ⟨(by decide), fun p3 hp3 => fin p3 0 _ ?_ upd_same⟩
        exact ((Ex.upd hp).trans (Ex.upd hp2)).trans (Ex.upd hp3)
    | cons n r =>
      have e : cutV ((n :: r).map V.int) none (some 1) = [V.int n] := by
        unfold cutV HT.sIx
        simp
      rw [e] at *
      refine ⟨_, rfl, (by decide), fun p2 hp2 => ⟨.list [.int n], .list [], .lst (.inl (.inl ?_)) (.cons (.int _) .nil), .lst (.inl (.inl upd_same)) .nil, rfl, rfl, false, rfl, ?_⟩⟩
      · rw [L2.upd_ne (ne_of_none upd_same hp2)]; exact upd_same
      · refine fin p n _ ((Ex.upd hp).trans (Ex.upd hp2)) ?_
        rw [L2.upd_ne (ne_of_none upd_same hp2)]; exact upd_same
end
end KL6
set_option Elab.async false
set_option linter.all false
set_option maxRecDepth 100000
set_option maxHeartbeats 1000000
namespace KL6
open PySem PySem.Spec PyProof.Rows L2 KB KC KS KN1
@[irreducible] def spNat : Sp := fun vs H Q _ => ∃ n : Int, vs = [.int n] ∧ 0 ≤ n ∧ n < 2 ^ 2000 ∧ ∀ H' p, Ex H H' → H' p = some (.tup ((natL n.toNat).map V.int)) → Q (.ref p) H'
theorem natL_len : ∀ (k n : Nat), n < 128 ^ (k + 1) → (natL n).length ≤ k + 1
  | 0, n, h => by rw [natL_small (by simpa using h)]; exact Nat.le_refl _
  | k + 1, n, h => by
    by_cases c : n < 128
    · rw [natL_small c]; show 1 ≤ _; omega
    · rw [natL_big c, List.length_cons]
      have h2 : n / 128 < 128 ^ (k + 1) := by
        rw [Nat.div_lt_iff_lt_mul (by decide)]
        rw [← Nat.pow_succ]
        exact h
      have := natL_len k (n / 128) h2
      omega
theorem natL_short {n : Int} (h : n < 2 ^ 2000) : (natL n.toNat).length ≤ 300 := by
  refine natL_len 299 n.toNat ?_
  have h1 : n.toNat < 2 ^ 2000 := by
    have : ((2 ^ 2000 : Nat) : Int) = 2 ^ 2000 := by decide +kernel
    omega
  exact Nat.lt_of_lt_of_le h1 (by decide +kernel)
theorem nat_step {H : Hp} {n : Int} {Q : VK} {E : XK} (h0 : 0 ≤ n) (h1 : n < 2 ^ 2000) (fin : ∀ H' p, Ex H H' → H' p = some (.tup ((natL n.toNat).map V.int)) → Q (.ref p) H') : spNat [.int n] H Q E := by
  unfold spNat
  exact ⟨n, rfl, h0, h1, fin⟩
section
variable {P : Program} {w : World} {K : PySem.W.Frag} {mg : Str → Option Value} {base : Heap} {f : Addr} {fd : FuncData}
theorem scNat : FnScope ["number", "found", "left"] ["number"] (defScope sNat) := ⟨rfl, rfl, rfl, by decide +kernel, rfl, by decide +kernel, by decide +kernel⟩
theorem ok_nat (F : FnP K "natural_bytes" "natural_bytes" sNat [] f fd) (T : TxtL mg) : FnOk P w K mg base CX0 1 f fd ["number"] spNat := by
  refine F.ok scNat (fun vs H Q E h => ?_) (fun cdv A outer s H vs Q E hr h => ?_)
  · unfold spNat at h
    obtain ⟨_, rfl, _⟩ := h; rfl
  · unfold spNat at h
    obtain ⟨n, rfl, h0, h1, fin⟩ := h
    refine ⟨_, PSs.nox <| pss_cons (ps_set (i := 1) scNat.nd rfl (Or.inl rfl) (pe_lst pa_nil))
      (pss_cons (ps_set (i := 2) scNat.nd rfl (Or.inl rfl) (pv 0))
      (pss_cons (ps_while PassesOwn.never (pt_cmpR op_ge (pv 2) pe_int (nomark _))
        (pss_cons (ps_expr (pe_bm PySem.F.plainAttrs_list PySem.F.slot_list_append PySem.F.type_list_append mt_append (pv 1) (pa_cons (pe_op op_add (pe_op op_mod (pv 2) pe_int) pe_int) pa_nil)))
          (pss_one (ps_set (i := 2) scNat.nd rfl (Or.inl rfl) (pe_op op_fdiv (pv 2) pe_int)))))
      (pss_cons (ps_expr (pe_bm PySem.F.plainAttrs_list PySem.F.slot_list_append PySem.F.type_list_append mt_append (pv 1) (pa_cons (pv 2) pa_nil)))
      (pss_one (ps_ret (pe_callTy call_tuple_of (by rfl) T.tuple (by decide +kernel) (pa_cons (pv 1) pa_nil))))))), ?_⟩
    have hlen := natL_short h1
    have hz : sizeLine = 16777216 := rfl
    refine ⟨by decide, fun l hl => ⟨_, rfl, ?_⟩⟩
    refine while_by (fun σ H2 => ∃ (left : Nat) (pre : List Int), σ = [some (.int n), some (.ref l), some (.int (left : Int))] ∧ KS.Ex H H2 ∧ H2 l = some (.lst (pre.map V.int)) ∧ pre ++ natL left = natL n.toNat)
      (fun σ _ => match σ with | [_, _, some (.int left)] => left.toNat | _ => 0) ⟨n.toNat, [], by rw [Int.toNat_of_nonneg h0]; rfl, Ex.upd hl, upd_same, rfl⟩ ?_ ?_
    · rintro σ H2 ⟨left, pre, rfl, e2, hl2, hp⟩
      have hpl : pre.length ≤ 300 := by
        have := congrArg List.length hp
        rw [List.length_append] at this
        omega
      refine ⟨_, rfl, _, _, rfl, rfl, _, rfl, ?_⟩
      by_cases c : (128 : Int) ≤ (left : Int)
      · refine ite2 (fun _ => ?_) (fun z => absurd (decide_eq_true c) z)
        refine ⟨_, rfl, .inl ⟨rfl, _, SqL.of hl2⟩, _, rfl, _, _, rfl, rfl, by show (0 : Int) < 128; decide, _, _, rfl, rfl, l, _, _, rfl, rfl, hl2, by rw [List.length_map]; omega, ?_⟩
        refine ⟨_, rfl, _, _, rfl, rfl, ⟨by decide, by decide⟩, ?_⟩
        refine ⟨⟨left / 128, pre ++ [((left % 128 : Nat) : Int) + 128], ?_, Ex.on e2 hl, ?_, ?_⟩, ?_⟩
        · show [some (.int n), some (.ref l), some (V.int ((left : Int) / 128))] = _
          rw [Int.natCast_ediv]
          rfl
        · rw [upd_same, List.map_append]
          rfl
        · rw [List.append_assoc]
          show pre ++ ((((left % 128 : Nat) : Int) + 128) :: natL (left / 128)) = _
          rw [← natL_big (by omega)]
          exact hp
        · show ((left : Int) / 128).toNat < ((left : Int)).toNat
          omega
      · refine ite2 (fun z => absurd (of_decide_eq_true z) c) (fun _ => ?_)
        refine ⟨_, rfl, .inl ⟨rfl, _, SqL.of hl2⟩, _, rfl, l, _, _, rfl, rfl, hl2, by rw [List.length_map]; omega, ?_⟩
        refine ⟨_, rfl, l, _, rfl, .inl ⟨SqL.of upd_same, fun q hq => ?_⟩⟩
        refine fin _ q ((Ex.on e2 hl).trans (Ex.upd hq)) ?_
        rw [upd_same]
        have : pre ++ [(left : Int)] = natL n.toNat := by rw [← hp, natL_small (by omega)]
        rw [← this, List.map_append]
        rfl
    · rintro σ H Q Q' imp ⟨x, hx, i, j, e1, e2, c, e3, q⟩
      exact ⟨x, hx, i, j, e1, e2, c, e3, imp _ _ q⟩
end
end KL6
set_option Elab.async false
set_option linter.all false
set_option maxRecDepth 100000
set_option maxHeartbeats 1000000
namespace KL6
open PySem PySem.Spec PyProof.Rows L2 KB KC KS KN1
section
variable {P : Program} {w : World} {K : PySem.W.Frag} {mg : Str → Option Value} {base : Heap} {f : Addr} {fd : FuncData}
theorem cat_one {K : PySem.W.Frag} {H : Hp} {a b : Addr} {pre : List Int} {x : Int} {Q : VK} (ha : H a = some (.tup (pre.map V.int))) (hb : H b = some (.tup [.int x])) (hl : pre.length ≤ 1000)
    (q : ∀ H' c, Ex H H' → H' c = some (.tup ((pre ++ [x]).map V.int)) → Q (.ref c) H') : rCatA K (.ref a) (.ref b) H Q := by
  refine ⟨a, b, _, _, rfl, rfl, SqT.of ha, SqT.of hb, ?_, fun h => ?_, fun _ h => (by cases h), fun _ _ p hp => ?_⟩
  · have hz : sizeLine = 16777216 := rfl
    rw [List.length_map]
    show pre.length + 1 ≤ sizeLine
    omega
  · have hp : pre = [] := by cases pre with | nil => rfl | cons _ _ => cases h
    subst hp
    exact q H b (Ex.refl H) hb
  · refine q _ p (Ex.upd hp) ?_
    rw [upd_same, List.map_append]
    rfl
end
end KL6
set_option Elab.async false
set_option linter.all false
set_option maxRecDepth 100000
set_option maxHeartbeats 4000000
namespace KS
open PySem PySem.Spec PyProof.Rows PySem.Calls L2 KB KC KD LamX PySem.SeqAt
def rSortItK (X : Cx) : List V → List V → Hp → VK → Prop := fun vs zs H Q => ∃ (p a f : Addr) (kvs : List (List Key × V)) (kd : List Key × V → List PyData) (ρ : List Key × V → Int), vs = [.ref p] ∧ zs = [.ref f] ∧ H p = some (L2.DX.itemsO p a) ∧ H a = some (.dT kvs) ∧
  (∀ x ∈ kvs, shaped (.tuple (kd x)) = true) ∧ (∀ x ∈ kvs, pureL (kd x) = true) ∧ (∀ x ∈ kvs, ∃ l r, kd x = .tuple l :: r) ∧ (∀ x ∈ kvs, ∀ y ∈ kvs, okL (kd x) (kd y) = true) ∧ (∀ x ∈ kvs, ∀ y ∈ kvs, ltL (kd x) (kd y) = decide (ρ x < ρ y)) ∧ KeyCall X f H kvs kd ∧
  ∀ (H' : Hp) (D : Addr) (zs : List (Addr × (List Key × V))), Ex H H' → H D = none → H' D = some (.lst (zs.map fun z => V.ref z.1)) → (zs.map (·.2)).Perm kvs → (zs.map (·.2)).Pairwise (fun x y => ¬ ρ y < ρ x) →
    (∀ z ∈ zs, ∃ q, H' z.1 = some (.tup [.ref q, z.2.2]) ∧ H' q = some (.tup (z.2.1.map kV))) → Q (.ref D) H'
section
variable {X : Cx}
theorem cr_sortedItK (hc : X.calm = true) (hu : X.A.units + 66 < cLine) : CallRK X (.builtin "sorted") [Str.ofString "key"] (rSortItK X) := by
  intro pins s σ H xs zs us ws Q I r rz h
  obtain ⟨p, a, f, kvs, kd, ρ, rfl, rfl, hp, ha, hsh, hpu, hft, hok, hρ, hcall, q⟩ := h
  obtain rfl := Vals.ref1 r
  obtain rfl := Vals.ref1 rz
  have view : s.heap.IsItemsView p a := (show ObjOk X.prog X.w H s.heap p (L2.DX.itemsO p a) from I.hok p _ hp).1
  obtain ⟨z, hd, xs', rel, o, es, ep, ho, hx, hdat, hes, his, hn⟩ := dt_of I.hok ha
  have l1 : kvs.length = xs'.length := Paired.length rel
  have l2 : es.size = xs'.length := size_of_entries hes
  show wpAny _ _ (call (.builtin "sorted") [.ref p] [(Str.ofString "key", .ref f)]) _ _ s
  refine call_function_entry_kw kind_sorted plain_sorted entry_sorted (ksk_s1 _ _) ?_
  unfold Builtin.«sorted»
  refine wpAny_bind (m := checkCount "sorted" 1 1 _) (wpAny_pure ?_)
  refine wpAny_bind (DT.collectI (A := X.A.in1) (es := es) (ep := ep) (I.ok.hd hc) view ⟨o, ho, hx, hdat⟩ (by omega) fun h' tk as hk hlt hl hG => ?_)
  refine wpAny_bind (wpAny_newList ?_ (by rw [List.length_map, hl]; omega))
  have hoL : (h'.push (seqObj "list" (as.map Value.ref).toArray 0)).get? h'.objs.size = some (seqObj "list" (as.map Value.ref).toArray 0) := Heap.get?_push_size _ rfl
  refine wpAny_bind (wpAny_holding (wpAny_call_entry_kw slot_list_sort ⟨_, hoL, rfl⟩ entry_list_sort ?body (ksk_l1 _ _)))
  case body =>
    show wpAny (model X.prog X.w) X.A.in1.in1 (Builtin.«list.sort» ⟨[.ref h'.objs.size], [(Str.ofString "key", .ref f)]⟩) _ _ _
    rw [ksk_t1]
    refine sort_body (s := s) (h2 := h'.push (seqObj "list" (as.map Value.ref).toArray 0)) (tk := tk) (ρ := ρ) I (fun b u e => Heap.get?_push_of_some _ (hk b u e)) hoL (Nat.le_of_lt hlt) rel hes hl
      ⟨hG.rise, hG.above, fun j b hj => let ⟨e, he, hg⟩ := hG.pairs j b hj; ⟨e, he, Heap.get?_push_of_some _ hg⟩⟩ z hsh hpu hft hok hρ hu hcall fun H' s' zs J e1 e2 e3 e4 e5 e6 => ⟨_, rfl, ?_⟩
    exact wpAny_pure ⟨_, rfl, .ref h'.objs.size, H', J, rfl, q H' h'.objs.size zs e1 e2 e3 e4 e5 e6⟩
theorem keyCall_lam {k : Nat} {f c' : Addr} {qn : Str} {params : Arguments} {body : Expr} {scope : Scope} {N : List Str} {pn : Str} {H : Hp} {kvs : List (List Key × V)} {kd : List Key × V → List PyData} (S : FnScope N [pn] scope) (hr : Room (k + 3) X.A)
    (hf : H f = some (LamO f qn params body scope c')) (hc : H c' = some (CodeO c' qn)) (hb : ∀ (s : Shared) (pm ctv u : Value), BindsTo s (PySem.W.kla_fn "<lambda>" qn params body scope [] pm (.ref c') ctv) ⟨[u], []⟩ ([pn].zip [u]))
    (hbody : ∀ (A : Around) (outer : List Env) (s : Shared) (H1 : Hp), Room k (A.deeper (envOfC qn scope s.heap.objs.size f (.ref c'))) → ∀ x ∈ kvs, ∀ (t q : Addr) (Q : VK), Ex H H1 → H1 t = some (.tup [.ref q, x.2]) → H1 q = some (.tup (x.1.map kV)) →
      (∀ y H2, Ex H1 H2 → Dp X.K H2 y (.tuple (kd x)) → Q y H2) → ∃ tt, PE (cxOf CX0 X.prog X.w X.K X.mg X.base N qn scope f (.ref c') A outer s H1 E0) body tt ∧ tt (start N [.ref t]) H1 Q) : KeyCall X f H kvs kd := by
  intro x hx t q H1 e1 h1 h2 pins σ s1 R J hR
  have hr2 : Room (k + 1) X.A.in1.in1 := (show Room (k + 2) X.A.in1 from Room.in1 hr).in1
  have rc := lam_run (CX := CX0) (Q := fun y H2 => Ex H1 H2 ∧ Dp X.K H2 y (.tuple (kd x))) (E := E0) (vs := [.ref t]) (us := [.ref t]) (args := ⟨[.ref t], []⟩) S hr2 J.env0.in1.in1 (e1 _ _ hf) (e1 _ _ hc) (fun pm ctv => hb s1 pm ctv _) (.cons rfl .nil) rfl
    (fun hr' => hbody _ _ s1 H1 hr' x hx t q _ e1 h1 h2 fun y H2 a b => ⟨a, b⟩)
  refine wpAny_call (codeAny_mono rc fun r s2 hq => ?_)
  cases r with
  | error e => exact (show False from hq).elim
  | ok fl =>
    cases fl with
    | ret u =>
      obtain ⟨y, H2, J2, ry, a, b⟩ := J.after hq
      exact hR y u H2 s2 J2 a ry b
    | next => exact False.elim hq
    | brk => exact False.elim hq
    | cont => exact False.elim hq
end
end KS
set_option Elab.async false
set_option linter.all false
set_option maxRecDepth 100000
set_option maxHeartbeats 4000000
namespace KG
open PySem PySem.Spec PyProof.Rows PySem.Calls L2 KB
def mergeT (acc kvs : List (List Key × V)) : List (List Key × V) := kvs.foldl (fun acc p => putK acc p.1 p.2) acc
theorem kt_merge {H : Hp} : ∀ {kvs : List (List Key × V)} {xs : List (List Key × Addr × Value)} {acc : List (List Key × V)} {ys : List (List Key × Addr × Value)}, KT H kvs xs → KT H acc ys → KT H (mergeT acc kvs) (storedAllH ys xs)
  | _, _, _, _, .nil, r => r
  | _, _, _, _, .cons (a := p) (b := x) (l₁ := kvs) (l₂ := xs) h t, r => by
    obtain ⟨h1, h2, h3⟩ := h
    have z := KT.put r p.1 (b := x.2.1) (by exact h2) h3
    show KT H (mergeT (putK _ p.1 p.2) kvs) (storedAllH (storedH _ x.1 x.2.1 x.2.2) xs)
    rw [← h1]
    exact kt_merge t z
theorem putK_len {κ : Type} [DecidableEq κ] (kvs : List (κ × V)) (k : κ) (v : V) : (putK kvs k v).length ≤ kvs.length + 1 := by
  unfold putK
  split
  · rw [List.length_map]; omega
  · rw [List.length_append]; simp
theorem merge_len : ∀ (kvs acc : List (List Key × V)), (mergeT acc kvs).length ≤ acc.length + kvs.length
  | [], acc => Nat.le_refl _
  | p :: kvs, acc => by
    have h1 := merge_len kvs (putK acc p.1 p.2)
    have h2 := putK_len acc p.1 p.2
    rw [List.length_cons]
    show (mergeT (putK acc p.1 p.2) kvs).length ≤ _
    omega
section
variable {X : Cx} {pins : List (Addr × Obj)} {σ : L2.St} {H : Hp} {s : Shared}
theorem pairs_raw (I : Inv X pins σ H s) : ∀ {ts : List Addr} {kvs : List (List Key × V)}, PairsOf H ts kvs → ∃ xs : List (List Key × Addr × Value), KT H kvs xs ∧ xs.length = ts.length ∧ ∀ (j : Nat) (x : List Key × Addr × Value), xs[j]? = some x → ∃ t, ts[j]? = some t ∧ s.heap.IsTuple t #[.ref x.2.1, x.2.2]
  | _, _, .nil => ⟨[], .nil, rfl, fun j x h => by simp at h⟩
  | _, _, .cons (a := t) (b := p) (l₁ := ts) (l₂ := kvs) h r => by
    obtain ⟨xs, k1, k2, k3⟩ := pairs_raw I r
    obtain ⟨q, h1, h2⟩ := h
    obtain ⟨_, its, rv, ht⟩ := (show ObjOk X.prog X.w H s.heap t (.tup [.ref q, p.2]) from I.hok t _ h1)
    cases rv with
    | cons r1 r2 =>
      cases r2 with
      | @cons _ u _ _ r3 r4 =>
        cases r4
        cases r1
        refine ⟨(p.1, q, u) :: xs, .cons ⟨rfl, h2, r3⟩ k1, by rw [List.length_cons, List.length_cons, k2], fun j x hj => ?_⟩
        cases j with
        | zero =>
          simp only [List.getElem?_cons_zero, Option.some.injEq] at hj
          subst hj
          exact ⟨t, rfl, ht⟩
        | succ j =>
          simp only [List.getElem?_cons_succ] at hj
          exact k3 j x hj
def rDictT : List V → Hp → VK → Prop := fun vs H Q => ∃ (a : Addr) (ts : List Addr) (kvs : List (List Key × V)), vs = [.ref a] ∧ (H a = some (.lst (ts.map V.ref)) ∨ ∃ o, H a = some (.frz o (.tup (ts.map V.ref))) ∧ o.dict = none) ∧ PairsOf H ts kvs ∧ ∀ p, H p = none → Q (.ref p) (upd H p (.dT (mergeT [] kvs)))
theorem cr_dictT (hc : X.calm = true) (hu : X.A.units + 4 < cLine) : CallR X (.type "dict") rDictT := by
  intro pins s σ H vs us Q I r h
  obtain ⟨a, ts, kvs, rfl, ha, hp, q⟩ := h
  obtain rfl := Vals.ref1 r
  obtain ⟨xs, k1, k2, k3⟩ := pairs_raw I hp
  have lk : kvs.length = xs.length := Paired.length k1
  have items : PairItems s.heap (ts.map Value.ref).toArray (fun j => ts.getD j 0) (xs.map fun x => (Value.ref x.2.1, x.2.2)) := by
    refine ⟨by simp [k2], fun j k v hj => ?_⟩
    rw [List.getElem?_map] at hj
    obtain ⟨x, hx, e⟩ := Option.map_eq_some_iff.mp hj
    obtain ⟨t, ht, hT⟩ := k3 j x hx
    cases e
    refine ⟨by simp [ht], .inl ?_⟩
    have e2 : ts.getD j 0 = t := by simp [List.getD, ht]
    show s.heap.IsTuple (ts.getD j 0) _
    rw [e2]
    exact hT
  have nps : (xs.map fun x => (Value.ref x.2.1, x.2.2)).length = xs.length := List.length_map _
  have hc2 : PairsHaveH (tupleKind (mixKind X.prog X.w)) (xs.map fun x => (Value.ref x.2.1, x.2.2)).length (PairRel (xs.map fun x => (Value.ref x.2.1, x.2.2))) xs := by
    refine ⟨by rw [nps], fun i key v hj => ?_⟩
    have hj : (xs.map fun x => (Value.ref x.2.1, x.2.2))[i]? = some (key, v) := hj
    rw [List.getElem?_map] at hj
    obtain ⟨x, hx, e⟩ := Option.map_eq_some_iff.mp hj
    cases e
    exact ⟨x.1, x.2.1, by rw [hx], rfl⟩
  have keys : ∀ x ∈ xs, (tupleKind (mixKind X.prog X.w)).is s.heap x.1 x.2.1 := fun x hx => by
    obtain ⟨p, _, e1, e2, _⟩ := mem_r k1 x hx
    rw [← e1]
    exact key_of I.hok e2
  have hst : KeysStay (tupleKind (mixKind X.prog X.w)) s.heap s.heap.objs.size [] xs := fun h' hk x hx => by
    obtain ⟨o, its, n, ho, hc', hd, hi⟩ := keys x hx
    exact ⟨o, its, n, hk _ _ (Nat.ne_of_lt (Heap.lt_size ho)) (by simp) ho, hc', hd, hi⟩
  have hroom : (tupleKind (mixKind X.prog X.w)).room X.A.in1.in1 := tupleKind_room_in1 (by show X.A.units + 1 + 1 < cLine; omega)
  have hm : (s.heap.objs.size == sysModules) = false := beq_eq_false_iff_ne.mpr (Nat.ne_of_gt I.big)
  have fin : ∀ (h' : Heap) (tk : Nat), h'.DictOfH (tupleKind (mixKind X.prog X.w)) s.heap.objs.size (storedAllH [] xs) → (∀ b o, b ∉ ([] : List Addr) → s.heap.get? b = some o → h'.get? b = some o) → kvs.length ≤ sizeLine → EP X pins σ Q (.ref s.heap.objs.size) { s with heap := h', toks := tk } := by
    intro h' tk hd hk hz
    obtain ⟨o, es, ep, d1, d2, d3, d4, _, d6⟩ := hd
    have kt : KT (upd H s.heap.objs.size (.dT (mergeT [] kvs))) (mergeT [] kvs) (storedAllH [] xs) := (kt_merge k1 .nil).keeps fun b ys e => by rw [upd_ne (ne_of_none e (I.hok.fresh (Nat.le_refl _)))]; exact e
    have hz2 := merge_len kvs []
    exact ⟨.ref s.heap.objs.size, _, I.laid (t' := tk) (o := .dT (mergeT [] kvs)) (fun b o e => hk b o (by simp) e) (Nat.le_refl _) ⟨by simp at hz2; omega, hm, _, kt, o, es, ep, d1, d2, d3, d4, d6⟩, rfl, q _ (I.hok.fresh (Nat.le_refl _))⟩
  rcases ha with ha | ha
  · obtain ⟨hz, its, n, ri, hraw⟩ := (show ObjOk X.prog X.w H s.heap a (.lst (ts.map V.ref)) from I.hok a _ ha)
    have ei : its = ts.map Value.ref := refs_at ri
    subst ei
    rw [List.length_map] at hz
    exact call_dict_pairsH (knd := tupleKind (mixKind X.prog X.w)) (PairArg.list a _ _ _) (I.ok.hd hc) hroom ⟨⟨_, n, hraw, rfl, rfl, rfl⟩, items⟩ hc2 hst (by rw [nps]; omega) fun h' tk hd hk => fin h' tk hd hk (by omega)
  · obtain ⟨o, ha, hdn⟩ := ha
    obtain ⟨ho, hz, its, ri, hraw⟩ := (show ObjOk X.prog X.w H s.heap a (.frz o (.tup (ts.map V.ref))) from I.hok a _ ha)
    have ei : its = ts.map Value.ref := refs_at ri
    subst ei
    rw [List.length_map] at hz
    obtain ⟨o', ho', hcl, n, hdat⟩ := hraw
    have e : o' = o := Option.some.inj (ho'.symm.trans ho)
    subst e
    exact call_dict_pairsH (knd := tupleKind (mixKind X.prog X.w)) (PairArg.tuple a _ _ _) (I.ok.hd hc) hroom ⟨⟨o', n, ho, hcl, hdn, hdat⟩, items⟩ hc2 hst (by rw [nps]; omega) fun h' tk hd hk => fin h' tk hd hk (by omega)
def rTupleF (K : PySem.W.Frag) : List V → Hp → VK → Prop := fun vs H Q => ∃ (p : Addr) (ys : List V), vs = [.ref p] ∧ SqL K H p ys ∧ ∀ (l : Addr) (o : Obj), o.dict = none → H l = none → Q (.ref l) (upd H l (.frz o (.tup ys)))
theorem cr_tupleF : CallR X (.type "tuple") (rTupleF X.K) := by
  intro pins s σ H vs us Q I r h
  obtain ⟨p, ys, rfl, hq, q⟩ := h
  obtain rfl := Vals.ref1 r
  obtain ⟨its, r', pl, hz⟩ := I.list hq
  have hlen := r'.length
  refine call_tuple_list pl.isList (fun h' kp => ?_) (by simp only [List.size_toArray]; omega)
  have I1 : Inv X pins σ H { s with heap := h' } := I.kept (t' := s.toks) kp
  have hget : (h'.push { cls := .type "tuple", data := .seq its.toArray }).get? h'.objs.size = some { cls := .type "tuple", data := .seq its.toArray } := Heap.get?_push_size _ rfl
  exact ⟨.ref h'.objs.size, _, I1.laid (t' := s.toks) (o := .frz { cls := .type "tuple", data := .seq its.toArray } (.tup ys)) (fun b o e => Heap.get?_push_of_some _ e) (Nat.le_refl _) ⟨hget, hz, its, r', _, hget, rfl, 0, rfl⟩, rfl, q _ _ rfl (I1.hok.fresh (Nat.le_refl _))⟩
end
end KG
set_option Elab.async false
set_option linter.all false
set_option maxRecDepth 100000
set_option maxHeartbeats 4000000
namespace KH
open PySem PySem.Spec PyProof.Rows PySem.Calls L2 KB GxR
def EltI (prog : Program) (w : World) (scope : Scope) (x : Str) (elt : Expr) (pb : Int → Bool) : Prop :=
  ∀ (cenv : Env) (A' : Around) (E' : Value → Shared → Prop) (i : Int) (t : Tok) (s₂ : Shared) (m₂ : Str → Option Value), cenv.scope = scope → s₂.heap.Ns cenv.locals m₂ → m₂ x = some (.int i t) →
    wpAny (model prog w) A' (eval elt cenv) (fun y s₃ => y = .bool (pb i) ∧ Keeps s₂ s₃) E' s₂
theorem elt_gt {prog : Program} {w : World} {scope : Scope} {x : Str} {n : Int} {j : Nat} {p1 p2 p3 : Pos} (hk : scope.kind = .function) (hl : scope.names.lookup x = some .local) (hd : (x == ("__debug__" : Str)) = false := by decide) :
    EltI prog w scope x (.Compare (.Name x p1) [.Gt] [.Constant (.int n) j p2] p3) (fun i => decide (n < i)) := by
  intro cenv A' E' i t s₂ m₂ hs hn hm
  refine wpAny_Compare1 ?_
  refine wpAny_Name (wpAny_loadName_local (by rw [hs]; exact hk) (show cenv.scope.names.lookup x = some .local by rw [hs]; exact hl) hn hm ?_) hd
  refine wpAny_Constant_int ?_
  exact PyProof.Rows.gt_int ⟨rfl, keeps_tok _ _⟩
def intP (pb : Int → Bool) : Value → Bool
  | .int i _ => pb i
  | _ => false
def vP (pb : Int → Bool) : V → Bool
  | .int i => pb i
  | _ => false
def trE (pb : Int → Bool) (es : Array DictEntry) (j : Nat) : Bool := match es[j]? with
  | some e => intP pb e.val
  | none => false
theorem all_trE (pb : Int → Bool) (es : Array DictEntry) : (List.range es.size).all (trE pb es) = es.toList.all fun e => intP pb e.val := by
  rw [Bool.eq_iff_iff, List.all_eq_true, List.all_eq_true]
  constructor
  · intro h e he
    obtain ⟨j, hj, hx⟩ := List.getElem_of_mem he
    have hj' : j < es.size := by rw [← Array.length_toList]; exact hj
    have q := h j (List.mem_range.mpr hj')
    unfold trE at q
    rw [Array.getElem?_eq_getElem hj'] at q
    rw [Array.getElem_toList] at hx
    rw [← hx]
    exact q
  · intro h j hj
    have hj' := List.mem_range.mp hj
    unfold trE
    rw [Array.getElem?_eq_getElem hj']
    exact h _ (Array.mem_toList_iff.mpr (Array.getElem_mem hj'))
theorem all_kt (pb : Int → Bool) {H : Hp} : ∀ {kvs : List (List Key × V)} {xs : List (List Key × Addr × Value)}, KT H kvs xs → (xs.all fun x => intP pb x.2.2) = kvs.all fun p => vP pb p.2
  | _, _, .nil => rfl
  | _, _, .cons (a := p) (b := x) h t => by
    rw [List.all_cons, List.all_cons, all_kt pb t]
    obtain ⟨_, _, rv⟩ := h
    have e : intP pb x.2.2 = vP pb p.2 := by
      cases hp : p.2 with
      | int i =>
        rw [hp] at rv
        obtain ⟨t, e⟩ := rv
        rw [e]
        rfl
      | non => rw [hp] at rv; rw [show x.2.2 = Value.none from rv]; rfl
      | bl b => rw [hp] at rv; rw [show x.2.2 = Value.bool b from rv]; rfl
      | str z => rw [hp] at rv; obtain ⟨t, e⟩ := rv; rw [e]; rfl
      | byt z => rw [hp] at rv; obtain ⟨t, e⟩ := rv; rw [e]; rfl
      | flt z => rw [hp] at rv; obtain ⟨t, e⟩ := rv; rw [e]; rfl
      | ref a => rw [hp] at rv; rw [show x.2.2 = Value.ref a from rv]; rfl
      | ty n => rw [hp] at rv; rw [show x.2.2 = Value.type n from rv]; rfl
    rw [e]
theorem nat1 {a b c : Nat} (h : a < b) (e : c = b + 1) (q : a = c) : False := by omega
theorem nat2 {a b c : Nat} (h : a < b) (e : b ≤ c) (q : a = c) : False := by omega
section
variable {X : Cx} {pins : List (Addr × Obj)} {σ : L2.St} {H : Hp} {s : Shared}
def ReadyI (X : Cx) (pins : List (Addr × Obj)) (σ : L2.St) (H1 : Hp) (P : Addr) (es : Array DictEntry) (pb : Int → Bool) (g : Addr) (s5 : Shared) : Prop :=
  ∃ (fp wr : List Addr) (G : Array GenState → Array GenState → Prop) (F : Nat → Value → Prop) (St : Nat → Shared → Prop),
    WalksS X.prog X.w X.A.in1 g fp wr G es.size F St ∧ St 0 s5 ∧ TruthOf X.prog X.w X.A.in1 F (trE pb es) ∧ ∀ s', Moved wr G s5 s' → ∃ H2, Tabbed P H1 H2 ∧ Inv X pins σ H2 s'
theorem gen_vals {c P : Addr} {elt e : Expr} {x : Str} {px gpos apos cpos : Pos} {scope : Scope} {pb : Int → Bool} {te : TE} {k : Nat} {Q' : Value → Shared → Prop} {R : List (List Key × V) → Hp → Prop}
    (hr : Room k X.A) (TB : TabB X.base X.mg c P) (hcode : X.env.code = .ref c) (S : GenS X.env scope x) (hi : PE X e te) (hel : EltI X.prog X.w scope x elt pb)
    (hbase : attributeBase e "values" X.env (eval e X.env) = eval e X.env) (hline : (apos.endLine == cpos.line) = true)
    (hs : ∀ v, genFold (.Call (.Attribute e "values" apos) [] [] cpos) X.env v = pure v) (I : Inv X pins σ H s) (h : te σ H fun v H1 => ∃ (d : Addr) (kvs : List (List Key × V)), v = .ref d ∧ H1 d = some (.dT kvs) ∧ IntVals kvs ∧ TabG H1 P ∧ R kvs H1)
    (hQ : ∀ kvs H1 es g s5, R kvs H1 → (es.toList.all fun e => intP pb e.val) = (kvs.all fun p => vP pb p.2) → ReadyI X pins σ H1 P es pb g s5 → Q' (.ref g) s5) :
    wpAny (model X.prog X.w) X.A (eval (.GeneratorExp elt [⟨.Name x px, .Call (.Attribute e "values" apos) [] [] cpos, [], 0⟩] scope gpos) X.env) Q' X.xe s := by
  refine wpAny_GeneratorExp_walksQ hr.hd S.co (closure_ok S.free) S.cell S.dot S.loc S.kind (by have := hr.dp; omega) ?_ hs
  refine wpAny_Call_method (T := "dict") (id := "dict.values") hbase rfl hline F.plainAttrs_dict F.slot_dict_values F.type_dict_values (thn (hi.run pins s σ H _ I h) fun u s1 ⟨v, H1, I1, r1, d, kvs, ev, hd, hiv, ⟨ps, hP, ht⟩, q1⟩ => ?_)
  subst ev
  obtain rfl : u = Value.ref d := r1
  obtain ⟨z, hm0, xs, rel, o, es, ep, ho, hx, hdat, hes, his, hn⟩ := dt_of I1.hok hd
  have raw : s1.heap.DictRaw d es ep := ⟨o, ho, hx, hdat⟩
  refine ⟨raw.typeIs, fun a e => by cases e; exact ⟨o, ho, hx.2.1⟩, ?_⟩
  show wpAny _ _ (callWith cpos (.builtin "dict.values") [.ref d] [] []) _ X.xe s1
  refine method_meetsIn F.slot_dict_values F.entry_dict_values rfl (PySem.evalArgs_none ⟨rfl, raw.typeIs, F.args_dict_values_1 _, _, meets_dict_values_raw d hm0, ⟨es, ep, raw⟩, ?_⟩)
  refine wpAny_pyIter_values_raw ⟨_, Heap.get?_push_size _ rfl, rfl, rfl⟩ (raw.at fun o e => Heap.get?_push_of_some _ e) ?_
  generalize hva : s1.heap.push { cls := .type "dict_values", data := .fields #[.ref d] } = hv
  have kv : ∀ b u, s1.heap.get? b = some u → hv.get? b = some u := fun b u e => by rw [← hva]; exact Heap.get?_push_of_some _ e
  have zv : hv.objs.size = s1.heap.objs.size + 1 := by rw [← hva, Heap.size_push]
  show _ ∧ _
  generalize hio : ({ cls := .type "dict_valueiterator", data := .fields #[.ref d, .int 0 0, .int es.size 0, .int ep 0] } : Obj) = io
  have k2 : ∀ b u, s1.heap.get? b = some u → (hv.push io).get? b = some u := fun b u e => Heap.get?_push_of_some _ (kv b u e)
  have hPs : s1.heap.get? P = some { cls := .none, data := .fields ps } := I1.hok P _ hP
  have hPlt : P < s1.heap.objs.size := Heap.lt_size hPs
  have hdlt : d < s1.heap.objs.size := Heap.lt_size ho
  have hP2 : (hv.push io).get? P = some { cls := .none, data := .fields ps } := k2 _ _ hPs
  have cd : PySem.W.CodeHd (hv.push io) c P := TB.code.keeps fun b u e => k2 b u (I1.bk b u e)
  have lim2 : (hv.push io).NoLimit := I1.nolimit.keeps k2
  have hst : (hv.push io).IsValIter hv.objs.size d 0 es.size ep ∧ (hv.push io).DictRaw d es ep := ⟨⟨_, Heap.get?_push_size _ (by rw [← hio]; rfl), by rw [← hio], by rw [← hio]; rfl⟩, raw.at fun o e => k2 _ _ e⟩
  have W : ∀ A' : Around, A'.handled = none → Walks X.prog X.w A' hv.objs.size [hv.objs.size, d] [hv.objs.size] es.size (fun i v => ∃ hi : i < es.size, v = es[i].val) (fun i h => h.IsValIter hv.objs.size d i es.size ep ∧ h.DictRaw d es ep) :=
    fun A' hA => Walks.rawValues hA _ d (by rw [zv]; exact Nat.ne_of_lt (Nat.lt_succ_of_lt hdlt)) es ep
  have vints : ∀ (i : Nat) (hi : i < es.size), ∃ n t, es[i].val = Value.int n t := fun i hi => by
    have hi' : i < xs.length := by rw [← size_of_entries hes]; exact hi
    have e1 := entry_at hes i
    rw [Array.getElem?_eq_getElem hi, List.getElem?_eq_getElem hi'] at e1
    have e2 := Option.some.inj e1
    obtain ⟨n, t, e3⟩ := kt_int rel hiv xs[i] (List.getElem_mem hi')
    exact ⟨n, t, by rw [e2]; exact e3⟩
  have hall : (es.toList.all fun e => intP pb e.val) = kvs.all fun p => vP pb p.2 := by
    rw [hes, List.all_map, ← all_kt pb rel]
    rfl
  have cont : ∀ (code : Value) (h3 : Heap) (tk : Nat) (ps' : Array Value), Heap.ExtBut P (hv.push io) h3 → (hv.push io).objs.size ≤ h3.objs.size → h3.get? P = some { cls := .none, data := .fields ps' } → (∃ more, ps' = ps ++ more) → TriplesOk ps'.toList →
      wpAny (model X.prog X.w) X.A (builtinsFor X.env.globals X.env.builtins) (fun bi s₄ =>
        ∃ Ia fp wr n₀ Pf St₀ pz F, Value.ref hv.objs.size = .ref Ia ∧ (∀ A' : Around, A'.handled = none → Walks X.prog X.w A' Ia fp wr n₀ Pf St₀) ∧ St₀ 0 s₄.heap ∧ (∀ b ∈ fp, b < s₄.heap.objs.size) ∧ s₄.heap.NoLimit ∧ cStatics ∉ wr ∧
          (∀ href : Heap, (∀ b o, s₄.heap.get? b = some o → href.get? b = some o) →
            QuietGen X.prog X.w (genEnv scope (cloFrom X.env.cells scope.names []) s₄.heap.objs.size code bi X.env) x [] elt (List.range s₄.heap.objs.size) wr Pf pz F href) ∧
          (∀ a h₅ tk gs, gs.bare = true → s₄.heap.objs.size < a → h₅.objs.size = a + 1 → (∀ b o, s₄.heap.get? b = some o → h₅.get? b = some o) →
            WalksS X.prog X.w X.A.in4 a (a :: s₄.heap.objs.size :: List.range s₄.heap.objs.size) (s₄.heap.objs.size :: wr) (GenOnlyQ s₄.gens.size) (passing pz n₀ 0).length
              (fun j y => ∃ i, (passing pz n₀ 0)[j]? = some i ∧ F i y) (GenAt X.prog X.w X.A.in4 a s₄.gens.size s₄.heap.objs.size (List.range s₄.heap.objs.size) wr pz n₀ F) →
            GenAt X.prog X.w X.A.in4 a s₄.gens.size s₄.heap.objs.size (List.range s₄.heap.objs.size) wr pz n₀ F 0 { s₄ with gens := s₄.gens.push gs, toks := tk, heap := h₅ } →
            Q' (.ref a) { s₄ with gens := s₄.gens.push gs, toks := tk, heap := h₅ })) X.xe { s1 with heap := h3, toks := tk } := by
    intro code h3 tk ps' hx3 hsz hP3 hmore ht3
    obtain ⟨bm, ob, e1, e2, e3, e4, e5, e6, e7, e8⟩ := TB.bm
    have hcP : cStatics ≠ P := fun e => by
      obtain ⟨_, hns, _⟩ := I1.nolimit
      obtain ⟨o', es', ep', ho', hd', _⟩ := hns
      rw [e, hPs] at ho'
      cases ho'
      cases hd'
    have hcl : cStatics < s1.heap.objs.size := let ⟨_, hns, _⟩ := I1.nolimit; hns.lt
    have sz2 : (hv.push io).objs.size = s1.heap.objs.size + 2 := by rw [Heap.size_push, zv]
    have keep3 : ∀ b u, b ≠ P → s1.heap.get? b = some u → h3.get? b = some u := fun b u hb e => hx3 b u hb (k2 b u e)
    refine wpAny_builtinsFor (m := X.mg) (by rw [I1.ok.glob]; exact (((I1.mod.glob.keeps I1.bk).keeps k2)).extBut hx3 TB.gP) e1 e2 (keep3 _ _ e4 (I1.bk _ _ e5)) e6 e7 e8 ?_
    refine ⟨hv.objs.size, [hv.objs.size, d], [hv.objs.size], es.size, _, _, (fun _ => true), (fun i y => ∃ hi : i < es.size, y = .bool (intP pb es[i].val)), rfl, W, ?_, ?_, lim2.extBut hx3 hcP, ?_, ?_, ?_⟩
    · refine (W X.A hr.hd).frame _ _ _ hst fun b hb u e => hx3 b u (fun z => ?_) e
      rcases List.mem_cons.mp hb with z2 | z2
      · exact (nat1 hPlt zv (z.symm.trans z2)).elim
      · rcases List.mem_cons.mp z2 with z2 | z2
        · rw [z.symm.trans z2, ho] at hPs
          cases hPs
          cases hdat
        · cases z2
    · intro b hb
      rcases List.mem_cons.mp hb with z | z
      · rw [z]
        show hv.objs.size < h3.objs.size
        omega
      · rcases List.mem_cons.mp z with z | z
        · rw [z]
          exact Nat.lt_of_lt_of_le hdlt (show s1.heap.objs.size ≤ h3.objs.size by omega)
        · cases z
    · intro z
      rcases List.mem_cons.mp z with z | z
      · exact (nat1 hcl zv z).elim
      · cases z
    · intro href hhref
      refine ⟨fun A' E' i v s₂ m₂ hA hPv hn hm hk => ?_, fun A' E' i v s₂ m₂ hA hPv hp hn hm hk => ?_⟩
      · simp only [List.forIn_nil]
        exact wpAny_pure ⟨rfl, keeps_refl _⟩
      · obtain ⟨hi', rfl⟩ := hPv
        obtain ⟨n, t, e⟩ := vints i hi'
        rw [e] at hm
        exact wpAny_mono (hel _ A' E' n t s₂ m₂ rfl hn hm) (fun y s3 r => ⟨⟨hi', by rw [r.1, e]; rfl⟩, r.2⟩) fun _ _ e => e
    · intro g h5 tk5 gs hgb hag hsz5 hk5 W5 hat
      simp only [GxR.passing_true, List.length_range] at W5
      refine hQ kvs H1 es g _ q1 hall ⟨_, _, _, _, _, W5.in4_1, hat, ?_, fun s' hmv => ?_⟩
      · intro j y sj Qj Ej hy hQj
        obtain ⟨i, hij, hi', rfl⟩ := hy
        obtain ⟨hj, ej⟩ := List.getElem?_eq_some_iff.mp hij
        rw [List.getElem_range] at ej
        subst ej
        have hQ2 : Qj (trE pb es j) sj := hQj
        unfold trE at hQ2
        rw [Array.getElem?_eq_getElem hi'] at hQ2
        exact wpAny_truthy_bool hQ2
      · obtain ⟨more, em⟩ := hmore
        have nwr : ∀ b u, s1.heap.get? b = some u → b ∉ h3.objs.size :: [hv.objs.size] := fun b u e hb => by
          have hl := Heap.lt_size e
          rcases List.mem_cons.mp hb with z | z
          · exact (nat2 hl (by omega) z).elim
          · rcases List.mem_cons.mp z with z | z
            · exact (nat1 hl zv z).elim
            · cases z
        have J := inv_tab (more := more) (h' := s'.heap) (g' := s'.gens) (d' := s'.drawn) (t' := s'.toks) I1 hP (fun b u hb e => hmv.heap b u (nwr b u e) (hk5 b u (keep3 b u hb e)))
          (by rw [← em]; exact hmv.heap P _ (nwr P _ hPs) (hk5 P _ hP3)) (AllBare.movedS (I1.bare.push hgb) hmv)
        rw [sh_eta s1 s' hmv.os] at J
        exact ⟨upd H1 P (.tbl (ps ++ more)), ⟨⟨ps ++ more, upd_same, by rw [← em]; exact ht3⟩, fun b hb => upd_ne hb⟩, J⟩
  refine ⟨lim2, ?_⟩
  cases hf : codeAmong gpos ps.toList with
  | none =>
    refine wpAny_genexprCodeX hcode (cd.code hP2 ht) (cd.tab hP2) hf fun c' h' tk hx3 hge hlt hco' _ htab' _ => ?_
    obtain ⟨o1, vs, f1, tf, fl, tg, inF, tx, tt, op, _, _, _, _, _, _, _, _, _, htr, _⟩ := hco'
    exact cont _ h' tk _ hx3 (Nat.le_trans hge (Nat.le_of_lt hlt)) htab'.2 ⟨_, rfl⟩ htr
  | some cv =>
    refine wpAny_genexprCode_hit hcode (cd.code hP2 ht) hf ?_
    exact cont cv (hv.push io) s1.toks ps (Heap.ExtBut.refl _ _) (Nat.le_refl _) hP2 ⟨#[], by simp⟩ ht
def tAllV (P : Addr) (pb : Int → Bool) (te : TE) : TE := fun σ H Q => te σ H fun v H1 => ∃ (d : Addr) (kvs : List (List Key × V)), v = .ref d ∧ H1 d = some (.dT kvs) ∧ IntVals kvs ∧ TabG H1 P ∧ ∀ H2, Tabbed P H1 H2 → Q (.bl (kvs.all fun p => vP pb p.2)) H2
theorem pe_allV {c P : Addr} {elt e : Expr} {x : Str} {px p pos gpos apos cpos : Pos} {scope : Scope} {pb : Int → Bool} {te : TE} {k : Nat}
    (hr : Room k X.A) (hg : Gl X "all") (hm : X.mg "all" = none) (TB : TabB X.base X.mg c P) (hcode : X.env.code = .ref c) (S : GenS X.env scope x) (hi : PE X e te) (hel : EltI X.prog X.w scope x elt pb)
    (hbase : attributeBase e "values" X.env (eval e X.env) = eval e X.env := by rfl) (hline : (apos.endLine == cpos.line) = true := by rfl)
    (hs : ∀ v, genFold (.Call (.Attribute e "values" apos) [] [] cpos) X.env v = pure v := by intro _; rfl)
    (he : starEach [.GeneratorExp elt [⟨.Name x px, .Call (.Attribute e "values" apos) [] [] cpos, [], 0⟩] scope gpos] X.env = (false, eval (.GeneratorExp elt [⟨.Name x px, .Call (.Attribute e "values" apos) [] [] cpos, [], 0⟩] scope gpos) X.env) :: starEach [] X.env := by rfl) :
    PE X (.Call (.Name "all" p) [.GeneratorExp elt [⟨.Name x px, .Call (.Attribute e "values" apos) [] [] cpos, [], 0⟩] scope gpos] [] pos) (tAllV P pb te) := by
  refine ⟨fun pins s σ H Q I h => ?_⟩
  refine wpAny_Call_Name_kw (ld_blt I hg hm boot_all ?_)
  refine PyProof.Rows.callWith_builtin1 ?_ he (by rfl)
  rw [he]
  show wpAny _ _ (spliced ((false, eval (.GeneratorExp elt [⟨.Name x px, .Call (.Attribute e "values" apos) [] [] cpos, [], 0⟩] scope gpos) X.env) :: backTo pos (starEach [] X.env))) _ _ s
  refine Calls.spliced_cons (gen_vals (R := fun kvs H1 => ∀ H2, Tabbed P H1 H2 → Q (.bl (kvs.all fun p => vP pb p.2)) H2) hr TB hcode S hi hel hbase hline hs I h fun kvs H1 es g s5 hR hal hG => ?_)
  obtain ⟨fp, wr, G, F, St, W, hst, htr, hI⟩ := hG
  refine Calls.spliced_nil ?_
  refine call_all_walkS (W.self 0 _ _ _ hst ⟨g, fp, wr, G, _, F, St, _, rfl, W, hst, htr, fun s' hmv => ?_⟩)
  obtain ⟨H2, hT, J⟩ := hI s' hmv
  refine ⟨.bl _, H2, J, rfl, ?_⟩
  rw [all_trE pb es, hal]
  exact hR H2 hT
end
end KH
set_option Elab.async false
set_option linter.all false
set_option maxRecDepth 100000
set_option maxHeartbeats 4000000
namespace KH
open PySem PySem.Spec PyProof.Rows PySem.Calls L2 KB GxR
def TabbedS (P : Addr) (q : Str) (H H' : Hp) : Prop := LamX.TabS H' P q ∧ ∀ b o, b ≠ P → H b = some o → H' b = some o
theorem ltN {a n s h : Nat} (h1 : n ≤ a) (h2 : n = s + 2) (h3 : h = s + 1) (z : a = h) : False := by omega
section
variable {X : Cx} {pins : List (Addr × Obj)} {σ : L2.St} {H : Hp} {s : Shared}
def ReadyS (X : Cx) (pins : List (Addr × Obj)) (σ : L2.St) (H1 : Hp) (P : Addr) (q : Str) (es : Array DictEntry) (pb : Int → Bool) (g : Addr) (s5 : Shared) : Prop :=
  ∃ (fp wr : List Addr) (G : Array GenState → Array GenState → Prop) (F : Nat → Value → Prop) (St : Nat → Shared → Prop),
    WalksS X.prog X.w X.A.in1 g fp wr G es.size F St ∧ St 0 s5 ∧ TruthOf X.prog X.w X.A.in1 F (trE pb es) ∧ ∀ s', Moved wr G s5 s' → ∃ H2, TabbedS P q H1 H2 ∧ Inv X pins σ H2 s'
theorem gen_valsS {c P : Addr} {q : Str} {elt e : Expr} {x : Str} {px gpos apos cpos : Pos} {scope : Scope} {pb : Int → Bool} {te : TE} {k : Nat} {Q' : Value → Shared → Prop} {R : List (List Key × V) → Hp → Prop}
    (hq : X.env.qual ++ Str.ofString "<genexpr>" = q) (hr : Room k X.A) (TB : TabB X.base X.mg c P) (hcode : X.env.code = .ref c) (S : GenS X.env scope x) (hi : PE X e te) (hel : EltI X.prog X.w scope x elt pb)
    (hbase : attributeBase e "values" X.env (eval e X.env) = eval e X.env) (hline : (apos.endLine == cpos.line) = true)
    (hs : ∀ v, genFold (.Call (.Attribute e "values" apos) [] [] cpos) X.env v = pure v) (I : Inv X pins σ H s) (h : te σ H fun v H1 => ∃ (d : Addr) (kvs : List (List Key × V)), v = .ref d ∧ H1 d = some (.dT kvs) ∧ IntVals kvs ∧ LamX.TabS H1 P q ∧ R kvs H1)
    (hQ : ∀ kvs H1 es g s5, R kvs H1 → (es.toList.all fun e => intP pb e.val) = (kvs.all fun p => vP pb p.2) → ReadyS X pins σ H1 P q es pb g s5 → Q' (.ref g) s5) :
    wpAny (model X.prog X.w) X.A (eval (.GeneratorExp elt [⟨.Name x px, .Call (.Attribute e "values" apos) [] [] cpos, [], 0⟩] scope gpos) X.env) Q' X.xe s := by
  refine wpAny_GeneratorExp_walksQ hr.hd S.co (closure_ok S.free) S.cell S.dot S.loc S.kind (by have := hr.dp; omega) ?_ hs
  refine wpAny_Call_method (T := "dict") (id := "dict.values") hbase rfl hline F.plainAttrs_dict F.slot_dict_values F.type_dict_values (thn (hi.run pins s σ H _ I h) fun u s1 ⟨v, H1, I1, r1, d, kvs, ev, hd, hiv, ⟨ps, hP, ht, ha⟩, q1⟩ => ?_)
  subst ev
  obtain rfl : u = Value.ref d := r1
  obtain ⟨z, hm0, xs, rel, o, es, ep, ho, hx, hdat, hes, his, hn⟩ := dt_of I1.hok hd
  have raw : s1.heap.DictRaw d es ep := ⟨o, ho, hx, hdat⟩
  refine ⟨raw.typeIs, fun a e => by cases e; exact ⟨o, ho, hx.2.1⟩, ?_⟩
  show wpAny _ _ (callWith cpos (.builtin "dict.values") [.ref d] [] []) _ X.xe s1
  refine method_meetsIn F.slot_dict_values F.entry_dict_values rfl (PySem.evalArgs_none ⟨rfl, raw.typeIs, F.args_dict_values_1 _, _, meets_dict_values_raw d hm0, ⟨es, ep, raw⟩, ?_⟩)
  refine wpAny_pyIter_values_raw ⟨_, Heap.get?_push_size _ rfl, rfl, rfl⟩ (raw.at fun o e => Heap.get?_push_of_some _ e) ?_
  generalize hva : s1.heap.push { cls := .type "dict_values", data := .fields #[.ref d] } = hv
  have kv : ∀ b u, s1.heap.get? b = some u → hv.get? b = some u := fun b u e => by rw [← hva]; exact Heap.get?_push_of_some _ e
  have zv : hv.objs.size = s1.heap.objs.size + 1 := by rw [← hva, Heap.size_push]
  show _ ∧ _
  generalize hio : ({ cls := .type "dict_valueiterator", data := .fields #[.ref d, .int 0 0, .int es.size 0, .int ep 0] } : Obj) = io
  have k2 : ∀ b u, s1.heap.get? b = some u → (hv.push io).get? b = some u := fun b u e => Heap.get?_push_of_some _ (kv b u e)
  have hPs : s1.heap.get? P = some { cls := .none, data := .fields ps } := I1.hok P _ hP
  have hPlt : P < s1.heap.objs.size := Heap.lt_size hPs
  have hdlt : d < s1.heap.objs.size := Heap.lt_size ho
  have hP2 : (hv.push io).get? P = some { cls := .none, data := .fields ps } := k2 _ _ hPs
  have cd : PySem.W.CodeHd (hv.push io) c P := TB.code.keeps fun b u e => k2 b u (I1.bk b u e)
  have lim2 : (hv.push io).NoLimit := I1.nolimit.keeps k2
  have hst : (hv.push io).IsValIter hv.objs.size d 0 es.size ep ∧ (hv.push io).DictRaw d es ep := ⟨⟨_, Heap.get?_push_size _ (by rw [← hio]; rfl), by rw [← hio], by rw [← hio]; rfl⟩, raw.at fun o e => k2 _ _ e⟩
  have W : ∀ A' : Around, A'.handled = none → Walks X.prog X.w A' hv.objs.size [hv.objs.size, d] [hv.objs.size] es.size (fun i v => ∃ hi : i < es.size, v = es[i].val) (fun i h => h.IsValIter hv.objs.size d i es.size ep ∧ h.DictRaw d es ep) :=
    fun A' hA => Walks.rawValues hA _ d (by rw [zv]; exact Nat.ne_of_lt (Nat.lt_succ_of_lt hdlt)) es ep
  have vints : ∀ (i : Nat) (hi : i < es.size), ∃ n t, es[i].val = Value.int n t := fun i hi => by
    have hi' : i < xs.length := by rw [← size_of_entries hes]; exact hi
    have e1 := entry_at hes i
    rw [Array.getElem?_eq_getElem hi, List.getElem?_eq_getElem hi'] at e1
    have e2 := Option.some.inj e1
    obtain ⟨n, t, e3⟩ := kt_int rel hiv xs[i] (List.getElem_mem hi')
    exact ⟨n, t, by rw [e2]; exact e3⟩
  have hall : (es.toList.all fun e => intP pb e.val) = kvs.all fun p => vP pb p.2 := by
    rw [hes, List.all_map, ← all_kt pb rel]
    rfl
  have cont : ∀ (code : Value) (h3 : Heap) (tk : Nat) (ps' : Array Value), Heap.ExtBut P (hv.push io) h3 → (hv.push io).objs.size ≤ h3.objs.size → h3.get? P = some { cls := .none, data := .fields ps' } → (∃ more, ps' = ps ++ more) → TriplesOk ps'.toList → ∀ co : Option Addr, (∀ pos' cv, codeAmong pos' ps'.toList = some cv → codeAmong pos' ps.toList = some cv ∨ ∃ c', co = some c' ∧ cv = .ref c') → (∀ c', co = some c' → (hv.push io).objs.size ≤ c' ∧ c' < h3.objs.size ∧ h3.CodeRec (.ref c') q) →
      wpAny (model X.prog X.w) X.A (builtinsFor X.env.globals X.env.builtins) (fun bi s₄ =>
        ∃ Ia fp wr n₀ Pf St₀ pz F, Value.ref hv.objs.size = .ref Ia ∧ (∀ A' : Around, A'.handled = none → Walks X.prog X.w A' Ia fp wr n₀ Pf St₀) ∧ St₀ 0 s₄.heap ∧ (∀ b ∈ fp, b < s₄.heap.objs.size) ∧ s₄.heap.NoLimit ∧ cStatics ∉ wr ∧
          (∀ href : Heap, (∀ b o, s₄.heap.get? b = some o → href.get? b = some o) →
            QuietGen X.prog X.w (genEnv scope (cloFrom X.env.cells scope.names []) s₄.heap.objs.size code bi X.env) x [] elt (List.range s₄.heap.objs.size) wr Pf pz F href) ∧
          (∀ a h₅ tk gs, gs.bare = true → s₄.heap.objs.size < a → h₅.objs.size = a + 1 → (∀ b o, s₄.heap.get? b = some o → h₅.get? b = some o) →
            WalksS X.prog X.w X.A.in4 a (a :: s₄.heap.objs.size :: List.range s₄.heap.objs.size) (s₄.heap.objs.size :: wr) (GenOnlyQ s₄.gens.size) (passing pz n₀ 0).length
              (fun j y => ∃ i, (passing pz n₀ 0)[j]? = some i ∧ F i y) (GenAt X.prog X.w X.A.in4 a s₄.gens.size s₄.heap.objs.size (List.range s₄.heap.objs.size) wr pz n₀ F) →
            GenAt X.prog X.w X.A.in4 a s₄.gens.size s₄.heap.objs.size (List.range s₄.heap.objs.size) wr pz n₀ F 0 { s₄ with gens := s₄.gens.push gs, toks := tk, heap := h₅ } →
            Q' (.ref a) { s₄ with gens := s₄.gens.push gs, toks := tk, heap := h₅ })) X.xe { s1 with heap := h3, toks := tk } := by
    intro code h3 tk ps' hx3 hsz hP3 hmore ht3 co hnew hco
    obtain ⟨bm, ob, e1, e2, e3, e4, e5, e6, e7, e8⟩ := TB.bm
    have hcP : cStatics ≠ P := fun e => by
      obtain ⟨_, hns, _⟩ := I1.nolimit
      obtain ⟨o', es', ep', ho', hd', _⟩ := hns
      rw [e, hPs] at ho'
      cases ho'
      cases hd'
    have hcl : cStatics < s1.heap.objs.size := let ⟨_, hns, _⟩ := I1.nolimit; hns.lt
    have sz2 : (hv.push io).objs.size = s1.heap.objs.size + 2 := by rw [Heap.size_push, zv]
    have keep3 : ∀ b u, b ≠ P → s1.heap.get? b = some u → h3.get? b = some u := fun b u hb e => hx3 b u hb (k2 b u e)
    refine wpAny_builtinsFor (m := X.mg) (by rw [I1.ok.glob]; exact (((I1.mod.glob.keeps I1.bk).keeps k2)).extBut hx3 TB.gP) e1 e2 (keep3 _ _ e4 (I1.bk _ _ e5)) e6 e7 e8 ?_
    refine ⟨hv.objs.size, [hv.objs.size, d], [hv.objs.size], es.size, _, _, (fun _ => true), (fun i y => ∃ hi : i < es.size, y = .bool (intP pb es[i].val)), rfl, W, ?_, ?_, lim2.extBut hx3 hcP, ?_, ?_, ?_⟩
    · refine (W X.A hr.hd).frame _ _ _ hst fun b hb u e => hx3 b u (fun z => ?_) e
      rcases List.mem_cons.mp hb with z2 | z2
      · exact (nat1 hPlt zv (z.symm.trans z2)).elim
      · rcases List.mem_cons.mp z2 with z2 | z2
        · rw [z.symm.trans z2, ho] at hPs
          cases hPs
          cases hdat
        · cases z2
    · intro b hb
      rcases List.mem_cons.mp hb with z | z
      · rw [z]
        show hv.objs.size < h3.objs.size
        omega
      · rcases List.mem_cons.mp z with z | z
        · rw [z]
          exact Nat.lt_of_lt_of_le hdlt (show s1.heap.objs.size ≤ h3.objs.size by omega)
        · cases z
    · intro z
      rcases List.mem_cons.mp z with z | z
      · exact (nat1 hcl zv z).elim
      · cases z
    · intro href hhref
      refine ⟨fun A' E' i v s₂ m₂ hA hPv hn hm hk => ?_, fun A' E' i v s₂ m₂ hA hPv hp hn hm hk => ?_⟩
      · simp only [List.forIn_nil]
        exact wpAny_pure ⟨rfl, keeps_refl _⟩
      · obtain ⟨hi', rfl⟩ := hPv
        obtain ⟨n, t, e⟩ := vints i hi'
        rw [e] at hm
        exact wpAny_mono (hel _ A' E' n t s₂ m₂ rfl hn hm) (fun y s3 r => ⟨⟨hi', by rw [r.1, e]; rfl⟩, r.2⟩) fun _ _ e => e
    · intro g h5 tk5 gs hgb hag hsz5 hk5 W5 hat
      simp only [GxR.passing_true, List.length_range] at W5
      refine hQ kvs H1 es g _ q1 hall ⟨_, _, _, _, _, W5.in4_1, hat, ?_, fun s' hmv => ?_⟩
      · intro j y sj Qj Ej hy hQj
        obtain ⟨i, hij, hi', rfl⟩ := hy
        obtain ⟨hj, ej⟩ := List.getElem?_eq_some_iff.mp hij
        rw [List.getElem_range] at ej
        subst ej
        have hQ2 : Qj (trE pb es j) sj := hQj
        unfold trE at hQ2
        rw [Array.getElem?_eq_getElem hi'] at hQ2
        exact wpAny_truthy_bool hQ2
      · obtain ⟨more, em⟩ := hmore
        have nwr : ∀ b u, s1.heap.get? b = some u → b ∉ h3.objs.size :: [hv.objs.size] := fun b u e hb => by
          have hl := Heap.lt_size e
          rcases List.mem_cons.mp hb with z | z
          · exact (nat2 hl (by omega) z).elim
          · rcases List.mem_cons.mp z with z | z
            · exact (nat1 hl zv z).elim
            · cases z
        have J := inv_tab (more := more) (h' := s'.heap) (g' := s'.gens) (d' := s'.drawn) (t' := s'.toks) I1 hP (fun b u hb e => hmv.heap b u (nwr b u e) (hk5 b u (keep3 b u hb e)))
          (by rw [← em]; exact hmv.heap P _ (nwr P _ hPs) (hk5 P _ hP3)) (AllBare.movedS (I1.bare.push hgb) hmv)
        rw [sh_eta s1 s' hmv.os] at J
        cases co with
        | none =>
          refine ⟨upd H1 P (.tbl (ps ++ more)), ⟨⟨ps ++ more, upd_same, by rw [← em]; exact ht3, fun pos' cv hcv => ?_⟩, fun b o hb e => by rw [upd_ne hb]; exact e⟩, J⟩
          rw [← em] at hcv
          rcases hnew pos' cv hcv with z | ⟨c', z, _⟩
          · obtain ⟨c0, e1, e2⟩ := ha pos' cv z
            exact ⟨c0, e1, by rw [upd_ne (fun z => by rw [z, hP] at e2; cases e2)]; exact e2⟩
          · cases z
        | some c' =>
          obtain ⟨hge, hlt, cr⟩ := hco c' rfl
          obtain ⟨c2, oc, vs, t, e2, hoc, hd2, hv2⟩ := id cr
          cases e2
          have hge1 : s1.heap.objs.size ≤ c' := by omega
          have nC : H1 c' = none := I1.hok.fresh hge1
          have nPc : P ≠ c' := ne_of_none hP nC
          have nw : c' ∉ h3.objs.size :: [hv.objs.size] := fun z => by
            rcases List.mem_cons.mp z with z | z
            · exact Nat.lt_irrefl _ (z ▸ hlt)
            · rcases List.mem_cons.mp z with z | z
              · exact ltN hge sz2 zv z
              · cases z
          have ho' : s'.heap.get? c' = some oc := hmv.heap c' _ nw (hk5 c' _ hoc)
          have nC2 : upd H1 P (.tbl (ps ++ more)) c' = none := by rw [upd_ne nPc.symm]; exact nC
          have J2 : Inv X pins σ (upd (upd H1 P (.tbl (ps ++ more))) c' (LamX.CodeO c' q)) s' := J.take (h' := s'.heap) (t' := s'.toks) (fun b ob _ e => e) (I1.fpOk hge1 nC2)
            (show ObjOk X.prog X.w _ s'.heap c' (LamX.CodeO c' q) from ⟨⟨oc, vs, t, ho', hd2, hv2⟩, ⟨_, ho'⟩, fun h1 h2 ⟨o1, v1, t1, z1, z2, z3⟩ k => ⟨o1, v1, t1, k _ z1, z2, z3⟩⟩)
          refine ⟨_, ⟨⟨ps ++ more, by rw [upd_ne nPc, upd_same], by rw [← em]; exact ht3, fun pos' cv hcv => ?_⟩, fun b o hb e => by rw [upd_ne (ne_of_none e nC), upd_ne hb]; exact e⟩, J2⟩
          rw [← em] at hcv
          rcases hnew pos' cv hcv with z | ⟨c3, z, e3⟩
          · obtain ⟨c0, e1, e2⟩ := ha pos' cv z
            exact ⟨c0, e1, by rw [upd_ne (ne_of_none e2 nC), upd_ne (fun z => by rw [z, hP] at e2; cases e2)]; exact e2⟩
          · cases z
            exact ⟨c', e3, upd_same⟩
  refine ⟨lim2, ?_⟩
  cases hf : codeAmong gpos ps.toList with
  | none =>
    refine wpAny_genexprCodeX hcode (cd.code hP2 ht) (cd.tab hP2) hf fun c' h' tk hx3 hge hlt hco' hrec' htab' _ => ?_
    obtain ⟨o1, vs, f1, tf, fl, tg, inF, tx, tt, op, _, _, _, _, _, _, _, _, _, htr, _⟩ := hco'
    have eL : (ps ++ #[rawInt gpos.line, rawInt gpos.col, .ref c']).toList = ps.toList ++ [rawInt gpos.line, rawInt gpos.col, .ref c'] := by simp
    refine cont _ h' tk _ hx3 (Nat.le_trans hge (Nat.le_of_lt hlt)) htab'.2 ⟨_, rfl⟩ htr (some c') (fun pos' cv hcv => ?_) (fun c3 e => ?_)
    · rw [eL] at hcv
      rcases LamX.among_app _ ht hcv with z | z
      · exact .inl z
      · exact .inr ⟨c', rfl, z⟩
    · cases e
      exact ⟨hge, hlt, hq ▸ hrec'⟩
  | some cv =>
    refine wpAny_genexprCode_hit hcode (cd.code hP2 ht) hf ?_
    exact cont cv (hv.push io) s1.toks ps (Heap.ExtBut.refl _ _) (Nat.le_refl _) hP2 ⟨#[], by simp⟩ ht none (fun _ _ z => .inl z) (fun _ e => nomatch e)
def tAllS (P : Addr) (q : Str) (pb : Int → Bool) (te : TE) : TE := fun σ H Q => te σ H fun v H1 => ∃ (d : Addr) (kvs : List (List Key × V)), v = .ref d ∧ H1 d = some (.dT kvs) ∧ IntVals kvs ∧ LamX.TabS H1 P q ∧ ∀ H2, TabbedS P q H1 H2 → Q (.bl (kvs.all fun p => vP pb p.2)) H2
theorem pe_allS {c P : Addr} {elt e : Expr} {x : Str} {px p pos gpos apos cpos : Pos} {scope : Scope} {pb : Int → Bool} {te : TE} {k : Nat}
    (hq : X.env.qual ++ Str.ofString "<genexpr>" = q) (hr : Room k X.A) (hg : Gl X "all") (hm : X.mg "all" = none) (TB : TabB X.base X.mg c P) (hcode : X.env.code = .ref c) (S : GenS X.env scope x) (hi : PE X e te) (hel : EltI X.prog X.w scope x elt pb)
    (hbase : attributeBase e "values" X.env (eval e X.env) = eval e X.env := by rfl) (hline : (apos.endLine == cpos.line) = true := by rfl)
    (hs : ∀ v, genFold (.Call (.Attribute e "values" apos) [] [] cpos) X.env v = pure v := by intro _; rfl)
    (he : starEach [.GeneratorExp elt [⟨.Name x px, .Call (.Attribute e "values" apos) [] [] cpos, [], 0⟩] scope gpos] X.env = (false, eval (.GeneratorExp elt [⟨.Name x px, .Call (.Attribute e "values" apos) [] [] cpos, [], 0⟩] scope gpos) X.env) :: starEach [] X.env := by rfl) :
    PE X (.Call (.Name "all" p) [.GeneratorExp elt [⟨.Name x px, .Call (.Attribute e "values" apos) [] [] cpos, [], 0⟩] scope gpos] [] pos) (tAllS P q pb te) := by
  refine ⟨fun pins s σ H Q I h => ?_⟩
  refine wpAny_Call_Name_kw (ld_blt I hg hm boot_all ?_)
  refine PyProof.Rows.callWith_builtin1 ?_ he (by rfl)
  rw [he]
  show wpAny _ _ (spliced ((false, eval (.GeneratorExp elt [⟨.Name x px, .Call (.Attribute e "values" apos) [] [] cpos, [], 0⟩] scope gpos) X.env) :: backTo pos (starEach [] X.env))) _ _ s
  refine Calls.spliced_cons (gen_valsS (R := fun kvs H1 => ∀ H2, TabbedS P q H1 H2 → Q (.bl (kvs.all fun p => vP pb p.2)) H2) hq hr TB hcode S hi hel hbase hline hs I h fun kvs H1 es g s5 hR hal hG => ?_)
  obtain ⟨fp, wr, G, F, St, W, hst, htr, hI⟩ := hG
  refine Calls.spliced_nil ?_
  refine call_all_walkS (W.self 0 _ _ _ hst ⟨g, fp, wr, G, _, F, St, _, rfl, W, hst, htr, fun s' hmv => ?_⟩)
  obtain ⟨H2, hT, J⟩ := hI s' hmv
  refine ⟨.bl _, H2, J, rfl, ?_⟩
  rw [all_trE pb es, hal]
  exact hR H2 hT
end
end KH
set_option Elab.async false
set_option linter.all false
set_option maxRecDepth 100000
set_option maxHeartbeats 4000000
namespace GS
open PySem PySem.Spec PyProof.Rows PySem.Calls L2 KB GxR KH
def ReadyG (X : Cx) (pins : List (Addr × Obj)) (σ : L2.St) (H1 : Hp) (P : Addr) (q : Str) (n : Nat) (tr : Nat → Bool) (g : Addr) (s5 : Shared) : Prop :=
  ∃ (fp wr : List Addr) (G : Array GenState → Array GenState → Prop) (F : Nat → Value → Prop) (St : Nat → Shared → Prop),
    WalksS X.prog X.w X.A.in1 g fp wr G n F St ∧ St 0 s5 ∧ TruthOf X.prog X.w X.A.in1 F tr ∧ ∀ s', Moved wr G s5 s' → ∃ H2, TabbedS P q H1 H2 ∧ Inv X pins σ H2 s'
def EltG (prog : Program) (w : World) (mg : Str → Option Value) (scope : Scope) (x : Str) (elt : Expr) (Pv : Nat → Value → Prop) (tr : Nat → Bool) : Prop :=
  ∀ (cenv : PySem.Env) (A' : Around) (E' : Value → Shared → Prop) (i : Nat) (v : Value) (s₂ : Shared) (m₂ : Str → Option Value), cenv.scope = scope → cenv.globals = mainGlobals → A'.handled = none → s₂.heap.Ns mainGlobals mg → Pv i v → s₂.heap.Ns cenv.locals m₂ → m₂ x = some v →
    wpAny (model prog w) A' (eval elt cenv) (fun y s₃ => y = .bool (tr i) ∧ Keeps s₂ s₃) E' s₂
structure Src (X : Cx) (pins : List (Addr × Obj)) (σ : L2.St) (P : Addr) (q : Str) (x : Str) (elt : Expr) (scope : Scope) (Q' : Value → Shared → Prop) (it : Value) (sb : Shared) (s1 : Shared) (H1 : Hp) (J : Addr) (fp wr : List Addr) (n : Nat) (Pv : Nat → Value → Prop) (St : Nat → Heap → Prop) (tr : Nat → Bool) : Prop where
  it : it = .ref J
  inv : Inv X pins σ H1 s1
  same : sb = { s1 with heap := sb.heap, toks := sb.toks }
  keep : ∀ b u, s1.heap.get? b = some u → sb.heap.get? b = some u
  size : s1.heap.objs.size ≤ sb.heap.objs.size
  walk : ∀ A' : Around, A'.handled = none → Walks X.prog X.w A' J fp wr n Pv St
  st : St 0 sb.heap
  fps : ∀ b ∈ fp, b < sb.heap.objs.size ∧ b ≠ P
  wrs : ∀ b ∈ wr, s1.heap.objs.size ≤ b
  tab : LamX.TabS H1 P q
  elt : EltG X.prog X.w X.mg scope x elt Pv tr
  next : ∀ g s5, ReadyG X pins σ H1 P q n tr g s5 → Q' (.ref g) s5
theorem lt_or {a b c d : Nat} (h1 : a ≤ b) (h2 : b ≤ c) (h3 : d < a) (e : d = c) : False := by omega
section
variable {X : Cx} {pins : List (Addr × Obj)} {σ : L2.St} {s : Shared}
theorem gen_S {c P : Addr} {q : Str} {elt iter : Expr} {x : Str} {px gpos : Pos} {scope : Scope} {k : Nat} {Q' : Value → Shared → Prop} (hq : X.env.qual ++ Str.ofString "<genexpr>" = q) (hr : Room k X.A) (TB : GxR.TabB X.base X.mg c P) (hcode : X.env.code = .ref c) (S : GenS X.env scope x)
    (hs : ∀ v, genFold iter X.env v = pure v)
    (src : wpAny (model X.prog X.w) X.A (eval iter X.env) (fun xv sa => wpAny (model X.prog X.w) X.A (pyIter xv) (fun it sb => ∃ s1 H1 J fp wr n Pv St tr, Src X pins σ P q x elt scope Q' it sb s1 H1 J fp wr n Pv St tr) X.xe sa) X.xe s) :
    wpAny (model X.prog X.w) X.A (eval (.GeneratorExp elt [⟨.Name x px, iter, [], 0⟩] scope gpos) X.env) Q' X.xe s := by
  refine wpAny_GeneratorExp_walksQ hr.hd S.co (closure_ok S.free) S.cell S.dot S.loc S.kind (by have := hr.dp; omega) (wpAny_mono src (fun xv sa h1 => wpAny_mono h1 (fun it sb h2 => ?_) fun _ _ e => e) fun _ _ e => e) hs
  obtain ⟨s1, H1, J, fp, wr, n, Pv, St, tr, Z⟩ := h2
  obtain ⟨ps, hP, ht, ha⟩ := Z.tab
  obtain ⟨hb, gb, db, kb, ob⟩ := sb
  have sm := Z.same
  have I1 := Z.inv
  have hPs : s1.heap.get? P = some { cls := .none, data := .fields ps } := I1.hok P _ hP
  have hPlt : P < s1.heap.objs.size := Heap.lt_size hPs
  have hP2 : hb.get? P = some { cls := .none, data := .fields ps } := Z.keep _ _ hPs
  have cd : PySem.W.CodeHd hb c P := TB.code.keeps fun b u e => Z.keep b u (I1.bk b u e)
  have lim2 : hb.NoLimit := I1.nolimit.keeps Z.keep
  rw [sm]
  refine ⟨lim2, ?_⟩
  have hsz2 : s1.heap.objs.size ≤ hb.objs.size := Z.size
  have cst : cStatics < s1.heap.objs.size := let ⟨_, hns, _⟩ := I1.nolimit; hns.lt
  have goOn : ∀ (code : Value) (h3 : Heap) (tk : Nat) (more : Array Value), Heap.ExtBut P hb h3 → hb.objs.size ≤ h3.objs.size → h3.get? P = some { cls := .none, data := .fields (ps ++ more) } → TriplesOk (ps ++ more).toList →
      ∀ co : Option Addr, (∀ p' cv, codeAmong p' (ps ++ more).toList = some cv → codeAmong p' ps.toList = some cv ∨ ∃ c', co = some c' ∧ cv = .ref c') → (∀ c', co = some c' → hb.objs.size ≤ c' ∧ c' < h3.objs.size ∧ h3.CodeRec (.ref c') q) →
      wpAny (model X.prog X.w) X.A (builtinsFor X.env.globals X.env.builtins) (fun bi s₄ => ∃ I fp wr n₀ P St₀ pz F, it = .ref I ∧ (∀ A' : Around, A'.handled = none → Walks X.prog X.w A' I fp wr n₀ P St₀) ∧ St₀ 0 s₄.heap ∧ (∀ b ∈ fp, b < s₄.heap.objs.size) ∧ s₄.heap.NoLimit ∧ cStatics ∉ wr ∧
          (∀ href : Heap, (∀ b o, s₄.heap.get? b = some o → href.get? b = some o) → QuietGen X.prog X.w (genEnv scope (cloFrom X.env.cells scope.names []) s₄.heap.objs.size code bi X.env) x [] elt (List.range s₄.heap.objs.size) wr P pz F href) ∧
          (∀ a h₅ tk gs, gs.bare = true → s₄.heap.objs.size < a → h₅.objs.size = a + 1 → (∀ b o, s₄.heap.get? b = some o → h₅.get? b = some o) →
            WalksS X.prog X.w X.A.in4 a (a :: s₄.heap.objs.size :: List.range s₄.heap.objs.size) (s₄.heap.objs.size :: wr) (GenOnlyQ s₄.gens.size) (passing pz n₀ 0).length
              (fun j y => ∃ i, (passing pz n₀ 0)[j]? = some i ∧ F i y) (GenAt X.prog X.w X.A.in4 a s₄.gens.size s₄.heap.objs.size (List.range s₄.heap.objs.size) wr pz n₀ F) →
            GenAt X.prog X.w X.A.in4 a s₄.gens.size s₄.heap.objs.size (List.range s₄.heap.objs.size) wr pz n₀ F 0 { s₄ with gens := s₄.gens.push gs, toks := tk, heap := h₅ } →
            Q' (.ref a) { s₄ with gens := s₄.gens.push gs, toks := tk, heap := h₅ })) X.xe { s1 with heap := h3, toks := tk } := by
    intro code h3 tk more hx3 hsz hP3 ht3 co hnew hco
    obtain ⟨bm, bo, e1, e2, e3, e4, e5, e6, e7, e8⟩ := TB.bm
    have hcP : cStatics ≠ P := fun e => by
      obtain ⟨_, hns, _⟩ := I1.nolimit
      obtain ⟨o', es', ep', ho', hd', _⟩ := hns
      rw [e, hPs] at ho'
      cases ho'
      cases hd'
    have keep3 : ∀ b u, b ≠ P → s1.heap.get? b = some u → h3.get? b = some u := fun b u n e => hx3 b u n (Z.keep b u e)
    have nsG : h3.Ns mainGlobals X.mg := ((I1.mod.glob.keeps I1.bk).keeps Z.keep).extBut hx3 TB.gP
    have glt : mainGlobals < s1.heap.objs.size := (I1.mod.glob.keeps I1.bk).lt
    refine wpAny_builtinsFor (m := X.mg) (by rw [I1.ok.glob]; exact (((I1.mod.glob.keeps I1.bk).keeps Z.keep)).extBut hx3 TB.gP) e1 e2 (keep3 _ _ e4 (I1.bk _ _ e5)) e6 e7 e8 ?_
    refine ⟨J, fp, wr, n, Pv, St, (fun _ => true), (fun i y => y = .bool (tr i)), Z.it, Z.walk, (Z.walk X.A hr.hd).frame _ _ _ Z.st fun b hbf u e => hx3 b u (Z.fps b hbf).2 e, fun b hbf => Nat.lt_of_lt_of_le (Z.fps b hbf).1 hsz, lim2.extBut hx3 hcP, fun z => Nat.lt_irrefl _ (Nat.lt_of_lt_of_le cst (Z.wrs _ z)), fun href hhr => ⟨fun A' E' i v s₂ m₂ _ _ _ _ _ => ?_, fun A' E' i v s₂ m₂ hA hPv _ hn hm hk => Z.elt _ A' E' i v s₂ m₂ rfl I1.ok.glob hA (nsG.at fun o e => hk _ (List.mem_range.mpr (Heap.lt_size e)) (fun z => Nat.lt_irrefl _ (Nat.lt_of_lt_of_le glt (Z.wrs _ z))) _ (hhr _ _ e)) hPv hn hm⟩, ?_⟩
    · simp only [List.forIn_nil]
      exact wpAny_pure ⟨rfl, keeps_refl _⟩
    · intro g h5 tk5 gs hgb hag hsz5 hk5 W5 hat
      simp only [GxR.passing_true, List.length_range] at W5
      refine Z.next g _ ⟨_, _, _, _, _, W5.in4_1, hat, fun j y sj Qj Ej hy hQj => ?_, fun s' hmv => ?_⟩
      · obtain ⟨i, hij, hF⟩ := hy
        obtain ⟨hj, ej⟩ := List.getElem?_eq_some_iff.mp hij
        rw [List.getElem_range] at ej
        have hF' : y = .bool (tr i) := hF
        rw [hF', ← ej]
        exact wpAny_truthy_bool hQj
      · have apart : ∀ b u, s1.heap.get? b = some u → b ∉ h3.objs.size :: wr := fun b u e z => by
          have hl := Heap.lt_size e
          rcases List.mem_cons.mp z with z | z
          · exact lt_or hsz2 hsz hl z
          · exact Nat.lt_irrefl _ (Nat.lt_of_lt_of_le hl (Z.wrs _ z))
        have JJ := inv_tab (more := more) (h' := s'.heap) (g' := s'.gens) (d' := s'.drawn) (t' := s'.toks) I1 hP (fun b u n e => hmv.heap b u (apart b u e) (hk5 b u (keep3 b u n e)))
          (hmv.heap P _ (apart P _ hPs) (hk5 P _ hP3)) (AllBare.movedS (I1.bare.push hgb) hmv)
        rw [sh_eta s1 s' hmv.os] at JJ
        cases co with
        | none =>
          refine ⟨_, ⟨⟨ps ++ more, upd_same, ht3, fun p' cv hcv => ?_⟩, fun b o n e => by rw [upd_ne n]; exact e⟩, JJ⟩
          rcases hnew p' cv hcv with z | ⟨c', z, _⟩
          · obtain ⟨c0, y1, y2⟩ := ha p' cv z
            exact ⟨c0, y1, by rw [upd_ne (fun z => by rw [z, hP] at y2; cases y2)]; exact y2⟩
          · cases z
        | some c' =>
          obtain ⟨hge, hlt, cr⟩ := hco c' rfl
          obtain ⟨c2, oc, vs, t, y0, hoc, hd2, hv2⟩ := id cr
          cases y0
          have nC : H1 c' = none := I1.hok.fresh (Nat.le_trans hsz2 hge)
          have nPc : P ≠ c' := ne_of_none hP nC
          have nw : c' ∉ h3.objs.size :: wr := fun z => by
            rcases List.mem_cons.mp z with z | z
            · exact Nat.lt_irrefl _ (z ▸ hlt)
            · exact Nat.lt_irrefl _ (Nat.lt_of_lt_of_le (Z.fps c' ((Z.walk X.A hr.hd).sub c' z)).1 hge)
          have ho' : s'.heap.get? c' = some oc := hmv.heap c' _ nw (hk5 c' _ hoc)
          have nC2 : upd H1 P (.tbl (ps ++ more)) c' = none := by rw [upd_ne nPc.symm]; exact nC
          have J2 := JJ.take (h' := s'.heap) (t' := s'.toks) (o := LamX.CodeO c' q) (fun b ob _ e => e) (I1.fpOk (Nat.le_trans hsz2 hge) nC2)
            (show ObjOk X.prog X.w _ s'.heap c' (LamX.CodeO c' q) from ⟨⟨oc, vs, t, ho', hd2, hv2⟩, ⟨_, ho'⟩, fun k1 k2 ⟨o1, v1, t1, z1, z2, z3⟩ kk => ⟨o1, v1, t1, kk _ z1, z2, z3⟩⟩)
          refine ⟨_, ⟨⟨ps ++ more, by rw [upd_ne nPc, upd_same], ht3, fun p' cv hcv => ?_⟩, fun b o n e => by rw [upd_ne (ne_of_none e nC), upd_ne n]; exact e⟩, J2⟩
          rcases hnew p' cv hcv with z | ⟨c3, z, e3'⟩
          · obtain ⟨c0, y1, y2⟩ := ha p' cv z
            exact ⟨c0, y1, by rw [upd_ne (ne_of_none y2 nC), upd_ne (fun z => by rw [z, hP] at y2; cases y2)]; exact y2⟩
          · cases z
            exact ⟨c', e3', upd_same⟩
  cases hf : codeAmong gpos ps.toList with
  | none =>
    refine wpAny_genexprCodeX hcode (cd.code hP2 ht) (cd.tab hP2) hf fun c' h' tk hx3 hge hlt hco' hrec' htab' _ => ?_
    obtain ⟨o1, vs, f1, tf, fl, tg, inF, tx, tt, op, _, _, _, _, _, _, _, _, _, htr, _⟩ := hco'
    refine goOn _ h' tk _ hx3 (Nat.le_trans hge (Nat.le_of_lt hlt)) htab'.2 htr (some c') (fun p' cv hcv => ?_) fun c3 e => by cases e; exact ⟨hge, hlt, hq ▸ hrec'⟩
    have eL : (ps ++ #[rawInt gpos.line, rawInt gpos.col, .ref c']).toList = ps.toList ++ [rawInt gpos.line, rawInt gpos.col, .ref c'] := by simp
    rw [eL] at hcv
    exact (LamX.among_app _ ht hcv).elim .inl fun z => .inr ⟨c', rfl, z⟩
  | some cv =>
    refine wpAny_genexprCode_hit hcode (cd.code hP2 ht) hf ?_
    have e0 : ps ++ #[] = ps := by simp
    exact goOn cv hb kb #[] (Heap.ExtBut.refl _ _) (Nat.le_refl _) (by rw [e0]; exact hP2) (by rw [e0]; exact ht) none (fun p' v z => by rw [e0] at z; exact .inl z) (fun _ e => nomatch e)
end
end GS
set_option Elab.async false
set_option linter.all false
set_option maxRecDepth 100000
set_option maxHeartbeats 4000000
namespace GS
open PySem PySem.Spec PyProof.Rows PySem.Calls L2 KB GxR KH
theorem elt_notInG {prog : Program} {w : World} {mg : Str → Option Value} {scope : Scope} {x g : Str} {a wd : Str} {tk : Tok} {p1 p2 p3 : Pos} (hk : scope.kind = .function) (hl : scope.names.lookup x = some .local) (hg : scope.names.lookup g = some .globalImplicit) (hm : mg g = some (.str wd tk)) (hd : (x == ("__debug__" : Str)) = false := by decide) (hd2 : (g == ("__debug__" : Str)) = false := by decide) :
    EltG prog w mg scope x (.Compare (.Name x p1) [.NotIn] [.Name g p2] p3) (SignAt a) (trF (fun c => !decide (c ∈ wd.cps.toList)) a.cps.toList) := by
  intro cenv A' E' i v s₂ m₂ hs hgl hA nsG hPv hn hmx
  obtain ⟨c, u, hc, rfl⟩ := hPv
  refine wpAny_Compare1 ?_
  refine wpAny_Name (wpAny_loadName_local (by rw [hs]; exact hk) (show cenv.scope.names.lookup x = some .local by rw [hs]; exact hl) hn hmx ?_) hd
  refine Calls.Name_function_global (by rw [hs]; exact hk) (show cenv.scope.names.lookup g = some .globalImplicit by rw [hs]; exact hg) (Calls.loadGlobal_global (by rw [hgl]; exact nsG) hm ?_) hd2
  refine PyProof.Rows.notIn_str ⟨?_, keeps_tok _ _⟩
  rw [trF_some (b := c) (by rw [Array.getElem?_toList]; exact hc)]
  exact congrArg Value.bool (congrArg Bool.not (PySem.StrLaws.found_one wd c))
section
variable {X : Cx}
def tAnyT (P : Addr) (q : Str) (pb : Nat → Bool) (te : TE) : TE := fun σ H Q => te σ H fun v H1 => ∃ a : Str, v = .str a ∧ LamX.TabS H1 P q ∧ ∀ H2, TabbedS P q H1 H2 → Q (.bl (a.cps.toList.any pb)) H2
theorem pe_anyT {c P : Addr} {q : Str} {elt iter : Expr} {x : Str} {px p pos gpos : Pos} {scope : Scope} {pb : Nat → Bool} {te : TE} {k : Nat}
    (hq : X.env.qual ++ Str.ofString "<genexpr>" = q) (hr : Room k X.A) (hg : Gl X "any") (hm : X.mg "any" = none) (TB : TabB X.base X.mg c P) (hcode : X.env.code = .ref c) (S : GenS X.env scope x) (hi : PE X iter te) (hel : ∀ a : Str, EltG X.prog X.w X.mg scope x elt (SignAt a) (trF pb a.cps.toList))
    (hs : ∀ v, genFold iter X.env v = pure v)
    (he : starEach [.GeneratorExp elt [⟨.Name x px, iter, [], 0⟩] scope gpos] X.env = (false, eval (.GeneratorExp elt [⟨.Name x px, iter, [], 0⟩] scope gpos) X.env) :: starEach [] X.env := by rfl) :
    PE X (.Call (.Name "any" p) [.GeneratorExp elt [⟨.Name x px, iter, [], 0⟩] scope gpos] [] pos) (tAnyT P q pb te) := by
  refine ⟨fun pins s σ H Q I h => ?_⟩
  refine wpAny_Call_Name_kw (ld_blt I hg hm boot_any ?_)
  refine PyProof.Rows.callWith_builtin1 ?_ he (by rfl)
  rw [he]
  show wpAny _ _ (spliced ((false, eval (.GeneratorExp elt [⟨.Name x px, iter, [], 0⟩] scope gpos) X.env) :: backTo pos (starEach [] X.env))) _ _ s
  refine Calls.spliced_cons (gen_S (pins := pins) (σ := σ) hq hr TB hcode S hs (thn (hi.run pins s σ H _ I h) fun xv s1 ⟨v, H1, I1, r1, q1⟩ => ?_))
  obtain ⟨a, rfl, tab, q1⟩ := q1
  obtain ⟨t, rfl⟩ := _root_.id r1
  refine wpAny_pyIter_str fun o St W hst => ?_
  have hPlt : P < s1.heap.objs.size := let ⟨_, e, _⟩ := tab; Heap.lt_size (I1.hok P _ e)
  refine ⟨s1, H1, s1.heap.objs.size, [s1.heap.objs.size], [s1.heap.objs.size], a.cps.size, SignAt a, St, trF pb a.cps.toList, rfl, I1, rfl, fun b u e => Heap.get?_push_of_some _ e, Nat.le_of_lt (by rw [Heap.size_push]; exact Nat.lt_succ_self _), W, hst, fun b hb => ?_, fun b hb => ?_, tab, hel a, fun g s5 hG => ?_⟩
  · rw [List.mem_singleton.mp hb]
    exact ⟨by show _ < (s1.heap.push o).objs.size; rw [Heap.size_push]; exact Nat.lt_succ_self _, fun z => Nat.lt_irrefl _ (z ▸ hPlt)⟩
  · rw [List.mem_singleton.mp hb]
    exact Nat.le_refl _
  · obtain ⟨fp, wr, G, F, St, W, hst, htr, hI⟩ := hG
    refine Calls.spliced_nil ?_
    refine call_any_walkS (W.self 0 _ _ _ hst ⟨g, fp, wr, G, _, F, St, _, rfl, W, hst, htr, fun s' hmv => ?_⟩)
    obtain ⟨H2, hT, J⟩ := hI s' hmv
    refine ⟨.bl _, H2, J, rfl, ?_⟩
    rw [any_signs a pb]
    exact q1 H2 hT
end
end GS
set_option Elab.async false
set_option linter.all false
set_option maxRecDepth 100000
set_option maxHeartbeats 4000000
namespace KL6
open PySem PySem.Spec PyProof.Rows L2 KB KC KS KN1 LamX
theorem okC {P : Program} {w : World} {K : PySem.W.Frag} {mg : Str → Option Value} {base : Heap} {x qual : Str} {st : Stmt} {dvs : List V} {f c : Addr} {fd : FuncData} {CX : CXT} {N ps : List Str} {k : Nat} {sp : Sp} (F : FnP K x qual st dvs f fd) (hc : fd.code = .ref c) (S : FnScope N ps (defScope st)) (len : ∀ vs H Q E, sp vs H Q E → vs.length = ps.length)
    (hbody : ∀ (A : Around) (outer : List Env) (s : Shared) (H : Hp) (vs : List V) (Q : VK) (E : XK), Room k (A.deeper (envOfC qual (defScope st) s.heap.objs.size f (.ref c))) → sp vs H Q E →
      ∃ t, PSs (cxOf CX P w K mg base N qual (defScope st) f (.ref c) A outer s H E) (defBody st) t ∧ t { nx := fun _ H' => Q .non H', rt := Q } (start N vs) H) : FnOk P w K mg base CX (k + 1) f fd ps sp := by
  obtain ⟨oc, od, dV, kV, doc, pm, an, cdv, ct, osl, rfl, lk, hcd, hD, hK⟩ := F.ex
  have e : cdv = .ref c := hc
  subst e
  exact fn_of lk hcd S len hbody
def veB : List Value := [.type "ValueError", .type "Exception", .type "BaseException", .type "object"]
structure TxtX (K : PySem.W.Frag) (mg : Str → Option Value) (CR : Addr) : Prop where
  g : mg "RowError" = some (.ref CR)
  x : PySem.W.excIn K CR veB "ValueError.__new__" = true
  k : PySem.W.keepIn K (.ref CR) = true
  b : PySem.W.subIn K (.ref CR) (.type "BaseException") = some true
  t : PySem.W.typeIn K (.ref CR) = some (.type "type")
  e : PySem.W.exmOne K (.ref CR) (.ref CR) = some true
def ltrs : Str := "\n !\"#$&'()*+,-./0123456789:;<=>?@ABCDEFGHIJKLMNOPQRSTUVWXYZ[\\]^_`abcdefghijklmnopqrstuvwxyz{|}~"
structure TxtK (mg : Str → Option Value) : Prop where
  l : ∃ tk, mg "LETTERS" = some (.str ltrs tk)
  bool : mg "bool" = none
  any : mg "any" = none
def badT (a : Str) : Bool := a.cps.toList.any fun c => !decide (c ∈ ltrs.cps.toList)
abbrev qK : Str := "kind_of.<locals>.<genexpr>"
def KindR (CR Ps : Addr) (H : Hp) (Q : VK) (E : XK) : V → Prop
  | .int _ => Q (.str "int") H
  | .bl _ => E (.ref CR) none H
  | .non => E (.ref CR) none H
  | .ref p => (∃ xs, H p = some (.tup xs)) ∧ E (.ref CR) none H
  | .str a => TabS H Ps qK ∧ ∀ H', KH.TabbedS Ps qK H H' → if badT a = true then E (.ref CR) none H' else Q (.str "text") H'
  | _ => False
@[irreducible] def spKind (CR Ps : Addr) : Sp := fun vs H Q E => ∃ v, vs = [v] ∧ KindR CR Ps H Q E v
@[irreducible] def rIsiB (K : PySem.W.Frag) : List V → Hp → VK → Prop := rIsi K
theorem call_isiB {X : Cx} : CallR X (.builtin "isinstance") (rIsiB X.K) := by
  unfold rIsiB
  exact call_isi
theorem isi_ty {K : PySem.W.Frag} {H : Hp} {x : V} {a b : String} {r : Bool} {Q : VK} (ty : TyOf K H x (.type a)) (h : kitB a b = some r) (q : Q (.bl r) H) : rIsiB K [x, .ty b] H Q := by
  unfold rIsiB
  exact ⟨x, .ty b, .type a, .type b, r, rfl, .ty b, .base ty, kit_ty h, q⟩
section
variable {P : Program} {w : World} {K : PySem.W.Frag} {mg : Str → Option Value} {base : Heap} {f cK Ps CR : Addr} {fd : FuncData}
theorem scKind : FnScope ["value"] ["value"] (defScope sKind) := ⟨rfl, rfl, rfl, by decide +kernel, rfl, by decide +kernel, by decide +kernel⟩
theorem ok_kind (F : FnP K "kind_of" "kind_of" sKind [] f fd) (hc : fd.code = .ref cK) (TBs : GxR.TabB base mg cK Ps) (T : TxtL mg) (TK : TxtK mg) (TX : TxtX K mg CR) : FnOk P w K mg base (L2.CX P w) 1 f fd ["value"] (spKind CR Ps) := by
  obtain ⟨tk, hL⟩ := TK.l
  refine okC F hc scKind (fun vs H Q E h => ?_) (fun A outer s H vs Q E hr h => ?_)
  · unfold spKind at h
    obtain ⟨_, rfl, _⟩ := h; rfl
  · unfold spKind at h
    obtain ⟨v, rfl, h⟩ := h
    refine ⟨_, pss_cons (ps_if (pt_val (pe_callB call_isiB (by rfl) T.isi PyProof.Rows.boot_isinstance (pa_cons (pv 0) (pa_cons (pe_bltn (v := .ty "bool") (u := .type "bool") (by rfl) TK.bool (by decide +kernel) rfl) pa_nil))))
        (pss_one (ps_raise rfl (takes_of rfl rfl rfl rfl) (pmk_own PySem.F.excBase_ValueError TX.x TX.g TX.k (raises_own TX.b TX.t) rfl))) pss_nil)
      (pss_cons (ps_if (pt_val (pe_callB call_isiB (by rfl) T.isi PyProof.Rows.boot_isinstance (pa_cons (pv 0) (pa_cons (pe_bltn (v := .ty "int") (u := .type "int") (by rfl) T.int (by decide +kernel) rfl) pa_nil))))
        (pss_one (ps_ret pe_str)) pss_nil)
      (pss_cons (ps_if (PW.pt (pw_or (pt_not (pt_val (pe_callB call_isiB (by rfl) T.isi PyProof.Rows.boot_isinstance (pa_cons (pv 0) (pa_cons (pe_bltn (v := .ty "str") (u := .type "str") (by rfl) T.str (by decide +kernel) rfl) pa_nil)))))
          (pw_or1 (pt_val (GS.pe_anyT (c := cK) (P := Ps) (q := qK) (pb := fun c => !decide (c ∈ ltrs.cps.toList)) (x := "sign") (show (Str.ofString "kind_of" ++ Str.ofString ".<locals>.") ++ Str.ofString "<genexpr>" = qK by decide +kernel) hr (by rfl) TK.any TBs rfl
            ⟨rfl, rfl, by decide +kernel, rfl, rfl, fun y hy e => by
              rcases List.mem_cons.mp hy with rfl | hy
              · cases e
              · rcases List.mem_cons.mp hy with rfl | hy
                · cases e
                · rcases List.mem_cons.mp hy with rfl | hy
                  · cases e
                  · cases hy⟩ (pv 0) (fun a => GS.elt_notInG rfl rfl rfl hL) (fun _ => rfl))))))
        (pss_one (ps_raise rfl (takes_of rfl rfl rfl rfl) (pmk_own PySem.F.excBase_ValueError TX.x TX.g TX.k (raises_own TX.b TX.t) rfl))) pss_nil)
      (pss_one (ps_ret pe_str)))), ?_⟩
    have no : ∀ {b : Bool} {A B : Prop}, b = false → B → if b = true then A else B := fun h q => by rw [h, if_neg (by decide)]; exact q
    cases v with
    | int n =>
      refine ⟨_, rfl, ?_⟩
      show rIsiB K [_, .ty "bool"] H _
      refine isi_ty (.int n) (by decide +kernel) ⟨_, rfl, no rfl ?_⟩
      refine ⟨_, rfl, ?_⟩
      show rIsiB K [_, .ty "int"] H _
      refine isi_ty (.int n) (by decide +kernel) ⟨_, rfl, iteT ?_⟩
      exact h
    | bl b =>
      refine ⟨_, rfl, ?_⟩
      show rIsiB K [_, .ty "bool"] H _
      refine isi_ty (.bl b) (by decide +kernel) ⟨_, rfl, iteT ?_⟩
      exact h
    | non =>
      refine ⟨_, rfl, ?_⟩
      show rIsiB K [_, .ty "bool"] H _
      refine isi_ty .non (by decide +kernel) ⟨_, rfl, no rfl ?_⟩
      refine ⟨_, rfl, ?_⟩
      show rIsiB K [_, .ty "int"] H _
      refine isi_ty .non (by decide +kernel) ⟨_, rfl, no rfl ?_⟩
      refine ⟨_, rfl, ?_⟩
      show rIsiB K [_, .ty "str"] H _
      refine isi_ty (r := false) .non (by decide +kernel) ⟨_, rfl, ?_⟩
      exact h
    | ref p =>
      obtain ⟨⟨xs, hp⟩, h⟩ := h
      refine ⟨_, rfl, ?_⟩
      show rIsiB K [_, .ty "bool"] H _
      refine isi_ty (r := false) (.tup hp) (by decide +kernel) ⟨_, rfl, no rfl ?_⟩
      refine ⟨_, rfl, ?_⟩
      show rIsiB K [_, .ty "int"] H _
      refine isi_ty (.tup hp) (by decide +kernel) ⟨_, rfl, no rfl ?_⟩
      refine ⟨_, rfl, ?_⟩
      show rIsiB K [_, .ty "str"] H _
      refine isi_ty (r := false) (.tup hp) (by decide +kernel) ⟨_, rfl, ?_⟩
      exact h
    | str a =>
      obtain ⟨tab, h⟩ := h
      refine ⟨_, rfl, ?_⟩
      show rIsiB K [_, .ty "bool"] H _
      refine isi_ty (.str a) (by decide +kernel) ⟨_, rfl, no rfl ?_⟩
      refine ⟨_, rfl, ?_⟩
      show rIsiB K [_, .ty "int"] H _
      refine isi_ty (.str a) (by decide +kernel) ⟨_, rfl, no rfl ?_⟩
      refine ⟨_, rfl, ?_⟩
      show rIsiB K [_, .ty "str"] H _
      refine isi_ty (r := true) (.str a) (by decide +kernel) ⟨_, rfl, ?_⟩
      refine no rfl ⟨_, rfl, a, rfl, tab, fun H2 tb => ⟨_, rfl, ?_⟩⟩
      have h2 := h H2 tb
      show if badT a = true then _ else _
      exact h2
    | _ => exact False.elim h
end
end KL6
set_option Elab.async false
set_option linter.all false
set_option maxRecDepth 100000
set_option maxHeartbeats 4000000
namespace KL6
open PySem PySem.Spec PyProof.Rows L2 KB KC KS KN1 LamX
abbrev tabL : List Nat := ltrs.cps.toList
theorem idx_occ : ∀ c ∈ tabL, Builtin.Str.occurrences ltrs ⟨#[c]⟩ 0 ltrs.length 1 = [idx tabL c] := by decide +kernel
abbrev Tb (Ps : Addr) (H H' : Hp) : Prop := KH.TabbedS Ps qK H H'
theorem Tb.refl {Ps : Addr} {H : Hp} (t : TabS H Ps qK) : Tb Ps H H := ⟨t, fun _ _ _ e => e⟩
theorem Tb.trans {Ps : Addr} {H H1 H2 : Hp} (a : Tb Ps H H1) (b : Tb Ps H1 H2) : Tb Ps H H2 := ⟨b.1, fun x o n e => b.2 x o n (a.2 x o n e)⟩
theorem Tb.ex {Ps : Addr} {H H1 H2 : Hp} (a : Tb Ps H H1) (e : Ex H1 H2) : Tb Ps H H2 := ⟨a.1.ext e, fun x o n h => e x o (a.2 x o n h)⟩
def OkV : Key → Prop
  | .inl v => -(2 ^ 1990) < v ∧ v < 2 ^ 1990
  | .inr s => badT s = false ∧ s.cps.toList.length ≤ 1000
@[irreducible] def spVal (CR Ps : Addr) : Sp := fun vs H Q E => ∃ v, vs = [v] ∧ ((∃ b, v = .bl b ∧ E (.ref CR) none H) ∨
  (∃ k, v = kV k ∧ OkV k ∧ TabS H Ps qK ∧ ∀ H' p, Tb Ps H H' → H' p = some (.tup ((valL tabL k).map V.int)) → Q (.ref p) H'))
theorem cat_two {K : PySem.W.Frag} {H : Hp} {a b : Addr} {x y : List Int} {Q : VK} (ha : H a = some (.tup (x.map V.int))) (hb : H b = some (.tup (y.map V.int))) (hl : x.length + y.length ≤ 100000)
    (q : ∀ H' c, Ex H H' → H' c = some (.tup ((x ++ y).map V.int)) → Q (.ref c) H') : rCatA K (.ref a) (.ref b) H Q := by
  refine ⟨a, b, _, _, rfl, rfl, SqT.of ha, SqT.of hb, ?_, fun h => ?_, fun _ h => ?_, fun _ _ p hp => ?_⟩
  · have hz : sizeLine = 16777216 := rfl
    rw [List.length_map, List.length_map]
    omega
  · have e : x = [] := List.map_eq_nil_iff.mp h
    exact q H b (Ex.refl H) (by rw [e]; exact hb)
  · have e : y = [] := List.map_eq_nil_iff.mp h
    exact q H a (Ex.refl H) (by rw [e, List.append_nil]; exact ha)
  · refine q _ p (Ex.upd hp) ?_
    rw [upd_same, List.map_append]
theorem ifT {c A B : Prop} [Decidable c] (h : c) (a : A) : if c then A else B := by rw [if_pos h]; exact a
theorem ifF {c A B : Prop} [Decidable c] (h : ¬ c) (b : B) : if c then A else B := by rw [if_neg h]; exact b
@[irreducible] def tIdx : TE := fun σ H Q => ∃ c, σ[1]? = some (some (.str ⟨#[c]⟩)) ∧ c ∈ tabL ∧ Q (.int ((idx tabL c : Nat) : Int)) H
theorem pe_lidx {X : Cx} {tk : Tok} {p1 p2 p3 p4 : Pos} (hg : Gl X "LETTERS") (hm : X.mg "LETTERS" = some (.str ltrs tk)) (hN : X.N[1]? = some (Str.ofString "sign")) (hv : Vis X.env.scope "sign") (hline : (p2.endLine == p4.line) = true := by rfl) :
    PE X (.Call (.Attribute (.Name "LETTERS" p1) "index" p2) [.Name "sign" p3] [] p4) tIdx := by
  have h := pe_bm (X := X) (cpos := p4) (apos := p2) (name := "index") PySem.F.plainAttrs_str PySem.F.slot_str_index PySem.F.type_str_index mt_sindex (pe_glob (x := "LETTERS") (pos := p1) (v := .str ltrs) hg hm ⟨_, rfl⟩) (pa_cons (pe_var (pos := p3) (i := 1) (x := "sign") hN hv) pa_nil) (hline := hline)
  refine ⟨fun pins s σ H Q I hw => h.run pins s σ H Q I ?_⟩
  unfold tIdx at hw
  obtain ⟨c, h1, h2, q⟩ := hw
  exact ⟨rfl, _, h1, _, _, _, _, rfl, rfl, idx_occ c h2, q⟩
theorem idx_step {σ : L2.St} {H : Hp} {c : Nat} {Q : VK} (h1 : σ[1]? = some (some (.str ⟨#[c]⟩))) (h2 : c ∈ tabL) (q : Q (.int ((idx tabL c : Nat) : Int)) H) : tIdx σ H Q := by
  unfold tIdx
  exact ⟨c, h1, h2, q⟩
theorem kind_step {CR Ps : Addr} {H : Hp} {Q : VK} {E : XK} {v : V} (h : KindR CR Ps H Q E v) : spKind CR Ps [v] H Q E := by
  unfold spKind
  exact ⟨v, rfl, h⟩
theorem okT_mem {s : Str} (h : badT s = false) {c : Nat} (hc : c ∈ s.cps.toList) : c ∈ tabL := by
  unfold badT at h
  have := List.any_eq_false.mp h c hc
  simpa using this
section
variable {P : Program} {w : World} {K : PySem.W.Frag} {mg : Str → Option Value} {base : Heap} {f fK fN cK Ps CR : Addr} {fd fdK fdN : FuncData}
theorem scVal : FnScope ["value", "sign"] ["value"] (defScope sVal) := ⟨rfl, rfl, rfl, by decide +kernel, rfl, by decide +kernel, by decide +kernel⟩
theorem ok_val (F : FnP K "value_bytes" "value_bytes" sVal [] f fd) (FK : FnP K "kind_of" "kind_of" sKind [] fK fdK) (gK : mg "kind_of" = some (.ref fK)) (hc : fdK.code = .ref cK) (TBs : GxR.TabB base mg cK Ps)
    (FN : FnP K "natural_bytes" "natural_bytes" sNat [] fN fdN) (gN : mg "natural_bytes" = some (.ref fN)) (T : TxtL mg) (TK : TxtK mg) (TX : TxtX K mg CR) : FnOk P w K mg base (L2.CX P w) 2 f fd ["value"] (spVal CR Ps) := by
  have GK : FnOk P w K mg base (L2.CX P w) 1 fK fdK ["value"] (spKind CR Ps) := ok_kind FK hc TBs T TK TX
  have GN : FnOk P w K mg base CX0 1 fN fdN ["number"] spNat := ok_nat FN T
  have bK : Binds K fdK ["value"] [] := FK.bindsN fun _ _ _ _ _ _ us hl => match us, hl with | [_], _ => rfl
  have bN : Binds K fdN ["number"] [] := FN.bindsN fun _ _ _ _ _ _ us hl => match us, hl with | [_], _ => rfl
  obtain ⟨tk, hL⟩ := TK.l
  refine F.ok scVal (fun vs H Q E h => ?_) (fun cdv A outer s H vs Q E hr h => ?_)
  · unfold spVal at h
    obtain ⟨_, rfl, _⟩ := h; rfl
  · unfold spVal at h
    obtain ⟨v, rfl, h⟩ := h
    refine ⟨_, pss_cons (ps_if (pt_cmpR op_eq (pe_callS GK hr (by rfl) gK FK.kp bK (fun σ => passAt (takes_of rfl rfl rfl rfl) σ) (pa_cons (pv 0) pa_nil)) pe_str (nomark _))
        (PSs.nox <| pss_one (ps_ret (pe_op op_catA (pe_op op_catA (pe_tup (pa_cons pe_int pa_nil)) (pe_call GN hr (by rfl) gN FN.kp bN .nil pass0 (pa_cons (pe_callB call_len_str (by rfl) T.len (by decide +kernel) (pa_cons (pv 0) pa_nil)) pa_nil)))
          (pe_callTy call_tuple_of (by rfl) T.tuple (by decide +kernel) (pa_cons (pe_lc (own := [("sign", 1)]) (g := gName 1) (tt := tYes) rfl scVal.nd (pi_str (pv 0)) (blkOk_by (N := ["value", "sign"]) (sc := defScope sVal) (by decide +kernel))
            (fun _ _ _ _ _ => pg_name (i := 1) scVal.nd rfl (Or.inl rfl)) (fun _ _ _ _ _ => pts_nil)
            (fun _ _ _ _ _ => pe_lidx rfl hL rfl (.inl rfl))) pa_nil))))) pss_nil)
      (PSs.nox <| pss_cons (ps_if (pt_cmpR op_lt (pv 0) pe_int (nomark _)) (pss_one (ps_ret (pe_op op_catA (pe_tup (pa_cons pe_int pa_nil)) (pe_call GN hr (by rfl) gN FN.kp bN .nil pass0 (pa_cons (pe_op op_sub (pe_un un_neg (pv 0)) pe_int) pa_nil))))) pss_nil)
        (pss_one (ps_ret (pe_op op_catA (pe_tup (pa_cons pe_int pa_nil)) (pe_call GN hr (by rfl) gN FN.kp bN .nil pass0 (pa_cons (pv 0) pa_nil)))))), ?_⟩
    have one : 1 ≤ sizeLine := by decide
    have big : (2 : Int) ^ 1990 < 2 ^ 2000 := by decide +kernel
    rcases h with ⟨b, rfl, h⟩ | ⟨k, rfl, ok, tab, fin⟩
    · exact ⟨_, rfl, kind_step h⟩
    · cases k with
      | inl n =>
        obtain ⟨n1, n2⟩ := ok
        refine ⟨_, rfl, kind_step ?_⟩
        refine ⟨rfl, _, rfl, ifF (by decide +kernel) ?_⟩
        refine ⟨_, rfl, _, _, rfl, rfl, _, rfl, ?_⟩
        by_cases c : n < 0
        · refine ite2 (fun _ => ?_) (fun z => absurd (decide_eq_true c) z)
          refine ⟨one, fun t ht => ⟨_, rfl, _, rfl, _, _, rfl, rfl, nat_step (by omega) (by omega) fun H2 p e2 hp => ?_⟩⟩
          have hl := natL_short (n := -n - 1) (by omega)
          refine cat_two (x := [1]) (e2 _ _ upd_same) hp (by show 1 + _ ≤ _; omega) fun H3 c3 e3 h3 => fin H3 c3 ((Tb.refl tab).ex ((Ex.upd ht).trans (e2.trans e3))) ?_
          rw [valL_neg _ c]
          exact h3
        · refine ite2 (fun z => absurd (of_decide_eq_true z) c) (fun _ => ?_)
          refine ⟨one, fun t ht => ⟨_, rfl, nat_step (by omega) (by omega) fun H2 p e2 hp => ?_⟩⟩
          have hl := natL_short (n := n) (by omega)
          refine cat_two (x := [0]) (e2 _ _ upd_same) hp (by show 1 + _ ≤ _; omega) fun H3 c3 e3 h3 => fin H3 c3 ((Tb.refl tab).ex ((Ex.upd ht).trans (e2.trans e3))) ?_
          rw [valL_pos _ c]
          exact h3
      | inr z =>
        obtain ⟨ok, hz⟩ := ok
        have hz2 : z.length = z.cps.toList.length := by show z.cps.size = _; simp
        have hzl : sizeLine = 16777216 := rfl
        refine ⟨_, rfl, kind_step ⟨tab, fun H1 t1 => ?_⟩⟩
        refine ifF (by rw [ok]; decide) ?_
        refine ⟨rfl, _, rfl, ifT (by decide +kernel) ?_⟩
        have hb : (z.length : Int) < 2 ^ 2000 := by
          have : (1001 : Int) < 2 ^ 2000 := by decide +kernel
          omega
        have hl := natL_short hb
        refine ⟨one, fun t ht => ⟨_, rfl, z, rfl, by omega, nat_step (by omega) hb fun H2 p e2 hp => ?_⟩⟩
        refine cat_two (x := [2]) (e2 _ _ upd_same) hp (by show 1 + _ ≤ _; omega) fun H3 c3 e3 h3 => ?_
        refine ⟨_, rfl, z, rfl, fun D hD => lc_it walk_str (fun i H4 => Ex H3 H4 ∧ H4 D = some (.lst ((z.cps.toList.take i).map fun c => V.int ((idx tabL c : Nat) : Int)))) ⟨Ex.upd hD, upd_same⟩ (fun _ _ _ _ => trivial) ?_ ?_⟩
        · rintro i x H4 H5 hi ⟨e4, hl4⟩ ⟨rfl, c, hc, rfl⟩
          have hi' : i < z.cps.toList.length := by simpa using hi
          have hc' : z.cps.toList[i]? = some c := by rw [Array.getElem?_toList]; exact hc
          refine ⟨rfl, ?_⟩
          show tIdx _ _ _
          refine idx_step rfl (okT_mem ok (List.mem_of_getElem? hc')) ⟨_, hl4, ?_, Ex.on e4 hD, ?_⟩
          · rw [List.length_map, List.length_take]
            omega
          · rw [upd_same, List.take_add_one, hc', List.map_append]
            rfl
        · rintro H4 ⟨e4, hl4⟩
          refine ⟨D, _, rfl, .inl ⟨SqL.of hl4, fun q hq => ?_⟩⟩
          have hs : z.cps.size = z.cps.toList.length := by simp
          refine cat_two (y := z.cps.toList.map fun c => ((idx tabL c : Nat) : Int)) (((Ex.trans e4 (Ex.upd hq))) _ _ h3) ?_ ?_ fun H5 c5 e5 h5 => fin H5 c5 (Tb.ex t1 ((Ex.upd ht).trans (e2.trans (e3.trans (e4.trans ((Ex.upd hq).trans e5)))))) ?_
          · rw [upd_same, hs, List.take_length, List.map_map]
            rfl
          · rw [List.length_append, List.length_map]
            show 1 + _ + _ ≤ _
            omega
          · have e : ((z.length : Int)).toNat = z.cps.toList.length := by omega
            rw [e] at h5
            rw [h5, List.append_assoc]
            rfl
end
end KL6
set_option Elab.async false
set_option linter.all false
set_option maxRecDepth 100000
set_option maxHeartbeats 4000000
namespace PySem
open AutoSeq1
theorem list_extend_tup (l : Addr) (items : Array Value) (n : Nat) (b : Addr) (items2 : Array Value) (n2 : Nat) (dd : Option Addr) (sl : Array (Option Value)) (hs0 : ¬(!items.isEmpty && Builtin.List.listTooLong (items.size + items2.size)) = true) (hs1 : items.size ≤ sizeLine) (hs2 : items.size + items2.size ≤ sizeLine + 1) :
    Meets (Builtin.«list.extend» ⟨[.ref l, .ref b], []⟩) (fun _ R s => s.heap.get? l = some { cls := .type "list", dict := none, data := .seq items n, slots := #[] } ∧ s.heap.get? b = some { cls := .type "tuple", dict := dd, data := .seq items2 n2, slots := sl } ∧ R (.ok (.ret Value.none)) { s with heap := s.heap.update l (Obj.mapSeq fun x => x ++ items2), toks := s.toks }) :=
  .of_wp fun prog w A R s h => by
    obtain ⟨hp, g, d, tk, os⟩ := s; obtain ⟨hl, hb, h⟩ := h; have f1 := idx_int; have f2 := sub_tuple_tuple; have f3 := sub_list_list; have f4 := sub_tuple_list; have f5 := sub_list_tuple;
    have hz' : (items ++ items2).size ≤ sizeLine + 1 := by rw [Array.size_append]; exact hs2
    wp_walk using (wpAny_updateSeq hl rfl (hz := hs1) (_hz' := hz')), wpAny_loadPart' hl, wpAny_loadPart' hb; exact ⟨_, rfl, h⟩
end PySem
namespace KL6
open PySem PySem.Spec PyProof.Rows L2 KB KC KS KN1 LamX
def rExtendT : V → List V → Hp → VK → Prop := fun x vs H Q => ∃ l b xs zs, x = .ref l ∧ vs = [.ref b] ∧ H l = some (.lst xs) ∧ H b = some (.tup zs) ∧ xs.length + zs.length ≤ sizeLine ∧ Q .non (upd H l (.lst (xs ++ zs)))
theorem mt_extendT {X : Cx} : MtM X "list.extend" rExtendT := by
  intro pins s σ H x vs v us Q I rx rv h
  obtain ⟨l, b, xs, zs, rfl, rfl, hH, hB, hz, q⟩ := h
  cases rx
  obtain ⟨u, rfl, ru⟩ := rv.one
  cases ru
  obtain ⟨z, its, n, r, hl, e⟩ := I.lstM hH
  obtain ⟨its2, r2, ⟨o, e2, hc, n2, hd⟩, z2⟩ := I.tuple (SqT.of hB)
  obtain ⟨oc, od, dt, sl⟩ := o
  simp only at hc hd
  subst hc hd
  have l1 := r.length
  have l2 := r2.length
  have hsz : its.toArray.size + its2.toArray.size ≤ sizeLine := by rw [List.size_toArray, List.size_toArray]; omega
  have hlong : ¬ (!its.toArray.isEmpty && Builtin.List.listTooLong (its.toArray.size + its2.toArray.size)) = true := by
    rw [notLongL hsz, Bool.and_false]
    exact Bool.false_ne_true
  refine call_meets F.slot_list_extend ⟨_, e, rfl⟩ F.entry_list_extend (F.args_list_extend_2 _ _)
    (PySem.list_extend_tup l its.toArray n b its2.toArray n2 od sl hlong (by rw [List.size_toArray]; omega) (by omega)) ⟨e, e2, ?_⟩
  refine ⟨.non, _, I.lset (its' := its ++ its2) hH e (by simp) (r.append r2) ?_, rfl, q⟩
  rw [List.length_append]
  omega
theorem tabS_lst {H : Hp} {P l : Addr} {q : Str} {xs ys : List V} (t : TabS H P q) (h : H l = some (.lst xs)) : TabS (upd H l (.lst ys)) P q := by
  obtain ⟨ps, hP, ht, ha⟩ := t
  refine ⟨ps, by rw [L2.upd_ne (fun z => by rw [z, h] at hP; cases hP)]; exact hP, ht, fun pos cv hc => ?_⟩
  obtain ⟨c, e1, e2⟩ := ha pos cv hc
  exact ⟨c, e1, by rw [L2.upd_ne (fun z => by rw [z, h] at e2; cases e2)]; exact e2⟩
theorem valL_len {k : Key} (h : OkV k) : (valL tabL k).length ≤ 1301 := by
  have big : (2 : Int) ^ 1990 < 2 ^ 2000 := by decide +kernel
  cases k with
  | inl n =>
    obtain ⟨n1, n2⟩ := h
    by_cases c : n < 0
    · rw [valL_neg _ c]
      have := natL_short (n := -n - 1) (by omega)
      rw [List.length_cons]
      omega
    · rw [valL_pos _ c]
      have := natL_short (n := n) (by omega)
      rw [List.length_cons]
      omega
  | inr z =>
    have hz := h.2
    have hb : ((z.cps.toList.length : Nat) : Int) < 2 ^ 2000 := by
      have : (1001 : Int) < 2 ^ 2000 := by decide +kernel
      omega
    have := natL_short hb
    rw [Int.toNat_natCast] at this
    show (2 :: (natL z.cps.toList.length ++ _)).length ≤ _
    rw [List.length_cons, List.length_append, List.length_map]
    omega
theorem flat_len : ∀ {l : List Key}, (∀ x ∈ l, OkV x) → (l.flatMap (valL tabL)).length ≤ l.length * 1301
  | [], _ => Nat.le_refl _
  | a :: l, h => by
    rw [List.flatMap_cons, List.length_append, List.length_cons, Nat.succ_mul]
    have h1 := valL_len (h a (List.mem_cons_self ..))
    have h2 := flat_len fun x hx => h x (List.mem_cons_of_mem _ hx)
    omega
theorem val_step {CR Ps : Addr} {H : Hp} {Q : VK} {E : XK} {k : Key} (ok : OkV k) (t : TabS H Ps qK) (fin : ∀ H' p, Tb Ps H H' → H' p = some (.tup ((valL tabL k).map V.int)) → Q (.ref p) H') : spVal CR Ps [kV k] H Q E := by
  unfold spVal
  exact ⟨_, rfl, .inr ⟨k, rfl, ok, t, fin⟩⟩
theorem val_bad {CR Ps : Addr} {H : Hp} {Q : VK} {E : XK} {b : Bool} (h : E (.ref CR) none H) : spVal CR Ps [.bl b] H Q E := by
  unfold spVal
  exact ⟨_, rfl, .inl ⟨b, rfl, h⟩⟩
@[irreducible] def spRow (CR Ps : Addr) : Sp := fun vs H Q E => ∃ r, vs = [.ref r] ∧ ((∃ b, H r = some (.tup [.bl b]) ∧ ∀ H', Ex H H' → E (.ref CR) none H') ∨
  (∃ k : List Key, H r = some (.tup (k.map kV)) ∧ (∀ x ∈ k, OkV x) ∧ k.length ≤ 25 ∧ TabS H Ps qK ∧ ∀ H' p, Tb Ps H H' → H' p = some (.tup ((rowL tabL k).map V.int)) → Q (.ref p) H'))
section
variable {P : Program} {w : World} {K : PySem.W.Frag} {mg : Str → Option Value} {base : Heap} {f fV fK fN cK Ps CR : Addr} {fd fdV fdK fdN : FuncData}
theorem scRow : FnScope ["row", "found", "value"] ["row"] (defScope sRow) := ⟨rfl, rfl, rfl, by decide +kernel, rfl, by decide +kernel, by decide +kernel⟩
theorem ok_row (F : FnP K "row_bytes" "row_bytes" sRow [] f fd) (FV : FnP K "value_bytes" "value_bytes" sVal [] fV fdV) (gV : mg "value_bytes" = some (.ref fV)) (FK : FnP K "kind_of" "kind_of" sKind [] fK fdK) (gK : mg "kind_of" = some (.ref fK)) (hc : fdK.code = .ref cK) (TBs : GxR.TabB base mg cK Ps)
    (FN : FnP K "natural_bytes" "natural_bytes" sNat [] fN fdN) (gN : mg "natural_bytes" = some (.ref fN)) (T : TxtL mg) (TK : TxtK mg) (TX : TxtX K mg CR) : FnOk P w K mg base (L2.CX P w) 3 f fd ["row"] (spRow CR Ps) := by
  have GV : FnOk P w K mg base (L2.CX P w) 2 fV fdV ["value"] (spVal CR Ps) := ok_val FV FK gK hc TBs FN gN T TK TX
  have GN : FnOk P w K mg base CX0 1 fN fdN ["number"] spNat := ok_nat FN T
  have bV : Binds K fdV ["value"] [] := FV.bindsN fun _ _ _ _ _ _ us hl => match us, hl with | [_], _ => rfl
  have bN : Binds K fdN ["number"] [] := FN.bindsN fun _ _ _ _ _ _ us hl => match us, hl with | [_], _ => rfl
  refine F.ok scRow (fun vs H Q E h => ?_) (fun cdv A outer s H vs Q E hr h => ?_)
  · unfold spRow at h
    obtain ⟨_, rfl, _⟩ := h; rfl
  · unfold spRow at h
    obtain ⟨r, rfl, h⟩ := h
    refine ⟨_, pss_cons (ps_set (i := 1) scRow.nd rfl (Or.inl rfl) (pe_callTy call_list_of (by rfl) T.list (by decide +kernel) (pa_cons (pe_call GN (hr.mono (by decide)) (by rfl) gN FN.kp bN .nil pass0 (pa_cons (pe_callB call_len_seq (by rfl) T.len (by decide +kernel) (pa_cons (pv 0) pa_nil)) pa_nil)) pa_nil)))
      (pss_cons (ps_for (passes_of rfl) rfl (pi_tup (pv 0)) (pg_name (i := 2) scRow.nd rfl (Or.inl rfl))
        (pss_one (ps_expr (pe_bm PySem.F.plainAttrs_list PySem.F.slot_list_extend PySem.F.type_list_extend mt_extendT (pv 1) (pa_cons (pe_callS GV hr (by rfl) gV FV.kp bV (fun σ => passAt (takes_of rfl rfl rfl rfl) σ) (pa_cons (pv 2) pa_nil)) pa_nil)))))
      (pss_one (ps_ret (pe_callTy call_tuple_of (by rfl) T.tuple (by decide +kernel) (pa_cons (pv 1) pa_nil))))), ?_⟩
    have hzl : sizeLine = 16777216 := rfl
    rcases h with ⟨b, hR, bad⟩ | ⟨k, hR, ok, hk, tab, fin⟩
    · refine ⟨_, rfl, r, _, rfl, .inr (SqT.of hR), nat_step (show (0 : Int) ≤ 1 by decide) (show (1 : Int) < 2 ^ 2000 by decide +kernel) fun H2 p e2 hp => ?_⟩
      refine ⟨p, _, rfl, .inr (SqT.of hp), fun l hl => ?_⟩
      have e3 : Ex H (upd H2 l (.lst ((natL ((List.length [V.bl b] : Nat) : Int).toNat).map V.int))) := e2.trans (Ex.upd hl)
      refine ⟨_, rfl, r, rfl, ⟨_, SqT.of (e3 _ _ hR)⟩, for_tup (xs := [V.bl b]) (fun i σ H' => (i = 0 ∧ σ = [some (.ref r), some (.ref l), none]) ∧ H' = upd H2 l (.lst ((natL ((List.length [V.bl b] : Nat) : Int).toNat).map V.int))) ⟨⟨rfl, rfl⟩, rfl⟩ ?_ ?_ ?_⟩
      · rintro i σ H' _ ⟨_, rfl⟩
        exact SqT.of (e3 _ _ hR)
      · rintro i x σ H' hx ⟨⟨rfl, rfl⟩, rfl⟩
        cases hx
        exact ⟨_, rfl, .inl ⟨rfl, _, SqL.of upd_same⟩, _, rfl, val_bad (bad _ e3)⟩
      · rintro σ H' ⟨⟨z, _⟩, _⟩
        cases z
    · have hkb : ((k.length : Nat) : Int) < 2 ^ 2000 := by
        have : (26 : Int) < 2 ^ 2000 := by decide +kernel
        omega
      have hkl : (List.length (k.map kV)) = k.length := List.length_map ..
      have hnl := natL_short hkb
      rw [Int.toNat_natCast] at hnl
      refine ⟨_, rfl, r, _, rfl, .inr (SqT.of hR), nat_step (by omega) (by rw [hkl]; exact hkb) fun H2 p e2 hp => ?_⟩
      rw [hkl, Int.toNat_natCast] at hp
      refine ⟨p, _, rfl, .inr (SqT.of hp), fun l hl => ?_⟩
      have e3 : Ex H (upd H2 l (.lst ((natL k.length).map V.int))) := e2.trans (Ex.upd hl)
      have nl : H l = none := by
        cases e : H l with
        | none => rfl
        | some o => rw [e2 _ _ e] at hl; cases hl
      have nP : l ≠ Ps := fun z => by
        obtain ⟨ps, h1, _⟩ := tab
        rw [z, h1] at nl
        cases nl
      have nr : r ≠ Ps := fun z => by
        obtain ⟨ps, h1, _⟩ := tab
        rw [z, h1] at hR
        cases hR
      refine ⟨_, rfl, r, rfl, ⟨_, SqT.of (e3 _ _ hR)⟩, for_tup (xs := k.map kV) (fun i σ H' => (∃ u, σ = [some (.ref r), some (.ref l), u]) ∧ Tb Ps H H' ∧ H' l = some (.lst ((natL k.length ++ (k.take i).flatMap (valL tabL)).map V.int))) ⟨⟨_, rfl⟩, (Tb.refl tab).ex e3, by rw [upd_same]; simp⟩ ?_ ?_ ?_⟩
      · rintro i σ H' _ ⟨_, t', _⟩
        exact SqT.of (t'.2 _ _ nr hR)
      · rintro i x σ H' hx ⟨⟨u, rfl⟩, t', hl'⟩
        rw [List.getElem?_map] at hx
        cases hi : k[i]? with
        | none => rw [hi] at hx; cases hx
        | some key =>
          rw [hi] at hx
          cases hx
          have hm := List.mem_of_getElem? hi
          have h1 := valL_len (ok key hm)
          have h2 := flat_len (l := k.take i) fun x hx => ok x (List.mem_of_mem_take hx)
          have h3 : (k.take i).length ≤ 25 := by rw [List.length_take]; omega
          refine ⟨_, rfl, .inl ⟨rfl, _, SqL.of hl'⟩, _, rfl, val_step (ok key hm) t'.1 fun H5 p5 t5 h5 => ?_⟩
          have hl5 := t5.2 _ _ nP hl'
          refine ⟨l, p5, _, _, rfl, rfl, hl5, h5, ?_, ?_⟩
          · rw [List.length_map, List.length_map, List.length_append]
            omega
          · refine ⟨⟨_, rfl⟩, ⟨tabS_lst t5.1 hl5, fun b o n e => ?_⟩, ?_⟩
            · rw [L2.upd_ne (ne_of_none e nl)]
              exact t5.2 _ _ n (t'.2 _ _ n e)
            · rw [upd_same, ← List.map_append, List.append_assoc, List.take_add_one, hi, List.flatMap_append]
              simp
      · rintro σ H' ⟨⟨u, rfl⟩, t', hl'⟩
        refine ⟨_, rfl, l, _, rfl, .inl ⟨SqL.of hl', fun q hq => fin _ q (t'.ex (Ex.upd hq)) ?_⟩⟩
        rw [upd_same, List.length_map, List.take_length]
        rfl
end
end KL6
set_option Elab.async false
set_option linter.all false
set_option maxRecDepth 100000
set_option maxHeartbeats 4000000
namespace KL6
open PySem PySem.Spec PyProof.Rows L2 KB KC KS KN1 LamX
def hashStep (a b : Int) : Int := (31 * a + b + 1) % 2147483647
def hashL (l : List Int) : Int := l.foldl hashStep 7
theorem row_step {CR Ps : Addr} {H : Hp} {Q : VK} {E : XK} {r : Addr} {k : List Key} (hR : H r = some (.tup (k.map kV))) (ok : ∀ x ∈ k, OkV x) (hk : k.length ≤ 25) (tab : TabS H Ps qK) (fin : ∀ H' p, Tb Ps H H' → H' p = some (.tup ((rowL tabL k).map V.int)) → Q (.ref p) H') : spRow CR Ps [.ref r] H Q E := by
  unfold spRow
  exact ⟨r, rfl, .inr ⟨k, hR, ok, hk, tab, fin⟩⟩
@[irreducible] def spHash (Ps : Addr) : Sp := fun vs H Q _ => ∃ (r : Addr) (k : List Key), vs = [.ref r] ∧ H r = some (.tup (k.map kV)) ∧ (∀ x ∈ k, OkV x) ∧ k.length ≤ 25 ∧ TabS H Ps qK ∧ ∀ H', Tb Ps H H' → Q (.int (hashL (rowL tabL k))) H'
section
variable {P : Program} {w : World} {K : PySem.W.Frag} {mg : Str → Option Value} {base : Heap} {f fR fV fK fN cK Ps CR : Addr} {fd fdR fdV fdK fdN : FuncData}
theorem scHash : FnScope ["row", "found", "byte"] ["row"] (defScope sHash) := ⟨rfl, rfl, rfl, by decide +kernel, rfl, by decide +kernel, by decide +kernel⟩
theorem ok_hash (F : FnP K "hash_of" "hash_of" sHash [] f fd) (FR : FnP K "row_bytes" "row_bytes" sRow [] fR fdR) (gR : mg "row_bytes" = some (.ref fR)) (FV : FnP K "value_bytes" "value_bytes" sVal [] fV fdV) (gV : mg "value_bytes" = some (.ref fV)) (FK : FnP K "kind_of" "kind_of" sKind [] fK fdK) (gK : mg "kind_of" = some (.ref fK)) (hc : fdK.code = .ref cK) (TBs : GxR.TabB base mg cK Ps)
    (FN : FnP K "natural_bytes" "natural_bytes" sNat [] fN fdN) (gN : mg "natural_bytes" = some (.ref fN)) (T : TxtL mg) (TK : TxtK mg) (TX : TxtX K mg CR) : FnOk P w K mg base (L2.CX P w) 4 f fd ["row"] (spHash Ps) := by
  have GR : FnOk P w K mg base (L2.CX P w) 3 fR fdR ["row"] (spRow CR Ps) := ok_row FR FV gV FK gK hc TBs FN gN T TK TX
  have bR : Binds K fdR ["row"] [] := FR.bindsN fun _ _ _ _ _ _ us hl => match us, hl with | [_], _ => rfl
  refine F.ok scHash (fun vs H Q E h => ?_) (fun cdv A outer s H vs Q E hr h => ?_)
  · unfold spHash at h
    obtain ⟨_, _, rfl, _⟩ := h; rfl
  · unfold spHash at h
    obtain ⟨r, k, rfl, hR, ok, hk, tab, fin⟩ := h
    refine ⟨_, pss_cons (ps_set (i := 1) scHash.nd rfl (Or.inl rfl) pe_int)
      (pss_cons (ps_for (passes_of rfl) rfl (pi_tup (pe_callS GR hr (by rfl) gR FR.kp bR (fun σ => passAt (takes_of rfl rfl rfl rfl) σ) (pa_cons (pv 0) pa_nil))) (pg_name (i := 2) scHash.nd rfl (Or.inl rfl))
        (pss_one (ps_set (i := 1) scHash.nd rfl (Or.inl rfl) (pe_op op_mod (pe_op op_add (pe_op op_add (pe_op op_mul pe_int (pv 1)) (pv 2)) pe_int) pe_int))))
      (pss_one (ps_ret (pv 1)))), ?_⟩
    refine ⟨_, rfl, row_step hR ok hk tab fun H2 p t2 hp => ?_⟩
    refine ⟨p, rfl, ⟨_, SqT.of hp⟩, for_tup (xs := (rowL tabL k).map V.int) (fun i σ H' => H' = H2 ∧ ∃ u, σ = [some (.ref r), some (.int (hashL ((rowL tabL k).take i))), u]) ⟨rfl, _, rfl⟩ ?_ ?_ ?_⟩
    · rintro i σ H' _ ⟨rfl, _⟩
      exact SqT.of hp
    · rintro i x σ H' hx ⟨rfl, u, rfl⟩
      rw [List.getElem?_map] at hx
      cases hi : (rowL tabL k)[i]? with
      | none => rw [hi] at hx; cases hx
      | some b =>
        rw [hi] at hx
        cases hx
        refine ⟨_, rfl, _, _, rfl, rfl, .inl ⟨by decide, by decide⟩, _, rfl, _, _, rfl, rfl, _, _, rfl, rfl, _, _, rfl, rfl, by show (0 : Int) < 2147483647; decide, rfl, some (.int b), ?_⟩
        have e : hashL ((rowL tabL k).take (i + 1)) = hashStep (hashL ((rowL tabL k).take i)) b := by
          rw [List.take_add_one, hi]
          unfold hashL
          rw [List.foldl_append]
          rfl
        rw [e]
        rfl
    · rintro σ H' ⟨rfl, u, rfl⟩
      refine ⟨_, rfl, ?_⟩
      rw [List.length_map, List.take_length]
      exact fin _ t2
end
end KL6
set_option linter.all false
namespace Q1
abbrev Sp2 := Int × Int
structure M (g : Int) (ts : List Int) (s : Sp2) : Prop where
  m1 : s.1 ∈ ts
  m2 : ∀ u ∈ ts, ¬ (s.1 - g < u ∧ u < s.1)
  m3 : s.2 - g ∈ ts
  m4 : ∀ u ∈ ts, ¬ (s.2 - g < u ∧ u < s.2)
  m5 : ∀ x, s.1 ≤ x → x < s.2 - g → ∃ u ∈ ts, x < u ∧ u < x + g
  m6 : s.1 + g ≤ s.2
theorem M.apart {g : Int} {ts : List Int} {a b : Sp2} (hg : 0 < g) (ha : M g ts a) (hb : M g ts b) (h : a.1 ≤ b.1) : a = b ∨ a.2 ≤ b.1 := by
  by_cases e : a.2 ≤ b.1
  · exact .inr e
  · left
    have e1 : a.1 = b.1 := by
      by_cases e2 : b.1 ≤ a.2 - g
      · by_cases e3 : a.1 < b.1
        · exfalso
          by_cases e4 : a.1 ≤ b.1 - g
          · obtain ⟨u, hu, h1, h2⟩ := ha.m5 (b.1 - g) e4 (by omega)
            exact hb.m2 u hu ⟨h1, by omega⟩
          · exact hb.m2 a.1 ha.m1 ⟨by omega, e3⟩
        · omega
      · exact absurd ⟨(by omega : a.2 - g < b.1), (by omega : b.1 < a.2)⟩ (ha.m4 b.1 hb.m1)
    have e2 : a.2 = b.2 := by
      have l1 := ha.m6
      have l2 := hb.m6
      rcases Int.lt_trichotomy a.2 b.2 with h1 | h1 | h1
      · obtain ⟨u, hu, h3, h4⟩ := hb.m5 (a.2 - g) (by omega) (by omega)
        exact absurd ⟨h3, by omega⟩ (ha.m4 u hu)
      · exact h1
      · obtain ⟨u, hu, h3, h4⟩ := ha.m5 (b.2 - g) (by omega) (by omega)
        exact absurd ⟨h3, by omega⟩ (hb.m4 u hu)
    exact Prod.ext e1 e2
theorem M.congr {g : Int} {ts us : List Int} (h : ∀ x, x ∈ ts ↔ x ∈ us) {s : Sp2} (m : M g ts s) : M g us s :=
  ⟨(h _).mp m.m1, fun u hu => m.m2 u ((h _).mpr hu), (h _).mp m.m3, fun u hu => m.m4 u ((h _).mpr hu), fun x h1 h2 => by
    obtain ⟨u, hu, h3⟩ := m.m5 x h1 h2
    exact ⟨u, (h _).mp hu, h3⟩, m.m6⟩
structure Spans (g : Int) (ts : List Int) (S : List Sp2) : Prop where
  mem : ∀ s, s ∈ S ↔ M g ts s
  cover : ∀ u ∈ ts, ∃ s ∈ S, s.1 ≤ u ∧ u + g ≤ s.2
  asc : S.Pairwise fun a b => a.2 ≤ b.1
theorem Spans.congr {g : Int} {ts us : List Int} (h : ∀ x, x ∈ ts ↔ x ∈ us) {S : List Sp2} (m : Spans g ts S) : Spans g us S :=
  ⟨fun s => ⟨fun z => ((m.mem s).mp z).congr h, fun z => (m.mem s).mpr (z.congr fun x => (h x).symm)⟩, fun u hu => m.cover u ((h u).mpr hu), m.asc⟩
theorem asc_eq {g : Int} (hg : 0 < g) : ∀ {A B : List Sp2}, (∀ s ∈ A, s.1 + g ≤ s.2) → A.Pairwise (fun a b => a.2 ≤ b.1) → B.Pairwise (fun a b => a.2 ≤ b.1) → (∀ s, s ∈ A ↔ s ∈ B) → A = B
  | [], [], _, _, _, _ => rfl
  | [], b :: B, _, _, _, h => absurd ((h b).mpr List.mem_cons_self) (by simp)
  | a :: A, [], _, _, _, h => absurd ((h a).mp List.mem_cons_self) (by simp)
  | a :: A, b :: B, w, pa, pb, h => by
    have wB : ∀ s ∈ b :: B, s.1 + g ≤ s.2 := fun s hs => w s ((h s).mpr hs)
    rw [List.pairwise_cons] at pa pb
    have wa := w a List.mem_cons_self
    have wb := wB b List.mem_cons_self
    have e : a = b := by
      rcases List.mem_cons.mp ((h a).mp List.mem_cons_self) with z | z
      · exact z
      rcases List.mem_cons.mp ((h b).mpr List.mem_cons_self) with y | y
      · exact y.symm
      have h1 := pb.1 a z
      have h2 := pa.1 b y
      omega
    subst e
    have na : ∀ {C : List Sp2}, (∀ x ∈ C, a.2 ≤ x.1) → a ∉ C := fun hc hm => by
      have := hc a hm
      omega
    rw [asc_eq hg (fun s hs => w s (List.mem_cons_of_mem _ hs)) pa.2 pb.2 fun s => ?_]
    constructor
    · intro hs
      rcases List.mem_cons.mp ((h s).mp (List.mem_cons_of_mem _ hs)) with z | z
      · exact absurd (z ▸ hs) (na pa.1)
      · exact z
    · intro hs
      rcases List.mem_cons.mp ((h s).mpr (List.mem_cons_of_mem _ hs)) with z | z
      · exact absurd (z ▸ hs) (na pb.1)
      · exact z
theorem Spans.uniq {g : Int} (hg : 0 < g) {ts : List Int} {A B : List Sp2} (a : Spans g ts A) (b : Spans g ts B) : A = B :=
  asc_eq hg (fun s hs => ((a.mem s).mp hs).m6) a.asc b.asc fun s => (a.mem s).trans (b.mem s).symm
def ov (g t : Int) (s : Sp2) : Bool := decide (s.1 < t + g) && decide (t < s.2)
def inner (g t : Int) (S : List Sp2) : List Sp2 := S.filter (ov g t)
def others (g t : Int) (S : List Sp2) : List Sp2 := S.filter fun s => decide (s ∉ inner g t S)
theorem ov_iff {g t : Int} {s : Sp2} : ov g t s = true ↔ s.1 < t + g ∧ t < s.2 := by
  unfold ov
  simp
theorem mem_inner {g t : Int} {S : List Sp2} {s : Sp2} : s ∈ inner g t S ↔ s ∈ S ∧ s.1 < t + g ∧ t < s.2 := by
  unfold inner
  rw [List.mem_filter, ov_iff]
theorem mem_others {g t : Int} {S : List Sp2} {s : Sp2} : s ∈ others g t S ↔ s ∈ S ∧ ¬ (s.1 < t + g ∧ t < s.2) := by
  unfold others
  rw [List.mem_filter, decide_eq_true_eq, mem_inner]
  constructor
  · rintro ⟨h1, h2⟩; exact ⟨h1, fun h => h2 ⟨h1, h⟩⟩
  · rintro ⟨h1, h2⟩; exact ⟨h1, fun h => h2 h.2⟩
structure Joint (g t : Int) (S : List Sp2) (b e : Int) : Prop where
  b1 : b = t ∨ ∃ s ∈ inner g t S, b = s.1
  b2 : b ≤ t
  b3 : ∀ s ∈ inner g t S, b ≤ s.1
  e1 : e = t + g ∨ ∃ s ∈ inner g t S, e = s.2
  e2 : t + g ≤ e
  e3 : ∀ s ∈ inner g t S, s.2 ≤ e
section
variable {g t b e : Int} {ts : List Int} {S : List Sp2}
theorem joint_M (hg : 0 < g) (H : Spans g ts S) (J : Joint g t S b e) : M g (t :: ts) (b, e) := by
  have cov := H.cover
  refine ⟨?_, fun u hu => ?_, ?_, fun u hu => ?_, fun x h1 h2 => ?_, ?_⟩
  · rcases J.b1 with h | ⟨s, hs, h⟩
    · show b ∈ t :: ts
      rw [h]; exact List.mem_cons_self
    · show b ∈ t :: ts
      rw [h]
      exact List.mem_cons_of_mem _ ((H.mem s).mp (mem_inner.mp hs).1).m1
  · show ¬ (b - g < u ∧ u < b)
    rintro ⟨h1, h2⟩
    have hb := J.b2
    rcases List.mem_cons.mp hu with rfl | hu
    · omega
    · rcases J.b1 with h | ⟨s, hs, h⟩
      · obtain ⟨s', hs', h3, h4⟩ := cov u hu
        have := J.b3 s' (mem_inner.mpr ⟨hs', by omega, by omega⟩)
        omega
      · exact ((H.mem s).mp (mem_inner.mp hs).1).m2 u hu ⟨by omega, by omega⟩
  · show e - g ∈ t :: ts
    rcases J.e1 with h | ⟨s, hs, h⟩
    · have : e - g = t := by omega
      rw [this]; exact List.mem_cons_self
    · rw [h]
      exact List.mem_cons_of_mem _ ((H.mem s).mp (mem_inner.mp hs).1).m3
  · show ¬ (e - g < u ∧ u < e)
    rintro ⟨h1, h2⟩
    have he := J.e2
    rcases List.mem_cons.mp hu with rfl | hu
    · omega
    · rcases J.e1 with h | ⟨s, hs, h⟩
      · obtain ⟨s', hs', h3, h4⟩ := cov u hu
        have := J.e3 s' (mem_inner.mpr ⟨hs', by omega, by omega⟩)
        omega
      · exact ((H.mem s).mp (mem_inner.mp hs).1).m4 u hu ⟨by omega, by omega⟩
  · have h1 : b ≤ x := h1
    have h2 : x < e - g := h2
    show ∃ u ∈ t :: ts, x < u ∧ u < x + g
    by_cases hx : x < t
    · -- ahead of t: in the inner span that begins at b
      by_cases hx2 : t < x + g
      · exact ⟨t, List.mem_cons_self, hx, hx2⟩
      · rcases J.b1 with h | ⟨s, hs, h⟩
        · omega
        · obtain ⟨hs1, hs2, hs3⟩ := mem_inner.mp hs
          have m := (H.mem s).mp hs1
          obtain ⟨u, hu, h3⟩ := m.m5 x (by omega) (by omega)
          exact ⟨u, List.mem_cons_of_mem _ hu, h3⟩
    · rcases J.e1 with h | ⟨s, hs, h⟩
      · omega
      · obtain ⟨hs1, hs2, hs3⟩ := mem_inner.mp hs
        have m := (H.mem s).mp hs1
        by_cases hx3 : s.1 ≤ x
        · obtain ⟨u, hu, h3⟩ := m.m5 x hx3 (by omega)
          exact ⟨u, List.mem_cons_of_mem _ hu, h3⟩
        · exact ⟨s.1, List.mem_cons_of_mem _ m.m1, by omega, by omega⟩
  · have := J.b2
    have := J.e2
    show b + g ≤ e
    omega
theorem others_M (hg : 0 < g) (H : Spans g ts S) {s : Sp2} (h : s ∈ others g t S) : M g (t :: ts) s := by
  obtain ⟨h1, h2⟩ := mem_others.mp h
  have m := (H.mem s).mp h1
  have l := m.m6
  refine ⟨List.mem_cons_of_mem _ m.m1, fun u hu => ?_, List.mem_cons_of_mem _ m.m3, fun u hu => ?_, fun x h3 h4 => ?_, m.m6⟩
  · rcases List.mem_cons.mp hu with rfl | hu
    · omega
    · exact m.m2 u hu
  · rcases List.mem_cons.mp hu with rfl | hu
    · omega
    · exact m.m4 u hu
  · obtain ⟨u, hu, h5⟩ := m.m5 x h3 h4
    exact ⟨u, List.mem_cons_of_mem _ hu, h5⟩
theorem joint_mem (hg : 0 < g) (H : Spans g ts S) (J : Joint g t S b e) (s : Sp2) : s ∈ others g t S ++ [(b, e)] ↔ M g (t :: ts) s := by
  have mb := joint_M hg H J
  have lb := J.b2
  have le := J.e2
  rw [List.mem_append, List.mem_singleton]
  constructor
  · rintro (h | rfl)
    · exact others_M hg H h
    · exact mb
  · intro m
    have ls := m.m6
    have ap : s = (b, e) ∨ s.2 ≤ b ∨ e ≤ s.1 := by
      rcases Int.le_total s.1 b with h | h
      · rcases m.apart hg mb h with z | z
        · exact .inl z
        · exact .inr (.inl z)
      · rcases mb.apart hg m h with z | z
        · exact .inl z.symm
        · exact .inr (.inr z)
    rcases ap with z | ap
    · exact .inr z
    · left
      have notT : ∀ u, u ∈ t :: ts → s.1 ≤ u → u < s.2 → u ∈ ts := fun u hu h1 h2 => by
        rcases List.mem_cons.mp hu with rfl | hu
        · exfalso; omega
        · exact hu
      refine mem_others.mpr ⟨(H.mem s).mpr ⟨notT _ m.m1 (by omega) (by omega), fun u hu => m.m2 u (List.mem_cons_of_mem _ hu), notT _ m.m3 (by omega) (by omega), fun u hu => m.m4 u (List.mem_cons_of_mem _ hu), fun x h1 h2 => ?_, m.m6⟩, by omega⟩
      obtain ⟨u, hu, h3, h4⟩ := m.m5 x h1 h2
      exact ⟨u, notT u hu (by omega) (by omega), h3, h4⟩
theorem joint_cover (H : Spans g ts S) (J : Joint g t S b e) : ∀ u ∈ t :: ts, ∃ s ∈ others g t S ++ [(b, e)], s.1 ≤ u ∧ u + g ≤ s.2 := by
  intro u hu
  have lb := J.b2
  have le := J.e2
  have hm : (b, e) ∈ others g t S ++ [(b, e)] := List.mem_append.mpr (.inr (List.mem_singleton.mpr rfl))
  rcases List.mem_cons.mp hu with rfl | hu
  · exact ⟨(b, e), hm, lb, le⟩
  · obtain ⟨s, hs, h1, h2⟩ := H.cover u hu
    by_cases h : s.1 < t + g ∧ t < s.2
    · have hi := mem_inner.mpr ⟨hs, h⟩
      have := J.b3 s hi
      have := J.e3 s hi
      exact ⟨(b, e), hm, by show b ≤ u; omega, by show u + g ≤ e; omega⟩
    · exact ⟨s, List.mem_append.mpr (.inl (mem_others.mpr ⟨hs, h⟩)), h1, h2⟩
theorem asc_nodup (hg : 0 < g) : ∀ {A : List Sp2}, (∀ s ∈ A, s.1 + g ≤ s.2) → A.Pairwise (fun a b => a.2 ≤ b.1) → A.Nodup
  | [], _, _ => List.nodup_nil
  | a :: A, w, p => by
    rw [List.pairwise_cons] at p
    refine List.nodup_cons.mpr ⟨fun h => ?_, asc_nodup hg (fun s hs => w s (List.mem_cons_of_mem _ hs)) p.2⟩
    have := p.1 a h
    have := w a List.mem_cons_self
    omega
theorem joint_nodup (hg : 0 < g) (H : Spans g ts S) (J : Joint g t S b e) : (others g t S ++ [(b, e)]).Nodup := by
  have nS := asc_nodup hg (fun s hs => ((H.mem s).mp hs).m6) H.asc
  have lb := J.b2
  have le := J.e2
  refine List.nodup_append.mpr ⟨nS.filter _, by simp, fun x hx y hy => ?_⟩
  rw [List.mem_singleton] at hy
  subst hy
  rintro rfl
  have := (mem_others.mp hx).2
  exact this ⟨by show b < t + g; omega, by show t < e; omega⟩
def lt2 (a b : Sp2) : Bool := decide (a.1 < b.1) || (decide (a.1 = b.1) && decide (a.2 < b.2))
theorem asc_of_sorted (hg : 0 < g) {A : List Sp2} (hm : ∀ s ∈ A, M g ts s) (nd : A.Nodup) (so : A.Pairwise fun a b => lt2 b a = false) : A.Pairwise fun a b => a.2 ≤ b.1 := by
  induction A with
  | nil => exact .nil
  | cons a A ih =>
    rw [List.pairwise_cons] at so
    rw [List.nodup_cons] at nd
    refine List.pairwise_cons.mpr ⟨fun x hx => ?_, ih (fun s hs => hm s (List.mem_cons_of_mem _ hs)) nd.2 so.2⟩
    have h1 := so.1 x hx
    unfold lt2 at h1
    rw [Bool.or_eq_false_iff, decide_eq_false_iff_not] at h1
    rcases (hm a List.mem_cons_self).apart hg (hm x (List.mem_cons_of_mem _ hx)) (by omega) with z | z
    · exact absurd (z ▸ hx) nd.1
    · exact z
theorem joined_spans (hg : 0 < g) (H : Spans g ts S) (J : Joint g t S b e) {A : List Sp2} (pm : A.Perm (others g t S ++ [(b, e)])) (so : A.Pairwise fun a b => lt2 b a = false) : Spans g (t :: ts) A := by
  have hm : ∀ s, s ∈ A ↔ M g (t :: ts) s := fun s => (pm.mem_iff).trans (joint_mem hg H J s)
  refine ⟨hm, fun u hu => ?_, asc_of_sorted hg (fun s hs => (hm s).mp hs) (pm.nodup_iff.mpr (joint_nodup hg H J)) so⟩
  obtain ⟨s, hs, h⟩ := joint_cover H J u hu
  exact ⟨s, pm.mem_iff.mpr hs, h⟩
theorem taken_eq (hg : 0 < g) (H : Spans g ts S) {A : List Sp2} (pm : A.Perm (inner g t S)) (so : A.Pairwise fun a b => lt2 b a = false) : A = inner g t S := by
  have hi : ∀ s ∈ inner g t S, M g ts s := fun s hs => (H.mem s).mp (mem_inner.mp hs).1
  have ai : (inner g t S).Pairwise fun a b => a.2 ≤ b.1 := H.asc.filter _
  have nd : (inner g t S).Nodup := (asc_nodup hg (fun s hs => ((H.mem s).mp hs).m6) H.asc).filter _
  have hA : ∀ s ∈ A, M g ts s := fun s hs => hi s (pm.mem_iff.mp hs)
  exact asc_eq hg (fun s hs => (hA s hs).m6) (asc_of_sorted hg hA (pm.nodup_iff.mpr nd) so) ai fun s => pm.mem_iff
theorem taken_law (hg : 0 < g) (H : Spans g ts S) (J : Joint g t S b e) {A : List Sp2} (pm : A.Perm (others g t S ++ [(b, e)])) : S.filter (fun s => decide (s ∉ A) || decide (s = (b, e))) = inner g t S := by
  unfold inner
  refine List.filter_congr fun s hs => ?_
  have lb := J.b2
  have le := J.e2
  have hA : s ∈ A ↔ s ∈ others g t S ∨ s = (b, e) := by rw [pm.mem_iff, List.mem_append, List.mem_singleton]
  rw [Bool.eq_iff_iff, ov_iff, Bool.or_eq_true, decide_eq_true_eq, decide_eq_true_eq, hA, mem_others]
  constructor
  · rintro (h | rfl)
    · by_cases z : s.1 < t + g ∧ t < s.2
      · exact z
      · exact absurd (.inl ⟨hs, z⟩) h
    · exact ⟨by show b < t + g; omega, by show t < e; omega⟩
  · intro h
    by_cases z : s = (b, e)
    · exact .inr z
    · left
      rintro (y | y)
      · exact y.2 h
      · exact z y
end
def lsStep (g : Int) (acc : List Sp2) (t : Int) : List Sp2 :=
  match acc.getLast? with
  | some l => if t < l.2 then acc.dropLast ++ [(l.1, t + g)] else acc ++ [(t, t + g)]
  | none => [(t, t + g)]
theorem spans_nil {g : Int} : Spans g [] [] := ⟨fun s => ⟨fun h => by simp at h, fun m => absurd m.m1 (by simp)⟩, fun u hu => absurd hu (by simp), .nil⟩
theorem ls_spans {g t : Int} (hg : 0 < g) {ts : List Int} {S : List Sp2} (H : Spans g ts S) (ht : ∀ u ∈ ts, u ≤ t) : Spans g (t :: ts) (lsStep g S t) := by
  have hs1 : ∀ s ∈ S, s.1 ≤ t := fun s hs => ht _ ((H.mem s).mp hs).m1
  have hs2 : ∀ s ∈ S, s.2 ≤ t + g := fun s hs => by have := ht _ ((H.mem s).mp hs).m3; omega
  rcases List.eq_nil_or_concat S with rfl | ⟨init, l, rfl⟩
  · have J : Joint g t [] t (t + g) := ⟨.inl rfl, Int.le_refl _, fun s hs => absurd hs (by simp [inner]), .inl rfl, Int.le_refl _, fun s hs => absurd hs (by simp [inner])⟩
    exact joined_spans hg H J (A := [(t, t + g)]) (List.Perm.refl _) (by simp)
  · rw [List.concat_eq_append] at H hs1 hs2 ⊢
    have asc := H.asc
    rw [List.pairwise_append] at asc
    have hl := hs1 l (by simp)
    have hl2 := hs2 l (by simp)
    have ml := (H.mem l).mp (by simp)
    have noi : ∀ s ∈ init, s.2 ≤ t := fun s hs => by have := asc.2.2 s hs l (by simp); omega
    have w : ∀ s ∈ init ++ [l], s.1 + g ≤ s.2 := fun s hs => ((H.mem s).mp hs).m6
    unfold lsStep
    rw [List.getLast?_concat]
    show Spans g (t :: ts) (if t < l.2 then _ else _)
    by_cases h : t < l.2
    · rw [if_pos h, List.dropLast_concat]
      have hin : ∀ s, s ∈ inner g t (init ++ [l]) ↔ s = l := fun s => by
        rw [mem_inner]
        constructor
        · rintro ⟨h1, h2, h3⟩
          rcases List.mem_append.mp h1 with z | z
          · have := noi s z; omega
          · exact List.mem_singleton.mp z
        · rintro rfl
          exact ⟨by simp, by omega, h⟩
      have J : Joint g t (init ++ [l]) l.1 (t + g) := ⟨.inr ⟨l, (hin l).mpr rfl, rfl⟩, hl, fun s hs => by rw [(hin s).mp hs]; exact Int.le_refl _, .inl rfl, Int.le_refl _, fun s hs => by rw [(hin s).mp hs]; exact hl2⟩
      have eo : others g t (init ++ [l]) = init := by
        unfold others
        rw [List.filter_append, List.filter_eq_self.mpr fun s hs => ?_]
        · rw [List.filter_cons_of_neg (by simpa using (hin l).mpr rfl)]
          simp
        · rw [decide_eq_true_eq, hin]
          rintro rfl
          have h1 := noi s hs
          omega
      refine joined_spans hg H J (by rw [eo]) ?_
      refine List.pairwise_append.mpr ⟨asc.1.imp_of_mem fun {a b} ha hb hab => ?_, by simp, fun a ha b hb => ?_⟩
      · have := w a (by simp [ha])
        unfold lt2
        simp
        omega
      · rw [List.mem_singleton] at hb
        subst hb
        have h1 := asc.2.2 a ha l (by simp)
        have := w a (by simp [ha])
        unfold lt2
        simp
        omega
    · rw [if_neg h]
      have hin : ∀ s, s ∉ inner g t (init ++ [l]) := fun s hs => by
        obtain ⟨h1, h2, h3⟩ := mem_inner.mp hs
        rcases List.mem_append.mp h1 with z | z
        · have := noi s z; omega
        · rw [List.mem_singleton.mp z] at h3
          exact h h3
      have J : Joint g t (init ++ [l]) t (t + g) := ⟨.inl rfl, Int.le_refl _, fun s hs => absurd hs (hin s), .inl rfl, Int.le_refl _, fun s hs => absurd hs (hin s)⟩
      have eo : others g t (init ++ [l]) = init ++ [l] := by
        unfold others
        exact List.filter_eq_self.mpr fun s _ => by rw [decide_eq_true_eq]; exact hin s
      refine joined_spans hg H J (by rw [eo]) ?_
      refine List.pairwise_append.mpr ⟨H.asc.imp_of_mem fun {a b} ha hb hab => ?_, by simp, fun a ha b hb => ?_⟩
      · have := w a ha
        unfold lt2
        simp
        omega
      · rw [List.mem_singleton] at hb
        subst hb
        have h1 := hs1 a ha
        have h2 := hs2 a ha
        have := w a ha
        have h3 : a.2 ≤ t := by
          rcases List.mem_append.mp ha with z | z
          · exact noi a z
          · rw [List.mem_singleton.mp z]; omega
        unfold lt2
        simp
        omega
def lawSp (g : Int) (ts : List Int) : List Sp2 := ts.foldl (lsStep g) []
theorem lawSp_spans {g : Int} (hg : 0 < g) {ts : List Int} (so : ts.Pairwise (· ≤ ·)) : Spans g ts (lawSp g ts) := by
  have go : ∀ (r p : List Int) (S : List Sp2), Spans g p S → (∀ u ∈ p, ∀ v ∈ r, u ≤ v) → r.Pairwise (· ≤ ·) → Spans g (p ++ r) (r.foldl (lsStep g) S) := by
    intro r
    induction r with
    | nil => intro p S h _ _; simpa using h
    | cons t r ih =>
      intro p S h hp hr
      rw [List.pairwise_cons] at hr
      have h1 := ls_spans hg h fun u hu => hp u hu t List.mem_cons_self
      have h2 := ih (p ++ [t]) (lsStep g S t) (h1.congr fun x => by simp [or_comm]) (fun u hu v hv => ?_) hr.2
      · simpa using h2
      · rcases List.mem_append.mp hu with z | z
        · exact hp u z v (List.mem_cons_of_mem _ hv)
        · rw [List.mem_singleton.mp z]; exact hr.1 v hv
  exact go ts [] [] spans_nil (by simp) so
end Q1
set_option Elab.async false
set_option linter.all false
set_option maxRecDepth 100000
set_option maxHeartbeats 4000000
namespace SrtU
open PySem PyProof.Rows Srt SrtO
section
variable {prog : Program} {w : World} {A : Around} {E : Value → Shared → Prop} {s : Shared}
theorem collect_tup {l : Addr} {vs : List Value} {Q : List Value → Shared → Prop} (hl : s.heap.IsTuple l vs.toArray)
    (h : Q vs { s with heap := (s.heap.push (seqObj "list" #[] 0)).update s.heap.objs.size (Obj.mapSeq (· ++ vs.toArray)) }) (hsz : vs.length ≤ sizeLine) :
    wpAny (model prog w) A (collect (.ref l)) Q E s := by
  obtain ⟨o, ho, hc, n, hd⟩ := id hl
  unfold collect
  refine wpAny_bind (wpAny_runValue (codeAny_builtin entry_proto_collect' ?_))
  show wpAny _ _ (do again (.builtin "list.__iadd__" ⟨[← newList [], .ref l], []⟩)) _ _ s
  refine wpAny_bind (wpAny_newList (wpAny_pure ⟨Code.quiet_builtin _ (by decide +kernel), codeAny_builtin entry_list_iadd' ?_⟩))
  show wpAny _ _ (Builtin.List.listExtendWith (.ref s.heap.objs.size) (.ref l) (.ref s.heap.objs.size)) _ _ { s with heap := s.heap.push (seqObj "list" #[] 0) }
  unfold Builtin.List.listExtendWith
  have ho' : (s.heap.push (seqObj "list" #[] 0)).get? l = some o := Heap.get?_push_of_some _ ho
  refine wpAny_bind (wpAny_typeOf (T := "tuple") ⟨o, ho', hc⟩ ?_)
  have ht : (Value.type "tuple" == Value.type "tuple") = true := by rfl
  rw [if_pos (by rw [ht]; simp)]
  refine wpAny_bind (listItems_at ho' hd ?_)
  refine wpAny_bind (listItems_at (xs := #[]) (n := 0) (Heap.get?_push_size _ rfl) rfl ?_)
  rw [if_neg (by simp)]
  refine wpAny_bind (listUpdate_at (xs := #[]) (n := 0) (Heap.get?_push_size _ rfl) rfl ?_ (Nat.zero_le _) (by show (#[] ++ vs.toArray).size ≤ sizeLine + 1; simp only [Array.size_append, List.size_toArray, List.length_nil]; omega))
  refine wpAny_pure ?_
  show wpAny (model prog w) A (do
      let o ← load s.heap.objs.size
      match o.data with
      | .seq xs _ => pure xs.toList
      | _ => unsupported "internal:collect") Q E { s with heap := (s.heap.push (seqObj "list" #[] 0)).update s.heap.objs.size (Obj.mapSeq (· ++ vs.toArray)) }
  refine wpAny_bind (wpAny_load (get?_update_seq (Heap.get?_push_size _ rfl) _) ?_)
  show wpAny _ _ (pure ((#[] : Array Value) ++ vs.toArray).toList) Q E _
  rw [show ((#[] : Array Value) ++ vs.toArray).toList = vs by simp]
  exact wpAny_pure h
theorem sorted_ordT {l : Addr} {vs : List Value} {ltv : Value → Value → Bool} {Q : Value → Shared → Prop} (O : Swo ltv) (hl : s.heap.IsTuple l vs.toArray) (hz : vs.length ≤ sizeLine)
    (hS : 2 ≤ vs.length → ∀ (h₁ : Heap) (a : Addr), h₁.get? a = some (seqObj "list" vs.toArray 0) → (∀ b o, s.heap.get? b = some o → b ≠ a ∧ h₁.get? b = some o) → SortableO prog w A.in1.in1 { s with heap := h₁ } a vs ltv)
    (h : ∀ out : List Value, Srtd ltv out → Stb ltv out vs → Q (.ref (s.heap.objs.size + 1)) { s with heap := sortedAll s.heap vs out.toArray }) :
    wpAny (model prog w) A (call (.builtin "sorted") [.ref l]) Q E s := by
  refine Calls.call_function_entry kind_sorted plain_sorted entry_sorted (args_sorted1 _) ?_
  unfold Builtin.«sorted»
  refine wpAny_bind (m := checkCount "sorted" 1 1 _) (wpAny_pure ?_)
  refine wpAny_bind (collect_tup hl ?_ hz)
  refine wpAny_bind (wpAny_newList ?_ hz)
  have hsz : ((s.heap.push (seqObj "list" #[] 0)).update s.heap.objs.size (Obj.mapSeq (· ++ vs.toArray))).objs.size = s.heap.objs.size + 1 := by
    rw [Heap.size_update, size_push']
  have hoL : (((s.heap.push (seqObj "list" #[] 0)).update s.heap.objs.size (Obj.mapSeq (· ++ vs.toArray))).push (seqObj "list" vs.toArray 0)).get? (s.heap.objs.size + 1) = some (seqObj "list" vs.toArray 0) := by
    rw [← hsz]; exact Heap.get?_push_size _ rfl
  have keep : ∀ b o, s.heap.get? b = some o → b ≠ s.heap.objs.size + 1 ∧ (((s.heap.push (seqObj "list" #[] 0)).update s.heap.objs.size (Obj.mapSeq (· ++ vs.toArray))).push (seqObj "list" vs.toArray 0)).get? b = some o := fun b o q => by
    have hlt : b < s.heap.objs.size := Heap.lt_size q
    refine ⟨Nat.ne_of_lt (Nat.lt_succ_of_lt hlt), Heap.get?_push_of_some _ ?_⟩
    rw [Heap.get?_update_ne _ _ _ _ (Nat.ne_of_lt hlt)]
    exact Heap.get?_push_of_some _ q
  show wpAny _ _ _ _ _ { s with heap := ((s.heap.push (seqObj "list" #[] 0)).update s.heap.objs.size (Obj.mapSeq (· ++ vs.toArray))).push (seqObj "list" vs.toArray 0) }
  rw [hsz]
  refine wpAny_bind (wpAny_holding (wpAny_call_entry slot_list_sort ⟨_, hoL, rfl⟩ entry_list_sort (list_sort_ord O hoL hz (fun h2 => hS h2 _ _ hoL keep) fun out hs hb => ⟨_, rfl, ?_⟩) (args_list_sort _)))
  exact wpAny_pure ⟨_, rfl, h out hs hb⟩
theorem sorted_pairsT {l : Addr} {vs : List Value} {k : Value → Int × Int} {Q : Value → Shared → Prop} (hl : s.heap.IsTuple l vs.toArray) (hz : vs.length ≤ sizeLine) (hp : ∀ v ∈ vs, IsPair s.heap v (k v).1 (k v).2)
    (h : ∀ (h' : Heap) (d : Addr) (out : List Value), Srtd (fun v u => lexB (k v) (k u)) out → Stb (fun v u => lexB (k v) (k u)) out vs → (∀ b o, s.heap.get? b = some o → h'.get? b = some o) → s.heap.objs.size ≤ d → (∃ n, h'.get? d = some (seqObj "list" out.toArray n)) → Q (.ref d) { s with heap := h' }) :
    wpAny (model prog w) A (call (.builtin "sorted") [.ref l]) Q E s := by
  refine sorted_ordT (swo_lex k) hl hz (fun h2 h₁ a ha kk => ?_) fun out hs hb => ?_
  · refine pairs_sortableO (s := { s with heap := h₁ }) (by omega) (fun v hm => (hp v hm).keeps fun b o e _ => (kk b o e).2) fun o e => ?_
    have e' : some o = some (seqObj "list" vs.toArray 0) := e.symm.trans ha
    cases e'
    intro c
    exact absurd (Value.type.inj c) (by decide)
  · exact h _ _ out hs hb (fun b o e => sortedAll_old e) (Nat.le_succ _) (sortedAll_at s.heap vs out.toArray)
end
end SrtU
namespace R8
open PySem PySem.Spec PyProof.Rows L2 KB KC KS Q1
def pD (p : Sp2) : PyData := .tuple [.int p.1, .int p.2]
def Ps (H : Hp) (us : List Addr) (S : List Sp2) : Prop := Paired (fun (t : Addr) (p : Sp2) => H t = some (.tup [.int p.1, .int p.2])) us S
theorem paired_mono {α β : Type} {R R' : α → β → Prop} (f : ∀ a b, R a b → R' a b) : ∀ {l : List α} {m : List β}, Paired R l m → Paired R' l m
  | _, _, .nil => .nil
  | _, _, .cons h t => .cons (f _ _ h) (paired_mono f t)
theorem paired_app {α β : Type} {R : α → β → Prop} : ∀ {l l' : List α} {m m' : List β}, Paired R l m → Paired R l' m' → Paired R (l ++ l') (m ++ m')
  | _, _, _, _, .nil, h => h
  | _, _, _, _, .cons h t, h' => .cons h (paired_app t h')
theorem Ps.ex {H H' : Hp} {us : List Addr} {S : List Sp2} (p : Ps H us S) (e : ∀ b xs, H b = some (.tup xs) → H' b = some (.tup xs)) : Ps H' us S := paired_mono (fun a b h => e a _ h) p
theorem Ps.dp {K : PySem.W.Frag} {H : Hp} : ∀ {us : List Addr} {S : List Sp2}, Ps H us S → DpAll K H (us.map V.ref) (S.map pD)
  | _, _, .nil => .nil
  | _, _, .cons h t => .cons (.tup (SqT.of h) (.cons (.int _) (.cons (.int _) .nil))) (Ps.dp t)
theorem Ps.at {H : Hp} : ∀ {us : List Addr} {S : List Sp2}, Ps H us S → ∀ {i : Nat} {t : Addr}, us[i]? = some t → ∃ p, S[i]? = some p ∧ H t = some (.tup [.int p.1, .int p.2])
  | _, _, .nil, i, t, h => by simp at h
  | _, _, .cons (a := a) (b := b) h r, i, t, e => by
    cases i with
    | zero => cases e; exact ⟨b, rfl, h⟩
    | succ i => exact Ps.at r (i := i) e
theorem Ps.at2 {H : Hp} : ∀ {us : List Addr} {S : List Sp2}, Ps H us S → ∀ {i : Nat} {p : Sp2}, S[i]? = some p → ∃ t, us[i]? = some t ∧ H t = some (.tup [.int p.1, .int p.2])
  | _, _, .nil, i, t, h => by simp at h
  | _, _, .cons (a := a) (b := b) h r, i, t, e => by
    cases i with
    | zero => cases e; exact ⟨a, rfl, h⟩
    | succ i => exact Ps.at2 r (i := i) e
def kH (H : Hp) : V → Int × Int
  | .ref t => match H t with
    | some (.tup [.int i, .int j]) => (i, j)
    | _ => (0, 0)
  | _ => (0, 0)
theorem kH_at {H : Hp} {t : Addr} {p : Sp2} (h : H t = some (.tup [.int p.1, .int p.2])) : kH H (.ref t) = p := by
  unfold kH
  simp only [h]
theorem Ps.kH {H : Hp} : ∀ {us : List Addr} {S : List Sp2}, Ps H us S → (us.map V.ref).map (kH H) = S
  | _, _, .nil => rfl
  | _, _, .cons h t => by rw [List.map_cons, List.map_cons, kH_at h, Ps.kH t]
theorem eqv_pD (a b : Sp2) : PyData.eqv (pD a) (pD b) = decide (a = b) := by
  obtain ⟨a1, a2⟩ := a
  obtain ⟨b1, b2⟩ := b
  unfold pD
  simp only [PyData.eqv, PyData.eqvAll, Bool.and_true, Prod.mk.injEq]
  rw [Bool.eq_iff_iff]
  simp
theorem any_pD (S : List Sp2) (p : Sp2) : ((S.map pD).any fun z => PyData.eqv z (pD p)) = decide (p ∈ S) := by
  rw [Bool.eq_iff_iff, List.any_eq_true, decide_eq_true_eq]
  constructor
  · rintro ⟨z, hz, h⟩
    obtain ⟨q, hq, rfl⟩ := List.mem_map.mp hz
    rw [eqv_pD, decide_eq_true_eq] at h
    exact h ▸ hq
  · intro h
    exact ⟨pD p, List.mem_map.mpr ⟨p, h, rfl⟩, by rw [eqv_pD]; exact decide_eq_true rfl⟩
theorem shaped_pD (p : Sp2) : SeqAt.shaped (pD p) = true := by
  unfold SeqAt.shaped pD
  simp [PyData.canLay0, PyData.canLayAll0, PyData.depth, PyData.depthAll]
theorem lay_pD : ∀ S : List Sp2, PyData.canLayAll0 (S.map pD) = true
  | [] => by simp [PyData.canLayAll0]
  | p :: S => by
    rw [List.map_cons]
    unfold PyData.canLayAll0
    rw [lay_pD S]
    simp [pD, PyData.canLay0, PyData.canLayAll0]
def rInP (neg : Bool) : R2 := fun x y H Q => ∃ (t a : Addr) (p : Sp2) (us : List Addr) (S : List Sp2), x = .ref t ∧ y = .ref a ∧ H t = some (.tup [.int p.1, .int p.2]) ∧ H a = some (.tup (us.map V.ref)) ∧ Ps H us S ∧ Q (.bl (if neg then !decide (p ∈ S) else decide (p ∈ S))) H
section
variable {X : Cx}
theorem op_inP (hu : X.A.units + 65 < cLine) : OpR X (compareOp .In) (rInP false) := by
  intro pins s σ H x y v u Q I rx ry h
  obtain ⟨t, a, p, us, S, rfl, rfl, ht, ha, hp, q⟩ := h
  obtain ⟨as, r1⟩ := Dp.reads I (pD p) (.ref t) v (.tup (SqT.of ht) (.cons (.int _) (.cons (.int _) .nil))) rx
  obtain ⟨bs, r2⟩ := Dp.reads I (.tuple (S.map pD)) (.ref a) u (.tup (SqT.of ha) hp.dp) ry
  refine SeqAt.in_tuple_reads r2 r1 (lay_pD S) (SeqAt.canLay_of_shaped (shaped_pD p)) (room_in_shaped (shaped_pD p) hu) ⟨.bl _, H, I, rfl, ?_⟩
  rw [any_pD]
  exact q
theorem op_notInP (hu : X.A.units + 65 < cLine) : OpR X (compareOp .NotIn) (rInP true) := by
  intro pins s σ H x y v u Q I rx ry h
  obtain ⟨t, a, p, us, S, rfl, rfl, ht, ha, hp, q⟩ := h
  obtain ⟨as, r1⟩ := Dp.reads I (pD p) (.ref t) v (.tup (SqT.of ht) (.cons (.int _) (.cons (.int _) .nil))) rx
  obtain ⟨bs, r2⟩ := Dp.reads I (.tuple (S.map pD)) (.ref a) u (.tup (SqT.of ha) hp.dp) ry
  refine SeqAt.notIn_tuple_reads r2 r1 (lay_pD S) (SeqAt.canLay_of_shaped (shaped_pD p)) (room_in_shaped (shaped_pD p) hu) ⟨.bl _, H, I, rfl, ?_⟩
  rw [any_pD]
  exact q
end
theorem refs_ex : ∀ {l : List V}, (∀ v ∈ l, ∃ t, v = V.ref t) → ∃ us : List Addr, l = us.map V.ref
  | [], _ => ⟨[], rfl⟩
  | v :: l, h => by
    obtain ⟨t, rfl⟩ := h v List.mem_cons_self
    obtain ⟨us, rfl⟩ := refs_ex fun v hv => h v (List.mem_cons_of_mem _ hv)
    exact ⟨t :: us, rfl⟩
theorem ps_of {H : Hp} : ∀ {us : List Addr}, (∀ t ∈ us, ∃ p : Sp2, H t = some (.tup [.int p.1, .int p.2])) → Ps H us ((us.map V.ref).map (kH H))
  | [], _ => .nil
  | t :: us, h => by
    obtain ⟨p, hp⟩ := h t List.mem_cons_self
    refine .cons ?_ (ps_of fun u hu => h u (List.mem_cons_of_mem _ hu))
    rw [kH_at hp]
    exact hp
theorem Ps.mem {H : Hp} : ∀ {us : List Addr} {S : List Sp2}, Ps H us S → ∀ t ∈ us, ∃ p : Sp2, H t = some (.tup [.int p.1, .int p.2])
  | _, _, .nil, t, h => by simp at h
  | _, _, .cons (b := b) h r, t, ht => by
    rcases List.mem_cons.mp ht with rfl | ht
    · exact ⟨b, h⟩
    · exact Ps.mem r t ht
theorem lexB_lt2 {a b : Sp2} (h : SrtO.lexB a b = false) : lt2 a b = false := by
  have := SrtO.lexB_no.mp h
  unfold lt2
  rw [Bool.or_eq_false_iff, Bool.and_eq_false_iff, decide_eq_false_iff_not, decide_eq_false_iff_not, decide_eq_false_iff_not]
  omega
theorem sort_out {H : Hp} {us : List Addr} {S : List Sp2} {ys : List V} (hp : Ps H us S) (so : SrtO.Srtd (ltP (kH H)) ys) (st : SrtO.Stb (ltP (kH H)) ys (us.map V.ref)) :
    ∃ (us' : List Addr) (S' : List Sp2), ys = us'.map V.ref ∧ Ps H us' S' ∧ S'.Perm S ∧ S'.Pairwise (fun a b => lt2 b a = false) := by
  have pm := st.perm
  obtain ⟨us', rfl⟩ := refs_ex (l := ys) fun v hv => by
    obtain ⟨t, _, e⟩ := List.mem_map.mp (pm.mem_iff.mp hv)
    exact ⟨t, e.symm⟩
  refine ⟨us', (us'.map V.ref).map (kH H), rfl, ps_of fun t ht => ?_, ?_, ?_⟩
  · have := pm.mem_iff.mp (List.mem_map.mpr ⟨t, ht, rfl⟩)
    obtain ⟨t', ht', e⟩ := List.mem_map.mp this
    cases e
    exact hp.mem t ht'
  · rw [← hp.kH]
    exact pm.map _
  · refine List.pairwise_map.mpr (so.imp fun {a b} h => lexB_lt2 h)
def rSortPL : List V → Hp → VK → Prop := fun vs H Q => ∃ (a : Addr) (us : List Addr) (S : List Sp2), vs = [.ref a] ∧ (H a = some (.lst (us.map V.ref)) ∨ H a = some (.tup (us.map V.ref))) ∧ Ps H us S ∧
  ∀ (q : Addr) (us' : List Addr) (S' : List Sp2), H q = none → Ps H us' S' → S'.Perm S → S'.Pairwise (fun a b => lt2 b a = false) → Q (.ref q) (upd H q (.lst (us'.map V.ref)))
section
variable {X : Cx}
theorem cr_sortPL : CallR X (.builtin "sorted") rSortPL := by
  intro pins s σ H vs us0 Q I r h
  obtain ⟨a, us, S, rfl, ha | ha, hp, q⟩ := h
  · refine cr_sortedPO pins s σ H _ us0 Q I r ⟨a, us.map V.ref, kH H, rfl, SqL.of ha, fun x hx => ?_, fun ys p so st hn => ?_⟩
    · obtain ⟨t, ht, rfl⟩ := List.mem_map.mp hx
      obtain ⟨p, h⟩ := hp.mem t ht
      exact ⟨t, rfl, by rw [kH_at h]; exact h⟩
    · obtain ⟨us', S', rfl, h1, h2, h3⟩ := sort_out hp so st
      exact q p us' S' hn h1 h2 h3
  · obtain ⟨its, rv, hl, hz⟩ := I.tuple (SqT.of ha)
    obtain ⟨u, rfl, ru⟩ := vals1 r
    obtain rfl : u = Value.ref a := ru
    obtain ⟨e1, e2⟩ := refs_back rv fun x m => by
      obtain ⟨t, _, e⟩ := List.mem_map.mp m
      exact ⟨t, e.symm⟩
    refine SrtU.sorted_pairsT (k := fun u => kH H (backV u)) hl (by rw [← rv.length]; exact hz) (fun v hv => ?_) fun h' d out h1 h2 kp hd hn => ?_
    · obtain ⟨t, rfl⟩ := e2 v hv
      have hm : V.ref t ∈ us.map V.ref := by rw [e1]; exact List.mem_map.mpr ⟨_, hv, rfl⟩
      obtain ⟨t', ht', e⟩ := List.mem_map.mp hm
      cases e
      obtain ⟨p, hpt⟩ := hp.mem t ht'
      obtain ⟨_, its2, r2, o, ho, hc, n, hd⟩ := I.hok _ _ hpt
      obtain ⟨u1, u2, rfl, ri, rj⟩ := vals2 r2
      obtain ⟨t1, rfl⟩ := ri
      obtain ⟨t2, rfl⟩ := rj
      have e : kH H (backV (.ref t)) = p := kH_at hpt
      rw [e]
      exact ⟨t, o, t1, t2, n, rfl, ho, hc, hd⟩
    · have h3 : ∀ u ∈ out, ∃ a, u = Value.ref a := fun u hu => e2 u (h2.perm.mem_iff.mp hu)
      obtain ⟨n, hn⟩ := hn
      have hb : SrtO.Stb (ltP (kH H)) (out.map backV) (us.map V.ref) := by
        rw [e1]
        exact SrtO.Stb.map (ltP_swo (kH H)) backV h2
      obtain ⟨us', S', e, k1, k2, k3⟩ := sort_out hp (SrtO.srtd_map h1) hb
      have hq := q d us' S' (I.hok.fresh hd) k1 k2 k3
      rw [← e] at hq
      refine ⟨.ref d, upd H d (.lst (out.map backV)), I.laid (t' := s.toks) kp hd ⟨?_, out, n, vals_back h3, hn⟩, rfl, hq⟩
      rw [hb.len]
      exact hz
end
def minDef : List Int → Int → Int
  | [], d => d
  | n :: ns, _ => W.minOf n ns
theorem minOf_spec : ∀ (ns : List Int) (n : Int), W.minOf n ns ∈ n :: ns ∧ ∀ y ∈ n :: ns, W.minOf n ns ≤ y
  | [], n => ⟨List.mem_cons_self, fun y hy => by rw [List.mem_singleton.mp hy]; exact Int.le_refl _⟩
  | m :: ns, n => by
    have e : W.minOf n (m :: ns) = W.minOf (if m < n then m else n) ns := by
      unfold W.minOf
      rw [List.foldl_cons]
      have : (W.DatumOrd.lt m n = true) = (m < n) := by
        show (decide (m < n) = true) = _
        simp
      simp only [this]
    obtain ⟨h1, h2⟩ := minOf_spec ns (if m < n then m else n)
    rw [e]
    refine ⟨?_, fun y hy => ?_⟩
    · rcases List.mem_cons.mp h1 with h | h
      · rw [h]
        split
        · simp
        · simp
      · simp [h]
    · have h0 := h2 _ List.mem_cons_self
      rcases List.mem_cons.mp hy with e | hy
      · generalize W.minOf (if m < n then m else n) ns = z at h0
        split at h0 <;> omega
      rcases List.mem_cons.mp hy with e | hy
      · generalize W.minOf (if m < n then m else n) ns = z at h0
        split at h0 <;> omega
      · exact h2 y (List.mem_cons_of_mem _ hy)
theorem minDef_eq {ns : List Int} {d m : Int} (h : m ∈ ns) (hm : ∀ y ∈ ns, m ≤ y) : minDef ns d = m := by
  cases ns with
  | nil => simp at h
  | cons n ns =>
    obtain ⟨h1, h2⟩ := minOf_spec ns n
    show W.minOf n ns = m
    exact Int.le_antisymm (h2 m h) (hm _ h1)
def rMinDef (K : PySem.W.Frag) : List V → List V → Hp → VK → Prop := fun vs zs H Q => ∃ (a : Addr) (ns : List Int) (d : Int), vs = [.ref a] ∧ zs = [.int d] ∧ SqL K H a (ns.map V.int) ∧ Q (.int (minDef ns d)) H
theorem dp_ints {K : PySem.W.Frag} {H : Hp} : ∀ ns : List Int, DpAll K H (ns.map V.int) (ns.map PyData.int)
  | [] => .nil
  | n :: ns => .cons (.int _) (dp_ints ns)
theorem cr_minDef {X : Cx} (hc : X.calm = true) (hu : X.A.units + 66 < cLine) : CallRK X (.builtin "min") [Str.ofString "default"] (rMinDef X.K) := by
  intro pins s σ H xs zs us ws Q I r rz h
  obtain ⟨a, ns, d, rfl, rfl, ha, q⟩ := h
  obtain rfl := Vals.ref1 r
  obtain ⟨u, rfl, t, rfl⟩ := vals1 rz
  obtain ⟨its, rv, hl, hz⟩ := I.list ha
  obtain ⟨as, ra⟩ := Dp.readsAll I (ns.map PyData.int) _ its (dp_ints ns) rv
  show wpAny _ _ (call (.builtin "min") [.ref a] [(Str.ofString "default", .int d t)]) _ _ s
  refine W.min_list_datum_default (α := Int) (xs := ns) (I.ok.hd hc) hl.isList ⟨as, ra⟩ (by show X.A.units + 1 + 0 < cLine; omega) (fun e h' tk hk => ?_) fun y ys i v h' tk e hv hh hk => ?_
  · subst e
    exact ⟨.int d, H, I.kept (t' := tk) hk, ⟨t, rfl⟩, q⟩
  · subst e
    obtain ⟨bs, rb⟩ := hh
    have : ∃ t, v = Value.int (W.minOf y ys) t := by
      cases rb
      exact ⟨_, rfl⟩
    obtain ⟨t2, rfl⟩ := this
    exact ⟨.int _, H, I.kept (t' := tk) hk, ⟨t2, rfl⟩, q⟩
end R8
set_option Elab.async false
set_option linter.all false
set_option maxRecDepth 100000
set_option maxHeartbeats 4000000
namespace CP
open PySem PySem.Spec PyProof.Rows L2 KB KC KD LamX
def CloO (f : Addr) (q : Str) (params : Arguments) (body : Expr) (scope : Scope) (clo : List (Str × Addr)) (c' : Addr) : HO := .ext fun h => ∃ pm ctv, h.get? f = some (PySem.W.kla_obj "<lambda>" q params body scope clo pm c' ctv)
theorem cloO_ok {P : Program} {w : World} {H : Hp} {h : Heap} {f c' : Addr} {q : Str} {params : Arguments} {body : Expr} {scope : Scope} {clo : List (Str × Addr)} {pm ctv : Value} (e : h.get? f = some (PySem.W.kla_obj "<lambda>" q params body scope clo pm c' ctv)) :
    ObjOk P w H h f (CloO f q params body scope clo c') := ⟨⟨pm, ctv, e⟩, ⟨_, e⟩, fun h1 h2 ⟨a, b, z⟩ k => ⟨a, b, k _ z⟩⟩
def tClo (T : List (Addr × Str)) (q : Str) (params : Arguments) (body : Expr) (scope : Scope) (clo : List (Str × Addr)) : TE := fun _ H Q => Tabs T H ∧ ∀ f c' H1, ExtN H H1 → Tabs T H1 → H1 f = some (CloO f q params body scope clo c') → H1 c' = some (CodeO c' q) → H f = none → Q (.ref f) H1
section
variable {X : Cx}
theorem pe_cloV {T : List (Addr × Str)} {c P : Addr} {params : Arguments} {body : Expr} {scope : Scope} {pos : Pos} (TB : TabB X.base X.mg c P) (hcode : X.env.code = .ref c) (hm : (P, X.env.qual ++ "<lambda>") ∈ T) (hu : ∀ p ∈ T, p.1 = P → p.2 = X.env.qual ++ "<lambda>")
    (hdef : defaultsOf params X.env = ([], [])) (hfree : ∀ y ∈ scope.names, y.2 = .free → X.env.scope.names.lookup y.1 = some .cell ∨ X.env.scope.names.lookup y.1 = some .free) : PE X (.Lambda params body scope pos) (tClo T (X.env.qual ++ "<lambda>") params body scope (cloFrom X.env.cells scope.names [])) := by
  refine ⟨fun pins s σ H Q I h => ?_⟩
  obtain ⟨hT, h⟩ := h
  obtain ⟨ps, hP, ht, ha⟩ := hT _ hm
  refine PySem.W.kla_eval hdef ?_
  have bP : s.heap.BuiltinsAt X.mg P := TB.bm.keeps I.bk
  have hP' : s.heap.get? P = some { cls := .none, data := .fields ps } := I.hok P _ hP
  have hcl : closureFor scope X.env = pure (cloFrom X.env.cells scope.names []) := closure_ok fun y hy e => (hfree y hy e).elim (fun z => I.ok.has _ (.inl z)) fun z => I.ok.has _ (.inr z)
  have end_ : ∀ (c' : Addr) (ctv : Value) (H1 : Hp) (h' : Heap) (tk : Nat), Inv X pins σ H1 { s with heap := h', toks := tk } → s.heap.objs.size ≤ h'.objs.size → ExtN H H1 → Tabs T H1 → H1 h'.objs.size = none → H1 c' = some (CodeO c' (X.env.qual ++ "<lambda>")) →
      EP X pins σ Q (.ref h'.objs.size) { s with heap := h'.push (PySem.W.kla_obj "<lambda>" (X.env.qual ++ "<lambda>") params body scope (cloFrom X.env.cells scope.names []) ((X.mg "__name__").getD .none) c' ctv), toks := tk } := by
    intro c' ctv H1 h' tk I1 hz e1 t1 n1 co
    have J : Inv X pins σ (upd H1 h'.objs.size (CloO h'.objs.size (X.env.qual ++ "<lambda>") params body scope (cloFrom X.env.cells scope.names []) c')) { s with heap := h'.push (PySem.W.kla_obj "<lambda>" (X.env.qual ++ "<lambda>") params body scope (cloFrom X.env.cells scope.names []) ((X.mg "__name__").getD .none) c' ctv), toks := tk } :=
      I1.laid (t' := tk) (fun b u e => Heap.get?_push_of_some _ e) (Nat.le_refl _) (cloO_ok (Heap.get?_push_size _ rfl))
    exact ⟨.ref h'.objs.size, _, J, rfl, h h'.objs.size c' _ (e1.trans (extN_upd n1)) (tabs_upd t1 n1) upd_same (by rw [upd_ne (ne_of_none co n1)]; exact co) (I.hok.fresh hz)⟩
  cases hc : codeAmong pos ps.toList with
  | none =>
    refine PySem.W.kla_makeFunction (mg := X.mg) (c := c) (P := P) (ps := ps) hcl I.ok.glob (I.mod.glob.keeps I.bk) hcode (TB.code.keeps I.bk) hP' ht hc TB.gP bP fun c' ctv h' tk hx hge hlt hrec htb => ?_
    obtain ⟨c2, oc, vs, t, e2, hoc, hd, hv⟩ := hrec
    cases e2
    have nC : H c' = none := I.hok.fresh hge
    have nPc : P ≠ c' := ne_of_none hP nC
    have I1 := inv_table (t' := tk) (more := #[rawInt pos.line, rawInt pos.col, .ref c']) (h' := h') I hP hx htb hge ⟨oc, vs, t, hoc, hd, hv⟩
    have hE : ExtN H (upd (upd H P (.tbl (ps ++ #[rawInt pos.line, rawInt pos.col, .ref c']))) c' (CodeO c' (X.env.qual ++ "<lambda>"))) := fun b o e n => by
      rw [upd_ne (ne_of_none e nC), upd_ne (fun z => n ps (Option.some.inj (e.symm.trans (by rw [z]; exact hP))))]
      exact e
    have eL : (ps ++ #[rawInt pos.line, rawInt pos.col, .ref c']).toList = ps.toList ++ [rawInt pos.line, rawInt pos.col, .ref c'] := by simp
    refine end_ c' ctv _ h' tk I1 (Nat.le_trans hge (Nat.le_of_lt hlt)) hE (fun p hp => ?_) ?_ upd_same
    · by_cases hb : p.1 = P
      · rw [hu p hp hb, hb]
        refine ⟨_, by rw [upd_ne nPc, upd_same], by rw [eL]; exact PySem.TriplesOk_snoc _ _ _ _ ht, fun p' cv hcv => ?_⟩
        rw [eL] at hcv
        rcases among_app _ ht hcv with z | z
        · obtain ⟨c0, e1, e2⟩ := ha p' cv z
          exact ⟨c0, e1, hE _ _ e2 codeO_ne⟩
        · exact ⟨c', z, upd_same⟩
      · obtain ⟨ps', a1, a2, a3⟩ := hT p hp
        refine ⟨ps', by rw [upd_ne (ne_of_none a1 nC), upd_ne hb]; exact a1, a2, fun p' cv hcv => ?_⟩
        obtain ⟨c0, e1, e2⟩ := a3 p' cv hcv
        exact ⟨c0, e1, hE _ _ e2 codeO_ne⟩
    · have n1 : h'.objs.size ≠ c' := Nat.ne_of_gt hlt
      have n2 : h'.objs.size ≠ P := Nat.ne_of_gt (Nat.lt_of_lt_of_le (Heap.lt_size hP') (Nat.le_trans hge (Nat.le_of_lt hlt)))
      rw [upd_ne n1, upd_ne n2]
      exact I.hok.fresh (Nat.le_trans hge (Nat.le_of_lt hlt))
  | some cv =>
    obtain ⟨c', e, hco⟩ := ha pos cv hc
    subst e
    refine PySem.W.kla_makeFunctionHit (mg := X.mg) (c := c) (P := P) (ps := ps) hcl I.ok.glob (I.mod.glob.keeps I.bk) hcode (TB.code.keeps I.bk) hP' ht hc bP fun ctv h' tk hx hsz => ?_
    exact end_ c' ctv H h' tk (I.kept (t' := tk) hx) hsz (ExtN.refl H) hT (I.hok.fresh hsz) hco
end
structure LamP (sc scope : Scope) (pn y : Str) : Prop where
  kind : scope.kind = .function
  co : scope.isCoroutine = false
  gen : scope.isGenerator = false
  own : ∀ z ∈ scope.names, z.2 ≠ .cell
  par : scope.names.lookup pn = some .local
  fy : scope.names.lookup y = some .free
  ne : pn ≠ y
  free : ∀ z ∈ scope.names, z.2 = .free → sc.names.lookup z.1 = some .cell ∨ sc.names.lookup z.1 = some .free
def cxP (X : Cx) (A : Around) (s : Shared) (H : Hp) (E : XK) (scope : Scope) (f c' : Addr) (pn y : Str) : Cx := { lamCx X A X.stack s H E scope f c' with N := [pn, y] }
section
variable {X : Cx} {pins : List (Addr × Obj)} {σ : L2.St} {H : Hp} {s : Shared}
theorem clo_start {A : Around} {E : XK} {scope : Scope} {f c' : Addr} {h₁ : Heap} {tk j : Nat} {pn y : Str} {u : Value} {v vy : V} (I : Inv X pins σ H s) (L : LamP X.env.scope scope pn y) (e0 : Env0 X.prog X.w X.K X.mg X.base A X.stack s H) (hd : A.handled = none)
    (hns : h₁.Ns s.heap.objs.size fun z => ([(pn, u)] : List (Str × Value)).reverse.lookup z) (kp : ∀ b o, s.heap.get? b = some o → h₁.get? b = some o) (rv : RelV v u) (hy : X.N[j]? = some y) (hσ : σ[j]? = some (some vy)) :
    Inv (cxP X A s H E scope f c' pn y) [] [some v, some vy] H { s with heap := h₁, toks := tk } := by
  have down : ∀ {z c}, (cloFrom X.env.cells scope.names []).lookup z = some c → X.env.cells.lookup z = some c := fun {z c} e => by
    rcases cloFrom_mem (PySem.mem_of_lookup e) with hm | ⟨h1, h2⟩
    · cases hm
    · have hz : ∃ c1, X.env.cells.lookup z = some c1 := (L.free _ h1 rfl).elim (fun k => I.ok.has _ (.inl k)) fun k => I.ok.has _ (.inr k)
      obtain ⟨c1, hc⟩ := hz
      have e2 : c = c1 := by
        rw [h2, hc] <;> rfl
      rw [e2]
      exact hc
  have upw : ∀ {z}, scope.names.lookup z = some .free → ∃ c, (cloFrom X.env.cells scope.names []).lookup z = some c := fun {z} hl => by
    have hz : (z, NameKind.free) ∈ scope.names := PySem.mem_of_lookup hl
    exact mem_lookup (cloFrom_has (cells := X.env.cells) (acc := []) hz)
  have cellK : ∀ {c : Addr} {w' : Option Value}, s.heap.IsCell c w' → h₁.IsCell c w' := fun {c w'} ⟨o, ho, hd⟩ => ⟨o, kp _ _ ho, hd⟩
  have noA : ∀ b : Addr, b ∉ (cxP X A s H E scope f c' pn y).ex := fun b z => absurd (show b ∈ ([] : List Addr) from z) (by simp)
  have ok : (cxP X A s H E scope f c' pn y).Ok := ⟨e0.mod, L.kind, rfl, rfl, Nat.le_refl _, fun a b c e1 e2 => I.ok.inj a b c (down e1) (down e2), fun a ha => by
      have ha : scope.names.lookup a = some .cell ∨ scope.names.lookup a = some .free := ha
      rcases ha with ha | ha
      · exact absurd rfl (L.own _ (PySem.mem_of_lookup ha))
      · exact upw ha, fun a c z _ => (by
      have z : false = true := z
      cases z), fun _ => hd, Around.frames_deeper e0.frames, .inr ⟨rfl, rfl⟩, fun b z => absurd z (noA b), e0.bs, e0.bsz, fun b _ _ => noA b, fun b z => absurd z (noA b), e0.funs, e0.frf⟩
  refine ⟨ok, rfl, e0.bare, Un.kept kp, ⟨_, hns, fun i z v' e1 e2 e3 => ?_⟩, fun z c e => ?_, e0.hok.fresh (Nat.le_refl _), fun z c e => ?_, fun q hq => absurd (show q ∈ ([] : List (Addr × Obj)) ++ [] from hq) (by simp), e0.hok.kept kp, rfl⟩
  · match i, e1, e2 with
    | 0, e1, e2 =>
      cases e1
      cases e2
      exact ⟨u, rv, .inl ⟨L.par, by simp [List.lookup]⟩⟩
    | 1, e1, e2 =>
      cases e1
      cases e2
      obtain ⟨m, hn, hl⟩ := I.loc
      have hk := L.free _ (PySem.mem_of_lookup L.fy) rfl
      obtain ⟨w', r, q⟩ := hl j y vy hy hσ (hk.elim (fun k => .inr (.inl k)) fun k => .inr (.inr k))
      obtain ⟨c2, h2⟩ := upw L.fy
      refine ⟨w', r, .inr ⟨.inr L.fy, c2, h2, ?_⟩⟩
      have c1 := down h2
      rcases q with ⟨k', _⟩ | ⟨_, c3, e', z⟩
      · have k' : X.env.scope.names.lookup y = some .local := k'
        rcases hk with k2 | k2 <;> rw [show X.env.scope.names.lookup y = _ from k2] at k' <;> cases k'
      · rw [c1] at e'
        cases e'
        exact cellK z
    | i + 2, e1, e2 => cases e1
  · obtain ⟨w', z⟩ := I.cell z c (down e)
    exact ⟨w', cellK z⟩
  · exact I.freeC z c (down e)
theorem clo_run {A : Around} {E : XK} {k j : Nat} {f c' : Addr} {params : Arguments} {body : Expr} {scope : Scope} {pn y : Str} {u : Value} {v vy : V} {Q : VK} (I : Inv X pins σ H s) (L : LamP X.env.scope scope pn y) (hr : Room (k + 1) A) (e0 : Env0 X.prog X.w X.K X.mg X.base A X.stack s H)
    (hf : H f = some (CloO f (X.env.qual ++ "<lambda>") params body scope (cloFrom X.env.cells scope.names []) c')) (hc : H c' = some (CodeO c' (X.env.qual ++ "<lambda>")))
    (hb : ∀ pm ctv, BindsTo s (PySem.W.kla_fn "<lambda>" (X.env.qual ++ "<lambda>") params body scope (cloFrom X.env.cells scope.names []) pm (.ref c') ctv) ⟨[u], []⟩ [(pn, u)]) (rv : RelV v u) (hy : X.N[j]? = some y) (hσ : σ[j]? = some (some vy))
    (hbody : Room k (A.deeper (lamEnv X scope s.heap.objs.size f c')) → ∃ t, PE (cxP X A s H E scope f c' pn y) body t ∧ t [some v, some vy] H Q) :
    codeAny (model X.prog X.w) A (.call (.ref f) ⟨[u], []⟩) (CR (L2.CX X.prog X.w) X.stack X.prog X.w H s Q E) s := by
  obtain ⟨⟨pm, ctv, of1⟩, _, _⟩ := e0.hok f _ hf
  obtain ⟨⟨oc, vsc, t, hoc, hdc, hvc⟩, _, _⟩ := e0.hok c' _ hc
  refine PySem.W.kla_callFunE hr.depth of1 rfl L.co L.gen rfl ⟨c', oc, vsc, t, rfl, hoc, hdc, hvc⟩ ?_
  refine hb pm ctv _ _ _ _ ?_
  refine wpAny_newFunctionEnv (fun z hz => L.own z hz) (fun z hz => ?_) (fun h₁ hns hsb => ⟨I.nolimit.fresh _ hsb, ?_⟩) L.kind
  · rw [List.mem_singleton.mp hz]
    exact L.par
  · show codeAny _ _ (.expr body (lamEnv X scope s.heap.objs.size f c')) _ _
    have kp : ∀ b o, s.heap.get? b = some o → h₁.get? b = some o := fun b o e => hsb.extBut b o (Nat.ne_of_lt (Heap.lt_size e)) (Heap.get?_push_of_some _ e)
    have J : Inv (cxP X A s H E scope f c' pn y) [] [some v, some vy] H { s with heap := h₁, toks := s.toks + ([(pn, u)] : List (Str × Value)).length } := clo_start I L e0 hr.hd hns kp rv hy hσ
    obtain ⟨t, ht, hq⟩ := hbody (hr.deeper _)
    refine PySem.W.kla_codeExpr (wpAny_mono (ht.run [] _ _ H Q J hq) (fun v s' hq => ?_) fun e s' hq => hq)
    obtain ⟨w', H', J', rv, q⟩ := hq
    exact ⟨w', H', J'.os, J'.bare, J'.base, J'.hok, rv, q⟩
end
end CP
set_option Elab.async false
set_option linter.all false
set_option maxRecDepth 100000
set_option maxHeartbeats 4000000
namespace CP
open PySem PySem.Spec PyProof.Rows PySem.Calls L2 KB KC KD KS LamX PySem.SeqAt PySem.W
def KeyI (X : Cx) (σ : L2.St) (f : Addr) (H : Hp) (bs : List Str) (kf : Str → Int) : Prop :=
  ∀ x ∈ bs, ∀ (H1 : Hp), Ex H H1 → ∀ (pins : List (Addr × Obj)) (s1 : Shared) (v : Value) (R : Value → Shared → Prop), RelV (.str x) v → Inv X pins σ H1 s1 →
    (∀ t H2 s2, Inv X pins σ H2 s2 → Ex H1 H2 → Un (frs X.stack) [] H1 H2 s1.heap s2.heap → R (.int (kf x) t) s2) → wpAny (model X.prog X.w) X.A.in1.in1 (call (.ref f) [v]) R (fun _ _ => False) s1
theorem KeyI.ex {X : Cx} {σ : L2.St} {f : Addr} {H H1 : Hp} {bs : List Str} {kf : Str → Int} (k : KeyI X σ f H bs kf) (e : Ex H H1) : KeyI X σ f H1 bs kf := fun x hx H2 e2 => k x hx H2 (e.trans e2)
section
variable {X : Cx} {pins : List (Addr × Obj)} {σ : L2.St}
theorem each_vals {α : Type} {g : α → V} : ∀ {vs : List Value} {bs : List α}, Vals (bs.map g) vs → EachIs (fun v b => RelV (g b) v) vs bs
  | [], [], _ => .nil
  | v :: vs, b :: bs, .cons h r => .cons h (each_vals r)
  | [], _ :: _, r => by cases r
  | _ :: _, [], r => by cases r
theorem vals_each {α : Type} {g : α → V} : ∀ {vs : List Value} {bs : List α}, EachIs (fun v b => RelV (g b) v) vs bs → Vals (bs.map g) vs
  | _, _, .nil => .nil
  | _, _, .cons h r => .cons h (vals_each r)
theorem ints_each {h : Heap} {kf : Str → Int} : ∀ {vs : List Value} {bs : List Str}, EachIs (fun v b => RelV (V.int (kf b)) v) vs bs → EachIs (fun v b => ∃ as, Reads h v (PyData.int (kf b)) as) vs bs
  | _, _, .nil => .nil
  | _, _, .cons a r => by
    obtain ⟨t, rfl⟩ := a
    exact .cons ⟨[], .int _ t⟩ (ints_each r)
theorem sort_bodyI {f D : Addr} {H : Hp} {s : Shared} {h2 : Heap} {tk : Nat} {bs : List Str} {vs : List Value} {kf : Str → Int} {P : PySem.Fin → Shared → Prop} {E : Value → Shared → Prop}
    (I : Inv X pins σ H s) (hk : ∀ b o, s.heap.get? b = some o → h2.get? b = some o) (hD : h2.get? D = some (seqObj "list" vs.toArray 0)) (hsD : s.heap.objs.size ≤ D)
    (rv : Vals (bs.map V.str) vs) (hz : bs.length ≤ sizeLine) (hu : X.A.units + 66 < cLine) (hcall : KeyI X σ f H bs kf)
    (q : ∀ (H' : Hp) (s' : Shared), Inv X pins σ H' s' → Ex H H' → H D = none → H' D = some (.lst ((bs.mergeSort fun a b => decide (kf a ≤ kf b)).map V.str)) → P (.done (.ret .none)) s') :
    wpAny (model X.prog X.w) X.A.in1.in1 (ksk_tree D (.ref f) false) P E { s with heap := h2, toks := tk } := by
  have lv : vs.length = bs.length := by
    have := rv.length
    rw [List.length_map] at this
    exact this.symm
  have szl : vs.toArray.size = bs.length := by rw [List.size_toArray, lv]
  have nD : H D = none := I.hok.fresh hsD
  unfold ksk_tree
  refine wpAny_bind (listItems_at hD rfl ?_)
  refine wpAny_bind (listUpdate_at hD rfl ?_ (by rw [szl]; exact hz) (Nat.zero_le _))
  obtain ⟨e1, ho1⟩ : ∃ e1, (h2.update D (Obj.mapSeq fun _ => (#[] : Array Value))).get? D = some (seqObj "list" #[] e1) := ⟨_, get?_update_seq hD fun _ => #[]⟩
  refine wpAny_bind (seqEpoch_at ho1 rfl ?_)
  refine wpAny_bind (wpAny_newTuple ?_ (by show vs.length ≤ _; omega))
  refine wpAny_bind (wpAny_newList ?_ (Nat.zero_le _))
  refine wpAny_holding ?_
  generalize hh4 : (h2.update D (Obj.mapSeq fun _ => (#[] : Array Value))).push (seqObj "tuple" vs.toArray 0) = h4
  have z4 : h4.objs.size = h2.objs.size + 1 := by rw [← hh4, size_push', Heap.size_update]
  have keep4 : ∀ b o, b ≠ D → h2.get? b = some o → h4.get? b = some o := fun b o hb e => by
    rw [← hh4]
    exact Heap.get?_push_of_some _ ((Heap.get?_update_ne _ _ _ _ hb).trans e)
  have hD4 : h4.get? D = some (seqObj "list" #[] e1) := by rw [← hh4]; exact Heap.get?_push_of_some _ ho1
  have I1 : Inv X pins σ (upd H h4.objs.size (.lst [])) { s with heap := h4.push (seqObj "list" #[] 0), toks := tk } :=
    I.laid (t' := tk) (fun b o e => Heap.get?_push_of_some _ (keep4 b o (fun z => by rw [z] at e; exact absurd (Heap.lt_size e) (Nat.not_lt.mpr hsD)) (hk b o e))) (by rw [z4]; exact Nat.le_succ_of_le (Nat.le_trans hsD (Nat.le_of_lt (Heap.lt_size hD))))
      ⟨Nat.zero_le _, [], 0, .nil, Heap.get?_push_size _ rfl⟩
  have hkn : H h4.objs.size = none := I.hok.fresh (by rw [z4]; exact Nat.le_succ_of_le (Nat.le_trans hsD (Nat.le_of_lt (Heap.lt_size hD))))
  have hDk : D ≠ h4.objs.size := by rw [z4]; exact Nat.ne_of_lt (Nat.lt_succ_of_lt (Heap.lt_size hD))
  have hD2 : (upd H h4.objs.size (.lst [])) D = none := by rw [upd_ne hDk]; exact nD
  have fD : ∀ H', H' D = none → FpOk X pins H' D := fun H' n => I.fpOk hsD n
  have I3 : Inv X (pins ++ [(D, seqObj "list" #[] e1)]) σ (upd H h4.objs.size (.lst [])) { s with heap := h4.push (seqObj "list" #[] 0), toks := tk } := I1.pins_of fun p hp => by
    rcases List.mem_append.mp hp with hp | hp
    · exact I1.pin p (List.mem_append_right _ hp)
    · rw [List.mem_singleton.mp hp]
      obtain ⟨_, f1, f2, _⟩ := fD _ hD2
      exact ⟨Heap.get?_push_of_some _ hD4, hD2, f1, f2, fun v z => by cases z⟩
  unfold ksk_rest
  refine wpAny_bind (wpAny_rule ?_)
  first
    | rw [List.forIn_toArray]
    | (rw [← Array.forIn_toList]; simp only [List.toList_toArray])
  refine wpAny_bind (ksk_fold (fun i s' => ∃ (Hi : Hp), Inv X (pins ++ [(D, seqObj "list" #[] e1)]) σ Hi s' ∧ Ex H Hi ∧ Hi h4.objs.size = some (.lst ((bs.take i).map fun x => V.int (kf x)))) vs 0 _ ⟨_, I3, Ex.upd hkn, upd_same⟩ ?step ?done)
  case step =>
    rintro j v s' hv ⟨Hi, Ii, ei, hki⟩
    simp only [Nat.zero_add] at hki ⊢
    have jl : j < vs.length := (List.getElem?_eq_some_iff.mp hv).1
    obtain ⟨x, hx⟩ : ∃ x, bs[j]? = some x := ⟨_, List.getElem?_eq_getElem (by omega)⟩
    obtain ⟨v', hv', rx⟩ := rv.get (i := j) (x := .str x) (by rw [List.getElem?_map, hx]; rfl)
    obtain rfl : v' = v := Option.some.inj (hv'.symm.trans hv)
    have hxm : x ∈ bs := List.mem_of_getElem? hx
    refine wpAny_bind (wpAny_attempt (wpAny_mono (hcall x hxm Hi ei _ s' v' (fun u s'' => ∃ t H3, u = .int (kf x) t ∧ Inv X (pins ++ [(D, seqObj "list" #[] e1)]) σ H3 s'' ∧ Ex Hi H3) rx Ii fun t H3 s2 J e3 _ => ⟨t, H3, rfl, J, e3⟩) (fun u s'' he => ?_) fun _ _ hF => hF.elim))
    obtain ⟨t, H3, rfl, J, e3⟩ := he
    have hk3 := e3 _ _ hki
    obtain ⟨hzy, its, n, ri, hraw⟩ := lst_raw J hk3
    have il : its.length = j := by
      have := ri.length
      rw [List.length_map, List.length_take] at this
      omega
    try dsimp only
    refine wpAny_bind (listUpdate_at hraw rfl ?_ (by rw [List.size_toArray]; omega) (by rw [Array.size_push, List.size_toArray]; omega))
    have tk1 : (bs.take (j + 1)).map (fun x => V.int (kf x)) = (bs.take j).map (fun x => V.int (kf x)) ++ [V.int (kf x)] := by
      rw [List.take_add_one, hx, List.map_append]
      rfl
    refine wpAny_pure ⟨rfl, _, lst_write (tk := s''.toks) (zs := (bs.take (j + 1)).map fun x => V.int (kf x)) (vs := its ++ [.int (kf x) t]) J hk3 hraw (by rw [List.length_map, List.length_take]; omega) (by rw [tk1]; exact ri.append (.cons ⟨t, rfl⟩ .nil)) (·.push (.int (kf x) t)) (by simp), fun b o e => ?_, upd_same⟩
    rw [upd_ne (ne_of_none e hkn)]
    exact e3 _ _ (ei _ _ e)
  case done =>
    rintro s' ⟨Hi, Ii, ei, hki⟩
    rw [Nat.zero_add, List.take_of_length_le (by omega)] at hki
    obtain ⟨_, its, n, ri, hraw⟩ := lst_raw Ii hki
    have il : its.length = bs.length := by
      have := ri.length
      rw [List.length_map] at this
      exact this.symm
    try dsimp only
    refine wpAny_bind (listItems_at hraw rfl ?_)
    have hal : AllAlike (bs.map fun x => PyData.int (kf x)) := AllAlike.of fun _ _ => rfl
    have hsk : Sortable (bs.map fun x => PyData.int (kf x)) := Sortable.others fun _ => ⟨fun z => (nomatch z), fun _ z => (nomatch z)⟩
    have ek : EachIs (fun v d => ∃ as, Reads s'.heap v d as) its (bs.map fun x => PyData.int (kf x)) := each_map (R := fun v d => ∃ as, Reads s'.heap v d as) (fun x => PyData.int (kf x)) (ints_each (each_vals (g := fun x => V.int (kf x)) ri))
    have S : SortsAt X.prog X.w X.A.in1.in1 s' (dataKind s'.heap (bs.map fun x => PyData.int (kf x))) its := SortsAt.data (s := s') ek hal hsk fun d hd => by
      obtain ⟨x, _, rfl⟩ := List.mem_map.mp hd
      show X.A.units + 1 + 1 + (PyData.int (kf x)).depth < cLine
      have : (PyData.int (kf x)).depth = 0 := rfl
      omega
    obtain ⟨kd, hlt, hkd⟩ := S.kind
    have hK : PyProof.Rows.KeysOf (dataKind s'.heap (bs.map fun x => PyData.int (kf x))) (its.toArray.zip vs.toArray) := keysOf_zip (by rw [List.toList_toArray]; exact S.keys)
    have hss : (its.toArray.zip vs.toArray).size = vs.length := by rw [Array.size_zip, List.size_toArray, List.size_toArray]; omega
    have out_of : ∀ st' : SortSt, (arrOf st').Perm (its.toArray.zip vs.toArray) → SortedToK (dataKind s'.heap (bs.map fun x => PyData.int (kf x))) (arrOf st') (its.toArray.zip vs.toArray).size → Stable (dataKind s'.heap (bs.map fun x => PyData.int (kf x))) (arrOf st') (its.toArray.zip vs.toArray) →
        ((arrOf st').map (·.2)).toList = sortVals (dataKind s'.heap (bs.map fun x => PyData.int (kf x))) false its vs := fun st' hp hs ht => by
      have e := sort_out (rev := false) (keys := its.toArray) (items := vs.toArray) (xs := arrOf st') hK (by simpa using hp) (by simpa using hs) (by simpa using ht)
      simpa using e
    have eout : EachIs (fun v x => RelV (.str x) v) (sortVals (dataKind s'.heap (bs.map fun x => PyData.int (kf x))) false its vs) (bs.mergeSort fun a b => decide (kf a ≤ kf b)) := by
      have h := keyedOut_each (rev := false) (fun x => PyData.int (kf x)) ⟨s'.heap, its, hal, rfl, ek⟩ (each_vals (g := V.str) rv)
      rw [dataLe_int] at h
      exact h
    have vout : Vals ((bs.mergeSort fun a b => decide (kf a ≤ kf b)).map V.str) (sortVals (dataKind s'.heap (bs.map fun x => PyData.int (kf x))) false its vs) := vals_each (g := V.str) eout
    have lout : (bs.mergeSort fun a b => decide (kf a ≤ kf b)).length = bs.length := List.length_mergeSort ..
    have tail : ∀ st' : SortSt, ((arrOf st').map (·.2)).toList = sortVals (dataKind s'.heap (bs.map fun x => PyData.int (kf x))) false its vs → failedOf st' = none →
        wpAny (model X.prog X.w) X.A.in1.in1 (ksk_tail D false e1 (.ref h4.objs.size) st') P E s' := by
      intro st' ho hf
      have osz : ((arrOf st').map (·.2)).size = bs.length := by
        rw [← Array.length_toList, ho, ← vout.length, List.length_map, lout]
      have J1 := lst_write (tk := s'.toks) (zs := []) (vs := []) Ii hki hraw (Nat.zero_le _) .nil (fun _ => (#[] : Array Value)) rfl
      obtain ⟨pD, nD5, _⟩ := J1.pin (D, seqObj "list" #[] e1) (List.mem_append_right _ (List.mem_append_right _ (List.mem_singleton.mpr rfl)))
      unfold ksk_tail
      try dsimp only
      refine wpAny_bind (listUpdate_at hraw rfl ?_ (by rw [List.size_toArray]; omega) (Nat.zero_le _))
      refine wpAny_bind (wpAny_letGo ?_)
      refine wpAny_bind (seqEpoch_at pD rfl ?_)
      refine wpAny_bind (listUpdate_at pD rfl ?_ (Nat.zero_le _) (by simp only [Bool.false_eq_true, if_false]; rw [osz]; omega))
      rw [hf]
      simp only [bne_self_eq_false, Bool.false_eq_true, if_false]
      refine wpAny_pure ?_
      have J2 := J1.pins_of (pins' := pins) fun p hp => J1.pin p (List.mem_append_right _ (List.mem_append_left _ hp))
      have eD := get?_update_seq pD fun _ => (arrOf st').map (·.2)
      have J3 := J2.take (t' := s'.toks) (o := .lst ((bs.mergeSort fun a b => decide (kf a ≤ kf b)).map V.str)) (h' := (s'.heap.update h4.objs.size (Obj.mapSeq fun _ => (#[] : Array Value))).update D (Obj.mapSeq fun _ => (arrOf st').map (·.2))) (fun b u hb e => (Heap.get?_update_ne _ _ _ _ hb).trans e) (fD _ nD5)
        ⟨by rw [List.length_map, lout]; exact hz, _, _, vout, by rw [← ho, Array.toArray_toList]; exact eD⟩
      refine q _ _ J3 (fun b o e => ?_) nD upd_same
      rw [upd_ne (ne_of_none e nD), upd_ne (ne_of_none e hkn)]
      exact ei b o e
    unfold ksk_end
    simp only [Bool.false_eq_true, if_false]
    by_cases h2s : vs.toArray.size < 2
    · rw [if_pos h2s, if_pos h2s]
      refine wpAny_bind (wpAny_pure ?_)
      rw [StateT.run_pure]
      refine wpAny_bind (wpAny_pure ?_)
      try dsimp only
      refine tail (SortSt.mk' general' (its.toArray.zip vs.toArray) #[] 7 none) (out_of _ (Array.Perm.refl _) (fun i j hij hj => ?_) (Stable.refl _)) rfl
      rw [hss] at hj
      rw [List.size_toArray] at h2s
      have : i = j := by omega
      subst this
      exact KeyOrd.kle_refl _
    · rw [if_neg h2s, if_neg h2s]
      rw [List.size_toArray] at h2s
      refine wpAny_bind (hkd (by omega) _ ?_)
      refine wpAny_bind (wpAny_mono (PyProof.Rows.H.wpS_sortRunsSt (kd := kd) (a₀ := its.toArray.zip vs.toArray) (st := SortSt.mk' kd (its.toArray.zip vs.toArray) #[] 7 none)
        (Q := fun _ st' => failedOf st' = none ∧ ((arrOf st').map (·.2)).toList = sortVals (dataKind s'.heap (bs.map fun x => PyData.int (kf x))) false its vs)
        hlt hK ⟨Array.Perm.refl _, rfl, rfl⟩ rfl (Stable.refl _) (by rw [hss]; omega) fun st' a1 a2 a3 a4 => ⟨a2, out_of st' a1 a3 a4⟩) ?_ fun _ _ e => e)
      rintro ⟨⟨⟩, st'⟩ s'' ⟨rfl, hf, ho⟩
      try dsimp only at ho ⊢
      exact tail st' ho hf
end
end CP
set_option Elab.async false
set_option linter.all false
set_option maxRecDepth 100000
set_option maxHeartbeats 4000000
namespace CP
open PySem PySem.Spec PyProof.Rows PySem.Calls L2 KB KC KD KS LamX PySem.SeqAt PySem.W
section
variable {prog : Program} {w : World} {A : Around} {E : Value → Shared → Prop} {s : Shared} {T : String} {r d : Addr} {n : Nat} {P : Nat → Value → Prop} {OK : Heap → Prop}
theorem collect_src {R : List Value → Shared → Prop} (K : KdlSrc prog w T r d n P OK) (hh : A.handled = none) (hok : OK s.heap) (hn : n ≤ sizeLine)
    (h : ∀ (h' : Heap) (tk : Nat) (acc : Array Value), (∀ b o, s.heap.get? b = some o → h'.get? b = some o) → s.heap.objs.size < h'.objs.size → ItemsOf P acc n → R acc.toList { s with heap := h', toks := tk }) :
    wpAny (model prog w) A (collect (.ref r)) R E s := by
  have hlt := K.there _ hok
  unfold collect
  refine wpAny_bind (wpAny_runValue (codeAny_builtin PyProof.Rows.entry_proto_collect' ?_))
  rw [Around.under_plainId PySem.F.plain_proto_collect _]
  show wpAny _ A.in1 (newList [] >>= fun l => again (.builtin "list.__iadd__" ⟨[l, .ref r], []⟩)) _ _ s
  refine wpAny_bind (wpAny_newObj_type ?_)
  refine wpAny_pure ⟨plainId_quiet PySem.F.plain_list_iadd _, codeAny_builtin PyProof.Rows.entry_list_iadd' ?_⟩
  rw [Around.under_plainId PySem.F.plain_list_iadd _]
  have hS₁ : (s.heap.push { cls := .type "list", data := .seq ([] : List Value).toArray }).get? s.heap.objs.size = some { cls := .type "list", data := .seq #[] } := Heap.get?_push_size _ rfl
  show wpAny _ A.in1 (Builtin.List.listExtendWith (.ref s.heap.objs.size) (.ref r) (.ref s.heap.objs.size)) _ _ _
  have key := kdl_extend (A := A) (s := { s with heap := s.heap.push { cls := .type "list", data := .seq ([] : List Value).toArray } })
    (R := fun (q : Result) (s' : Shared) => ∃ (h' : Heap) (tk : Nat) (acc' : Array Value) (c' : Nat), q = .ok (.ret (.ref s.heap.objs.size)) ∧ s' = { s with heap := h', toks := tk } ∧
      (∀ b o, s.heap.get? b = some o → h'.get? b = some o) ∧ h'.get? s.heap.objs.size = some { cls := .type "list", dict := none, data := .seq acc' c', slots := #[] } ∧ ItemsOf P acc' n)
    K hh (K.keep _ _ hok fun b _ o e => Heap.get?_push_of_some _ e) s.heap.objs.size (Nat.ne_of_gt hlt.1) (Nat.ne_of_gt hlt.2) (.ref s.heap.objs.size) 0 hS₁
    (fun h' tk acc' c' hk hS' hacc => ⟨h', tk, acc', c', rfl, rfl, fun b o e => hk b o (Nat.ne_of_lt (Heap.lt_size e)) (Heap.get?_push_of_some _ e), hS', hacc⟩) hn
  refine wpAny_mono key (fun fin s' x => ?_) fun e s' x => ?_
  · cases fin with
    | done f =>
      obtain ⟨h', tk, acc', c', e, rfl, hk, hS', hacc⟩ := x
      cases e
      show wpAny _ A (load s.heap.objs.size >>= _) _ _ _
      refine wpAny_bind (wpAny_load hS' ?_)
      refine wpAny_pure ?_
      exact h h' tk acc' hk (Heap.lt_size hS') hacc
    | again c₁ =>
      refine ⟨x.1, codeAny_mono x.2 fun q s₂ y => ?_⟩
      obtain ⟨h', tk, acc', c', rfl, rfl, hk, hS', hacc⟩ := y
      show wpAny _ A (load s.heap.objs.size >>= _) _ _ _
      refine wpAny_bind (wpAny_load hS' ?_)
      refine wpAny_pure ?_
      exact h h' tk acc' hk (Heap.lt_size hS') hacc
  · obtain ⟨_, _, _, _, e', _⟩ := x
    cases e'
end
theorem vals_keys {prog : Program} {w : World} {kvs : List (Key × V)} {vs : List (Key × Value)} (rk : kvs.map (·.1) = vs.map (·.1)) {acc : Array Value} (hacc : ItemsOf (fun i v => ∃ k x, vs[i]? = some (k, x) ∧ (mixKind prog w).is k v = true) acc vs.length) : Vals (kvs.map fun kv => kV kv.1) acc.toList := by
  have hl : kvs.length = vs.length := by
    have := congrArg List.length rk
    simpa using this
  have el : acc.toList.length = acc.size := by simp
  refine vals_of_at (by rw [List.length_map, el, hacc.1, hl]) fun j x u h1 h2 => ?_
  obtain ⟨k, y, hky, hi⟩ := hacc.2 j u (by rw [← Array.getElem?_toList]; exact h2)
  have e1 : (kvs.map (·.1))[j]? = some k := by
    rw [rk, List.getElem?_map, hky] <;> rfl
  have e2 : (kvs.map fun kv => kV kv.1)[j]? = some (kV k) := by
    have e3 : (kvs.map fun kv => kV kv.1) = (kvs.map (·.1)).map kV := by rw [List.map_map] <;> rfl
    rw [e3, List.getElem?_map, e1] <;> rfl
  rw [e2] at h1
  cases h1
  exact keyIs_rel hi
section
variable {X : Cx} {pins : List (Addr × Obj)} {σ : L2.St}
theorem collect_dK {A : Around} {s : Shared} {H : Hp} {p : Addr} {kvs : List (Key × V)} {R : List Value → Shared → Prop} {E : Value → Shared → Prop} (I : Inv X pins σ H s) (hh : A.handled = none) (hp : H p = some (.dK kvs))
    (h : ∀ (h' : Heap) (tk : Nat) (us : List Value), (∀ b o, s.heap.get? b = some o → h'.get? b = some o) → s.heap.objs.size < h'.objs.size → Vals (kvs.map fun kv => kV kv.1) us → kvs.length ≤ sizeLine → R us { s with heap := h', toks := tk }) :
    wpAny (model X.prog X.w) A (collect (.ref p)) R E s := by
  obtain ⟨z, lo, vs, rk, hd⟩ := (show ObjOk X.prog X.w H s.heap p (.dK kvs) from I.hok p _ hp)
  obtain ⟨ep, hat⟩ := hd.dictAt
  have hl : kvs.length = vs.length := Paired.length rk
  exact collect_src (kdl_dict (knd := mixKind X.prog X.w) (kvs := vs) (ep := ep) lo) hh hat (by rw [← hl]; exact z) fun h' tk acc hk hlt hacc => h h' tk acc.toList hk hlt (vals_keys (KV.keys rk) hacc) z
def rSortDS : List V → Hp → VK → Prop := fun xs H Q => ∃ (p : Addr) (kvs : List (Key × V)) (bs : List Str), xs = [.ref p] ∧ H p = some (.dK kvs) ∧ kvs.map (fun kv => kV kv.1) = bs.map V.str ∧ ∀ D, H D = none → Q (.ref D) (upd H D (.lst ((bs.mergeSort fun a b => decide (a.cps.toList ≤ b.cps.toList)).map V.str)))
def rSortDI : List V → Hp → VK → Prop := fun xs H Q => ∃ (p : Addr) (kvs : List (Key × V)) (bs : List Int), xs = [.ref p] ∧ H p = some (.dK kvs) ∧ kvs.map (fun kv => kV kv.1) = bs.map V.int ∧ ∀ D, H D = none → Q (.ref D) (upd H D (.lst ((bs.mergeSort fun a b => decide (a ≤ b)).map V.int)))
theorem sorted_flat {α : Type} {enc : α → PyData} {g : α → V} {bs : List α} {le : α → α → Bool} {s : Shared} {H : Hp} {p : Addr} {kvs : List (Key × V)} {Q : VK} (hc : X.calm = true) (hu : X.A.units + 66 < cLine) (I : Inv X pins σ H s) (hp : H p = some (.dK kvs)) (hb : kvs.map (fun kv => kV kv.1) = bs.map g)
    (hal : ∀ b b', alike (enc b) (enc b') = true) (hk : ∀ b, enc b ≠ .none ∧ ∀ xs, enc b ≠ .tuple xs) (hd : ∀ b, (enc b).depth ≤ 1) (hle : dataLe false enc = le) (rd : ∀ (h : Heap) (b : α) (v : Value), RelV (g b) v → Reads h v (enc b) [])
    (q : ∀ D, H D = none → Q (.ref D) (upd H D (.lst ((bs.mergeSort le).map g)))) : wpAny (model X.prog X.w) X.A (call (.builtin "sorted") [.ref p]) (EP X pins σ Q) X.xe s := by
  refine call_function_entry kind_sorted plain_sorted entry_sorted (args_sorted1 _) ?_
  unfold Builtin.«sorted»
  refine wpAny_bind (m := checkCount "sorted" 1 1 _) (wpAny_pure ?_)
  refine wpAny_bind (collect_dK (A := X.A.in1) I (I.ok.hd hc) hp fun h' tk us hkp hlt rv hz => ?_)
  rw [hb] at rv
  have lu : bs.length = us.length := by
    have := rv.length
    rw [List.length_map] at this
    exact this
  have lz : bs.length ≤ sizeLine := by
    have := congrArg List.length hb
    rw [List.length_map, List.length_map] at this
    omega
  refine wpAny_bind (wpAny_newList ?_ (by show us.length ≤ _; omega))
  have hoL : (h'.push (seqObj "list" us.toArray 0)).get? h'.objs.size = some (seqObj "list" us.toArray 0) := Heap.get?_push_size _ rfl
  have er : EachIs (fun v b => ∃ as, Reads (h'.push (seqObj "list" us.toArray 0)) v (enc b) as ∧ h'.objs.size ∉ as) us bs := by
    have := each_vals (g := g) rv
    clear hoL rv lu
    exact go this
  refine wpAny_bind (wpAny_holding ?_)
  refine list_sort_data (A := X.A.in1) (s := { s with heap := h'.push (seqObj "list" us.toArray 0), toks := tk }) (a := h'.objs.size) (n := 0) (enc := enc) (R := fun v b => RelV (g b) v) hoL (each_vals (g := g) rv) er (AllAlike.of hal) (Sortable.others hk) lz (fun b _ => by
    have := hd b
    show X.A.units + 1 + 1 + (enc b).depth < cLine
    omega) fun out hol eo => ?_
  rw [hle] at eo
  have vo := vals_each (g := g) eo
  refine wpAny_pure ⟨_, rfl, ?_⟩
  obtain ⟨e, he⟩ := sortedHeap_at (out := (List.toArray out)) (vs := us) hoL
  have J := I.laid (t' := tk) (a := h'.objs.size) (o := .lst ((bs.mergeSort le).map g)) (h' := sortedHeap (h'.push (seqObj "list" us.toArray 0)) h'.objs.size us (List.toArray out)) (fun b u e1 => by
      have e2 := hkp b u e1
      have l2 := Heap.lt_size e2
      rw [sortedHeap_old (Nat.ne_of_lt l2) (by rw [Heap.size_push]; exact Nat.lt_succ_of_lt l2)]
      exact Heap.get?_push_of_some _ e2) (Nat.le_of_lt hlt) ⟨by rw [List.length_map, List.length_mergeSort]; exact lz, out, e, vo, he⟩
  exact ⟨.ref h'.objs.size, _, J, rfl, q _ (I.hok.fresh (Nat.le_of_lt hlt))⟩
where
  go {h' : Heap} {us : List Value} : ∀ {vs : List Value} {cs : List α}, EachIs (fun v b => RelV (g b) v) vs cs → EachIs (fun v b => ∃ as, Reads (h'.push (seqObj "list" us.toArray 0)) v (enc b) as ∧ h'.objs.size ∉ as) vs cs
    | _, _, .nil => .nil
    | _, _, .cons a r => .cons ⟨[], rd _ _ _ a, by simp⟩ (go r)
theorem cr_sortDS (hc : X.calm = true) (hu : X.A.units + 66 < cLine) : CallR X (.builtin "sorted") rSortDS := by
  intro pins s σ H xs us Q I r h
  obtain ⟨p, kvs, bs, rfl, hp, hb, q⟩ := h
  rw [Vals.ref1 r]
  exact sorted_flat (enc := fun x : Str => PyData.str x) hc hu I hp hb (fun _ _ => rfl) (fun _ => ⟨fun z => (nomatch z), fun _ z => (nomatch z)⟩) (fun _ => by simp [PyData.depth]) (dataLe_str fun x => x) (fun h b v ⟨t, e⟩ => by rw [e]; exact .str b t) q
theorem cr_sortDI (hc : X.calm = true) (hu : X.A.units + 66 < cLine) : CallR X (.builtin "sorted") rSortDI := by
  intro pins s σ H xs us Q I r h
  obtain ⟨p, kvs, bs, rfl, hp, hb, q⟩ := h
  rw [Vals.ref1 r]
  exact sorted_flat (enc := fun x : Int => PyData.int x) hc hu I hp hb (fun _ _ => rfl) (fun _ => ⟨fun z => (nomatch z), fun _ z => (nomatch z)⟩) (fun _ => by simp [PyData.depth]) (dataLe_int fun x => x) (fun h b v ⟨t, e⟩ => by rw [e]; exact .int b t) q
end
end CP
set_option Elab.async false
set_option linter.all false
set_option maxRecDepth 100000
set_option maxHeartbeats 4000000
namespace CP
open PySem PySem.Spec PyProof.Rows PySem.Calls L2 KB KC KD KS LamX PySem.SeqAt PySem.W
def CallS (X : Cx) (f : Value) (ks : List Str) (r : L2.St → List V → List V → Hp → VK → Prop) : Prop :=
  ∀ (pins : List (Addr × Obj)) (s : Shared) (σ : L2.St) (H : Hp) (xs zs : List V) (us ws : List Value) (Q : VK), Inv X pins σ H s → Vals xs us → Vals zs ws → r σ xs zs H Q → wpAny (model X.prog X.w) X.A (call f us (ks.zip ws)) (EP X pins σ Q) X.xe s
section
variable {X : Cx}
theorem pe_callS {x : Str} {p pos : Pos} {e : Expr} {es : List Expr} {kws : List Keyword} {t tk : TA} {id : String} {ks : List Str} {r : L2.St → List V → List V → Hp → VK → Prop} (hc : CallS X (.builtin id) ks r) (hg : Gl X x) (hm : X.mg x = none) (hv : bootBuiltins x = some (.builtin id)) (ha : PA X (e :: es) t) (hk : PK X kws tk) (hn : x ≠ "__name__" := by decide) (hdb : (x == ("__debug__" : Str)) = false := by decide)
    (h1 : backTo pos (starEach (e :: es) X.env) = (false, eval e X.env) :: backTo pos (starEach es X.env) := by rfl) (h2 : (backTo pos (starEach (e :: es) X.env)).any (·.1) = false := by rfl)
    (h3 : (backToKw pos (keywordEach kws X.env)).all (·.1.isSome) = true := by rfl) (h4 : (backToKw pos (keywordEach kws X.env)).any (·.1.isNone) = false := by rfl) (h5 : (backToKw pos (keywordEach kws X.env)).filterMap (·.1) = ks := by rfl) :
    PE X (.Call (.Name x p) (e :: es) kws pos) (fun σ H Q => t σ H fun vs H1 => tk σ H1 fun zs H2 => r σ vs zs H2 Q) := by
  refine ⟨fun pins s σ H Q I h => wpAny_Call_Name_kw (ld_blt I hg hm hv ?_ hn hdb)⟩
  refine PyProof.Rows.callWith_kw (thn (ha.run pos pins s σ H _ I h) fun us sA ⟨vs, HA, IA, rA, qA⟩ => thn (hk.run pos pins sA σ HA _ IA qA) fun ws sB ⟨zs, HB, IB, rB, qB⟩ => ?_) h1 h2 h3 h4
  rw [h5]
  exact hc pins sB σ HB vs zs us ws Q IB rA rB qB
def rSortKC (X : Cx) : L2.St → List V → List V → Hp → VK → Prop := fun σ xs zs H Q => ∃ (p f : Addr) (kvs : List (Key × V)) (bs : List Str) (kf : Str → Int), xs = [.ref p] ∧ zs = [.ref f] ∧ H p = some (.dK kvs) ∧ kvs.map (fun kv => kV kv.1) = bs.map V.str ∧ KeyI X σ f H bs kf ∧
  ∀ H' D, Ex H H' → H D = none → H' D = some (.lst ((bs.mergeSort fun a b => decide (kf a ≤ kf b)).map V.str)) → Q (.ref D) H'
theorem cs_sortKC (hc : X.calm = true) (hu : X.A.units + 66 < cLine) : CallS X (.builtin "sorted") [Str.ofString "key"] (rSortKC X) := by
  intro pins s σ H xs zs us ws Q I r rz h
  obtain ⟨p, f, kvs, bs, kf, rfl, rfl, hp, hb, hcall, q⟩ := h
  obtain rfl := Vals.ref1 r
  obtain rfl := Vals.ref1 rz
  show wpAny _ _ (call (.builtin "sorted") [.ref p] [(Str.ofString "key", .ref f)]) _ _ s
  refine call_function_entry_kw kind_sorted plain_sorted entry_sorted (ksk_s1 _ _) ?_
  unfold Builtin.«sorted»
  refine wpAny_bind (m := checkCount "sorted" 1 1 _) (wpAny_pure ?_)
  refine wpAny_bind (collect_dK (A := X.A.in1) I (I.ok.hd hc) hp fun h' tk us hkp hlt rv hz => ?_)
  rw [hb] at rv
  have lu : bs.length = us.length := by
    have := rv.length
    rw [List.length_map] at this
    exact this
  have lz : bs.length ≤ sizeLine := by
    have := congrArg List.length hb
    rw [List.length_map, List.length_map] at this
    omega
  refine wpAny_bind (wpAny_newList ?_ (by show us.length ≤ _; omega))
  have hoL : (h'.push (seqObj "list" us.toArray 0)).get? h'.objs.size = some (seqObj "list" us.toArray 0) := Heap.get?_push_size _ rfl
  refine wpAny_bind (wpAny_holding (wpAny_call_entry_kw slot_list_sort ⟨_, hoL, rfl⟩ entry_list_sort ?body (ksk_l1 _ _)))
  case body =>
    show wpAny (model X.prog X.w) X.A.in1.in1 (Builtin.«list.sort» ⟨[.ref h'.objs.size], [(Str.ofString "key", .ref f)]⟩) _ _ _
    rw [ksk_t1]
    refine sort_bodyI (s := s) (h2 := h'.push (seqObj "list" us.toArray 0)) (tk := tk) I (fun b u e => Heap.get?_push_of_some _ (hkp b u e)) hoL (Nat.le_of_lt hlt) rv lz hu hcall fun H' s' J e1 e2 e3 => ⟨_, rfl, ?_⟩
    exact wpAny_pure ⟨_, rfl, .ref h'.objs.size, H', J, rfl, q H' h'.objs.size e1 e2 e3⟩
def leastF (kf : Str → Int) (x : Str) (xs : List Str) : Str := xs.foldl (fun a y => if decide (kf y < kf a) = true then y else a) x
def rMinKC (X : Cx) : L2.St → List V → List V → Hp → VK → Prop := fun σ xs zs H Q => ∃ (p f : Addr) (x : Str) (bs : List Str) (kf : Str → Int), xs = [.ref p] ∧ zs = [.ref f] ∧ H p = some (.lst ((x :: bs).map V.str)) ∧ KeyI X σ f H (x :: bs) kf ∧ ∀ H', Ex H H' → Q (.str (leastF kf x bs)) H'
theorem walksV {prog : Program} {w : World} {A : Around} (hh : A.handled = none) (I l : Addr) (hne : l ≠ I) (ys : List V) :
    Walks prog w A I [I, l] [I] ys.length (fun i v => ∃ x, ys[i]? = some x ∧ RelV x v) (fun i h => h.IsListIter I l i ∧ ∃ its : List Value, Vals ys its ∧ h.IsList l its.toArray) where
  sub := fun b hb => by simp at hb; simp [hb]
  frame := fun i h h' st hk => by
    obtain ⟨h1, its, rv, h2⟩ := st
    exact ⟨h1.at fun o e => hk I (by simp) o e, its, rv, h2.at fun o e => hk l (by simp) o e⟩
  item := fun i s Q E hi st hQ => by
    obtain ⟨h1, its, rv, h2⟩ := st
    refine (Walks.list hh I l hne its.toArray).item i s Q E (by rw [List.size_toArray, ← rv.length]; exact hi) ⟨h1, h2⟩ fun v h' tk hv st' hk => ?_
    obtain ⟨x, hx⟩ : ∃ x, ys[i]? = some x := ⟨_, List.getElem?_eq_getElem hi⟩
    obtain ⟨u, hu, ru⟩ := rv.get hx
    have e : u = v := Option.some.inj (hu.symm.trans (by simpa using hv))
    rw [e] at ru
    exact hQ v h' tk ⟨x, hx, ru⟩ ⟨st'.1, its, rv, st'.2⟩ hk
  done := fun s Q E st hQ => by
    obtain ⟨h1, its, rv, h2⟩ := st
    refine (Walks.list hh I l hne its.toArray).done s Q E ⟨?_, h2⟩ hQ
    rw [List.size_toArray, ← rv.length]
    exact h1
  self := fun i s Q E st hQ => wpAny_pyIter_listiter st.1 hQ
theorem cs_minKC (hc : X.calm = true) : CallS X (.builtin "min") [Str.ofString "key"] (rMinKC X) := by
  intro pins s σ H xs zs us ws Q I r rz h
  obtain ⟨p, f, x, bs, kf, rfl, rfl, hp, hcall, q⟩ := h
  obtain rfl := Vals.ref1 r
  obtain rfl := Vals.ref1 rz
  obtain ⟨hz, its0, n0, rv0, hraw0⟩ := lst_raw I hp
  have hisl : s.heap.IsList p its0.toArray := ⟨_, hraw0, rfl, n0, rfl⟩
  have hplt : p < s.heap.objs.size := Heap.lt_size hraw0
  show wpAny _ _ (call (.builtin "min") [.ref p] [(Str.ofString "key", .ref f)]) _ _ s
  refine call_min_walkK (wpAny_pyIter_list hisl ?_)
  generalize hoI : ({ cls := .type "list_iterator", data := .fields #[.ref p, .int 0 0] } : Obj) = oI
  have sz2 : (s.heap.push oI).objs.size = s.heap.objs.size + 1 := Heap.size_push _ _
  have I2 : Inv X pins σ H { s with heap := s.heap.push oI } := I.kept (t' := s.toks) fun b o e => Heap.get?_push_of_some _ e
  have nIt : H s.heap.objs.size = none := I.hok.fresh (Nat.le_refl _)
  have nS : H (s.heap.push oI).objs.size = none := by rw [sz2]; exact I.hok.fresh (Nat.le_succ _)
  have fpI : ∀ H', H' s.heap.objs.size = none → FpOk X pins H' s.heap.objs.size := fun H' n => I.fpOk (Nat.le_refl _) n
  have fpS : ∀ H', H' (s.heap.push oI).objs.size = none → FpOk X pins H' (s.heap.push oI).objs.size := fun H' n => I.fpOk (by rw [sz2]; exact Nat.le_succ _) n
  have nfr : ∀ b, s.heap.objs.size ≤ b → b ∉ frs X.stack := fun b hb z => by
    rcases List.mem_cons.mp (I.stkSub _ z) with e | e
    · have h1 := I.lt
      rw [← e] at h1
      exact Nat.lt_irrefl _ (Nat.lt_of_lt_of_le h1 hb)
    · exact I.nofs hb e
  have gd : ∀ {i : Nat} {v : Value}, (∃ y, ((x :: bs).map V.str)[i]? = some y ∧ RelV y v) → ∃ b, (x :: bs)[i]? = some b ∧ (x :: bs).getD i x = b ∧ RelV (.str b) v := fun {i v} ⟨y, hy, ry⟩ => by
    rw [List.getElem?_map] at hy
    obtain ⟨b, hb, rfl⟩ := Option.map_eq_some_iff.mp hy
    exact ⟨b, hb, by rw [List.getD_eq_getElem?_getD, hb]; rfl, ry⟩
  refine ⟨s.heap.objs.size, [s.heap.objs.size, p], [s.heap.objs.size], (fun a b => b = a), ((x :: bs).map V.str).length, (fun i v => ∃ y, ((x :: bs).map V.str)[i]? = some y ∧ RelV y v), (fun i s' => s'.heap.IsListIter s.heap.objs.size p i ∧ ∃ its : List Value, Vals ((x :: bs).map V.str) its ∧ s'.heap.IsList p its.toArray),
    (fun s' => ∃ Hi, Inv X pins σ Hi s' ∧ Ex H Hi ∧ Hi s.heap.objs.size = none ∧ Hi (s.heap.push oI).objs.size = none), (fun i k _ => ∃ t, k = .int (kf ((x :: bs).getD i x)) t), (fun i j => decide (kf ((x :: bs).getD i x) < kf ((x :: bs).getD j x))),
    rfl, (walksV (A := X.A.in1) (I.ok.hd hc) s.heap.objs.size p (Nat.ne_of_lt hplt) ((x :: bs).map V.str)).toS, ⟨⟨oI, Heap.get?_push_size _ (by rw [← hoI]; rfl), by rw [← hoI], by rw [← hoI]; rfl⟩, its0, rv0, hisl.at fun o e => Heap.get?_push_of_some _ e⟩, fun b hb => ?_, by simp, ?_, ⟨H, I2, Ex.refl H, nIt, nS⟩, fun v s' hP hJ => ?_⟩
  · show b < (s.heap.push oI).objs.size
    rw [sz2]
    rcases List.mem_cons.mp hb with e | hb
    · rw [e]
      exact Nat.lt_succ_self _
    · rw [List.mem_singleton.mp hb]
      exact Nat.lt_succ_of_lt hplt
  · refine ⟨fun s1 s' hJ hm => ?_, fun _ _ _ _ h _ => h, fun i v s1 o Q' E' hi hP hJ hst hS hQ => ?_, fun i j ki kj s1 Q' E' _ hi hj hQ => ?_⟩
    · obtain ⟨Hi, J, e, n1, n2⟩ := hJ
      obtain ⟨h1, g1, d1, t1, o1⟩ := s'
      have eg : g1 = s1.gens := hm.gens
      have ed : d1 = s1.drawn := hm.drawn
      have eo : o1 = s1.os := hm.os
      subst eg
      subst ed
      subst eo
      refine ⟨Hi, J.turnedL (t' := t1) (ch := [(s.heap.push oI).objs.size, s.heap.objs.size]) (fun b o hb e => hm.heap b o hb e) (fun b hb => ?_), e, n1, n2⟩
      rcases List.mem_cons.mp hb with z | hb
      · rw [z]
        exact fpS Hi n2
      · rw [List.mem_singleton.mp hb]
        exact fpI Hi n1
    · obtain ⟨Hi, J, e, n1, n2⟩ := hJ
      obtain ⟨b, hb, hbd, rb⟩ := gd hP
      have hS : s1.heap.get? (s.heap.push oI).objs.size = some o := hS
      refine wpAny_of_in1 (wpAny_mono (hcall b (List.mem_of_getElem? hb) Hi e pins s1 v (fun u s2 => Q' u s2) rb J fun t H2 s2 J2 e2 un => ?_) (fun _ _ h => h) fun _ _ (h : False) => h.elim)
      obtain ⟨hit, its, rvi, hli⟩ := hst
      obtain ⟨oi, hoi, hci, hdi⟩ := hit
      have k1 := un.keep _ _ hoi n1 (nfr _ (Nat.le_refl _)) (by simp)
      have k2 := un.keep _ _ hS n2 (nfr _ (by rw [sz2]; exact Nat.le_succ _)) (by simp)
      have f1 := un.free _ _ hoi n1 (by simp)
      have f2 := un.free _ _ hS n2 (by simp)
      obtain ⟨_, its2, n2', rv2, hraw2⟩ := lst_raw J2 (e2 _ _ (e _ _ hp))
      exact hQ (.int (kf b) t) s2 ⟨H2, J2, e.trans e2, f1, f2⟩ ⟨⟨oi, k1, hci, hdi⟩, its2, rv2, ⟨_, hraw2, rfl, n2', rfl⟩⟩ k2 ⟨t, by rw [hbd]⟩ fun _ _ h => h
    · obtain ⟨t, rfl⟩ := hi
      obtain ⟨u, rfl⟩ := hj
      exact CmpOf.ints_lt (prog := X.prog) (w := X.w) (A := X.A.in1) (P := fun i v => ∃ t, v = .int (kf ((x :: bs).getD i x)) t) (fun i => kf ((x :: bs).getD i x)) (fun i v h => h) i j _ _ _ _ _ ⟨t, rfl⟩ ⟨u, rfl⟩ hQ
  · obtain ⟨Hi, J, e, n1, n2⟩ := hJ
    obtain ⟨b, hb, hbd, rb⟩ := gd hP
    have hf := (argBest_fold (fun a y => decide (kf a < kf y)) x x bs bs.length (Nat.le_refl _)).2
    rw [List.take_length] at hf
    have hn : ((x :: bs).map V.str).length - 1 = bs.length := by simp
    rw [hn] at hbd
    have eb : leastF kf x bs = b := by
      rw [← hbd]
      exact hf.symm
    rw [← eb] at rb
    exact ⟨.str (leastF kf x bs), Hi, J, rb, q Hi e⟩
theorem keyI_clo {σ : L2.St} {k j : Nat} {f c' : Addr} {params : Arguments} {body : Expr} {scope : Scope} {pn y : Str} {H : Hp} {bs : List Str} {kf : Str → Int} {vy : V} (L : LamP X.env.scope scope pn y) (hr : Room (k + 3) X.A)
    (hf : H f = some (CloO f (X.env.qual ++ "<lambda>") params body scope (cloFrom X.env.cells scope.names []) c')) (hc : H c' = some (CodeO c' (X.env.qual ++ "<lambda>")))
    (hb : ∀ (s : Shared) (clo : List (Str × Addr)) (pm ctv u : Value), BindsTo s (PySem.W.kla_fn "<lambda>" (X.env.qual ++ "<lambda>") params body scope clo pm (.ref c') ctv) ⟨[u], []⟩ [(pn, u)]) (hy : X.N[j]? = some y) (hσ : σ[j]? = some (some vy))
    (hbody : ∀ (A : Around) (s : Shared) (H1 : Hp) (E : XK), Room k (A.deeper (lamEnv X scope s.heap.objs.size f c')) → ∀ x ∈ bs, Ex H H1 → ∃ tt, PE (cxP X A s H1 E scope f c' pn y) body tt ∧ ∀ Q : VK, (∀ H2, Ex H1 H2 → Q (.int (kf x)) H2) → tt [some (.str x), some vy] H1 Q) : KeyI X σ f H bs kf := by
  intro x hx H1 e1 pins s1 v R rv I hR
  have hr2 : Room (k + 1) X.A.in1.in1 := (show Room (k + 2) X.A.in1 from Room.in1 hr).in1
  have rc := clo_run (Q := fun y H2 => ∃ H', H' = H2 ∧ y = .int (kf x) ∧ Ex H1 H') (E := fun _ _ _ => False) (u := v) (v := .str x) (vy := vy) I L hr2 I.env0.in1.in1 (e1 _ _ hf) (e1 _ _ hc) (fun pm ctv => hb s1 _ pm ctv _) rv hy hσ
    (fun hr' => let ⟨tt, h1, h2⟩ := hbody _ s1 H1 (fun _ _ _ => False) hr' x hx e1; ⟨tt, h1, h2 _ fun H2 e2 => ⟨H2, rfl, rfl, e2⟩⟩)
  refine wpAny_call (codeAny_mono rc fun r s2 hq => ?_)
  cases r with
  | error e =>
    exact (no_err hq).elim
  | ok fl =>
    cases fl with
    | ret u =>
      obtain ⟨w', H2, os, bare, un, hok, rw', H', rfl, rfl, e2⟩ := hq
      obtain ⟨t, rfl⟩ := rw'
      have J := I.call' (s' := s2) os un hok bare (fun b z => absurd z (by simp))
      exact hR t H' s2 J e2 un
    | next => exact False.elim hq
    | brk => exact False.elim hq
    | cont => exact False.elim hq
where
  no_err {H1 : Hp} {s1 s2 : Shared} {e : Value} (h : L2.CX X.prog X.w X.stack H1 s1 (fun _ _ _ => False) e s2) : False := by
    obtain ⟨_, _, _, _, _, _, _, _, _, _, _, _, z⟩ := h
    exact z
end
end CP
set_option Elab.async false
set_option linter.all false
set_option maxRecDepth 100000
set_option maxHeartbeats 4000000
namespace K7
open PySem PySem.Spec PyProof.Rows L2 KB KC KS LamX R8
theorem Ex.on {H H1 : Hp} {a : Addr} {o : HO} (e : Ex H H1) (n : H a = none) : Ex H (upd H1 a o) := fun b u h => by rw [L2.upd_ne (ne_of_none h n)]; exact e b u h
theorem ifT {c A B : Prop} [Decidable c] (h : c) (a : A) : if c then A else B := by rw [if_pos h]; exact a
theorem ifF {c A B : Prop} [Decidable c] (h : ¬ c) (b : B) : if c then A else B := by rw [if_neg h]; exact b
theorem paired_snoc' {α β : Type} {R : α → β → Prop} {l : List α} {m : List β} {a : α} {b : β} (p : Paired R l m) (h : R a b) : Paired R (l ++ [a]) (m ++ [b]) := paired_app p (.cons h .nil)
theorem paired_len {α β : Type} {R : α → β → Prop} : ∀ {l : List α} {m : List β}, Paired R l m → l.length = m.length
  | _, _, .nil => rfl
  | _, _, .cons _ t => by rw [List.length_cons, List.length_cons, paired_len t]
def KT' (H H' : Hp) : Prop := ∀ b xs, H b = some (.tup xs) → H' b = some (.tup xs)
theorem lcG {J : It} {n : Nat} {G : Hp → Prop} {Y : Nat → Hp → V → Hp → Prop} (w : Walk J n G Y) {α : Type} (R : Hp → V → α → Prop) (out : Nat → Option α) (stab : ∀ H H' v a, KT' H H' → R H v a → R H' v a)
    {g : TG} {tt : TT} {te : TE} {vs : List Nat} {σ : L2.St} {HL : Hp} {D : Addr} {Qd : Hp → Prop} (hD : HL D = none) (hz : n ≤ 1000000) (hG : ∀ H, Ex HL H → G H) (hY : ∀ i H x H1, i < n → Ex HL H → Y i H x H1 → Ex H H1)
    (turn : ∀ (i : Nat) (x : V) (H H1 : Hp) (R0 : V → Hp → Prop) (N0 : Hp → Prop), i < n → Ex HL H → Y i H x H1 → (out i = none → ∀ H2, Ex H1 H2 → N0 H2) → (∀ a, out i = some a → ∀ H2 y, Ex H1 H2 → R H2 y a → R0 y H2) →
      g x (wipe σ vs) H1 fun σ2 H2 => wipe σ2 vs = wipe σ vs ∧ tt σ2 H2 fun b H3 => if b = true then te σ2 H3 R0 else N0 H3)
    (fin : ∀ H xs, Ex HL H → H D = some (.lst xs) → Paired (R H) xs ((List.range n).filterMap out) → Qd H) :
    ∃ W : Nat → Nat → Hp → Prop, (∃ m, W 0 m (upd HL D (.lst []))) ∧ ∀ i m H, W i m H →
      (J.stop i H ∧ Qd H) ∨ (J.go i H ∧ ∃ Nx : Hp → Prop, (∀ H', Nx H' → ∃ m', m' < m ∧ W (i + 1) m' H') ∧ ∀ x H', J.yld i H x H' → g x (wipe σ vs) H' fun σ2 H2 => wipe σ2 vs = wipe σ vs ∧ tt σ2 H2 fun b H3 =>
        if b = true then te σ2 H3 fun y H4 => ∃ acc, H4 D = some (.lst acc) ∧ acc.length < sizeLine ∧ Nx (upd H4 D (.lst (acc ++ [y]))) else Nx H3) := by
  refine lc_it w (fun i H => Ex HL H ∧ ∃ xs, H D = some (.lst xs) ∧ Paired (R H) xs ((List.range i).filterMap out)) ⟨Ex.upd hD, [], upd_same, .nil⟩ (fun i H _ h => hG H h.1) ?_ fun H ⟨e, xs, hx, hp⟩ => fin H xs e hx hp
  rintro i x H H1 hi ⟨e, xs, hx, hp⟩ hy
  have e1 := hY i H x H1 hi e hy
  have hs : (List.range (i + 1)).filterMap out = (List.range i).filterMap out ++ (out i).toList := by
    rw [List.range_succ, List.filterMap_append]
    cases h : out i <;> simp [h]
  refine turn i x H H1 _ _ hi e hy (fun hn H2 e2 => ?_) fun a ha H2 y e2 hr => ?_
  · refine ⟨(e.trans e1).trans e2, xs, e2 _ _ (e1 _ _ hx), ?_⟩
    rw [hs, hn]
    simpa using paired_mono (fun v b h => stab _ _ v b (fun b' xs' h' => e2 _ _ (e1 _ _ h')) h) hp
  · have hx2 := e2 _ _ (e1 _ _ hx)
    have kt : KT' H2 (upd H2 D (.lst (xs ++ [y]))) := fun b ys h => by
      rw [L2.upd_ne (fun z => by rw [z, hx2] at h; cases h)]; exact h
    refine ⟨xs, hx2, ?_, Ex.on ((e.trans e1).trans e2) hD, xs ++ [y], upd_same, ?_⟩
    · have l1 := paired_len hp
      have l2 := List.length_filterMap_le out (List.range i)
      rw [List.length_range] at l2
      have : sizeLine = 16777216 := rfl
      omega
    · rw [hs, ha]
      exact paired_snoc' (paired_mono (fun v b h => stab _ _ v b (fun b' xs' h' => kt _ _ (e2 _ _ (e1 _ _ h'))) h) hp) (stab _ _ _ _ kt hr)
def RInt : Hp → V → Int → Prop := fun _ v a => v = .int a
def RStr : Hp → V → Str → Prop := fun _ v a => v = .str a
theorem RInt.stab : ∀ H H' v a, KT' H H' → RInt H v a → RInt H' v a := fun _ _ _ _ _ h => h
theorem RStr.stab : ∀ H H' v a, KT' H H' → RStr H v a → RStr H' v a := fun _ _ _ _ _ h => h
theorem rint_map {H : Hp} : ∀ {xs : List V} {ns : List Int}, Paired (RInt H) xs ns → xs = ns.map V.int
  | _, _, .nil => rfl
  | _, _, .cons h t => by rw [List.map_cons, ← rint_map t]; rw [show _ = _ from h]
theorem rstr_map {H : Hp} : ∀ {xs : List V} {ns : List Str}, Paired (RStr H) xs ns → xs = ns.map V.str
  | _, _, .nil => rfl
  | _, _, .cons h t => by rw [List.map_cons, ← rstr_map t]; rw [show _ = _ from h]
theorem range_fm {α β : Type} (f : α → Option β) : ∀ xs : List α, (List.range xs.length).filterMap (fun i => xs[i]?.bind f) = xs.filterMap f := by
  intro xs
  induction xs with
  | nil => rfl
  | cons a xs ih =>
    rw [List.length_cons, List.range_succ_eq_map, List.filterMap_cons, List.filterMap_map]
    have e : ((fun i => ((a :: xs)[i]?).bind f) ∘ Nat.succ) = fun i => xs[i]?.bind f := by
      funext i
      simp
    rw [e, ih]
    simp [List.filterMap_cons]
theorem yat_ex {xs : List V} {i : Nat} {H H1 : Hp} {x : V} (h : YAt xs i H x H1) : Ex H H1 := by
  obtain ⟨rfl, _⟩ := h
  exact Ex.refl _
theorem yfn_ex {f : Nat → V} {i : Nat} {H H1 : Hp} {x : V} (h : YFn f i H x H1) : Ex H H1 := by
  obtain ⟨rfl, _⟩ := h
  exact Ex.refl _
theorem pf {X : Cx} (i : Nat) {f x : Str} {p1 p2 : Pos} (hN : X.N[i]? = some x := by rfl) (hv : Vis X.env.scope x := by first | exact .inl rfl | exact .inr (.inl rfl) | exact .inr (.inr rfl) | exact .inr rfl) (hd : (x == ("__debug__" : Str)) = false := by decide) (hcd : (x == ("__classdict__" : Str)) = false := by decide)
    (hb : attributeBase (.Name x p1) f X.env (eval (.Name x p1) X.env) = eval (.Name x p1) X.env := by rfl) : PE X (.Attribute (.Name x p1) f p2) (tFld X.K (tVar i) f) :=
  pe_fld (pe_var (i := i) hN hv hd hcd) hb
def veB : List Value := [.type "ValueError", .type "Exception", .type "BaseException", .type "object"]
structure TxtX (K : PySem.W.Frag) (mg : Str → Option Value) (CE : Addr) : Prop where
  g : mg "GroupError" = some (.ref CE)
  x : PySem.W.excIn K CE veB "ValueError.__new__" = true
  k : PySem.W.keepIn K (.ref CE) = true
  b : PySem.W.subIn K (.ref CE) (.type "BaseException") = some true
  t : PySem.W.typeIn K (.ref CE) = some (.type "type")
  e : PySem.W.exmOne K (.ref CE) (.ref CE) = some true
def rIxP : R2 := fun x y H Q => ∃ p xs i v, x = .ref p ∧ y = .int i ∧ H p = some (.tup xs) ∧ atI xs i = some v ∧ Q v H
theorem ix_tupD {X : Cx} : IxR X rIxP := by
  intro value slice pins s σ H x y v u Q I rx ry h hs
  obtain ⟨p, xs, i, z, e1, e2, hq, he, q⟩ := h
  exact ix_tup value slice pins s σ H x y v u Q I rx ry ⟨p, xs, i, z, e1, e2, SqT.of hq, he, q⟩ hs
theorem filt_fm {α : Type} (f : α → Bool) (xs : List α) : xs.filterMap (fun p => if f p = true then some p else none) = xs.filter f := by
  induction xs with
  | nil => rfl
  | cons a xs ih => cases h : f a <;> simp [h, ih]
theorem map_fm {α β : Type} (f : α → β) (xs : List α) : xs.filterMap (fun p => some (f p)) = xs.map f := by
  induction xs with
  | nil => rfl
  | cons a xs ih => simp
theorem at0 {a b : V} : atI [a, b] 0 = some a := rfl
theorem at1 {a b : V} : atI [a, b] 1 = some b := rfl
theorem wipe_set {σ : L2.St} {i : Nat} {x : Option V} : wipe ((wipe σ [i]).set i x) [i] = wipe σ [i] := by
  show ((σ.set i none).set i x).set i none = σ.set i none
  rw [List.set_set, List.set_set]
end K7

namespace K7
open PySem PySem.Spec PyProof.Rows L2 KB KC KS LamX R8
def putA {α : Type} (es : List (Key × α)) (k : Key) (a : α) : List (Key × α) := if (es.any fun e => decide (e.1 = k)) = true then es.map (fun e => if e.1 = k then (e.1, a) else e) else es ++ [(k, a)]
def foldA {α : Type} (es : List (Key × α)) : List (Key × α) := es.foldl (fun acc e => putA acc e.1 e.2) []
abbrev KvR {α : Type} (R : Hp → V → α → Prop) (H : Hp) (kvs : List (Key × V)) (es : List (Key × α)) : Prop := Paired (fun (p : Key × V) (e : Key × α) => p.1 = e.1 ∧ R H p.2 e.2) kvs es
theorem any_eq {α : Type} {R : Hp → V → α → Prop} {H : Hp} {k : Key} : ∀ {kvs : List (Key × V)} {es : List (Key × α)}, KvR R H kvs es → (kvs.any fun e => decide (e.1 = k)) = es.any fun e => decide (e.1 = k)
  | _, _, .nil => rfl
  | _, _, .cons h t => by rw [List.any_cons, List.any_cons, h.1, any_eq t]
theorem kvR_put {α : Type} {R : Hp → V → α → Prop} {H : Hp} {k : Key} {z : V} {a : α} {kvs : List (Key × V)} {es : List (Key × α)} (r : KvR R H kvs es) (hr : R H z a) : KvR R H (putK kvs k z) (putA es k a) := by
  unfold putK putA
  rw [any_eq r]
  split
  · exact go r
  · exact paired_snoc' r ⟨rfl, hr⟩
where
  go : ∀ {kvs : List (Key × V)} {es : List (Key × α)}, KvR R H kvs es → KvR R H (kvs.map fun kv => if kv.1 = k then (kv.1, z) else kv) (es.map fun e => if e.1 = k then (e.1, a) else e)
    | _, _, .nil => .nil
    | _, _, .cons (a := p) (b := e) h t => by
      rw [List.map_cons, List.map_cons]
      refine .cons ?_ (go t)
      by_cases c : p.1 = k
      · rw [if_pos c, if_pos (h.1 ▸ c)]
        exact ⟨h.1, hr⟩
      · rw [if_neg c, if_neg (h.1 ▸ c)]
        exact h
theorem putA_len {α : Type} (es : List (Key × α)) (k : Key) (a : α) : (putA es k a).length ≤ es.length + 1 := by
  unfold putA
  split
  · rw [List.length_map]; omega
  · rw [List.length_append]; simp
theorem foldA_snoc {α : Type} (es : List (Key × α)) (k : Key) (a : α) : foldA (es ++ [(k, a)]) = putA (foldA es) k a := by
  unfold foldA
  rw [List.foldl_append]
  rfl
theorem foldA_len_go {α : Type} : ∀ (es acc : List (Key × α)), (es.foldl (fun acc e => putA acc e.1 e.2) acc).length ≤ acc.length + es.length
  | [], acc => by simp
  | e :: es, acc => by
    rw [List.foldl_cons]
    have := foldA_len_go es (putA acc e.1 e.2)
    have := putA_len acc e.1 e.2
    rw [List.length_cons]
    omega
theorem foldA_len {α : Type} (es : List (Key × α)) : (foldA es).length ≤ es.length := by
  have := foldA_len_go es []
  unfold foldA
  simpa using this
theorem foldA_self_go {α : Type} : ∀ (es acc : List (Key × α)), ((acc ++ es).map (·.1)).Nodup → es.foldl (fun acc e => putA acc e.1 e.2) acc = acc ++ es
  | [], acc, _ => by simp
  | e :: es, acc, h => by
    have ne : ¬ (acc.any fun x => decide (x.1 = e.1)) = true := by
      rw [List.any_eq_true]
      rintro ⟨x, hx, hk⟩
      have hk := of_decide_eq_true hk
      rw [List.map_append, List.nodup_append] at h
      exact h.2.2 x.1 (List.mem_map.mpr ⟨x, hx, rfl⟩) e.1 (by simp) hk
    have ep : putA acc e.1 e.2 = acc ++ [e] := by unfold putA; rw [if_neg ne]
    rw [List.foldl_cons, ep, foldA_self_go es (acc ++ [e])]
    · simp
    · simpa using h
theorem foldA_self {α : Type} {es : List (Key × α)} (h : (es.map (·.1)).Nodup) : foldA es = es := foldA_self_go es [] (by simpa using h)
def KT2 (H H' : Hp) : Prop := ∀ b o, (∀ ks, o ≠ .dK ks) → H b = some o → H' b = some o
theorem dcG {J : It} {n : Nat} {G : Hp → Prop} {Y : Nat → Hp → V → Hp → Prop} (w : Walk J n G Y) {α : Type} (R : Hp → V → α → Prop) (out : Nat → Option (Key × α)) (stab : ∀ H H' v a, KT2 H H' → R H v a → R H' v a)
    {g : TG} {tt : TT} {tk tv : TE} {vs : List Nat} {σ : L2.St} {HL : Hp} {D : Addr} {Qd : Hp → Prop} (hD : HL D = none) (hz : n ≤ 1000000) (hG : ∀ H, Ex HL H → G H) (hY : ∀ i H x H1, i < n → Ex HL H → Y i H x H1 → Ex H H1)
    (turn : ∀ (i : Nat) (x : V) (H H1 : Hp) (R0 : V → V → Hp → Prop) (N0 : Hp → Prop), i < n → Ex HL H → Y i H x H1 → (out i = none → ∀ H2, Ex H1 H2 → N0 H2) → (∀ k a, out i = some (k, a) → ∀ H2 z, Ex H1 H2 → R H2 z a → R0 (kV k) z H2) →
      g x (wipe σ vs) H1 fun σ2 H2 => wipe σ2 vs = wipe σ vs ∧ tt σ2 H2 fun b H3 => if b = true then tk σ2 H3 fun y H4 => tv σ2 H4 fun z H5 => R0 y z H5 else N0 H3)
    (fin : ∀ H kvs, Ex HL H → H D = some (.dK kvs) → KvR R H kvs (foldA ((List.range n).filterMap out)) → Qd H) :
    ∃ W : Nat → Nat → Hp → Prop, (∃ m, W 0 m (upd HL D (.dK []))) ∧ ∀ i m H, W i m H →
      (J.stop i H ∧ Qd H) ∨ (J.go i H ∧ ∃ Nx : Hp → Prop, (∀ H', Nx H' → ∃ m', m' < m ∧ W (i + 1) m' H') ∧ ∀ x H', J.yld i H x H' → g x (wipe σ vs) H' fun σ2 H2 => wipe σ2 vs = wipe σ vs ∧ tt σ2 H2 fun b H3 =>
        if b = true then tk σ2 H3 fun y H4 => tv σ2 H4 fun z H5 => ∃ kvs k, y = kV k ∧ H5 D = some (.dK kvs) ∧ kvs.length < sizeLine ∧ Nx (upd H5 D (.dK (putK kvs k z))) else Nx H3) := by
  refine ⟨fun i m H => m = n - i ∧ i ≤ n ∧ (Ex HL H ∧ ∃ kvs, H D = some (.dK kvs) ∧ KvR R H kvs (foldA ((List.range i).filterMap out))), ⟨n, by simp, Nat.zero_le _, Ex.upd hD, [], upd_same, .nil⟩, ?_⟩
  rintro i m H ⟨rfl, hi, e, kvs, hx, hp⟩
  have q := hG H e
  by_cases hlt : i < n
  · refine .inr ⟨w.goes i H hlt q, (fun H' => i + 1 ≤ n ∧ (Ex HL H' ∧ ∃ kvs, H' D = some (.dK kvs) ∧ KvR R H' kvs (foldA ((List.range (i + 1)).filterMap out)))), fun H' p' => ⟨n - (i + 1), by omega, rfl, p'⟩, fun x H1 y => ?_⟩
    have y := w.yields i H x H1 hlt q y
    have e1 := hY i H x H1 hlt e y
    have hs : (List.range (i + 1)).filterMap out = (List.range i).filterMap out ++ (out i).toList := by
      rw [List.range_succ, List.filterMap_append]
      cases h : out i <;> simp [h]
    refine turn i x H H1 (fun y z H5 => ∃ kvs k, y = kV k ∧ H5 D = some (.dK kvs) ∧ kvs.length < sizeLine ∧ (fun H' => i + 1 ≤ n ∧ (Ex HL H' ∧ ∃ kvs, H' D = some (.dK kvs) ∧ KvR R H' kvs (foldA ((List.range (i + 1)).filterMap out)))) (upd H5 D (.dK (putK kvs k z)))) _ hlt e y (fun hn H2 e2 => ?_) fun k a ha H2 z e2 hr => ?_
    · refine ⟨hlt, (e.trans e1).trans e2, kvs, e2 _ _ (e1 _ _ hx), ?_⟩
      rw [hs, hn]
      simpa using paired_mono (fun v b h => ⟨h.1, stab _ _ v.2 b.2 (fun b' o' _ h' => e2 _ _ (e1 _ _ h')) h.2⟩) hp
    · have hx2 := e2 _ _ (e1 _ _ hx)
      have kt : KT2 H2 (upd H2 D (.dK (putK kvs k z))) := fun b o ho h => by
        rw [L2.upd_ne (fun z => by rw [z, hx2] at h; exact ho _ (Option.some.inj h).symm)]; exact h
      refine ⟨kvs, k, rfl, hx2, ?_, hlt, Ex.on ((e.trans e1).trans e2) hD, putK kvs k z, upd_same, ?_⟩
      · have l1 := paired_len hp
        have l2 := foldA_len ((List.range i).filterMap out)
        have l3 := List.length_filterMap_le out (List.range i)
        rw [List.length_range] at l3
        have : sizeLine = 16777216 := rfl
        omega
      · rw [hs, ha]
        show KvR R _ _ (foldA (_ ++ [(k, a)]))
        rw [foldA_snoc]
        exact kvR_put (paired_mono (fun v b h => ⟨h.1, stab _ _ v.2 b.2 (fun b' o' n' h' => kt _ _ n' (e2 _ _ (e1 _ _ h'))) h.2⟩) hp) (stab _ _ _ _ kt hr)
  · have e' : i = n := by omega
    subst e'
    exact .inl ⟨w.stops H q, fin H kvs e hx hp⟩
def RTrue : Hp → V → Unit → Prop := fun _ v _ => v = .bl true
theorem RInt.stab2 : ∀ H H' v a, KT2 H H' → RInt H v a → RInt H' v a := fun _ _ _ _ _ h => h
theorem RTrue.stab : ∀ H H' v a, KT2 H H' → RTrue H v a → RTrue H' v a := fun _ _ _ _ _ h => h
theorem kvR_keys {α : Type} {R : Hp → V → α → Prop} {H : Hp} : ∀ {kvs : List (Key × V)} {es : List (Key × α)}, KvR R H kvs es → kvs.map (fun kv => kV kv.1) = es.map fun e => kV e.1
  | _, _, .nil => rfl
  | _, _, .cons h t => by rw [List.map_cons, List.map_cons, kvR_keys t, h.1]
end K7

namespace K7
open PySem PySem.Spec PyProof.Rows L2 KB KC KD KS LamX R8 CP
theorem ps_setDc {X : Cx} {i : Nat} {y : Str} {py : Pos} {kx vx tg iter : Expr} {ifs : List Expr} {scope : Scope} {own : List (Str × Nat)} {pos spos : Pos} {wi : TI} {g : TG} {tt : L2.TT} {tk tv : TE} (hc : X.calm = true) (hN : X.N.Nodup) (hy : X.N[i]? = some y) (hyl : X.env.scope.names.lookup y = some .local)
    (hsw : swapsWith (.DictComp kx vx [⟨tg, iter, ifs, 0⟩] scope pos) (some (.Name y py)) spos.line X.env = pure true) (hi : PI X tg iter wi) (ok : BlkOk X.N X.env.scope scope own)
    (hg : ∀ (s : Shared) (H : Hp) (C : Addr) (cl : List (Str × Addr)) (fp : List Addr), PG (X.blk s H scope (compEnvC scope cl C X.env) fp) tg g) (ht : ∀ (s : Shared) (H : Hp) (C : Addr) (cl : List (Str × Addr)) (fp : List Addr), PTs (X.blk s H scope (compEnvC scope cl C X.env) fp) ifs tt)
    (hk : ∀ (s : Shared) (H : Hp) (C : Addr) (cl : List (Str × Addr)) (fp : List Addr), PE (X.blk s H scope (compEnvC scope cl C X.env) fp) kx tk)
    (he : ∀ (s : Shared) (H : Hp) (C : Addr) (cl : List (Str × Addr)) (fp : List Addr), PE (X.blk s H scope (compEnvC scope cl C X.env) fp) vx tv) (hs : ∀ x, foldedSetIterable iter X.env x = pure x := by intro _; rfl) :
    PS X (.Assign [.Name y py] (.DictComp kx vx [⟨tg, iter, ifs, 0⟩] scope pos) spos) (tAsg (tDc wi g tt tk tv (own.map (·.2))) (gName i)) := by
  refine ⟨fun pins s σ H D I h => ?_⟩
  rw [exec_Assign_Name_used _ _ _ _ hsw]
  refine wpAny_bind (wpAny_standAt (wpAny_bind ?_))
  show wpAny _ X.A (do let _ ← comprehension (.DictComp kx vx [⟨tg, iter, ifs, 0⟩] scope pos) scope X.env (firstIterPos [⟨tg, iter, ifs, 0⟩] pos) newDict false (eval iter X.env) (some (assign (.Name y py) X.env))) _ _ s
  have h : tDc wi g tt tk tv (own.map (·.2)) σ H (fun x H1 => gName i x σ H1 D.nx) := h
  refine wpAny_bind (thn (dc_core (Qf := fun _ s' => SP X pins D .next s') hc hN I hi ok hg ht hk he hs h fun L C s' m H' I' q hn f => ?_) fun _ s' hq => wpAny_pure (wpAny_pure hq))
  show wpAny _ _ (assign (.Name y py) X.env (.ref L)) _ _ _
  refine wpAny_assign_Name (store_ok2 (v := V.ref L) I' hN hy (.inl hyl) rfl (fun s2 I2 ⟨a, sb, ha⟩ => ?_) (.inr hyl))
  obtain ⟨f0, f1, f2, f3, f4, f5⟩ := f
  have haC : C ≠ a := by
    rcases ha with z | z
    · rw [z]; exact f1
    · exact fun e => f4 y a z e.symm
  refine ⟨m, hn.sameBut sb haC, fun h3 sb3 => ?_⟩
  exact ⟨_, H', I2.turned (t' := s2.toks) (fun b o hb e => (sb3.2 b hb).trans e) f0 f1 f3 f4 f5, q⟩
theorem sw_dict {kx vx : Expr} {gs : List Comprehension} {scope : Scope} {pos py : Pos} {y : Str} {l : Nat} {env : Env} (hk : env.scope.kind = .function) (hy : env.scope.names.lookup y = some .local) (hl : (py.line == pos.line) = true)
    (ha : (scope.names.any fun (n, k) => n == y && (k == .local || k == .cell)) = false) : swapsWith (.DictComp kx vx gs scope pos) (some (.Name y py)) l env = pure true := by
  have ky : env.kindOf y = some .local := hy
  have hb : env.blockKind = .function := by unfold Env.blockKind; rw [hk]; rfl
  unfold swapsWith
  simp only [hb, ky, ha, Expr.pos, hl]
  rfl
end K7
set_option Elab.async false
set_option linter.all false
set_option maxRecDepth 100000
set_option maxHeartbeats 2000000
namespace RC
open PySem PySem.Spec PyProof.Rows L2
theorem tracedZ_but {h h' B : Heap} {e C : Addr} {Z : Obj → Prop} {fl : Value} {m : Str → Option Value} (t : HandSPX.TracedZ h B e Z fl) (hn : h.Ns C m) (hs : Heap.SameBut C h h') : HandSPX.TracedZ h' B e Z fl := by
  obtain ⟨oe, vs, T, oT, ts, he, hz, hd, h1, hnT, hTe, hT, hdT, h3⟩ := t
  obtain ⟨oC, es, ep, hoC, hdC, _⟩ := hn
  have n1 : e ≠ C := fun z => by
    rw [z, hoC] at he
    cases he
    rw [hdC] at hd; cases hd
  have n2 : T ≠ C := fun z => by
    rw [z, hoC] at hT
    cases hT
    rw [hdC] at hdT; cases hdT
  exact ⟨oe, vs, T, oT, ts, (hs.2 e n1).trans he, hz, hd, h1, hnT, hTe, (hs.2 T n2).trans hT, hdT, h3⟩
def FlyC (X : Cx) (W : WX) (C : Addr) (u : Value) (s' : Shared) : Prop :=
  ∃ (a : Addr) (B : Heap) (sI : Shared) (pins : List (Addr × Obj)) (σ : L2.St) (H : Hp) (cls : Value) (d : Option Addr),
    u = .ref a ∧ Inv X pins σ H sI ∧ (∀ b o, sI.heap.get? b = some o → b ∉ frs X.stack → B.get? b = some o) ∧ sI.heap.UpToSlots s'.heap ∧
      HandSPX.FlyingZ B X.stack a (Zc cls d) s'.heap ∧ H a = none ∧ s'.os = sI.os ∧ AllBare s'.gens ∧ W cls d σ H ∧ B.get? C = none ∧ sI.heap.get? C = none
section
variable {X : Cx} {s' : Shared}
theorem noted {W : WX} {u : Value} {m : Str → Option Value} {cenv : Env} (hs : X.stack = X.env :: X.outer) (hf : X.env.frame = some X.env.locals) (hcf : cenv.frame = X.env.frame) (tk : Takes X W) (x : FlyC X W cenv.locals u s') (hn : s'.heap.Ns cenv.locals m) :
    notedBy (model X.prog X.w) X.A cenv (fun e s'' => CompFails (model X.prog X.w) X.A X.xe cenv e s'') u s' := by
  obtain ⟨a, B, sI, pins, σ, H, cls, d, rfl, I, nb, up, fl, na, os, ag, w, bC, iC⟩ := x
  have hfr : X.A.frames = some (X.env :: X.outer) := by rw [I.ok.frames, hs]
  show wpAny _ X.A (noteFrame (.ref a) cenv) _ _ s'
  rw [noteFrame_env _ hcf]
  rw [hs] at fl
  refine HandSPX.looks_onZ Zc.steady hfr hf fl fun h1 hh1 up1 => ?_
  obtain ⟨k1, k2, k3, k4⟩ := hh1
  have hn1 : h1.Ns cenv.locals m := up1.ns hn
  refine ⟨m, hn1, fun h2 m2 hn2 hs2 => ?_⟩
  have k1' : B.StaysIn h2 := fun b o hb => (hs2.2 b fun q => by rw [q, bC] at hb; cases hb).trans (k1 b o hb)
  have k3' : h2.FunFrames B (X.env :: X.outer) := Heap.FunFrames.sameBut hs2 hn2 k3
  have k4' := tracedZ_but k4 hn1 hs2
  have hh2 : HandSPX.HeldZ B (X.env :: X.outer) a (Zc cls d) X.env.locals h2 := ⟨k1', k2, k3', k4'⟩
  obtain ⟨oe, vs, T, oT, ts, he, hz, hd, e1, _⟩ := id k4'
  unfold PySem.passOn
  refine wpAny_bind (wpAny_field he hd e1 ?_)
  rw [if_neg (show ¬ ((Value.ref T == Value.none) = true) from by simp)]
  rw [hcf, hf]
  refine wpAny_bind (HandSPX.setFlight_onZ hh2 fun h3 hh3 up3 => wpAny_throw (tk _ _ ?_))
  refine ⟨a, B, sI, pins, σ, H, cls, d, rfl, I, nb, fun b o e nf => ?_, .inr (.inr (by rw [hs]; exact hh3)), na, os, ag, w⟩
  obtain ⟨sl, q⟩ := (up.trans up1) b o e nf
  have nC : b ≠ cenv.locals := fun z => by rw [z, iC] at e; cases e
  obtain ⟨sl2, q2⟩ := up3 b _ ((hs2.2 b nC).trans q) nf
  exact ⟨sl2, q2⟩
theorem fly_of {W : WX} {pins : List (Addr × Obj)} {σ : L2.St} {H : Hp} {s sO : Shared} {E : XK} {C : Addr} {oC : Obj} {u : Value} (I : Inv X pins σ H sO) (hO : sO.heap.get? C = none) (kO : ∀ b o, sO.heap.get? b = some o → s.heap.get? b = some o) (osO : sO.os = s.os) (hC : s.heap.get? C = some oC) (nC : H C = none) (fC : C ∉ frs X.stack)
    (hW : ∀ cls d H', E cls d H' → W cls d σ H') (c : L2.CX X.prog X.w X.stack H s E u s') : FlyC X W C u s' := by
  obtain ⟨a, B0, H', cls, d, rfl, fl0, hok0, ub, na, os, ag, hE⟩ := c
  obtain ⟨B, r1, r2⟩ := restrict B0 fun b => decide (b ≠ C)
  have nC' : H' C = none := ub.free C oC hC nC
  have bs : ∀ b o, B.get? b = some o → B0.get? b = some o ∧ b ≠ C := fun b o e => by
    by_cases z : b = C
    · rw [r2 b (by simp [z])] at e; cases e
    · rw [r1 b (by simp [z])] at e
      exact ⟨e, z⟩
  have bn : ∀ b, B0.get? b = none → B.get? b = none := fun b e => by
    cases q : B.get? b with
    | none => rfl
    | some o => rw [(bs b o q).1] at e; cases e
  have fl : HandSPX.FlyingZ B X.stack a (Zc cls d) s'.heap := by
    obtain ⟨f1, f2, f3, oe, vs, T, oT, ts, he, hz, hd, h1, hnT, rest⟩ := fl0
    exact ⟨fun b o e => f1 b o (bs b o e).1, bn _ f2, funFrames_none f3 fun L hL => bn _ (by
      obtain ⟨q, _⟩ := f3.mem hL
      exact q), oe, vs, T, oT, ts, he, hz, hd, h1, bn _ hnT, rest⟩
  have hok : HOk X.prog X.w H' B := fun b o q => (hok0 b o q).stay (fun c u hc r => by
    have z : c ≠ C := fun z => by
      rcases hc with hc | hc
      · rw [hc] at z
        rw [z, nC'] at q; cases q
      · rw [z, nC'] at hc; cases hc
    rw [r1 c (by simp [z])]
    exact r) (fun _ r => r) fun _ _ r => r
  obtain ⟨G, g1, g2⟩ := restrict s'.heap fun b => (B.get? b).isSome || decide (b ∈ frs X.stack)
  have st : B.StaysIn s'.heap := fl.1
  have gB : ∀ b o, B.get? b = some o → G.get? b = some o := fun b o e => by
    rw [g1 b (by simp [e])]
    exact st b o e
  have gF : ∀ b, b ∈ frs X.stack → G.get? b = s'.heap.get? b := fun b hb => g1 b (by simp [hb])
  have og : ∀ b o, G.get? b = some o → s'.heap.get? b = some o ∧ ((B.get? b).isSome = true ∨ b ∈ frs X.stack) := fun b o e => by
    cases q : ((B.get? b).isSome || decide (b ∈ frs X.stack)) with
    | false => rw [g2 b q] at e; cases e
    | true =>
      rw [g1 b q] at e
      exact ⟨e, by simpa [Bool.or_eq_true] using q⟩
  have bC : B.get? C = none := r2 C (by simp)
  have ne : ∀ b o, sO.heap.get? b = some o → b ≠ C := fun b o e z => by rw [z, hO] at e; cases e
  have kB : ∀ b o, B0.get? b = some o → b ≠ C → B.get? b = some o := fun b o e z => by rw [r1 b (by simp [z])]; exact e
  refine ⟨a, B, { sO with heap := G, gens := s'.gens, drawn := s'.drawn, toks := s'.toks }, pins, σ, H', cls, d, rfl, ?_, fun b o e hb => ?_, Heap.UpToSlots.of_keeps fun b o e => (og b o e).1, fl, na, os.trans osO.symm, ag, hW _ _ _ hE, bC, ?_⟩
  · refine I.call (ch := []) ⟨fun b o e n hb _ => gB b o (kB b o (ub.keep b o (kO b o e) n hb) (ne b o e)), fun b o e n hb _ => ?_, fun b o e n _ => ub.free b o (kO b o e) n, fun b o e _ => ?_, ub.tups, ub.frzs, ub.tbls⟩ (hok.kept gB) ag (fun _ z => nomatch z)
    · obtain ⟨sl, q⟩ := ub.slot b o (kO b o e) hb
      exact ⟨sl, by rw [gF b hb]; exact q⟩
    · by_cases hb : b ∈ frs X.stack
      · obtain ⟨sl, q⟩ := ub.slot b o (kO b o e) hb
        exact ⟨_, by rw [gF b hb]; exact q⟩
      · obtain ⟨o', q⟩ := ub.there b o (kO b o e) hb
        exact ⟨o', gB b o' (kB b o' q (ne b o e))⟩
  · obtain ⟨e', h⟩ := og b o e
    rcases h with h | h
    · obtain ⟨o', q⟩ := Option.isSome_iff_exists.mp h
      have z := st b o' q
      rw [e'] at z; cases z
      exact q
    · exact absurd h hb
  · exact g2 C (by rw [bC]; simp [fC])
end
end RC
set_option Elab.async false
set_option linter.all false
set_option maxRecDepth 100000
set_option maxHeartbeats 2000000
namespace RC
open PySem PySem.Spec PyProof.Rows L2
abbrev blkX (X : Cx) (s : Shared) (H : Hp) (scope : Scope) (cenv : Env) (fp : List Addr) (xe : Value → Shared → Prop) : Cx := { X.blk s H scope cenv fp with xe := xe }
theorem inv_blkX {X : Cx} {s : Shared} {H H' : Hp} {scope : Scope} {cenv : Env} {fp : List Addr} {xe : Value → Shared → Prop} {pins : List (Addr × Obj)} {σ : L2.St} {s' : Shared} (I : Inv (X.blk s H scope cenv fp) pins σ H' s') : Inv (blkX X s H scope cenv fp xe) pins σ H' s' :=
  Inv.unwish (X := blkX X s H scope cenv fp xe) (E := fun _ _ => False) I
section
variable {X : Cx}
def PassB (X : Cx) (E : XK) (Y : Cx) : Prop := Passes (L2.CX X.prog X.w) Y E
theorem ns_keeps {h h' : Heap} {C : Addr} {m : Str → Option Value} (n : h.Ns C m) (k : ∀ o, h.get? C = some o → h'.get? C = some o) : h'.Ns C m := by
  obtain ⟨o, es, ep, h1, r⟩ := n
  exact ⟨o, es, ep, k o h1, r⟩
theorem pe_lcX {elt tg iter : Expr} {ifs : List Expr} {scope : Scope} {own : List (Str × Nat)} {pos : Pos} {wi : TI} {g : TG} {tt : TT} {te : TE} {E : XK} (hc : X.calm = true) (hN : X.N.Nodup) (hst : X.stack = X.env :: X.outer) (hf : X.env.frame = some X.env.locals) (tk : Takes X (fun cls d _ H => E cls d H)) (hi : PI X tg iter wi) (ok : BlkOk X.N X.env.scope scope own)
    (hg : ∀ (s : Shared) (H : Hp) (C : Addr) (cl : List (Str × Addr)) (fp : List Addr) (xe : Value → Shared → Prop), PassB X E (blkX X s H scope (compEnvC scope cl C X.env) fp xe) → PG (blkX X s H scope (compEnvC scope cl C X.env) fp xe) tg g)
    (ht : ∀ (s : Shared) (H : Hp) (C : Addr) (cl : List (Str × Addr)) (fp : List Addr) (xe : Value → Shared → Prop), PassB X E (blkX X s H scope (compEnvC scope cl C X.env) fp xe) → PTs (blkX X s H scope (compEnvC scope cl C X.env) fp xe) ifs tt)
    (he : ∀ (s : Shared) (H : Hp) (C : Addr) (cl : List (Str × Addr)) (fp : List Addr) (xe : Value → Shared → Prop), PassB X E (blkX X s H scope (compEnvC scope cl C X.env) fp xe) → PE (blkX X s H scope (compEnvC scope cl C X.env) fp xe) elt te) (hs : ∀ x, foldedSetIterable iter X.env x = pure x := by intro _; rfl) :
    PE X (.ListComp elt [⟨tg, iter, ifs, 0⟩] scope pos) (tLc wi g tt te (own.map (·.2))) := by
  refine ⟨fun pins s σ H Q I h => ?_⟩
  rw [eval_ListComp]
  have hfree : ∀ y ∈ scope.names, y.2 = .free → ∃ c, X.env.cells.lookup y.1 = some c := fun y hy e => (ok.free y hy e).elim (fun k => I.ok.has _ (.inl k)) fun k => I.ok.has _ (.inr k)
  refine comprehension_at (use := none) rfl hs (closure_ok hfree) ok.kind (fun y hy e => by rw [ok.uniq y hy, e]) (thn (hi.run pins s σ H _ I h) fun xv s1 hx => thn hx fun itv s2 ⟨it, fp, tn, J, H2, e, I2, T, st2, f2, q⟩ => ?_)
  subst e
  refine wpAny_newObj_type (newEnv_comp ?_) (by show 0 ≤ sizeLine; decide)
  generalize hD : s2.heap.objs.size = D
  obtain ⟨W, ⟨m0, w0⟩, turn⟩ := q D (I2.hok.fresh (Nat.le_of_eq hD))
  generalize hs3 : ({ s2 with heap := s2.heap.push { cls := .type "list", data := .seq ([] : List Value).toArray } } : Shared) = s3
  have I3 : Inv X pins σ (upd H2 D (.lst [])) s3 := by
    rw [← hs3]
    refine I2.laid (t' := s2.toks) (fun b o e => Heap.get?_push_of_some _ e) (Nat.le_of_eq hD) ⟨Nat.zero_le _, [], 0, .nil, ?_⟩
    rw [← hD]
    exact Heap.get?_push_size _ rfl
  have h3 : s3.heap = s2.heap.push { cls := .type "list", data := .seq ([] : List Value).toArray } := by rw [← hs3]
  have f3 : ∀ b ∈ fp, FpOk X pins (upd H2 D (.lst [])) b ∧ b < s3.heap.objs.size := fun b hb => by
    obtain ⟨o, e, _⟩ := T.obj _ _ st2 b hb
    have hlt := Heap.lt_size e
    refine ⟨⟨?_, (f2 b hb).2⟩, by rw [h3, Heap.size_push]; exact Nat.lt_succ_of_lt hlt⟩
    rw [upd_ne (by rw [← hD]; exact Nat.ne_of_lt hlt)]
    exact (f2 b hb).1
  have st3 : tn 0 s3.heap := T.keep _ _ _ st2 fun b _ o e => by rw [h3]; exact Heap.get?_push_of_some _ e
  have I4 := block_start I3 ok hN f3
  have pg := fun xe => hg s3 (upd H2 D (.lst [])) s3.heap.objs.size (cellsFrom (s3.heap.objs.size + 1) scope.names (cloFrom X.env.cells scope.names [])) fp xe
  have pt := fun xe => ht s3 (upd H2 D (.lst [])) s3.heap.objs.size (cellsFrom (s3.heap.objs.size + 1) scope.names (cloFrom X.env.cells scope.names [])) fp xe
  have pe := fun xe => he s3 (upd H2 D (.lst [])) s3.heap.objs.size (cellsFrom (s3.heap.objs.size + 1) scope.names (cloFrom X.env.cells scope.names [])) fp xe
  show codeAny _ _ (.compStart (.ListComp elt [⟨tg, iter, ifs, 0⟩] scope pos) 0 (.ref it) (.ref D) (compEnvC scope (cellsFrom (s3.heap.objs.size + 1) scope.names (cloFrom X.env.cells scope.names [])) s3.heap.objs.size X.env)) (compEnds (model X.prog X.w) X.A X.xe none (fun v s' => EP X pins σ Q v s') (.ref D) (compEnvC scope (cellsFrom (s3.heap.objs.size + 1) scope.names (cloFrom X.env.cells scope.names [])) s3.heap.objs.size X.env)) { s3 with heap := pushCells (s3.heap.push { cls := .type "dict", data := .dict #[] }) scope.names }
  have nfp : ∀ b ∈ fp, (upd H2 D (.lst [])) b = none := fun b hb => (f3 b hb).1.1
  generalize hce : compEnvC scope (cellsFrom (s3.heap.objs.size + 1) scope.names (cloFrom X.env.cells scope.names [])) s3.heap.objs.size X.env = ce at I4 pg pt pe ⊢
  have cL : ce.locals = s3.heap.objs.size := by subst hce; rfl
  have cF : ce.frame = X.env.frame := by subst hce; rfl
  generalize hH3 : upd H2 D (.lst []) = H3 at I3 I4 pg pt pe w0 nfp f3
  generalize hs4 : ({ s3 with heap := pushCells (s3.heap.push { cls := .type "dict", data := .dict #[] }) scope.names } : Shared) = s4 at I4 ⊢
  have st4 : tn 0 s4.heap := T.keep _ _ _ st3 fun b _ o e => by rw [← hs4]; exact pushCells_keeps _ _ _ _ (Heap.get?_push_of_some _ e)
  generalize hxe : notedBy (model X.prog X.w) X.A ce (fun e s' => CompFails (model X.prog X.w) X.A X.xe ce e s') = xe
  have back : ∀ {pins' : List (Addr × Obj)} {σ' : L2.St} {H' : Hp} {s' : Shared}, Inv (blkX X s3 H3 scope ce fp xe) pins' σ' H' s' → Inv X pins σ H' s' := fun {pins' σ' H' s'} I' => I3.call' (ch := fp) I'.os I'.base I'.hok I'.bare fun b hb => ⟨(f3 b hb).1.2.2.2.1, (f3 b hb).1.2.1, (f3 b hb).1.2.2.2.2.1, (f3 b hb).1.2.2.2.2.2⟩
  have freeC : ∀ {pins' : List (Addr × Obj)} {σ' : L2.St} {H' : Hp} {s' : Shared}, Inv (blkX X s3 H3 scope ce fp xe) pins' σ' H' s' → H' ce.locals = none := fun I' => I'.free
  have pass : PassB X E (blkX X s3 H3 scope ce fp xe) := fun pins' σ' H' s5 u s' I' c => by
    have nC := freeC I'
    have I7 := back I'
    have nC' : H' s3.heap.objs.size = none := by rw [← cL]; exact nC
    obtain ⟨f0, f1, f2', f3', f4', f5'⟩ := I3.fpOk (Nat.le_refl _) nC'
    have fC : ce.locals ∉ frs X.stack := by
      rw [cL, hst]
      intro z
      obtain ⟨en, hen, hz⟩ := List.mem_filterMap.mp z
      rcases List.mem_cons.mp hen with rfl | hen
      · rw [hf] at hz
        exact f1 (Option.some.inj hz).symm
      · exact f2' (List.mem_filterMap.mpr ⟨en, hen, hz⟩)
    obtain ⟨mm, hn, _⟩ := I'.loc
    have hn : s5.heap.Ns ce.locals mm := hn
    obtain ⟨oC, es, ep, hoC, rest⟩ := id hn
    obtain ⟨hO, r1, r2⟩ := restrict s5.heap fun b => decide (b ≠ ce.locals)
    have kO : ∀ b o, hO.get? b = some o → s5.heap.get? b = some o := fun b o e => by
      by_cases z : b = ce.locals
      · rw [r2 b (by simp [z])] at e; cases e
      · rw [r1 b (by simp [z])] at e; exact e
    have IO : Inv X pins σ H' { s5 with heap := hO, toks := s5.toks } := by
      refine I7.turned (it := s3.heap.objs.size) (t' := s5.toks) (fun b o hb e => ?_) f0 f1 f3' f4' f5'
      rw [r1 b (by rw [cL]; simp [hb])]
      exact e
    have fly : FlyC X (fun cls d _ H => E cls d H) ce.locals u s' := fly_of (s := s5) (sO := { s5 with heap := hO, toks := s5.toks }) (oC := oC) IO (r2 _ (by simp)) kO rfl hoC nC fC (fun _ _ _ z => z) c
    have hn' : s'.heap.Ns ce.locals mm := ns_keeps hn fun o ho => by
      obtain ⟨a, B, H6, cls, d, _, fl, _, ub, _⟩ := c
      exact fl.1 _ _ (ub.keep _ _ ho nC fC)
    rw [← hxe]
    exact noted hst hf cF tk fly hn'
  have stat : ∀ {σ' : L2.St} {H' : Hp} {s' : Shared}, Inv (blkX X s3 H3 scope ce fp xe) [] σ' H' s' → (∀ b ∈ fp, H' b = none) → ∀ b ∈ fp, FpOk (blkX X s3 H3 scope ce fp xe) [] H' b := fun {σ' H' s'} I' hn b hb =>
    ⟨hn b hb, (I'.ok.exf b hb).1, I'.ok.exfs b hb, .inl hb, fun x c e => (I'.ok.exf b hb).2 x c e, fun p hp => absurd (show p ∈ ([] : List (Addr × Obj)) ++ [] from hp) (by simp)⟩
  have loop : codeAny (model X.prog X.w) X.A (.compLoop (.ListComp elt [⟨tg, iter, ifs, 0⟩] scope pos) 0 (.ref it) (.ref D) ce) (compEnds (model X.prog X.w) X.A X.xe none (fun v s' => EP X pins σ Q v s') (.ref D) ce) s4 := by
    refine compLoop_any (fun n s' => ∃ i H', Inv (blkX X s3 H3 scope ce fp xe) [] (wipe σ (own.map (·.2))) H' s' ∧ tn i s'.heap ∧ (∀ b ∈ fp, H' b = none) ∧ W i n H') ?_ m0 ⟨0, H3, inv_blkX I4, st4, nfp, w0⟩
    rintro n s5 ⟨i, H5, I5, st5, n5, w5⟩
    have err : ∀ {α : Type} {t : Sem α} {R R' : α → Shared → Prop} {sx : Shared}, wpAny (model X.prog X.w) X.A t R xe sx → (∀ a s', R a s' → R' a s') → wpAny (model X.prog X.w) X.A t R' (notedBy (model X.prog X.w) X.A ce fun e s' => compEnds (model X.prog X.w) X.A X.xe none (fun v s' => EP X pins σ Q v s') (.ref D) ce (.error e) s') sx := fun hw hR => by
      refine wpAny_mono hw hR fun e s' he => ?_
      rw [← hxe] at he
      exact he
    rcases turn i n H5 w5 with ⟨stop, qq⟩ | ⟨go, Nx, hNx, step⟩
    · refine thnF (T.done (blkX X s3 H3 scope ce fp xe) rfl rfl rfl hc i [] s5 _ H5 (fun _ _ => False) I5 (stat I5 n5) st5 stop) fun r s6 ⟨hr, I6⟩ => ?_
      subst hr
      have nC : H5 s3.heap.objs.size = none := by rw [← cL]; exact freeC I6
      obtain ⟨m, hn, _⟩ := I6.loc
      have hn : s6.heap.Ns ce.locals m := hn
      refine ⟨m, hn, fun h'' sb => ?_⟩
      obtain ⟨f0, f1, f2, f3, f4, f5⟩ := I3.fpOk (Nat.le_refl _) nC
      exact ⟨.ref D, H5, (back I6).turned (t' := s6.toks) (fun b o hb e => (sb.2 b (by rw [cL]; exact hb)).trans e) f0 f1 f3 f4 f5, rfl, qq⟩
    · refine thnF (T.item (blkX X s3 H3 scope ce fp xe) rfl rfl rfl hc i [] s5 _ H5 (fun _ _ => False) I5 (stat I5 n5) st5 go) fun r s6 ⟨u, hr, h6⟩ => ?_
      subst hr
      refine thnF h6 fun _ s7 ⟨x, H7, I7, r7, y7, st7, n7⟩ => ?_
      have I7' := I7.pinned (stat I7 n7) (T.obj _ _ st7)
      refine err ((pg xe pass).run _ s7 _ H7 x u _ I7' r7 (step x H7 y7)) fun _ s8 ⟨σ8, H8, I8, hw8, q8⟩ => ?_
      refine err ((pt xe pass).run _ s8 σ8 H8 _ I8 q8) fun b s9 ⟨H9, I9, q9⟩ => ?_
      have fin : ∀ {s' : Shared} {H' : Hp}, Inv (blkX X s3 H3 scope ce fp xe) ([] ++ pinsAt fp s7.heap) σ8 H' s' → Nx H' → ∃ m, m < n ∧ ∃ i H', Inv (blkX X s3 H3 scope ce fp xe) [] (wipe σ (own.map (·.2))) H' s' ∧ tn i s'.heap ∧ (∀ b ∈ fp, H' b = none) ∧ W i m H' := fun {s' H'} I' nx => by
        obtain ⟨m', hm, w'⟩ := hNx H' nx
        have pin' : ∀ b ∈ fp, ∀ o, s7.heap.get? b = some o → s'.heap.get? b = some o ∧ H' b = none := fun b hb o e =>
          let z := I'.pin (b, o) (List.mem_append_right _ (List.mem_append_right _ (mem_pinsAt hb e)))
          ⟨z.1, z.2.1⟩
        refine ⟨m', hm, i + 1, H', (I'.unpinned (pins := [])).weak (by rw [← hw8, wipe_length]) (fun j v e => (wipe_some (by rw [hw8]; exact e)).1), T.keep _ _ _ st7 fun b hb o e => (pin' b hb o e).1, fun b hb => ?_, w'⟩
        obtain ⟨o, e, _⟩ := T.obj _ _ st7 b hb
        exact (pin' b hb o e).2
      cases b with
      | false =>
        simp only [Bool.false_eq_true, if_false] at q9 ⊢
        exact fin I9 q9
      | true =>
        simp only [if_true] at q9 ⊢
        refine err ((pe xe pass).run _ s9 σ8 H9 _ I9 q9) fun z s10 ⟨yv, H10, I10, r10, acc, hD10, hz10, nx⟩ => ?_
        exact app_ok (X := blkX X s3 H3 scope ce fp xe) I10 hD10 hz10 r10 fun s11 I11 => fin I11 nx
  exact codeAny_compStart_list loop (T.self X.A 0 _ _ _ st4 loop)
end
end RC
set_option Elab.async false
set_option linter.all false
set_option maxRecDepth 100000
set_option maxHeartbeats 2000000
namespace RC
open PySem PySem.Spec PyProof.Rows L2
section
variable {X : Cx} {pins : List (Addr × Obj)} {σ : L2.St} {H : Hp} {s : Shared}
theorem inv_drop {ch : List Addr} {hO : Heap} (I : Inv X pins σ H s) (k : ∀ b o, b ∉ ch → s.heap.get? b = some o → hO.get? b = some o) (hn : ∀ b ∈ ch, H b = none) (hb : ∀ b ∈ ch, X.s_0.heap.get? b = none) (hL : ∀ b ∈ ch, b ≠ X.env.locals) (hf : ∀ b ∈ ch, ∃ o vs, s.heap.get? b = some o ∧ o.data = .fields vs) (hp : ∀ p ∈ X.pn ++ pins, p.1 ∉ ch) : Inv X pins σ H { s with heap := hO } := by
  have s0 : ∀ {b : Addr} {o : Obj}, X.s_0.heap.get? b = some o → b ∉ ch := fun {b o} e hc => by rw [hb b hc] at e; cases e
  have cl : ∀ {c : Addr} {v : Option Value}, s.heap.IsCell c v → hO.IsCell c v := fun {c v} ⟨o, ho, hd⟩ => ⟨o, k c o (fun hc => by
    obtain ⟨o', vs, e', hd'⟩ := hf c hc
    rw [ho] at e'
    cases e'
    rw [hd] at hd'; cases hd') ho, hd⟩
  refine ⟨I.ok, I.os, I.bare, ⟨fun b o e n h1 h2 => k b o (s0 e) (I.base.keep b o e n h1 h2), fun b o e n h1 h2 => ?_, I.base.free, fun b o e h1 => ?_, I.base.tups, I.base.frzs, I.base.tbls⟩, ?_, fun x c e => ?_, I.free, I.freeC, fun p q => ?_, fun b u q => ?_, I.len⟩
  · obtain ⟨sl, z⟩ := I.base.slot b o e n h1 h2
    exact ⟨sl, k b _ (s0 e) z⟩
  · obtain ⟨o', z⟩ := I.base.there b o e h1
    exact ⟨o', k b _ (s0 e) z⟩
  · obtain ⟨m, hns, hl⟩ := I.loc
    refine ⟨m, ns_keeps hns fun o ho => k _ o (fun hc => hL _ hc rfl) ho, fun i x v e1 e2 e3 => ?_⟩
    obtain ⟨u, r, q⟩ := hl i x v e1 e2 e3
    refine ⟨u, r, ?_⟩
    rcases q with q | ⟨q1, c, q2, q3⟩
    · exact .inl q
    · exact .inr ⟨q1, c, q2, cl q3⟩
  · obtain ⟨v, z⟩ := I.cell x c e
    exact ⟨v, cl z⟩
  · obtain ⟨z1, z2⟩ := I.pin p q
    exact ⟨k _ _ (hp p q) z1, z2⟩
  · exact (I.hok b u q).stay (fun c v hc r => k c v (fun hch => by
      have z := hn c hch
      rcases hc with hc | hc
      · rw [hc, q] at z; cases z
      · rw [hc] at z; cases z) r) (fun _ r => r) fun _ _ r => r
end
def wAgain (K : PySem.W.Frag) (c : Value) (ts : TS) (Wout : WX) : WX := fun cls d σ H =>
  ∃ b, PySem.W.exmOne K cls c = some b ∧ (b = true → ts { nx := fun σ' H' => Wout cls d σ' H', rt := fun _ _ => False, bk := fun _ _ => False, ct := fun _ _ => False } σ H) ∧ (b = false → Wout cls d σ H)
section
variable {X : Cx} {x : Str} {c : Value} {body : List Stmt} {b₀ : Stmt} {np pos pos' pr : Pos} {tb : WX → TS} {ts : TS} {Wout : WX}
theorem ps_try_again (hs : X.stack = X.env :: X.outer) (hf : X.env.frame = some X.env.locals) (hex : X.ex = []) (hc : Names X x c) (hpa : ∀ hd : Option Value, PassesOwnAt (model X.prog X.w) (X.A.mark hd) X.A X.env X.xe) (tk : Takes X Wout)
    (hb : ∀ (W : WX) (pn : List (Addr × Obj)) (xe : Value → Shared → Prop), Takes (X.tr pn xe) W → PassesOwn (model X.prog X.w) X.A X.env xe → PSs (X.tr pn xe) body (tb W))
    (hsu : ∀ (a : Addr) (pn : List (Addr × Obj)), PS (X.suite a pn) b₀ ts) :
    PS X (.Try body [.ExceptHandler (some (.Name x np)) none [b₀, .Raise none none pr] pos'] [] [] pos) (fun D σ H => tb (wAgain X.K c ts Wout) D σ H) := by
  refine ⟨fun pins s σ H D I h => ?_⟩
  have ok := I.ok
  have hfr : X.A.frames = some (X.env :: X.outer) := by rw [ok.frames, hs]
  refine wpAny_Try_except ?_
  refine wpAny_mono ((hb (wAgain X.K c ts Wout) (X.pn ++ pins) (fun e s₁ => wpAny (model X.prog X.w) X.A (noteFrame e X.env) (fun _ s₂ => wpAny (model X.prog X.w) X.A (setFlight e none) (fun _ s₃ =>
    wpAny (model X.prog X.w) X.A (handleBy e X.env [.ExceptHandler (some (.Name x np)) none [b₀, .Raise none none pr] pos']) (SP X pins D) X.xe s₃) X.xe s₂) X.xe s₁) (fun u s' xx => ?_) PassesOwn.looking).run [] s σ H D (I.toTry _) h) (fun f s1 hsp => ?_) (fun e s1 he => he)
  · obtain ⟨a, B, sI, pins', σ', H', cls, d, rfl, J', nb, up, sky, na, os, ag, b, hb1, hyes, hno⟩ := xx
    have J : Inv X pins σ' H' sI := J'.ofTry ok
    have sky' : Sky B (X.env :: X.outer) a (Zc cls d) X.env.locals s'.heap := by rw [← hs]; exact sky
    show wpAny (model X.prog X.w) X.A (noteFrame (.ref a) X.env) _ _ _
    refine Sky.land Zc.steady hfr hf sky' fun h3 fl3 up3 => ?_
    have J3 : Inv X pins σ' H' { s' with heap := h3 } := J.landed nb fl3.1 (up.trans up3) os ag
    obtain ⟨oe3, vs3, he3, hz3, hd3⟩ := fl3.there
    have notFr : ∀ {h : Heap} {a : Addr} {o : Obj} {vs : Array Value}, h.FunFrames B (X.env :: X.outer) → h.get? a = some o → o.data = .fields vs → a ∉ frs (X.env :: X.outer) := fun {h a o vs} ff e dd hm => by
      obtain ⟨_, o', e', hnf⟩ := ff.mem hm
      rw [e] at e'; cases e'
      exact hnf _ dd
    have nLF : ∀ {b : Addr}, b ∉ frs (X.env :: X.outer) → b ≠ X.env.locals ∧ b ∉ X.fs := fun {b} nfr => ⟨fun z => nfr (List.mem_filterMap.mpr ⟨X.env, List.mem_cons_self, by rw [hf, z]⟩), fun hm => by
      obtain ⟨e, he, q⟩ := List.mem_filterMap.mp hm
      exact nfr (List.mem_filterMap.mpr ⟨e, List.mem_cons_of_mem _ he, q⟩)⟩
    have nfr := notFr fl3.2.2.1 he3 hd3
    obtain ⟨nL, nF⟩ := nLF nfr
    have S3 := J3.suite he3 hd3 na nL nF
    refine wpAny_handleBy_cons (codeAny_handlers_test ?_) (by intro q; cases q)
    have LT : PySem.W.Looks (model X.prog X.w) h3 (typeOf (.ref a)) cls := fun A Q E s k q => wpAny_typeOf_ref (k _ _ he3) (by rw [hz3.1]; exact q)
    have LM := PySem.W.exm_one (M := model X.prog X.w) (J3.kIn) LT hb1
    have test : ∀ {Q : Value → Shared → Prop} {E : Value → Shared → Prop}, Q c { s' with heap := h3 } → wpAny (model X.prog X.w) (X.A.mark (some (.ref a))) (eval (.Name x np) X.env) Q E { s' with heap := h3 } := fun {Q E} q => by
      obtain ⟨hg, hdbg, hm | ⟨hm, hv, hnn⟩⟩ := hc
      · exact ld_glob (X := X.suite a ((a, oe3) :: (X.pn ++ pins))) S3 hg hm q hdbg
      · exact ld_blt (X := X.suite a ((a, oe3) :: (X.pn ++ pins))) S3 hg hm hv q hnn hdbg
    refine test (LM.here ?_)
    have old : ∀ {b : Addr}, B.get? b = none → b ∉ frs (X.env :: X.outer) → X.s_0.heap.get? b = none ∧ ∀ p ∈ X.pn ++ pins, p.1 ≠ b := fun {b} e nf => by
      have e1 : sI.heap.get? b = none := by
        cases q : sI.heap.get? b with
        | none => rfl
        | some o =>
          have := nb b o q (by rw [hs]; exact nf)
          rw [e] at this; cases this
      refine ⟨?_, fun p hp z => ?_⟩
      · cases q : X.s_0.heap.get? b with
        | none => rfl
        | some o =>
          obtain ⟨o', r⟩ := J.base.there b o q (by rw [hex]; simp)
          rw [e1] at r; cases r
      · have := (J.pin p hp).1
        rw [z, e1] at this; cases this
    cases b with
    | true =>
      refine codeAny_handlers_suite ?_
      refine HandSPX.lands_againZ fl3 fun h4 fl4 up4 => ?_
      have J4 : Inv X pins σ' H' { s' with heap := h4 } := J.landed nb fl4.1 ((up.trans up3).trans up4) os ag
      obtain ⟨k1, k2, k3, oe4, vs4, T, oT, ts4, he4, hz4, hd4, h14, hnT, hTe, hT, hdT, h34⟩ := id fl4
      have nfT := notFr k3 hT hdT
      obtain ⟨nLT, nFT⟩ := nLF nfT
      have nT : H' T = none := (J.inGround nb).gone hnT
      have S4 : Inv (X.suite a ((a, oe4) :: (X.pn ++ pins))) [(T, oT)] σ' H' { s' with heap := h4 } := (J4.suite he4 hd4 na nL nF).pins_of fun p hp => by
        rw [List.mem_singleton.mp hp]
        exact ⟨hT, nT, nLT, nFT, fun v z => by rw [show oT.data = .cell v from z] at hdT; cases hdT⟩
      refine wpAny_execs_cons (wpAny_mono ((hsu a ((a, oe4) :: (X.pn ++ pins))).run [(T, oT)] _ _ H' _ S4 (hyes rfl)) (fun f s6 hsp => ?_) (fun _ _ z => False.elim z))
      cases f with
      | brk =>
        obtain ⟨_, _, _, q6⟩ := hsp
        exact False.elim q6
      | cont =>
        obtain ⟨_, _, _, q6⟩ := hsp
        exact False.elim q6
      | ret u =>
        obtain ⟨_, _, _, _, _, q6⟩ := hsp
        exact False.elim q6
      | next =>
        obtain ⟨σ6, H6, S6, q6⟩ := hsp
        obtain ⟨pa, na6, _⟩ := S6.pin (a, oe4) (List.mem_append_left _ List.mem_cons_self)
        obtain ⟨pT, nT6, _⟩ := S6.pin (T, oT) (List.mem_append_right _ (List.mem_singleton.mpr rfl))
        have J6 : Inv X pins σ6 H6 s6 := S6.unsuite ok
        obtain ⟨hO, r1, r2⟩ := restrict s6.heap fun b => decide (b ∉ [a, T])
        have kO : ∀ b o, hO.get? b = some o → s6.heap.get? b = some o ∧ b ∉ [a, T] := fun b o e => by
          by_cases z : b ∈ [a, T]
          · rw [r2 b (decide_eq_false fun h => h z)] at e; cases e
          · rw [r1 b (decide_eq_true z)] at e; exact ⟨e, z⟩
        have kI : ∀ b o, b ∉ [a, T] → s6.heap.get? b = some o → hO.get? b = some o := fun b o z e => by rw [r1 b (decide_eq_true z)]; exact e
        obtain ⟨oa0, oa1⟩ := old k2 nfr
        obtain ⟨oT0, oT1⟩ := old hnT nfT
        have two : ∀ {R : Addr → Prop}, R a → R T → ∀ b ∈ [a, T], R b := fun ha hT b hb => by
          rcases List.mem_cons.mp hb with e | hb
          · rw [e]; exact ha
          · rw [List.mem_singleton.mp hb]; exact hT
        have IO : Inv X pins σ6 H6 { s6 with heap := hO } := inv_drop J6 kI (two na6 nT6) (two oa0 oT0) (two nL nLT) (two ⟨_, _, pa, hd4⟩ ⟨_, _, pT, hdT⟩) fun p hp hm => by
          rcases List.mem_cons.mp hm with e | hm
          · exact oa1 p hp e
          · exact oT1 p hp (List.mem_singleton.mp hm)
        obtain ⟨B6, hB6⟩ : ∃ B6, B6 = PySem.W.hideAll hO (frs X.stack) := ⟨_, rfl⟩
        have hB : ∀ b o, B6.get? b = some o → hO.get? b = some o := fun b o e => by rw [hB6] at e; exact PySem.W.of_hideAll _ e
        have gB : ∀ b o, hO.get? b = some o → b ∉ frs X.stack → B6.get? b = some o := fun b o e hb => by rw [hB6]; exact PySem.W.hideAll_get _ e hb
        have nB : ∀ b ∈ frs X.stack, B6.get? b = none := fun b hb => by rw [hB6]; exact PySem.W.hideAll_none _ hb
        clear hB6
        have bN : ∀ {b : Addr}, b ∈ [a, T] → B6.get? b = none := fun {b} hb => by
          cases q : B6.get? b with
          | none => rfl
          | some o => exact absurd hb (kO b o (hB b o q)).2
        have ff : s6.heap.FunFrames B6 X.stack := Heap.FunFrames.of_keeps (fun b o e _ => ⟨o, (kO b o e).1, rfl⟩) (funFrames_none IO.stack nB)
        have fl6 : HandSPX.FlyingZ B6 (X.env :: X.outer) a (Zc cls d) s6.heap :=
          ⟨fun b o e => (kO b o (hB b o e)).1, bN List.mem_cons_self, by rw [← hs]; exact ff, oe4, vs4, T, oT, ts4, pa, hz4, hd4, h14, bN (List.mem_cons_of_mem _ (List.mem_singleton.mpr rfl)), hTe, pT, hdT, h34⟩
        refine wpAny_execs_cons (wpAny_mono (Q := fun _ _ => False) (E := X.xe) ?_ (fun _ _ z => z.elim) (fun e s z => hpa _ e s z))
        refine wpAny_Raise_bare ?_
        unfold raiseBare raiseStmt
        dsimp only
        refine wpAny_bind (wpAny_handled ?_)
        show wpAny (model X.prog X.w) (X.A.mark (some (.ref a))) _ _ _ _
        rw [show (X.A.mark (some (.ref a))).handled = some (.ref a) from rfl]
        dsimp only
        refine wpAny_bind (wpAny_rule ?_)
        refine wpAny_bind (wpAny_field pa hd4 h14 ?_)
        rw [if_neg (show ¬ ((Value.ref T == Value.none) = true) from by simp)]
        rw [hf]
        have last : ∀ {α : Type}, wpAny (model X.prog X.w) (X.A.mark (some (.ref a))) (setFlight (.ref a) (some X.env.locals)) (fun _ s7 => wpAny (model X.prog X.w) (X.A.mark (some (.ref a))) (throw (.ref a) : Sem α) (fun _ _ => False) X.xe s7) X.xe s6 := fun {α} =>
          HandSPX.setFlight_upZ fl6 fun h7 hh7 up7 => wpAny_throw (tk _ _ ⟨a, _, { s6 with heap := hO }, pins, σ6, H6, cls, d, rfl, IO, gB, (Heap.UpToSlots.of_keeps fun b o e => (kO b o e).1).trans up7, .inr (.inr (by rw [hs]; exact hh7)), na6, rfl, S6.bare, q6⟩)
        first
          | exact wpAny_bind last
          | exact wpAny_bind (wpAny_pure (wpAny_bind last))
    | false =>
      show wpAny _ X.A (handleBy (.ref a) X.env []) _ _ _
      refine wpAny_handleBy_nil ?_
      obtain ⟨k1, k2, k3, oe, vs, T, oT, ts', he, hz, hd, h1, hr⟩ := id fl3
      unfold PySem.passOn
      refine wpAny_bind (wpAny_field he hd h1 ?_)
      rw [if_neg (show ¬ ((Value.ref T == Value.none) = true) from by simp)]
      have fin : wpAny (model X.prog X.w) X.A (setFlight (.ref a) X.env.frame) (fun _ s4 => wpAny (model X.prog X.w) X.A (throw (.ref a) : Sem Flow) (SP X pins D) X.xe s4) X.xe { s' with heap := h3 } := by
        rw [hf]
        refine HandSPX.setFlight_upZ fl3 fun h4 hh4 up4 => wpAny_throw (tk _ _ ?_)
        exact ⟨a, B, sI, pins, σ', H', cls, d, rfl, J, nb, (up.trans up3).trans up4, .inr (.inr (by rw [hs]; exact hh4)), na, os, ag, hno rfl⟩
      first
        | exact wpAny_bind (wpAny_pure (wpAny_bind fin))
        | exact wpAny_bind fin
  · cases f with
    | next =>
      obtain ⟨σ', H', J', q⟩ := hsp
      exact wpAny_execs_nil ⟨σ', H', J'.ofTry ok, q⟩
    | brk =>
      obtain ⟨σ', H', J', q⟩ := hsp
      exact ⟨σ', H', J'.ofTry ok, q⟩
    | cont =>
      obtain ⟨σ', H', J', q⟩ := hsp
      exact ⟨σ', H', J'.ofTry ok, q⟩
    | ret u =>
      obtain ⟨v, σ', H', J', r, q⟩ := hsp
      exact ⟨v, σ', H', J'.ofTry ok, r, q⟩
end
end RC
set_option Elab.async false
set_option linter.all false
set_option maxRecDepth 100000
set_option maxHeartbeats 4000000
namespace KL6
open PySem PySem.Spec PyProof.Rows L2 KB KC KS KN1 LamX K7
abbrev sBM (j : Nat) : Stmt := inClass sReader j
abbrev bF (p : Addr) (i : Nat) : List (Str × V) := [("data", .ref p), ("place", .int i)]
def RdA (CB r p : Addr) (dat : List Int) (i : Nat) (H : Hp) : Prop := (∃ dx, H r = some (.ins CB dx (bF p i))) ∧ H p = some (.tup (dat.map V.int)) ∧ i ≤ dat.length
theorem RdA.ex {CB r p : Addr} {dat : List Int} {i : Nat} {H H' : Hp} (x : RdA CB r p dat i H) (e : KS.Ex H H') : RdA CB r p dat i H' := by
  obtain ⟨⟨dx, h1⟩, h2, h3⟩ := x
  exact ⟨⟨dx, e _ _ h1⟩, e _ _ h2, h3⟩
structure TxtB (K : PySem.W.Frag) (mg : Str → Option Value) (CB : Addr) : Prop where
  cl : Cls K CB
  d : NoAttr K CB "data"
  p : NoAttr K CB "place"
  g : mg "ByteReader" = some (.ref CB)
@[irreducible] def spP {α : Type} (CB CR : Addr) (f : List Int → Option (α × List Int)) (R : Hp → V → α → Prop) : Sp := fun vs H Q E => ∃ (r p : Addr) (dat : List Int) (i : Nat), vs = [.ref r] ∧ RdA CB r p dat i H ∧ Bytes dat ∧ dat.length ≤ 1000 ∧
  (f (dat.drop i) = none → ∀ H' j, ExD r H H' → RdA CB r p dat j H' → E (.ref CR) none H') ∧
  (∀ a rest, f (dat.drop i) = some (a, rest) → ∀ H' j v, ExD r H H' → RdA CB r p dat j H' → dat.drop j = rest → R H' v a → Q v H')
theorem readP {α : Type} {CB CR r p : Addr} {f : List Int → Option (α × List Int)} {R : Hp → V → α → Prop} {dat : List Int} {i : Nat} {H : Hp} {Q : VK} {E : XK} (x : RdA CB r p dat i H) (hb : Bytes dat) (hl : dat.length ≤ 1000) (bad : f (dat.drop i) = none → ∀ H' j, ExD r H H' → RdA CB r p dat j H' → E (.ref CR) none H')
    (good : ∀ a rest, f (dat.drop i) = some (a, rest) → ∀ H' j v, ExD r H H' → RdA CB r p dat j H' → dat.drop j = rest → R H' v a → Q v H') : spP CB CR f R [.ref r] H Q E := by
  unfold spP
  exact ⟨r, p, dat, i, rfl, x, hb, hl, bad, good⟩
def RI : Hp → V → Int → Prop := fun _ v a => v = .int a
def RN : Hp → V → Nat → Prop := fun _ v a => v = .int (a : Int)
def pB : List Int → Option (Int × List Int)
  | [] => none
  | b :: r => some (b, r)
theorem bF_m {p : Addr} {i : Nat} {x : Str} (h1 : (x == ("data" : Str)) = false) (h2 : (x == ("place" : Str)) = false) : (bF p i).lookup x = none := by
  simp only [List.lookup, h1, h2]
section
variable {P : Program} {w : World} {K : PySem.W.Frag} {mg : Str → Option Value} {base : Heap} {f CB CR : Addr} {fd : FuncData}
theorem scBy : FnScope ["self", "found"] ["self"] (defScope (sBM 1)) := ⟨rfl, rfl, rfl, by decide +kernel, rfl, by decide +kernel, by decide +kernel⟩
theorem ok_byte (F : FnP K "byte" "ByteReader.byte" (sBM 1) [] f fd) (B : TxtB K mg CB) (T : TxtL mg) (J : TxtX K mg CR) : FnOk P w K mg base (L2.CX P w) 1 f fd ["self"] (spP CB CR pB RI) := by
  refine F.ok scBy (fun vs H Q E h => ?_) (fun cdv A outer s H vs Q E hr h => ?_)
  · unfold spP at h
    obtain ⟨_, _, _, _, rfl, _⟩ := h; rfl
  · unfold spP at h
    obtain ⟨r, p, dat, i, rfl, x, hb, hl, bad, good⟩ := h
    refine ⟨_, pss_cons (ps_if (pt_cmpR op_ge (pf 0) (pe_callB call_len_seq (by rfl) T.len (by decide +kernel) (pa_cons (pf 0) pa_nil)) (nomark _))
        (pss_one (ps_raise rfl (takes_of rfl rfl rfl rfl) (pmk_own PySem.F.excBase_ValueError J.x J.g J.k (raises_own J.b J.t) rfl))) pss_nil)
      (PSs.nox <| pss_cons (ps_set (i := 1) scBy.nd rfl (Or.inl rfl) (pe_ix ix_tupD (pf 0) (pf 0) (fun _ _ => rfl))) (pss_cons (ps_fldaug (pv 0) pe_int in_add) (pss_one (ps_ret (pv 1))))), ?_⟩
    obtain ⟨⟨dx, h1⟩, h2, h3⟩ := id x
    refine ⟨_, rfl, r, CB, dx, _, _, rfl, h1, B.cl, B.p, rfl, _, rfl, r, CB, dx, _, _, rfl, h1, B.cl, B.d, rfl, p, _, rfl, .inr (SqT.of h2), _, _, rfl, rfl, _, rfl, ?_⟩
    rw [List.length_map]
    by_cases c : dat.length ≤ i
    · refine ifT (decide_eq_true (by omega)) ?_
      have e0 : dat.drop i = [] := List.drop_eq_nil_of_le c
      exact bad (by rw [e0]; rfl) H i (fun _ _ _ h => h) x
    · refine ifF (by simp; omega) ?_
      have hi : i < dat.length := by omega
      have e0 : dat.drop i = dat[i] :: dat.drop (i + 1) := List.drop_eq_getElem_cons hi
      refine ⟨_, rfl, r, CB, dx, _, _, rfl, h1, B.cl, B.d, rfl, _, rfl, r, CB, dx, _, _, rfl, h1, B.cl, B.p, rfl, p, _, _, .int dat[i], rfl, rfl, h2, atI_nat (by rw [List.getElem?_map, List.getElem?_eq_getElem hi]; rfl), ?_⟩
      refine ⟨_, rfl, r, CB, dx, _, _, rfl, h1, B.cl, B.p, rfl, _, _, rfl, rfl, dx, _, h1, (by show 2 < 1000; decide), ?_⟩
      show ∃ v, _
      refine ⟨_, rfl, ?_⟩
      refine good dat[i] _ (by rw [e0]; rfl) (upd H r (.ins CB dx (bF p (i + 1)))) (i + 1) _ (fun b o n h => by rw [L2.upd_ne n]; exact h) ⟨⟨dx, upd_same⟩, ?_, hi⟩ rfl rfl
      rw [L2.upd_ne (fun z => by rw [z, h1] at h2; cases h2)]
      exact h2
theorem pN_stop {b : Int} {r : List Int} (h : ¬ 128 ≤ b) : pN (b :: r) = some (b.toNat, r) := if_neg h
theorem scNa : FnScope ["self", "number", "worth", "byte"] ["self"] (defScope (sBM 4)) := ⟨rfl, rfl, rfl, by decide +kernel, rfl, by decide +kernel, by decide +kernel⟩
theorem byte_step {r p : Addr} {dat : List Int} {i : Nat} {H : Hp} {Q : VK} {E : XK} (x : RdA CB r p dat i H) (hb : Bytes dat) (hl : dat.length ≤ 1000) (bad : dat.drop i = [] → ∀ H' j, ExD r H H' → RdA CB r p dat j H' → E (.ref CR) none H')
    (good : ∀ b rest, dat.drop i = b :: rest → ∀ H' j, ExD r H H' → RdA CB r p dat j H' → dat.drop j = rest → 0 ≤ b → b < 256 → Q (.int b) H') : spP CB CR pB RI [.ref r] H Q E := by
  refine readP x hb hl (fun h => bad ?_) (fun a rest h H' j v e x' hj hv => ?_)
  · cases q : dat.drop i with
    | nil => rfl
    | cons b r => rw [q] at h; cases h
  · cases q : dat.drop i with
    | nil => rw [q] at h; cases h
    | cons b r0 =>
      rw [q] at h
      have h : some (b, r0) = some (a, rest) := h
      injection h with h
      injection h with h1 h2
      subst h1 h2
      have hv : v = .int b := hv
      rw [hv]
      have hm : b ∈ dat := List.mem_of_mem_drop (by rw [q]; exact List.mem_cons_self)
      exact good b r0 q H' j e x' hj (hb b hm).1 (hb b hm).2
end
end KL6
set_option Elab.async false
set_option linter.all false
set_option maxRecDepth 100000
set_option maxHeartbeats 4000000
namespace KL6
open PySem PySem.Spec PyProof.Rows L2 KB KC KS KN1 LamX K7
def pG (k : Nat) (l : List Int) : Option (Nat × List Int) := if k = 0 then pN l else pN1 l
theorem pG_go {k : Nat} {b : Int} {r : List Int} (h : 128 ≤ b) : pG k (b :: r) = (pN1 r).map fun q => ((b - 128).toNat + 128 * q.1, q.2) := by
  unfold pG
  split
  · exact if_pos h
  · exact if_pos h
theorem pG_stop0 {b : Int} {r : List Int} (h : ¬ 128 ≤ b) : pG 0 (b :: r) = some (b.toNat, r) := if_neg h
theorem pG_zero {k : Nat} {r : List Int} (hk : k ≠ 0) : pG k (0 :: r) = none := by
  unfold pG
  rw [if_neg hk]
  exact (if_neg (by decide)).trans (if_pos rfl)
theorem pG_stop {k : Nat} {b : Int} {r : List Int} (hk : k ≠ 0) (h : ¬ 128 ≤ b) (h0 : b ≠ 0) : pG k (b :: r) = some (b.toNat, r) := by
  unfold pG
  rw [if_neg hk]
  exact (if_neg h).trans (if_neg h0)
section
variable {P : Program} {w : World} {K : PySem.W.Frag} {mg : Str → Option Value} {base : Heap} {f fB CB CR : Addr} {fd fdB : FuncData}
theorem ok_natural (F : FnP K "natural" "ByteReader.natural" (sBM 4) [] f fd) (B : TxtB K mg CB) (T : TxtL mg) (J : TxtX K mg CR)
    (mB : Meth K CB "byte" fB) (GB : FnOk P w K mg base (L2.CX P w) 1 fB fdB ["self"] (spP CB CR pB RI)) (bB : Binds K fdB ["self"] []) : FnOk P w K mg base (L2.CX P w) 2 f fd ["self"] (spP CB CR pN RN) := by
  refine F.ok scNa (fun vs H Q E h => ?_) (fun cdv A outer s H vs Q E hr h => ?_)
  · unfold spP at h
    obtain ⟨_, _, _, _, rfl, _⟩ := h; rfl
  · unfold spP at h
    obtain ⟨r, p, dat, i, rfl, x, hb, hl, bad, good⟩ := h
    refine ⟨_, pss_cons (ps_set (i := 1) scNa.nd rfl (Or.inl rfl) pe_int) (pss_cons (ps_set (i := 2) scNa.nd rfl (Or.inl rfl) pe_int)
      (pss_cons (ps_set (i := 3) scNa.nd rfl (Or.inl rfl) (pe_meth0 (pv 0) B.cl mB GB hr bB .nil (passes_call (takes_of rfl rfl rfl rfl) (fun _ _ _ _ h => h))))
      (pss_cons (ps_while (passes_of rfl) (pt_cmpR op_ge (pv 3) pe_int (nomark _))
        (pss_cons (ps_aug (i := 1) scNa.nd rfl (Or.inl rfl) (pe_op op_mul (pe_op op_sub (pv 3) pe_int) (pv 2)) ip_add)
          (pss_cons (ps_set (i := 2) scNa.nd rfl (Or.inl rfl) (pe_op op_mul (pv 2) pe_int))
          (pss_one (ps_set (i := 3) scNa.nd rfl (Or.inl rfl) (pe_meth0 (pv 0) B.cl mB GB hr bB .nil (passes_call (takes_of rfl rfl rfl rfl) (fun _ _ _ _ h => h))))))))
      (pss_cons (ps_if (PW.pt (pw_and (pt_cmpR op_eq (pv 3) pe_int (nomark _)) (pw_and1 (pt_cmpR op_gt (pv 2) pe_int (nomark _)))))
        (pss_one (ps_raise rfl (takes_of rfl rfl rfl rfl) (pmk_own PySem.F.excBase_ValueError J.x J.g J.k (raises_own J.b J.t) rfl))) pss_nil)
      (pss_one (ps_ret (pe_op op_add (pv 1) (pe_op op_mul (pv 3) (pv 2)))))))))  , ?_⟩
    obtain ⟨⟨dx, h1⟩, h2, h3⟩ := id x
    refine ⟨_, rfl, r, dx, _, rfl, h1, bF_m (by decide +kernel) (by decide +kernel), byte_step x hb hl (fun h0 H' j e x' => bad (by rw [h0]; rfl) H' j e x') fun b0 l0 h0 H1 j1 e1 x1 hj1 b01 b02 => ?_⟩
    refine while_by (fun σ H2 => ∃ (n : Int) (k : Nat) (b : Int) (l : List Int) (j : Nat), σ = [some (.ref r), some (.int n), some (.int (128 ^ k : Nat)), some (.int b)] ∧ ExD r H H2 ∧ RdA CB r p dat j H2 ∧ dat.drop j = l ∧ 0 ≤ b ∧ b < 256 ∧ k ≤ j ∧ 0 ≤ n ∧ pN (dat.drop i) = (pG k (b :: l)).map (fun q => (n.toNat + 128 ^ k * q.1, q.2)))
      (fun σ _ => match σ with | [_, _, some (.int v), _] => 128 ^ (dat.length + 1) - v.toNat | _ => 0)
      ⟨0, 0, b0, l0, j1, rfl, e1, x1, hj1, b01, b02, Nat.zero_le _, Int.le_refl _, ?_⟩ ?_ ?_
    · rw [h0]
      unfold pG
      rw [if_pos rfl]
      cases pN (b0 :: l0) with
      | none => rfl
      | some q => simp
    · rintro σ H2 ⟨n, k, b, l, j, rfl, e2, x2, hj, b1, b2, hk, n0, hp⟩
      obtain ⟨⟨dx2, g1⟩, g2, g3⟩ := id x2
      refine ⟨_, rfl, _, _, rfl, rfl, _, rfl, ?_⟩
      by_cases c : 128 ≤ b
      · refine ifT (decide_eq_true c) ?_
        refine ⟨_, rfl, _, rfl, _, _, rfl, rfl, _, rfl, _, _, rfl, rfl, .inl ⟨by omega, by omega⟩, _, _, rfl, rfl, ?_⟩
        refine ⟨_, rfl, _, _, rfl, rfl, .inr ⟨by decide, by decide⟩, ?_⟩
        refine ⟨_, rfl, r, dx2, _, rfl, g1, bF_m (by decide +kernel) (by decide +kernel), byte_step x2 hb hl (fun h0 H' j' e x' => ?_) fun b' l' h0 H3 j3 e3 x3 hj3 b1' b2' => ?_⟩
        · refine bad ?_ H' j' (fun b o nb h => e b o nb (e2 b o nb h)) x'
          rw [hp, pG_go c]
          rw [hj] at h0
          rw [h0]
          rfl
        · have ew : V.int ((128 ^ k : Nat) * 128 : Int) = V.int (128 ^ (k + 1) : Nat) := by
            rw [Nat.pow_succ, Int.natCast_mul]; rfl
          refine ⟨⟨n + (b - 128) * (128 ^ k : Nat), k + 1, b', l', j3, by rw [← ew]; rfl, fun b o nb h => e3 b o nb (e2 b o nb h), x3, hj3, b1', b2', ?_, ?_, ?_⟩, ?_⟩
          · have l1 : (dat.drop j).length = (dat.drop j3).length + 1 := by rw [h0, hj3]; rfl
            rw [List.length_drop, List.length_drop] at l1
            have := x3.2.2
            omega
          · have : 0 ≤ (b - 128) * (128 ^ k : Nat) := Int.mul_nonneg (by omega) (Int.natCast_nonneg _)
            omega
          · rw [hp, pG_go c]
            rw [hj] at h0
            rw [h0]
            unfold pG
            rw [if_neg (Nat.succ_ne_zero k)]
            cases pN1 (b' :: l') with
            | none => rfl
            | some q =>
              show some _ = some _
              congr 2
              have e1 : (n + (b - 128) * (128 ^ k : Nat)).toNat = n.toNat + (b - 128).toNat * 128 ^ k := by
                have h1 : ((b - 128).toNat : Int) = b - 128 := Int.toNat_of_nonneg (by omega)
                have h2 : (n.toNat : Int) = n := Int.toNat_of_nonneg n0
                have h3 : ((n.toNat + (b - 128).toNat * 128 ^ k : Nat) : Int) = n + (b - 128) * (128 ^ k : Nat) := by
                  rw [Int.natCast_add, Int.natCast_mul, h1, h2]
                rw [← h3, Int.toNat_natCast]
              rw [e1, Nat.pow_succ]
              simp only [Nat.mul_add, Nat.add_mul, Nat.mul_assoc, Nat.mul_comm, Nat.mul_left_comm, Nat.add_assoc]
          · show 128 ^ (dat.length + 1) - (((128 ^ k : Nat) : Int) * 128).toNat < 128 ^ (dat.length + 1) - ((128 ^ k : Nat) : Int).toNat
            have hk2 : 128 ^ (k + 1) ≤ 128 ^ (dat.length + 1) := Nat.pow_le_pow_right (by decide) (by omega)
            have hk3 : 0 < 128 ^ k := Nat.pow_pos (by decide)
            rw [Nat.pow_succ] at hk2
            have : (((128 ^ k : Nat) : Int) * 128).toNat = 128 ^ k * 128 := by omega
            rw [this, Int.toNat_natCast]
            omega
      · refine ifF (by simp; omega) ?_
        refine ⟨_, rfl, rfl, _, rfl, ?_⟩
        have eb : decide (V.int b = V.int 0) = decide (b = 0) := by
          rw [decide_eq_decide]
          exact ⟨fun z => by injection z, fun z => by rw [z]⟩
        rw [eb]
        have ret : pG k (b :: l) = some (b.toNat, l) → Q (.int (n + b * (128 ^ k : Nat))) H2 := fun hg => by
          refine good (n.toNat + 128 ^ k * b.toNat) l (by rw [hp, hg]; rfl) H2 j _ e2 x2 hj ?_
          show V.int _ = V.int _
          congr 1
          have h1 : (b.toNat : Int) = b := Int.toNat_of_nonneg b1
          have h2 : (n.toNat : Int) = n := Int.toNat_of_nonneg n0
          rw [Int.natCast_add, Int.natCast_mul, h1, h2, Int.mul_comm]
        by_cases cz : b = 0
        · refine ifT (decide_eq_true cz) ⟨_, rfl, _, _, rfl, rfl, _, rfl, ?_⟩
          by_cases k0 : k = 0
          · subst k0
            refine ifF (by decide) ?_
            exact ⟨_, rfl, _, rfl, _, rfl, _, _, rfl, rfl, .inl ⟨by omega, by omega⟩, _, _, rfl, rfl, ret (pG_stop0 c)⟩
          · have hk1 : 128 ^ 1 ≤ 128 ^ k := Nat.pow_le_pow_right (by decide) (by omega)
            refine ifT (decide_eq_true (by omega)) ?_
            exact bad (by rw [hp, cz, pG_zero k0]; rfl) H2 j e2 x2
        · refine ifF (by simp [cz]) (ifF (by decide) ?_)
          refine ⟨_, rfl, _, rfl, _, rfl, _, _, rfl, rfl, .inl ⟨by omega, by omega⟩, _, _, rfl, rfl, ret ?_⟩
          by_cases k0 : k = 0
          · rw [k0]; exact pG_stop0 c
          · exact pG_stop k0 c cz
    · rintro σ H Q Q' imp ⟨x, hx, i, j, e1, e2, c, e3, q⟩
      exact ⟨x, hx, i, j, e1, e2, c, e3, imp _ _ q⟩
end
end KL6
set_option Elab.async false
set_option linter.all false
set_option maxRecDepth 100000
set_option maxHeartbeats 4000000
namespace KL6
open PySem PySem.Spec PyProof.Rows L2 KB KC KS KN1 LamX K7
def pL : List Int → Option (Nat × List Int)
  | [] => none
  | b :: r => (tabL[b.toNat]?).map fun c => (c, r)
def gL (c : Nat) : V := .str ⟨#[c]⟩
def RV {α : Type} (g : α → V) : Hp → V → α → Prop := fun _ v a => v = g a
def pM {α : Type} (f : List Int → Option (α × List Int)) : Nat → List Int → Option (List α × List Int)
  | 0, l => some ([], l)
  | n + 1, l => match f l with
    | none => none
    | some q => (pM f n q.2).map fun z : List α × List Int => (q.1 :: z.1, z.2)
theorem pM_snoc {α : Type} {f : List Int → Option (α × List Int)} {a : α} {r l' : List Int} : ∀ {i : Nat} {l : List Int} {cs : List α}, pM f i l = some (cs, l') → f l' = some (a, r) → pM f (i + 1) l = some (cs ++ [a], r)
  | 0, l, cs, h, hf => by
    obtain ⟨rfl, rfl⟩ := Prod.mk.inj (Option.some.inj h)
    show (match f l with | none => none | some q => (pM f 0 q.2).map fun z : List α × List Int => (q.1 :: z.1, z.2)) = _
    rw [hf]; rfl
  | i + 1, l, cs, h, hf => by
    have h : (match f l with | none => none | some q => (pM f i q.2).map fun z : List α × List Int => (q.1 :: z.1, z.2)) = some (cs, l') := h
    show (match f l with | none => none | some q => (pM f (i + 1) q.2).map fun z : List α × List Int => (q.1 :: z.1, z.2)) = _
    cases hq : f l with
    | none => rw [hq] at h; cases h
    | some q =>
      rw [hq] at h
      obtain ⟨z, hz, ez⟩ := Option.map_eq_some_iff.mp h
      obtain ⟨z1, z2⟩ := z
      obtain ⟨e1, e2⟩ := Prod.mk.inj ez
      have e1 : q.1 :: z1 = cs := e1
      have e2 : z2 = l' := e2
      subst e1 e2
      show (pM f (i + 1) q.2).map _ = _
      rw [pM_snoc hz hf]; rfl
theorem pM_stop {α : Type} {f : List Int → Option (α × List Int)} {l' : List Int} : ∀ {i n : Nat} {l : List Int} {cs : List α}, pM f i l = some (cs, l') → f l' = none → i < n → pM f n l = none
  | _, 0, _, _, _, _, h => absurd h (Nat.not_lt_zero _)
  | 0, n + 1, l, cs, h, hf, _ => by
    obtain ⟨rfl, rfl⟩ := Prod.mk.inj (Option.some.inj h)
    show (match f l with | none => none | some q => (pM f n q.2).map fun z : List α × List Int => (q.1 :: z.1, z.2)) = _
    rw [hf]
  | i + 1, n + 1, l, cs, h, hf, lt => by
    have h : (match f l with | none => none | some q => (pM f i q.2).map fun z : List α × List Int => (q.1 :: z.1, z.2)) = some (cs, l') := h
    show (match f l with | none => none | some q => (pM f n q.2).map fun z : List α × List Int => (q.1 :: z.1, z.2)) = _
    cases hq : f l with
    | none => rfl
    | some q =>
      rw [hq] at h
      obtain ⟨z, hz, ez⟩ := Option.map_eq_some_iff.mp h
      obtain ⟨z1, z2⟩ := z
      obtain ⟨e1, e2⟩ := Prod.mk.inj ez
      have e2 : z2 = l' := e2
      subst e2
      show (pM f n q.2).map _ = _
      rw [pM_stop hz hf (Nat.lt_of_succ_lt_succ lt)]; rfl
theorem pM_len {α : Type} {f : List Int → Option (α × List Int)} : ∀ {n : Nat} {l l' : List Int} {cs : List α}, pM f n l = some (cs, l') → cs.length = n
  | 0, l, l', cs, h => by
    obtain ⟨rfl, rfl⟩ := Prod.mk.inj (Option.some.inj h); rfl
  | n + 1, l, l', cs, h => by
    have h : (match f l with | none => none | some q => (pM f n q.2).map fun z : List α × List Int => (q.1 :: z.1, z.2)) = some (cs, l') := h
    cases hq : f l with
    | none => rw [hq] at h; cases h
    | some q =>
      rw [hq] at h
      obtain ⟨z, hz, ez⟩ := Option.map_eq_some_iff.mp h
      obtain ⟨e1, e2⟩ := Prod.mk.inj ez
      rw [← e1, List.length_cons, pM_len hz]
theorem pT_pM : ∀ (n : Nat) (l : List Int), pT tabL n l = pM pL n l
  | 0, _ => rfl
  | n + 1, [] => rfl
  | n + 1, b :: r => by
    rw [pT, pM, pL]
    cases tabL[b.toNat]? with
    | none => rfl
    | some c =>
      show (pT tabL n r).map _ = Option.map _ (pM pL n r)
      rw [pT_pM n r]
theorem pVs_pM : ∀ (n : Nat) (l : List Int), pVs tabL n l = pM (pV tabL) n l
  | 0, _ => rfl
  | n + 1, l => by
    rw [pVs, pM]
    cases pV tabL l with
    | none => rfl
    | some q =>
      show (pVs tabL n q.2).map _ = (pM (pV tabL) n q.2).map _
      rw [pVs_pM n q.2]
theorem tabL_len : tabL.length = 95 := by decide +kernel
theorem ltrs_size : ltrs.length = 95 := by decide +kernel
section
variable {P : Program} {w : World} {K : PySem.W.Frag} {mg : Str → Option Value} {base : Heap} {f fB fL fN CB CR : Addr} {fd fdB fdL fdN : FuncData}
theorem scLe : FnScope ["self", "byte"] ["self"] (defScope (sBM 7)) := ⟨rfl, rfl, rfl, by decide +kernel, rfl, by decide +kernel, by decide +kernel⟩
theorem ok_letter (F : FnP K "letter" "ByteReader.letter" (sBM 7) [] f fd) (B : TxtB K mg CB) (T : TxtL mg) (TK : TxtK mg) (J : TxtX K mg CR)
    (mB : Meth K CB "byte" fB) (GB : FnOk P w K mg base (L2.CX P w) 1 fB fdB ["self"] (spP CB CR pB RI)) (bB : Binds K fdB ["self"] []) : FnOk P w K mg base (L2.CX P w) 2 f fd ["self"] (spP CB CR pL (RV gL)) := by
  obtain ⟨tk, hL⟩ := TK.l
  refine F.ok scLe (fun vs H Q E h => ?_) (fun cdv A outer s H vs Q E hr h => ?_)
  · unfold spP at h
    obtain ⟨_, _, _, _, rfl, _⟩ := h; rfl
  · unfold spP at h
    obtain ⟨r, p, dat, i, rfl, x, hb, hl, bad, good⟩ := h
    refine ⟨_, pss_cons (ps_set (i := 1) scLe.nd rfl (Or.inl rfl) (pe_meth0 (pv 0) B.cl mB GB hr bB .nil (passes_call (takes_of rfl rfl rfl rfl) (fun _ _ _ _ h => h))))
      (pss_cons (ps_if (pt_cmpR op_ge (pv 1) (pe_callB call_len_str (by rfl) T.len (by decide +kernel) (pa_cons (pe_glob (v := .str ltrs) (by rfl) hL ⟨_, rfl⟩) pa_nil)) (nomark _))
        (pss_one (ps_raise rfl (takes_of rfl rfl rfl rfl) (pmk_own PySem.F.excBase_ValueError J.x J.g J.k (raises_own J.b J.t) rfl))) pss_nil)
      (pss_one (ps_ret (pe_ix ix_str (pe_glob (v := .str ltrs) (by rfl) hL ⟨_, rfl⟩) (pv 1) (fun _ _ => rfl))))), ?_⟩
    obtain ⟨⟨dx, h1⟩, h2, h3⟩ := id x
    refine ⟨_, rfl, r, dx, _, rfl, h1, bF_m (by decide +kernel) (by decide +kernel), byte_step x hb hl (fun h0 H' j e x' => bad (by rw [h0]; rfl) H' j e x') fun b rest h0 H1 j1 e1 x1 hj1 b1 b2 => ?_⟩
    refine ⟨_, rfl, ltrs, rfl, by rw [ltrs_size]; decide, _, _, rfl, rfl, ?_⟩
    rw [ltrs_size]
    refine ⟨_, rfl, ?_⟩
    by_cases c : (95 : Int) ≤ b
    · refine ifT (decide_eq_true c) ?_
      refine bad ?_ H1 j1 e1 x1
      rw [h0]
      show (tabL[b.toNat]?).map _ = none
      rw [List.getElem?_eq_none (by rw [tabL_len]; omega)]; rfl
    · refine ifF (by simpa using c) ?_
      have hlt : b.toNat < tabL.length := by rw [tabL_len]; omega
      obtain ⟨c0, hc0⟩ : ∃ c0, tabL[b.toNat]? = some c0 := ⟨_, List.getElem?_eq_getElem hlt⟩
      have ha : atI ltrs.cps.toList ((b.toNat : Nat) : Int) = some c0 := atI_nat hc0
      rw [Int.toNat_of_nonneg b1] at ha
      refine ⟨_, rfl, ltrs, b, c0, rfl, rfl, by rw [ltrs_size]; decide, ha, ?_⟩
      refine good c0 rest ?_ H1 j1 _ e1 x1 hj1 rfl
      rw [h0]
      show (tabL[b.toNat]?).map _ = _
      rw [hc0]; rfl
theorem many_lc {α : Type} {m : Str} {f : List Int → Option (α × List Int)} {g : α → V} {r p : Addr} {dat : List Int} {i n : Nat} {u1 u2 : Option V} {H : Hp} {D : Addr} {Qd : Hp → Prop} {E : XK} (x : RdA CB r p dat i H) (hb : Bytes dat) (hl : dat.length ≤ 1000) (hD : H D = none) (hn : n ≤ 1000) (hm1 : (m == ("data" : Str)) = false) (hm2 : (m == ("place" : Str)) = false)
    (bad : pM f n (dat.drop i) = none → ∀ H' j, ExD r H H' → RdA CB r p dat j H' → E (.ref CR) none H')
    (good : ∀ as rest, pM f n (dat.drop i) = some (as, rest) → ∀ H' j, ExD r H H' → RdA CB r p dat j H' → dat.drop j = rest → H' D = some (.lst (as.map g)) → Qd H') :
    ∃ W : Nat → Nat → Hp → Prop, (∃ m', W 0 m' (upd H D (.lst []))) ∧ ∀ (i' m' : Nat) (H' : Hp), W i' m' H' → (Itr 0 n).stop i' H' ∧ Qd H' ∨ (Itr 0 n).go i' H' ∧ ∃ Nx : Hp → Prop, (∀ H2, Nx H2 → ∃ m'', m'' < m' ∧ W (i' + 1) m'' H2) ∧ ∀ (x : V) (H2 : Hp), (Itr 0 n).yld i' H' x H2 → gName 2 x (wipe [some (.ref r), u1, u2] [2]) H2 fun σ2 H3 => wipe σ2 [2] = wipe [some (.ref r), u1, u2] [2] ∧ tYes σ2 H3 fun b H4 => if b = true then tMeth CB m (spP CB CR f (RV g)) [] E (tVar 0) tNil σ2 H4 fun y H5 => ∃ acc, H5 D = some (.lst acc) ∧ acc.length < sizeLine ∧ Nx (upd H5 D (.lst (acc ++ [y]))) else Nx H4 := by
  refine lc_range (fun q H2 => ∃ cs j, pM f q (dat.drop i) = some (cs, dat.drop j) ∧ RdA CB r p dat j H2 ∧ ExD r H H2 ∧ H2 D = some (.lst (cs.map g))) ⟨[], i, rfl, x.ex (Ex.upd hD), fun b o _ h => Ex.upd hD b o h, upd_same⟩ (fun q H2 hq ⟨cs, j, h1, x2, e2, hD2⟩ => ?_) (fun H2 ⟨cs, j, h1, x2, e2, hD2⟩ => good cs _ h1 H2 j e2 x2 rfl hD2)
  obtain ⟨⟨dx, g1⟩, g2, g3⟩ := id x2
  have nr : D ≠ r := fun z => by rw [z, g1] at hD2; cases hD2
  have np : D ≠ p := fun z => by rw [z, g2] at hD2; cases hD2
  refine ⟨rfl, _, rfl, r, dx, _, rfl, g1, bF_m hm1 hm2, readP x2 hb hl (fun h H' j' e' x' => bad (pM_stop h1 h hq) H' j' (fun b o nb hb => e' b o nb (e2 b o nb hb)) x') fun a rest h H' j' v e' x' hj hv => ?_⟩
  have hv : v = g a := hv
  have lc := pM_len h1
  have hz : sizeLine = 16777216 := rfl
  have hD' := e' _ _ nr hD2
  refine ⟨_, hD', by rw [List.length_map]; omega, cs ++ [a], j', by rw [hj]; exact pM_snoc h1 h, ?_, fun b o nb hb' => ?_, ?_⟩
  · obtain ⟨⟨dx', k1⟩, k2, k3⟩ := x'
    exact ⟨⟨dx', by rw [L2.upd_ne nr.symm]; exact k1⟩, by rw [L2.upd_ne np.symm]; exact k2, k3⟩
  · rw [L2.upd_ne fun z => by rw [z, hD] at hb'; cases hb']
    exact e' b o nb (e2 b o nb hb')
  · rw [upd_same, List.map_append, hv]; rfl
end
end KL6
set_option Elab.async false
set_option linter.all false
set_option maxRecDepth 100000
set_option maxHeartbeats 4000000
namespace KL6
open PySem PySem.Spec PyProof.Rows L2 KB KC KS KN1 LamX K7
def pTx (l : List Int) : Option (List Nat × List Int) := match pN l with
  | none => none
  | some q => if q.2.length < q.1 then none else pM pL q.1 q.2
def gT (cs : List Nat) : V := .str ⟨cs.toArray⟩
def nTx : List Str := ["self", "many", "_"]
theorem join_signs : ∀ (cs : List Nat), Txt.join "" (cs.map fun c => (⟨#[c]⟩ : Str)) = ⟨cs.toArray⟩ := by
  intro cs
  have go : ∀ (cs : List Nat) (a : Array Nat), List.foldl (fun acc (p : Str) => acc ++ ("" : Str).cps ++ p.cps) a (cs.map fun c => (⟨#[c]⟩ : Str)) = a ++ cs.toArray := by
    intro cs
    induction cs with
    | nil => intro a; simp
    | cons c cs ih =>
      intro a
      rw [List.map_cons, List.foldl_cons, ih]
      have e0 : ("" : Str).cps = #[] := rfl
      rw [e0]
      simp
  cases cs with
  | nil => rfl
  | cons c cs =>
    show (⟨_⟩ : Str) = ⟨_⟩
    congr 1
    show List.foldl (fun acc (p : Str) => acc ++ ("" : Str).cps ++ p.cps) #[c] (cs.map fun c => (⟨#[c]⟩ : Str)) = _
    rw [go]
    simp
theorem sum_ones (cs : List Nat) : ((cs.map fun c => (⟨#[c]⟩ : Str)).map fun x => x.length).sum = cs.length := by
  induction cs with
  | nil => rfl
  | cons c cs ih =>
    rw [List.map_cons, List.map_cons, List.sum_cons, ih, List.length_cons]
    show 1 + cs.length = _
    omega
section
variable {P : Program} {w : World} {K : PySem.W.Frag} {mg : Str → Option Value} {base : Heap} {f fB fL fN CB CR : Addr} {fd fdB fdL fdN : FuncData}
theorem scTx : FnScope nTx ["self"] (defScope (sBM 6)) := ⟨rfl, rfl, rfl, by decide +kernel, rfl, by decide +kernel, by decide +kernel⟩
theorem ok_text (F : FnP K "text" "ByteReader.text" (sBM 6) [] f fd) (B : TxtB K mg CB) (T : TxtL mg) (J : TxtX K mg CR)
    (mN : Meth K CB "natural" fN) (GN : FnOk P w K mg base (L2.CX P w) 2 fN fdN ["self"] (spP CB CR pN RN)) (bN : Binds K fdN ["self"] [])
    (mL : Meth K CB "letter" fL) (GL : FnOk P w K mg base (L2.CX P w) 2 fL fdL ["self"] (spP CB CR pL (RV gL))) (bL : Binds K fdL ["self"] []) : FnOk P w K mg base (L2.CX P w) 3 f fd ["self"] (spP CB CR pTx (RV gT)) := by
  refine F.ok scTx (fun vs H Q E h => ?_) (fun cdv A outer s H vs Q E hr h => ?_)
  · unfold spP at h
    obtain ⟨_, _, _, _, rfl, _⟩ := h; rfl
  · unfold spP at h
    obtain ⟨r, p, dat, i, rfl, x, hb, hl, bad, good⟩ := h
    refine ⟨_, pss_cons (ps_set (i := 1) scTx.nd rfl (Or.inl rfl) (pe_meth0 (pv 0) B.cl mN GN hr bN .nil (passes_call (takes_of rfl rfl rfl rfl) (fun _ _ _ _ h => h))))
      (pss_cons (ps_if (pt_cmpR op_gt (pv 1) (pe_op op_sub (pe_callB call_len_seq (by rfl) T.len (by decide +kernel) (pa_cons (pf 0) pa_nil)) (pf 0)) (nomark _))
        (pss_one (ps_raise rfl (takes_of rfl rfl rfl rfl) (pmk_own PySem.F.excBase_ValueError J.x J.g J.k (raises_own J.b J.t) rfl))) pss_nil)
      (pss_one (ps_ret (pe_bm PySem.F.plainAttrs_str PySem.F.slot_str_join PySem.F.type_str_join mt_join pe_str (pa_cons
        (RC.pe_lcX (own := [("_", 2)]) (g := gName 2) (tt := tYes) (te := tMeth CB "letter" (spP CB CR pL (RV gL)) [] E (tVar 0) tNil) (E := E) rfl scTx.nd rfl rfl (takes_of rfl rfl rfl rfl) (pi_range1 (by rfl) T.range (pa_cons (pv 1) pa_nil)) (blkOk_by (N := nTx) (sc := defScope (sBM 6)) (by decide +kernel))
          (fun _ _ _ _ _ _ _ => pg_name (i := 2) scTx.nd rfl (Or.inl rfl)) (fun _ _ _ _ _ _ _ => pts_nil)
          (fun _ _ _ _ _ _ hp => pe_meth0 (pv 0) B.cl mL GL hr bL .nil hp)) pa_nil))))), ?_⟩
    obtain ⟨⟨dx, h1⟩, h2, h3⟩ := id x
    refine ⟨_, rfl, r, dx, _, rfl, h1, bF_m (by decide +kernel) (by decide +kernel), readP x hb hl (fun h0 H' j e x' => bad (by unfold pTx; rw [h0]) H' j e x') fun n rest h0 H1 j1 v e1 x1 hj1 hv => ?_⟩
    have hv : v = .int (n : Int) := hv
    subst hv
    obtain ⟨⟨dx1, g1⟩, g2, g3⟩ := id x1
    have hrl : rest.length = dat.length - j1 := by rw [← hj1, List.length_drop]
    refine ⟨_, rfl, _, rfl, r, CB, dx1, _, _, rfl, g1, B.cl, B.d, rfl, p, _, rfl, .inr (SqT.of g2), _, rfl, r, CB, dx1, _, _, rfl, g1, B.cl, B.p, rfl, _, _, rfl, rfl, _, _, rfl, rfl, _, rfl, ?_⟩
    rw [List.length_map]
    by_cases c : rest.length < n
    · refine ifT (decide_eq_true (by omega)) ?_
      exact bad (by unfold pTx; rw [h0]; exact if_pos c) H1 j1 e1 x1
    · refine ifF (by simp; omega) ?_
      have ep : pTx (dat.drop i) = pM pL n (dat.drop j1) := by
        unfold pTx; rw [h0, hj1]; exact if_neg c
      refine ⟨rfl, _, rfl, _, rfl, by omega, by omega, fun D hD => ?_⟩
      refine many_lc (m := "letter") (g := gL) x1 hb hl hD (by omega) (by decide +kernel) (by decide +kernel) (fun h H' j' e' x' => bad (ep.trans h) H' j' (fun b o nb hb' => e' b o nb (e1 b o nb hb')) x') (fun cs rs h H2 j2 e2 x2 hj2 hD2 => ?_)
      have lc := pM_len h
      refine ⟨"", D, cs.map fun c => (⟨#[c]⟩ : Str), rfl, rfl, .inl (SqL.of (by rw [hD2, List.map_map]; rfl)), ?_, ?_⟩
      · rw [sum_ones, List.length_map]
        show cs.length + cs.length * 0 ≤ _
        omega
      · rw [join_signs]
        exact good cs rs (ep.trans h) H2 j2 _ (fun b o nb hb' => e2 b o nb (e1 b o nb hb')) x2 hj2 rfl
end
end KL6
set_option Elab.async false
set_option linter.all false
set_option maxRecDepth 100000
set_option maxHeartbeats 4000000
namespace KL6
open PySem PySem.Spec PyProof.Rows L2 KB KC KS KN1 LamX K7
theorem pV_two (r : List Int) : pV tabL (2 :: r) = (pTx r).map fun z : List Nat × List Int => ((.inr (⟨z.1.toArray⟩ : Str) : Key), z.2) := by
  show (match pN r with | none => none | some q => if q.2.length < q.1 then none else (pT tabL q.1 q.2).map fun z : List Nat × List Int => ((.inr ⟨z.1.toArray⟩ : Key), z.2)) = _
  unfold pTx
  cases pN r with
  | none => rfl
  | some q =>
    show (if q.2.length < q.1 then none else (pT tabL q.1 q.2).map fun z : List Nat × List Int => ((.inr ⟨z.1.toArray⟩ : Key), z.2)) = Option.map _ (if q.2.length < q.1 then none else pM pL q.1 q.2)
    by_cases c : q.2.length < q.1
    · rw [if_pos c, if_pos c]; rfl
    · rw [if_neg c, if_neg c, pT_pM]
theorem pV_no {m : Int} (r : List Int) (h0 : m ≠ 0) (h1 : m ≠ 1) (h2 : m ≠ 2) : pV tabL (m :: r) = none := by
  show (if m = 0 then _ else if m = 1 then _ else if m = 2 then _ else none) = none
  rw [if_neg h0, if_neg h1, if_neg h2]
section
variable {P : Program} {w : World} {K : PySem.W.Frag} {mg : Str → Option Value} {base : Heap} {f fB fT fN CB CR : Addr} {fd fdB fdT fdN : FuncData}
theorem scVa : FnScope ["self", "mark"] ["self"] (defScope (sBM 5)) := ⟨rfl, rfl, rfl, by decide +kernel, rfl, by decide +kernel, by decide +kernel⟩
theorem eqI (a b : Int) : decide (V.int a = V.int b) = decide (a = b) := by
  rw [decide_eq_decide]
  exact ⟨fun z => by injection z, fun z => by rw [z]⟩
theorem ok_value (F : FnP K "value" "ByteReader.value" (sBM 5) [] f fd) (B : TxtB K mg CB) (T : TxtL mg) (J : TxtX K mg CR)
    (mB : Meth K CB "byte" fB) (GB : FnOk P w K mg base (L2.CX P w) 1 fB fdB ["self"] (spP CB CR pB RI)) (bB : Binds K fdB ["self"] [])
    (mN : Meth K CB "natural" fN) (GN : FnOk P w K mg base (L2.CX P w) 2 fN fdN ["self"] (spP CB CR pN RN)) (bN : Binds K fdN ["self"] [])
    (mT : Meth K CB "text" fT) (GT : FnOk P w K mg base (L2.CX P w) 3 fT fdT ["self"] (spP CB CR pTx (RV gT))) (bT : Binds K fdT ["self"] []) : FnOk P w K mg base (L2.CX P w) 4 f fd ["self"] (spP CB CR (pV tabL) (RV kV)) := by
  refine F.ok scVa (fun vs H Q E h => ?_) (fun cdv A outer s H vs Q E hr h => ?_)
  · unfold spP at h
    obtain ⟨_, _, _, _, rfl, _⟩ := h; rfl
  · unfold spP at h
    obtain ⟨r, p, dat, i, rfl, x, hb, hl, bad, good⟩ := h
    refine ⟨_, pss_cons (ps_set (i := 1) scVa.nd rfl (Or.inl rfl) (pe_meth0 (pv 0) B.cl mB GB (hr.mono (by decide)) bB .nil (passes_call (takes_of rfl rfl rfl rfl) (fun _ _ _ _ h => h))))
      (pss_cons (ps_if (pt_cmpR op_eq (pv 1) pe_int (nomark _))
        (pss_one (ps_ret (pe_meth0 (pv 0) B.cl mN GN (hr.mono (by decide)) bN .nil (passes_call (takes_of rfl rfl rfl rfl) (fun _ _ _ _ h => h))))) pss_nil)
      (pss_cons (ps_if (pt_cmpR op_eq (pv 1) pe_int (nomark _))
        (pss_one (ps_ret (pe_op op_sub (pe_un un_neg (pe_meth0 (pv 0) B.cl mN GN (hr.mono (by decide)) bN .nil (passes_call (takes_of rfl rfl rfl rfl) (fun _ _ _ _ h => h)))) pe_int))) pss_nil)
      (pss_cons (ps_if (pt_cmpR op_eq (pv 1) pe_int (nomark _))
        (pss_one (ps_ret (pe_meth0 (pv 0) B.cl mT GT hr bT .nil (passes_call (takes_of rfl rfl rfl rfl) (fun _ _ _ _ h => h))))) pss_nil)
      (pss_one (ps_raise rfl (takes_of rfl rfl rfl rfl) (pmk_own PySem.F.excBase_ValueError J.x J.g J.k (raises_own J.b J.t) rfl)))))), ?_⟩
    obtain ⟨⟨dx, h1⟩, h2, h3⟩ := id x
    refine ⟨_, rfl, r, dx, _, rfl, h1, bF_m (by decide +kernel) (by decide +kernel), byte_step x hb hl (fun h0 H' j e x' => bad (by rw [h0]; rfl) H' j e x') fun b rest h0 H1 j1 e1 x1 hj1 b1 b2 => ?_⟩
    obtain ⟨⟨dx1, g1⟩, g2, g3⟩ := id x1
    have tr : ∀ {H2 : Hp}, ExD r H1 H2 → ExD r H H2 := fun e b o nb hb' => e b o nb (e1 b o nb hb')
    refine ⟨_, rfl, rfl, _, rfl, ?_⟩
    rw [eqI]
    by_cases c0 : b = 0
    · refine ifT (decide_eq_true c0) ?_
      subst c0
      have ep : pV tabL (dat.drop i) = (pN (dat.drop j1)).map fun q : Nat × List Int => ((.inl (q.1 : Int) : Key), q.2) := by rw [h0, hj1]; rfl
      refine ⟨_, rfl, r, dx1, _, rfl, g1, bF_m (by decide +kernel) (by decide +kernel), readP x1 hb hl (fun hn H' j e x' => bad (by rw [ep, hn]; rfl) H' j (tr e) x') fun n rs hn H2 j2 v e2 x2 hj2 hv => ?_⟩
      exact good (.inl (n : Int)) rs (by rw [ep, hn]; rfl) H2 j2 v (tr e2) x2 hj2 hv
    refine ifF (by simpa using c0) ⟨_, rfl, rfl, _, rfl, ?_⟩
    rw [eqI]
    by_cases c1 : b = 1
    · refine ifT (decide_eq_true c1) ?_
      subst c1
      have ep : pV tabL (dat.drop i) = (pN (dat.drop j1)).map fun q : Nat × List Int => ((.inl (-(q.1 : Int) - 1) : Key), q.2) := by rw [h0, hj1]; rfl
      refine ⟨_, rfl, r, dx1, _, rfl, g1, bF_m (by decide +kernel) (by decide +kernel), readP x1 hb hl (fun hn H' j e x' => bad (by rw [ep, hn]; rfl) H' j (tr e) x') fun n rs hn H2 j2 v e2 x2 hj2 hv => ?_⟩
      have hv : v = .int (n : Int) := hv
      subst hv
      refine ⟨_, rfl, _, _, rfl, rfl, ?_⟩
      exact good (.inl (-(n : Int) - 1)) rs (by rw [ep, hn]; rfl) H2 j2 _ (tr e2) x2 hj2 rfl
    refine ifF (by simpa using c1) ⟨_, rfl, rfl, _, rfl, ?_⟩
    rw [eqI]
    by_cases c2 : b = 2
    · refine ifT (decide_eq_true c2) ?_
      subst c2
      have ep : pV tabL (dat.drop i) = (pTx (dat.drop j1)).map fun z : List Nat × List Int => ((.inr (⟨z.1.toArray⟩ : Str) : Key), z.2) := by rw [h0, hj1]; exact pV_two _
      refine ⟨_, rfl, r, dx1, _, rfl, g1, bF_m (by decide +kernel) (by decide +kernel), readP x1 hb hl (fun hn H' j e x' => bad (by rw [ep, hn]; rfl) H' j (tr e) x') fun cs rs hn H2 j2 v e2 x2 hj2 hv => ?_⟩
      exact good (.inr ⟨cs.toArray⟩) rs (by rw [ep, hn]; rfl) H2 j2 v (tr e2) x2 hj2 hv
    refine ifF (by simpa using c2) ?_
    exact bad (by rw [h0]; exact pV_no _ c0 c1 c2) H1 j1 e1 x1
end
end KL6
set_option Elab.async false
set_option linter.all false
set_option maxRecDepth 100000
set_option maxHeartbeats 4000000
namespace KL6
open PySem PySem.Spec PyProof.Rows L2 KB KC KS KN1 LamX K7
def RR : Hp → V → List Key → Prop := fun H v k => ∃ p, v = .ref p ∧ H p = some (.tup (k.map kV))
section
variable {P : Program} {w : World} {K : PySem.W.Frag} {mg : Str → Option Value} {base : Heap} {f fV fN CB CR : Addr} {fd fdV fdN : FuncData}
theorem scWh : FnScope nTx ["self"] (defScope (sBM 3)) := ⟨rfl, rfl, rfl, by decide +kernel, rfl, by decide +kernel, by decide +kernel⟩
theorem ok_whole (F : FnP K "whole_row" "ByteReader.whole_row" (sBM 3) [] f fd) (B : TxtB K mg CB) (T : TxtL mg) (J : TxtX K mg CR) (hM : ∃ tk, mg "MOST_COLUMNS" = some (.int 20 tk))
    (mN : Meth K CB "natural" fN) (GN : FnOk P w K mg base (L2.CX P w) 2 fN fdN ["self"] (spP CB CR pN RN)) (bN : Binds K fdN ["self"] [])
    (mV : Meth K CB "value" fV) (GV : FnOk P w K mg base (L2.CX P w) 4 fV fdV ["self"] (spP CB CR (pV tabL) (RV kV))) (bV : Binds K fdV ["self"] []) : FnOk P w K mg base (L2.CX P w) 5 f fd ["self"] (spP CB CR (pRow tabL) RR) := by
  obtain ⟨tk, hM⟩ := hM
  refine F.ok scWh (fun vs H Q E h => ?_) (fun cdv A outer s H vs Q E hr h => ?_)
  · unfold spP at h
    obtain ⟨_, _, _, _, rfl, _⟩ := h; rfl
  · unfold spP at h
    obtain ⟨r, p, dat, i, rfl, x, hb, hl, bad, good⟩ := h
    refine ⟨_, pss_cons (ps_set (i := 1) scWh.nd rfl (Or.inl rfl) (pe_meth0 (pv 0) B.cl mN GN (hr.mono (by decide)) bN .nil (passes_call (takes_of rfl rfl rfl rfl) (fun _ _ _ _ h => h))))
      (pss_cons (ps_if (pt_cmpR op_gt (pv 1) (pe_glob (v := .int 20) (by rfl) hM ⟨_, rfl⟩) (nomark _))
        (pss_one (ps_raise rfl (takes_of rfl rfl rfl rfl) (pmk_own PySem.F.excBase_ValueError J.x J.g J.k (raises_own J.b J.t) rfl))) pss_nil)
      (pss_one (ps_ret (pe_callTy call_tuple_of (by rfl) T.tuple (by decide +kernel) (pa_cons
        (RC.pe_lcX (own := [("_", 2)]) (g := gName 2) (tt := tYes) (te := tMeth CB "value" (spP CB CR (pV tabL) (RV kV)) [] E (tVar 0) tNil) (E := E) rfl scWh.nd rfl rfl (takes_of rfl rfl rfl rfl) (pi_range1 (by rfl) T.range (pa_cons (pv 1) pa_nil)) (blkOk_by (N := nTx) (sc := defScope (sBM 3)) (by decide +kernel))
          (fun _ _ _ _ _ _ _ => pg_name (i := 2) scWh.nd rfl (Or.inl rfl)) (fun _ _ _ _ _ _ _ => pts_nil)
          (fun _ _ _ _ _ _ hp => pe_meth0 (pv 0) B.cl mV GV hr bV .nil hp)) pa_nil))))), ?_⟩
    obtain ⟨⟨dx, h1⟩, h2, h3⟩ := id x
    refine ⟨_, rfl, r, dx, _, rfl, h1, bF_m (by decide +kernel) (by decide +kernel), readP x hb hl (fun h0 H' j e x' => bad (by unfold pRow; rw [h0]) H' j e x') fun n rest h0 H1 j1 v e1 x1 hj1 hv => ?_⟩
    have hv : v = .int (n : Int) := hv
    subst hv
    refine ⟨_, rfl, _, _, rfl, rfl, _, rfl, ?_⟩
    by_cases c : 20 < n
    · refine ifT (decide_eq_true (by omega)) ?_
      exact bad (by unfold pRow; rw [h0]; exact if_pos c) H1 j1 e1 x1
    · refine ifF (by simp; omega) ?_
      have ep : pRow tabL (dat.drop i) = pM (pV tabL) n (dat.drop j1) := by
        unfold pRow; rw [h0, hj1]
        show (if 20 < n then none else pVs tabL n rest) = _
        rw [if_neg c, pVs_pM]
      refine ⟨_, rfl, _, rfl, by omega, by omega, fun D hD => ?_⟩
      refine many_lc (m := "value") (g := kV) x1 hb hl hD (by omega) (by decide +kernel) (by decide +kernel) (fun h H' j' e' x' => bad (ep.trans h) H' j' (fun b o nb hb' => e' b o nb (e1 b o nb hb')) x') (fun ks rs h H2 j2 e2 x2 hj2 hD2 => ?_)
      refine ⟨D, _, rfl, .inl ⟨SqL.of hD2, fun l hl' => ?_⟩⟩
      have e3 : ExD r H2 (upd H2 l (.tup (ks.map kV))) := fun b o _ h => Ex.upd hl' b o h
      exact good ks rs (ep.trans h) _ j2 _ (fun b o nb hb' => e3 b o nb (e2 b o nb (e1 b o nb hb'))) (x2.ex (Ex.upd hl')) hj2 ⟨l, rfl, upd_same⟩
end
end KL6
set_option Elab.async false
set_option linter.all false
set_option maxRecDepth 100000
set_option maxHeartbeats 2000000
namespace RC
open PySem PySem.Spec PyProof.Rows L2
theorem run_fnS {X : Cx} {CX : CXT} {k : Nat} {f : Addr} {fd : FuncData} {ps : List Str} {sp : Sp} {dvs : List V} {ds : List Value} {E : XK} {pins : List (Addr × Obj)} {σ : L2.St} {H : Hp} {s : Shared} {Q : VK} {us : List Value} {vs : List V}
    (F : FnOk X.prog X.w X.K X.mg X.base CX k f fd ps sp) (hr : Room k X.A) (hb : L2.Binds X.K fd ps ds) (hd : Vals dvs ds) (I : Inv X pins σ H s) (hx : ∀ e s', CX X.stack H s E e s' → X.xe e s') (r : Vals vs us) (h : sp (vs ++ dvs) H Q E) :
    wpAny (model X.prog X.w) X.A (call (.ref f) us) (EP X pins σ Q) X.xe s := by
  have r2 := Vals.append r hd
  have hl : (us ++ ds).length = ps.length := by
    rw [← Vals.length r2]
    exact F.len (vs ++ dvs) H Q E h
  refine wpAny_call (codeAny_mono (F.run X.A X.stack s H { pos := us } (us ++ ds) (vs ++ dvs) Q E hr (Inv.env0 I) (hb s us (Inv.kIn I) hl) r2 h) fun r s' hq => ?_)
  cases r with
  | error e => exact hx e s' hq
  | ok fl =>
    cases fl with
    | ret u => exact Inv.after I hq
    | next => exact False.elim hq
    | brk => exact False.elim hq
    | cont => exact False.elim hq
def tMethS (C : Addr) (m : Str) (sp : Sp) (W : WX) (ta : TE) : TE := fun σ H Q => ta σ H fun x H1 => ∃ a dx fs, x = .ref a ∧ H1 a = some (.ins C dx fs) ∧ List.lookup m fs = none ∧ sp [x] H1 Q (fun cls d H' => W cls d σ H')
theorem pe_methS {X : Cx} {k : Nat} {f C : Addr} {fd : FuncData} {ps : List Str} {sp : Sp} {W : WX} {m : Str} {pos apos : Pos} {o : Expr} {ta : TE} {pl : Sem Bool} (ho : PE X o ta) (hC : Cls X.K C) (hm : Meth X.K C m f) (F : FnOk X.prog X.w X.K X.mg X.base (L2.CX X.prog X.w) k f fd ps sp) (hr : Room k X.A) (hb : L2.Binds X.K fd ps []) (tk : Takes X W)
    (hsh : eval ((o.Attribute m apos).Call [] [] pos) X.env = (do
      let ov ← eval o X.env
      standAt apos.atName
      let (f, first) ← holding [ov] (getMethod ov m pl)
      callWith pos f first (backTo pos (starEach [] X.env)) (backToKw pos (keywordEach [] X.env))) := by first | rfl | (simp only [eval]; rfl)) :
    PE X ((o.Attribute m apos).Call [] [] pos) (tMethS C m sp W ta) := by
  refine ⟨fun pins s σ H Q I h => ?_⟩
  refine PySem.W.methodCall_KW (pl := pl) (thn (ho.run pins s σ H _ I h) fun ov s1 ⟨v, H1, I1, r1, q1⟩ => ?_) hsh
  obtain ⟨a, dx, fs, rfl, hH, hl, h2⟩ := q1
  cases r1
  refine getmeth_ok I1 hH hC hm hl ?_
  refine PySem.W.callWith_K0 I1.kIn hm.kp ?_
  exact run_fnS (vs := [.ref a]) (dvs := []) F hr hb .nil I1 (fun e s' hx => tk e s' (XE.of_call I1 (fun cls d H' h => h) hx)) (.cons rfl .nil) h2
end RC
set_option Elab.async false
set_option linter.all false
set_option maxRecDepth 100000
set_option maxHeartbeats 4000000
namespace KL6
open PySem PySem.Spec PyProof.Rows L2 KB KC KS KN1 LamX K7
@[irreducible] def spRd (CB CR : Addr) : Sp := fun vs H Q E => ∃ (r p : Addr) (dat : List Int) (i : Nat), vs = [.ref r] ∧ RdA CB r p dat i H ∧ Bytes dat ∧ dat.length ≤ 1000 ∧
  (pRow tabL (dat.drop i) = none → ∀ H', ExD r H H' → RdA CB r p dat i H' → E (.ref CR) none H') ∧
  (∀ a rest, pRow tabL (dat.drop i) = some (a, rest) → ∀ H' j q, ExD r H H' → RdA CB r p dat j H' → dat.drop j = rest → H' q = some (.tup (a.map kV)) → Q (.ref q) H')
theorem rd_step {CB CR r p : Addr} {dat : List Int} {i : Nat} {H : Hp} {Q : VK} {E : XK} (x : RdA CB r p dat i H) (hb : Bytes dat) (hl : dat.length ≤ 1000) (bad : pRow tabL (dat.drop i) = none → ∀ H', ExD r H H' → RdA CB r p dat i H' → E (.ref CR) none H')
    (good : ∀ a rest, pRow tabL (dat.drop i) = some (a, rest) → ∀ H' j q, ExD r H H' → RdA CB r p dat j H' → dat.drop j = rest → H' q = some (.tup (a.map kV)) → Q (.ref q) H') : spRd CB CR [.ref r] H Q E := by
  unfold spRd
  exact ⟨r, p, dat, i, rfl, x, hb, hl, bad, good⟩
section
variable {P : Program} {w : World} {K : PySem.W.Frag} {mg : Str → Option Value} {base : Heap} {f fW CB CR : Addr} {fd fdW : FuncData}
theorem scRo : FnScope ["self", "begin"] ["self"] (defScope (sBM 2)) := ⟨rfl, rfl, rfl, by decide +kernel, rfl, by decide +kernel, by decide +kernel⟩
theorem ok_rdrow (F : FnP K "row" "ByteReader.row" (sBM 2) [] f fd) (B : TxtB K mg CB) (J : TxtX K mg CR)
    (mW : Meth K CB "whole_row" fW) (GW : FnOk P w K mg base (L2.CX P w) 5 fW fdW ["self"] (spP CB CR (pRow tabL) RR)) (bW : Binds K fdW ["self"] []) : FnOk P w K mg base (L2.CX P w) 6 f fd ["self"] (spRd CB CR) := by
  refine F.ok scRo (fun vs H Q E h => ?_) (fun cdv A outer s H vs Q E hr h => ?_)
  · unfold spRd at h
    obtain ⟨_, _, _, _, rfl, _⟩ := h; rfl
  · unfold spRd at h
    obtain ⟨r, p, dat, i, rfl, x, hb, hl, bad, good⟩ := h
    refine ⟨_, pss_cons (ps_set (i := 1) scRo.nd rfl (Or.inl rfl) (pf 0))
      (pss_one (RC.ps_try_again (tb := fun W => tRet (RC.tMethS CB "whole_row" (spP CB CR (pRow tabL) RR) W (tVar 0))) (ts := sFld K (tVar 0) (tVar 1) "place") (c := .ref CR) (Wout := fun cls d _ H => E cls d H) rfl rfl rfl ⟨by rfl, by rfl, .inl J.g⟩ (L2H.passesAt_of rfl) (takes_of rfl rfl rfl rfl)
        (fun W pn xe tk hpo => pss_one (ps_ret (RC.pe_methS (pv 0) B.cl mW GW hr bW tk)))
        (fun a pn => ?hsu))), ?_⟩
    case hsu => exact ps_fld (pv 0) (pv 1) (by rfl)
    obtain ⟨⟨dx, h1⟩, h2, h3⟩ := id x
    refine ⟨_, rfl, r, CB, dx, _, _, rfl, h1, B.cl, B.p, rfl, ?_⟩
    refine ⟨_, rfl, r, dx, _, rfl, h1, bF_m (by decide +kernel) (by decide +kernel), readP x hb hl (fun hn H' j e x' => ?_) fun k rest hn H' j v e x' hj hv => ?_⟩
    · obtain ⟨⟨dx', g1⟩, g2, g3⟩ := x'
      refine ⟨true, J.e, fun _ => ⟨_, rfl, _, rfl, r, CB, dx', _, rfl, g1, B.cl, B.p, (by show 2 < 1000; decide), ?_⟩, fun z => nomatch z⟩
      refine bad hn (upd H' r (.ins CB dx' (bF p i))) (fun b o nb hb' => by rw [L2.upd_ne nb]; exact e b o nb hb') ⟨⟨dx', upd_same⟩, ?_, h3⟩
      rw [L2.upd_ne (fun z => by rw [z, g1] at g2; cases g2)]
      exact g2
    · obtain ⟨q, rfl, hq⟩ := hv
      exact good k rest hn H' j q e x' hj hq
end
end KL6
set_option Elab.async false
set_option linter.all false
set_option maxRecDepth 100000
set_option maxHeartbeats 4000000
namespace KL6
open PySem PySem.Spec PyProof.Rows L2 KB KC KS KN1 LamX K7
@[irreducible] def spBInit (CB : Addr) : Sp := fun vs H Q _ => ∃ (r dx p : Addr) (dat : List Int), vs = [.ref r, .ref p] ∧ H r = some (.ins CB dx []) ∧ H p = some (.tup (dat.map V.int)) ∧ ∀ H', (∀ b o, b ≠ r → H b = some o → H' b = some o) → RdA CB r p dat 0 H' → Q .non H'
theorem binit_step {CB r dx p : Addr} {dat : List Int} {H : Hp} {Q : VK} {E : XK} (h1 : H r = some (.ins CB dx [])) (h2 : H p = some (.tup (dat.map V.int))) (fin : ∀ H', ExD r H H' → RdA CB r p dat 0 H' → Q .non H') : spBInit CB [.ref r, .ref p] H Q E := by
  unfold spBInit
  exact ⟨r, dx, p, dat, rfl, h1, h2, fin⟩
def allRow (dat : List Int) : Option (List Key) := match pRow tabL dat with
  | some (k, []) => some k
  | _ => none
theorem allRow_none {dat : List Int} (h : pRow tabL dat = none) : allRow dat = none := by unfold allRow; rw [h]
theorem allRow_more {dat rest : List Int} {k : List Key} (h : pRow tabL dat = some (k, rest)) (hr : rest ≠ []) : allRow dat = none := by
  unfold allRow; rw [h]
  cases rest with
  | nil => exact absurd rfl hr
  | cons b r => rfl
theorem allRow_some {dat : List Int} {k : List Key} (h : pRow tabL dat = some (k, [])) : allRow dat = some k := by unfold allRow; rw [h]
@[irreducible] def spRead (CR : Addr) : Sp := fun vs H Q E => ∃ (p : Addr) (dat : List Int), vs = [.ref p] ∧ H p = some (.tup (dat.map V.int)) ∧ Bytes dat ∧ dat.length ≤ 1000 ∧
  (allRow dat = none → ∀ H', KS.Ex H H' → E (.ref CR) none H') ∧ (∀ k, allRow dat = some k → ∀ H' q, KS.Ex H H' → H' q = some (.tup (k.map kV)) → Q (.ref q) H')
theorem read_step {CR p : Addr} {dat : List Int} {H : Hp} {Q : VK} {E : XK} (h2 : H p = some (.tup (dat.map V.int))) (hb : Bytes dat) (hl : dat.length ≤ 1000) (bad : allRow dat = none → ∀ H', KS.Ex H H' → E (.ref CR) none H') (good : ∀ k, allRow dat = some k → ∀ H' q, KS.Ex H H' → H' q = some (.tup (k.map kV)) → Q (.ref q) H') : spRead CR [.ref p] H Q E := by
  unfold spRead
  exact ⟨p, dat, rfl, h2, hb, hl, bad, good⟩
section
variable {P : Program} {w : World} {K : PySem.W.Frag} {mg : Str → Option Value} {base : Heap} {f fI fR CB CR : Addr} {fd fdI fdR : FuncData}
theorem scBI : FnScope ["self", "data"] ["self", "data"] (defScope (sBM 0)) := ⟨rfl, rfl, rfl, by decide +kernel, rfl, by decide +kernel, by decide +kernel⟩
theorem ok_binit (F : FnP K "__init__" "ByteReader.__init__" (sBM 0) [] f fd) (B : TxtB K mg CB) : FnOk P w K mg base CX0 1 f fd ["self", "data"] (spBInit CB) := by
  refine F.ok scBI (fun vs H Q E h => ?_) (fun cdv A outer s H vs Q E hr h => ?_)
  · unfold spBInit at h
    obtain ⟨_, _, _, _, rfl, _⟩ := h; rfl
  · unfold spBInit at h
    obtain ⟨r, dx, p, dat, rfl, h1, h2, fin⟩ := h
    refine ⟨_, PSs.nox <| pss_cons (ps_fld (pv 0) (pv 1) rfl) (pss_one (ps_fld (pv 0) pe_int rfl)), ?_⟩
    refine ⟨_, rfl, _, rfl, r, CB, dx, _, rfl, h1, B.cl, B.d, (by show 0 < 1000; decide), ?_⟩
    refine ⟨_, rfl, r, CB, dx, _, rfl, upd_same, B.cl, B.p, (by show 1 < 1000; decide), ?_⟩
    rw [upd2]
    have np : p ≠ r := fun z => by rw [z, h1] at h2; cases h2
    exact fin _ (fun b o nb h => by rw [L2.upd_ne nb]; exact h) ⟨⟨dx, upd_same⟩, by rw [L2.upd_ne np]; exact h2, Nat.zero_le _⟩
end
end KL6
set_option Elab.async false
set_option linter.all false
set_option maxRecDepth 100000
set_option maxHeartbeats 2000000
namespace KL6
open PySem PySem.Spec L2 KN1
def sumStep (p : Int × Int) (b : Int) : Int × Int := ((p.1 + b) % 65521, (p.2 + (p.1 + b) % 65521) % 65521)
def sumP (l : List Int) : Int × Int := l.foldl sumStep (1, 0)
def sumL (l : List Int) : List Int := [(sumP l).2 / 256, (sumP l).2 % 256, (sumP l).1 / 256, (sumP l).1 % 256]
theorem sumL_len (l : List Int) : (sumL l).length = 4 := rfl
abbrev Rc := List Key × List Key × Nat
def bodyL (x : Rc) : List Int := rowL tabL x.1 ++ (rowL tabL x.2.1 ++ natL x.2.2)
def recL (x : Rc) : List Int := natL (bodyL x).length ++ (bodyL x ++ sumL (bodyL x))
def recsL (xs : List Rc) : List Int := xs.flatMap recL
theorem recsL_cons (x : Rc) (xs : List Rc) : recsL (x :: xs) = recL x ++ recsL xs := rfl
theorem recsL_app (xs ys : List Rc) : recsL (xs ++ ys) = recsL xs ++ recsL ys := List.flatMap_append
structure OkR (x : Rc) : Prop where
  kt : ∀ y ∈ x.1, InTab tabL y
  rt : ∀ y ∈ x.2.1, InTab tabL y
  kl : x.1.length ≤ 20
  rl : x.2.1.length ≤ 20
  len : (bodyL x).length ≤ 20
def pRec (l : List Int) : Option (Rc × List Int) := match pN l with
  | none => none
  | some q => if (q.2.drop q.1).take 4 = sumL (q.2.take q.1) then
      (match pRow tabL q.2 with
        | none => none
        | some a => (match pRow tabL a.2 with
          | none => none
          | some b => (match pN b.2 with
            | none => none
            | some c => if c.2.length + q.1 = q.2.length then some ((a.1, b.1, c.1), (q.2.drop q.1).drop 4) else none)))
    else none
theorem pRec_none {l : List Int} (h : pN l = none) : pRec l = none := by unfold pRec; rw [h]
theorem pRec_bad {l l1 : List Int} {n : Nat} (h : pN l = some (n, l1)) (hs : (l1.drop n).take 4 ≠ sumL (l1.take n)) : pRec l = none := by
  unfold pRec; rw [h]; exact if_neg hs
theorem pRec_good {l l1 l2 l3 l4 : List Int} {n t : Nat} {k r : List Key} (h : pN l = some (n, l1)) (hs : (l1.drop n).take 4 = sumL (l1.take n)) (h1 : pRow tabL l1 = some (k, l2)) (h2 : pRow tabL l2 = some (r, l3)) (h3 : pN l3 = some (t, l4)) (hl : l4.length + n = l1.length) :
    pRec l = some ((k, r, t), (l1.drop n).drop 4) := by
  unfold pRec; rw [h]
  simp only
  rw [if_pos hs, h1]
  simp only
  rw [h2]
  simp only
  rw [h3]
  simp only
  rw [if_pos hl]
theorem pRec_far {l l1 l2 l3 l4 : List Int} {n t : Nat} {k r : List Key} (h : pN l = some (n, l1)) (h1 : pRow tabL l1 = some (k, l2)) (h2 : pRow tabL l2 = some (r, l3)) (h3 : pN l3 = some (t, l4)) (hl : l4.length + n ≠ l1.length) : pRec l = none := by
  unfold pRec; rw [h]
  simp only
  split
  · rw [h1]
    simp only
    rw [h2]
    simp only
    rw [h3]
    simp only
    rw [if_neg hl]
  · rfl
theorem body_parse {x : Rc} (ok : OkR x) (rest : List Int) : pRow tabL (bodyL x ++ rest) = some (x.1, rowL tabL x.2.1 ++ (natL x.2.2 ++ rest)) ∧ pRow tabL (rowL tabL x.2.1 ++ (natL x.2.2 ++ rest)) = some (x.2.1, natL x.2.2 ++ rest) ∧ pN (natL x.2.2 ++ rest) = some (x.2.2, rest) := by
  refine ⟨?_, pRow_enc tabL _ ok.rt ok.rl, pN_enc _ _⟩
  unfold bodyL
  rw [List.append_assoc, List.append_assoc]
  exact pRow_enc tabL _ ok.kt ok.kl
theorem pRec_enc {x : Rc} (ok : OkR x) (rest : List Int) : pRec (recL x ++ rest) = some (x, rest) := by
  obtain ⟨h1, h2, h3⟩ := body_parse ok (sumL (bodyL x) ++ rest)
  have e : recL x ++ rest = natL (bodyL x).length ++ (bodyL x ++ (sumL (bodyL x) ++ rest)) := by unfold recL; simp [List.append_assoc]
  have hd : (bodyL x ++ (sumL (bodyL x) ++ rest)).drop (bodyL x).length = sumL (bodyL x) ++ rest := List.drop_left
  have ht : (bodyL x ++ (sumL (bodyL x) ++ rest)).take (bodyL x).length = bodyL x := List.take_left
  have h4 : (sumL (bodyL x) ++ rest).take 4 = sumL (bodyL x) := List.take_left' (sumL_len _)
  have d4 : (sumL (bodyL x) ++ rest).drop 4 = rest := List.drop_left' (sumL_len _)
  rw [e, pRec_good (pN_enc _ _) (by rw [hd, ht]; exact h4) h1 h2 h3 (by simp [List.length_append]; omega), hd, d4]
theorem natL_one {n : Nat} (h : n ≤ 20) : natL n = [(n : Int)] := natL_small (by omega)
theorem recL_eq {x : Rc} (ok : OkR x) : recL x = ((bodyL x).length : Int) :: (bodyL x ++ sumL (bodyL x)) := by
  unfold recL
  rw [natL_one ok.len]; rfl
theorem recL_len {x : Rc} (ok : OkR x) : (recL x).length = (bodyL x).length + 5 := by
  rw [recL_eq ok, List.length_cons, List.length_append, sumL_len]
theorem recL_le {x : Rc} (ok : OkR x) : (recL x).length ≤ 25 := by
  rw [recL_len ok]
  have := ok.len
  omega
theorem pN_small {b : Int} {r : List Int} (h : ¬ 128 ≤ b) : pN (b :: r) = some (b.toNat, r) := pN_stop h
theorem pRec_cut {x : Rc} (ok : OkR x) {i : Nat} (hi : i < (recL x).length) : pRec ((recL x).take i) = none := by
  have hl := ok.len
  rw [recL_eq ok] at hi ⊢
  cases i with
  | zero => exact pRec_none rfl
  | succ i =>
    rw [List.take_succ_cons]
    refine pRec_bad (pN_small (by omega)) fun z => ?_
    have := congrArg List.length z
    rw [sumL_len, List.length_take, List.length_drop, List.length_take, List.length_append, sumL_len, Int.toNat_natCast] at this
    rw [List.length_cons, List.length_append, sumL_len] at hi
    omega
theorem pN1_len : ∀ {l : List Int} {q : Nat × List Int}, pN1 l = some q → q.2.length < l.length
  | [], _, h => by cases h
  | b :: r, q, h => by
    unfold pN1 at h
    split at h
    · cases e : pN1 r with
      | none => rw [e] at h; cases h
      | some z =>
        rw [e] at h
        injection h with h
        subst h
        have := pN1_len e
        rw [List.length_cons]
        show z.2.length < _
        omega
    · split at h
      · cases h
      · injection h with h
        subst h
        rw [List.length_cons]
        show r.length < _
        omega
theorem pN_len {l : List Int} {q : Nat × List Int} (h : pN l = some q) : q.2.length < l.length := by
  cases l with
  | nil => cases h
  | cons b r =>
    have h : (if 128 ≤ b then (pN1 r).map (fun q => ((b - 128).toNat + 128 * q.1, q.2)) else some (b.toNat, r)) = some q := h
    split at h
    · cases e : pN1 r with
      | none => rw [e] at h; cases h
      | some z =>
        rw [e] at h
        injection h with h
        subst h
        have := pN1_len e
        rw [List.length_cons]
        show z.2.length < _
        omega
    · injection h with h
      subst h
      rw [List.length_cons]
      show r.length < _
      omega
theorem pRec_short {l l' : List Int} {x : Rc} (h : pRec l = some (x, l')) : l'.length < l.length := by
  unfold pRec at h
  cases e : pN l with
  | none => rw [e] at h; cases h
  | some q =>
    rw [e] at h
    simp only at h
    have hq := pN_len e
    by_cases hs : (q.2.drop q.1).take 4 = sumL (q.2.take q.1)
    · rw [if_pos hs] at h
      split at h
      · cases h
      · split at h
        · cases h
        · split at h
          · cases h
          · split at h
            · injection h with h
              injection h with h1 h2
              rw [← h2, List.length_drop, List.length_drop]
              omega
            · cases h
    · rw [if_neg hs] at h; cases h
def pRecs (l : List Int) : List Rc × List Int :=
  match h : pRec l with
  | none => ([], l)
  | some (x, l') =>
    have : l'.length < l.length := pRec_short h
    (x :: (pRecs l').1, (pRecs l').2)
termination_by l.length
theorem pRecs_none {l : List Int} (h : pRec l = none) : pRecs l = ([], l) := by
  rw [pRecs]
  split
  · rfl
  · rename_i h2; rw [h] at h2; cases h2
theorem pRecs_some {l l' : List Int} {x : Rc} (h : pRec l = some (x, l')) : pRecs l = (x :: (pRecs l').1, (pRecs l').2) := by
  rw [pRecs]
  split
  · rename_i h2; rw [h] at h2; cases h2
  · rename_i h2; rw [h] at h2; cases h2; rfl
theorem pRecs_enc {rest : List Int} (hr : pRec rest = none) : ∀ {xs : List Rc}, (∀ x ∈ xs, OkR x) → pRecs (recsL xs ++ rest) = (xs, rest)
  | [], _ => pRecs_none hr
  | x :: xs, h => by
    have ih := pRecs_enc hr fun y hy => h y (List.mem_cons_of_mem _ hy)
    rw [recsL_cons, List.append_assoc, pRecs_some (pRec_enc (h x (List.mem_cons_self ..)) _), ih]
theorem pRec_nil : pRec [] = none := pRec_none rfl
theorem pRecs_all {xs : List Rc} (h : ∀ x ∈ xs, OkR x) : pRecs (recsL xs) = (xs, []) := by
  have := pRecs_enc pRec_nil h
  rwa [List.append_nil] at this
def whole : List Rc → Nat → Nat
  | [], _ => 0
  | x :: xs, n => if (recL x).length ≤ n then whole xs (n - (recL x).length) + 1 else 0
theorem whole_le : ∀ (xs : List Rc) (n : Nat), whole xs n ≤ xs.length
  | [], _ => Nat.le_refl _
  | x :: xs, n => by
    unfold whole
    split
    · have := whole_le xs (n - (recL x).length)
      rw [List.length_cons]; omega
    · omega
theorem pRecs_cut : ∀ {xs : List Rc}, (∀ x ∈ xs, OkR x) → ∀ (n : Nat), ∃ rest, (recsL xs).take n = recsL (xs.take (whole xs n)) ++ rest ∧ pRec rest = none
  | [], _, n => ⟨[], by simp [recsL], pRec_nil⟩
  | x :: xs, h, n => by
    have okx := h x (List.mem_cons_self ..)
    unfold whole
    by_cases c : (recL x).length ≤ n
    · obtain ⟨rest, e, hr⟩ := pRecs_cut (fun y hy => h y (List.mem_cons_of_mem _ hy)) (n - (recL x).length)
      refine ⟨rest, ?_, hr⟩
      rw [if_pos c, List.take_succ_cons, recsL_cons, recsL_cons, List.take_append, List.take_of_length_le c, e, List.append_assoc]
    · refine ⟨(recL x).take n, ?_, pRec_cut okx (by omega)⟩
      rw [if_neg c, recsL_cons, List.take_append_of_le_length (by omega)]
      rfl
end KL6
set_option Elab.async false
set_option linter.all false
set_option maxRecDepth 100000
set_option maxHeartbeats 2000000
namespace KL6
open PySem PySem.Spec L2 KN1
theorem sum_fst (l : List Int) : ∀ p : Int × Int, 0 ≤ p.1 → p.1 < 65521 → (l.foldl sumStep p).1 = (p.1 + l.sum) % 65521 := by
  induction l with
  | nil => intro p h1 h2; show p.1 = (p.1 + 0) % 65521; rw [Int.add_zero, Int.emod_eq_of_lt h1 h2]
  | cons b l ih =>
    intro p h1 h2
    rw [List.foldl_cons, ih _ (Int.emod_nonneg _ (by decide)) (Int.emod_lt_of_pos _ (by decide)), List.sum_cons]
    show ((p.1 + b) % 65521 + l.sum) % 65521 = _
    omega
theorem sumP_fst (l : List Int) : (sumP l).1 = (1 + l.sum) % 65521 := sum_fst l (1, 0) (by decide) (by decide)
theorem sumL_ne {p q : List Int} {b c : Int} (hb : 0 ≤ b ∧ b < 256) (hc : 0 ≤ c ∧ c < 256) (h : b ≠ c) : sumL (p ++ b :: q) ≠ sumL (p ++ c :: q) := fun z => by
  unfold sumL at z
  simp only [List.cons.injEq, and_true] at z
  obtain ⟨_, _, z1, z2⟩ := z
  have e : (sumP (p ++ b :: q)).1 = (sumP (p ++ c :: q)).1 := by omega
  rw [sumP_fst, sumP_fst, List.sum_append, List.sum_append, List.sum_cons, List.sum_cons] at e
  omega
theorem bytes_body {x : Rc} (ok : OkR x) : Bytes (bodyL x) := by
  have app : ∀ {a b : List Int}, Bytes a → Bytes b → Bytes (a ++ b) := fun ha hb y hy => (List.mem_append.mp hy).elim (ha y) (hb y)
  have valB : ∀ {k : Key}, InTab tabL k → Bytes (valL tabL k) := fun {k} h => by
    have one : ∀ {n : Int} {l : List Int}, 0 ≤ n → n < 256 → Bytes l → Bytes (n :: l) := fun h0 h1 hl x hx => by
      rcases List.mem_cons.mp hx with rfl | hx
      · exact ⟨h0, h1⟩
      · exact hl x hx
    cases k with
    | inl v =>
      by_cases c : v < 0
      · rw [valL_neg tabL c]; exact one (by decide) (by decide) (natL_bytes _)
      · rw [valL_pos tabL c]; exact one (by decide) (by decide) (natL_bytes _)
    | inr s =>
      show Bytes (2 :: (natL s.cps.toList.length ++ s.cps.toList.map fun c => ((idx tabL c : Nat) : Int)))
      refine one (by decide) (by decide) (app (natL_bytes _) fun x hx => ?_)
      obtain ⟨c, hc, rfl⟩ := List.mem_map.mp hx
      have : idx tabL c < tabL.length := List.findIdx_lt_length_of_exists (p := fun d => decide (d = c)) (xs := tabL) ⟨c, h c hc, decide_eq_true rfl⟩
      rw [tabL_len] at this
      omega
  have rowB : ∀ {k : List Key}, (∀ y ∈ k, InTab tabL y) → Bytes (rowL tabL k) := fun {k} h => by
    unfold rowL
    refine app (natL_bytes _) fun x hx => ?_
    obtain ⟨y, hy, hx⟩ := List.mem_flatMap.mp hx
    exact valB (h y hy) x hx
  unfold bodyL
  exact app (rowB ok.kt) (app (rowB ok.rt) (natL_bytes _))
theorem sum_snd (l : List Int) : ∀ p : Int × Int, 0 ≤ p.2 → p.2 < 65521 → 0 ≤ (l.foldl sumStep p).2 ∧ (l.foldl sumStep p).2 < 65521 := by
  induction l with
  | nil => intro p h1 h2; exact ⟨h1, h2⟩
  | cons b l ih => exact fun p _ _ => ih _ (Int.emod_nonneg _ (by decide)) (Int.emod_lt_of_pos _ (by decide))
theorem sumL_bytes (l : List Int) : Bytes (sumL l) := fun y hy => by
  have h1 : 0 ≤ (sumP l).1 ∧ (sumP l).1 < 65521 := by
    rw [sumP_fst]
    exact ⟨Int.emod_nonneg _ (by decide), Int.emod_lt_of_pos _ (by decide)⟩
  have h2 := sum_snd l (1, 0) (by decide) (by decide)
  have h2 : 0 ≤ (sumP l).2 ∧ (sumP l).2 < 65521 := h2
  unfold sumL at hy
  simp only [List.mem_cons, List.not_mem_nil, or_false] at hy
  rcases hy with rfl | rfl | rfl | rfl <;> omega
theorem recL_bytes {x : Rc} (ok : OkR x) : Bytes (recL x) := by
  rw [recL_eq ok]
  intro y hy
  have := ok.len
  rcases List.mem_cons.mp hy with rfl | hy
  · omega
  · exact (List.mem_append.mp hy).elim (bytes_body ok y) (sumL_bytes _ y)
theorem recsL_bytes {xs : List Rc} (h : ∀ x ∈ xs, OkR x) : Bytes (recsL xs) := fun y hy => by
  obtain ⟨x, hx, hy⟩ := List.mem_flatMap.mp hy
  exact recL_bytes (h x hx) y hy
structure Dr (x : Rc) : Prop where
  ok : OkR x
  first : ∃ (n : Nat) (s : Str) (tl : List Int), n < 3 ∧ (s = "k" ∨ s = "key") ∧ bodyL x = 2 :: 0 :: (n : Int) :: 2 :: ((s.cps.toList.length : Nat) : Int) :: (s.cps.toList.map (fun c => ((idx tabL c : Nat) : Int)) ++ 2 :: 0 :: tl) ∧ ∃ (v : Int) (tl' : List Int), tl = v :: 2 :: tl' ∧ 0 ≤ v ∧ v < 128
theorem far_parse {n : Nat} (hn : n < 3) {s : Str} (hs : s = "k" ∨ s = "key") {v : Int} (hv : 0 ≤ v ∧ v < 128) (tl : List Int) :
    ∃ k r t l2 l3 l4, pRow tabL (0 :: (n : Int) :: 2 :: ((s.cps.toList.length : Nat) : Int) :: (s.cps.toList.map (fun c => ((idx tabL c : Nat) : Int)) ++ 2 :: 0 :: v :: 2 :: tl)) = some (k, l2) ∧ pRow tabL l2 = some (r, l3) ∧ pN l3 = some (t, l4) ∧ tl.length ≤ l4.length := by
  have hv2 : ¬ (128 : Int) ≤ v := by omega
  have p0 : ∀ r : List Int, pRow tabL (0 :: r) = some ([], r) := fun r => rfl
  have p2 : ∀ r : List Int, pN (2 :: r) = some (2, r) := fun r => rfl
  have pv : ∀ r : List Int, pN (v :: r) = some (v.toNat, r) := fun r => pN_small hv2
  have t1 : ∀ (s : Str), (s = "k" ∨ s = "key") → ∀ r : List Int, pV tabL (2 :: ((s.cps.toList.length : Nat) : Int) :: (s.cps.toList.map (fun c => ((idx tabL c : Nat) : Int)) ++ r)) = some (.inr s, r) := fun s hs r => by
    have e : 2 :: ((s.cps.toList.length : Nat) : Int) :: (s.cps.toList.map (fun c => ((idx tabL c : Nat) : Int)) ++ r) = valL tabL (.inr s) ++ r := by
      have h20 : s.cps.toList.length ≤ 20 := by rcases hs with rfl | rfl <;> decide
      show _ = (2 :: (natL s.cps.toList.length ++ s.cps.toList.map fun c => ((idx tabL c : Nat) : Int))) ++ r
      rw [natL_one h20]
      rfl
    rw [e]
    refine pV_enc tabL r ?_
    show ∀ c ∈ s.cps.toList, c ∈ tabL
    rcases hs with rfl | rfl <;> decide +kernel
  rcases (by omega : n = 0 ∨ n = 1 ∨ n = 2) with rfl | rfl | rfl
  · refine ⟨[], [], 2, _, _, _, p0 _, p0 _, p2 _, ?_⟩
    simp only [List.length_cons, List.length_append]; omega
  · refine ⟨[], [.inr s], 2, _, 2 :: 0 :: v :: 2 :: tl, 0 :: v :: 2 :: tl, p0 _, ?_, p2 _, by simp only [List.length_cons]; omega⟩
    show (match pVs tabL 1 _ with | x => x) = _
    show pVs tabL 1 _ = _
    unfold pVs
    rw [t1 s hs]
    rfl
  · refine ⟨[], [.inr s, .inr ""], v.toNat, _, v :: 2 :: tl, 2 :: tl, p0 _, ?_, pv _, by simp only [List.length_cons]; omega⟩
    show pVs tabL 2 _ = _
    unfold pVs
    rw [t1 s hs]
    rfl
theorem bent_rec {x : Rc} (dr : Dr x) {i : Nat} (hi : i < (recL x).length) {b : Int} (hb : 0 ≤ b ∧ b < 256) (hne : (recL x)[i] ≠ b) (rest : List Int) : pRec ((recL x).take i ++ b :: ((recL x).drop (i + 1) ++ rest)) = none := by
  have ok := dr.ok
  have hl := ok.len
  have eq := recL_eq ok
  have hlen := recL_len ok
  cases i with
  | zero =>
    have e : (recL x).take 0 ++ b :: ((recL x).drop (0 + 1) ++ rest) = b :: (bodyL x ++ (sumL (bodyL x) ++ rest)) := by rw [eq]; simp
    have h0 : b ≠ ((bodyL x).length : Int) := fun z => hne (by simp only [eq]; exact z.symm)
    rw [e]
    by_cases c : 128 ≤ b
    · obtain ⟨n, s, tl, hn, hs, eb, v, tl', rfl, hv⟩ := dr.first
      obtain ⟨k, r, t, l2, l3, l4, h1, h2, h3, h4⟩ := far_parse hn hs hv (tl' ++ (sumL (bodyL x) ++ rest))
      have el : (bodyL x ++ (sumL (bodyL x) ++ rest)) = 2 :: (0 :: (n : Int) :: 2 :: ((s.cps.toList.length : Nat) : Int) :: (s.cps.toList.map (fun c => ((idx tabL c : Nat) : Int)) ++ 2 :: 0 :: v :: 2 :: (tl' ++ (sumL (bodyL x) ++ rest)))) := by
        rw [eb]; simp [List.append_assoc]
      have hp : pN (b :: (bodyL x ++ (sumL (bodyL x) ++ rest))) = some ((b - 128).toNat + 128 * 2, 0 :: (n : Int) :: 2 :: ((s.cps.toList.length : Nat) : Int) :: (s.cps.toList.map (fun c => ((idx tabL c : Nat) : Int)) ++ 2 :: 0 :: v :: 2 :: (tl' ++ (sumL (bodyL x) ++ rest)))) := by
        show (if 128 ≤ b then _ else _) = _
        rw [if_pos c, el]
        rfl
      refine pRec_far hp h1 h2 h3 fun z => ?_
      have hsl : s.cps.toList.length ≤ 3 := by rcases hs with rfl | rfl <;> decide
      simp only [List.length_cons, List.length_append, List.length_map] at z h4
      omega
    · obtain ⟨h1, h2, h3⟩ := body_parse ok (sumL (bodyL x) ++ rest)
      refine pRec_far (pN_small c) h1 h2 h3 fun z => h0 ?_
      simp only [List.length_append] at z
      omega
  | succ i =>
    have e : (recL x).take (i + 1) ++ b :: ((recL x).drop (i + 1 + 1) ++ rest) = ((bodyL x).length : Int) :: ((bodyL x ++ sumL (bodyL x)).take i ++ b :: ((bodyL x ++ sumL (bodyL x)).drop (i + 1) ++ rest)) := by
      rw [eq, List.take_succ_cons, List.drop_succ_cons, List.cons_append]
    have hn : (recL x)[i + 1] = (bodyL x ++ sumL (bodyL x))[i]'(by rw [List.length_append, sumL_len]; omega) := by simp only [eq, List.getElem_cons_succ]
    rw [hn] at hne
    rw [e]
    by_cases c : i < (bodyL x).length
    · have hbi := bytes_body ok (bodyL x)[i] (List.getElem_mem c)
      rw [List.getElem_append_left c] at hne
      have e2 : (bodyL x ++ sumL (bodyL x)).take i ++ b :: ((bodyL x ++ sumL (bodyL x)).drop (i + 1) ++ rest) = ((bodyL x).take i ++ b :: (bodyL x).drop (i + 1)) ++ (sumL (bodyL x) ++ rest) := by
        rw [List.take_append_of_le_length (by omega), List.drop_append_of_le_length (by omega)]
        simp [List.append_assoc]
      have l2 : ((bodyL x).take i ++ b :: (bodyL x).drop (i + 1)).length = (bodyL x).length := by
        rw [List.length_append, List.length_cons, List.length_take, List.length_drop]; omega
      rw [e2]
      refine pRec_bad (pN_small (by omega)) fun z => ?_
      rw [Int.toNat_natCast, ← l2, List.drop_left, List.take_left, List.take_left' (sumL_len _)] at z
      have eb : bodyL x = (bodyL x).take i ++ (bodyL x)[i] :: (bodyL x).drop (i + 1) := by rw [← List.drop_eq_getElem_cons c, List.take_append_drop]
      exact sumL_ne (p := (bodyL x).take i) (q := (bodyL x).drop (i + 1)) hbi hb hne (by rw [← eb]; exact z)
    · have hc : i - (bodyL x).length < 4 := by omega
      have e2 : (bodyL x ++ sumL (bodyL x)).take i ++ b :: ((bodyL x ++ sumL (bodyL x)).drop (i + 1) ++ rest) = bodyL x ++ (((sumL (bodyL x)).take (i - (bodyL x).length) ++ b :: (sumL (bodyL x)).drop (i + 1 - (bodyL x).length)) ++ rest) := by
        rw [List.take_append, List.take_of_length_le (by omega), List.drop_append, List.drop_eq_nil_of_le (by omega)]
        simp [List.append_assoc]
      have l4 : ((sumL (bodyL x)).take (i - (bodyL x).length) ++ b :: (sumL (bodyL x)).drop (i + 1 - (bodyL x).length)).length = 4 := by
        rw [List.length_append, List.length_cons, List.length_take, List.length_drop, sumL_len]; omega
      rw [e2]
      refine pRec_bad (pN_small (by omega)) fun z => ?_
      rw [Int.toNat_natCast, List.drop_left, List.take_left, List.take_left' l4] at z
      have z2 := congrArg (fun l => l[i - (bodyL x).length]?) z
      rw [List.getElem?_append_right (by rw [List.length_take]; omega), List.length_take, sumL_len, Nat.min_eq_left (by omega), Nat.sub_self] at z2
      rw [List.getElem_append_right (by omega)] at hne
      have z2 : some b = (sumL (bodyL x))[i - (bodyL x).length]? := z2
      rw [List.getElem?_eq_getElem (by rw [sumL_len]; exact hc)] at z2
      exact hne (Option.some.inj z2).symm
end KL6
set_option Elab.async false
set_option linter.all false
set_option maxRecDepth 100000
set_option maxHeartbeats 4000000
namespace KL6
open PySem PySem.Spec PyProof.Rows L2 KB KC KS KN1 LamX K7
@[irreducible] def spSum : Sp := fun vs H Q _ => ∃ (a : Addr) (l : List Int), vs = [.ref a] ∧ H a = some (.tup (l.map V.int)) ∧ ∀ H' p, KS.Ex H H' → H' p = some (.tup ((sumL l).map V.int)) → Q (.ref p) H'
theorem sum_step {H : Hp} {Q : VK} {E : XK} {a : Addr} {l : List Int} (h : H a = some (.tup (l.map V.int))) (fin : ∀ H' p, KS.Ex H H' → H' p = some (.tup ((sumL l).map V.int)) → Q (.ref p) H') : spSum [.ref a] H Q E := by
  unfold spSum
  exact ⟨a, l, rfl, h, fin⟩
structure TxtN (mg : Str → Option Value) : Prop where
  base : ∃ tk, mg "CHECK_BASE" = some (.int 65521 tk)
  bytes : ∃ tk, mg "CHECK_BYTES" = some (.int 4 tk)
  parts : ∃ tk, mg "MOST_PARTS" = some (.int 16 tk)
  cols : ∃ tk, mg "MOST_COLUMNS" = some (.int 20 tk)
theorem sumP_snoc {l : List Int} {i : Nat} {b : Int} (h : l[i]? = some b) : sumP (l.take (i + 1)) = sumStep (sumP (l.take i)) b := by
  rw [List.take_add_one, h]
  unfold sumP
  rw [List.foldl_append]; rfl
section
variable {P : Program} {w : World} {K : PySem.W.Frag} {mg : Str → Option Value} {base : Heap} {f fS fR fN CR Ps : Addr} {fd fdS fdR fdN : FuncData}
theorem scSum : FnScope ["data", "first", "second", "byte"] ["data"] (defScope sSum) := ⟨rfl, rfl, rfl, by decide +kernel, rfl, by decide +kernel, by decide +kernel⟩
theorem ok_sum (F : FnP K "sum_of_bytes" "sum_of_bytes" sSum [] f fd) (N : TxtN mg) : FnOk P w K mg base CX0 1 f fd ["data"] spSum := by
  obtain ⟨tk, hB⟩ := N.base
  refine F.ok scSum (fun vs H Q E h => ?_) (fun cdv A outer s H vs Q E hr h => ?_)
  · unfold spSum at h
    obtain ⟨_, _, rfl, _⟩ := h; rfl
  · unfold spSum at h
    obtain ⟨a, l, rfl, ha, fin⟩ := h
    refine ⟨_, PSs.nox <| pss_cons (ps_set (i := 1) scSum.nd rfl (Or.inl rfl) pe_int) (pss_cons (ps_set (i := 2) scSum.nd rfl (Or.inl rfl) pe_int)
      (pss_cons (ps_for PassesOwn.never rfl (pi_tup (pv 0)) (pg_name (i := 3) scSum.nd rfl (Or.inl rfl))
        (pss_cons (ps_set (i := 1) scSum.nd rfl (Or.inl rfl) (pe_op op_mod (pe_op op_add (pv 1) (pv 3)) (pe_glob (v := .int 65521) (by rfl) hB ⟨_, rfl⟩)))
        (pss_one (ps_set (i := 2) scSum.nd rfl (Or.inl rfl) (pe_op op_mod (pe_op op_add (pv 2) (pv 1)) (pe_glob (v := .int 65521) (by rfl) hB ⟨_, rfl⟩))))))
      (pss_one (ps_ret (pe_tup (pa_cons (pe_op op_fdiv (pv 2) pe_int) (pa_cons (pe_op op_mod (pv 2) pe_int) (pa_cons (pe_op op_fdiv (pv 1) pe_int) (pa_cons (pe_op op_mod (pv 1) pe_int) pa_nil))))))))), ?_⟩
    refine ⟨_, rfl, a, rfl, ⟨_, SqT.of ha⟩, for_tup (xs := l.map V.int) (fun i σ H' => H' = H ∧ ∃ u, σ = [some (.ref a), some (.int (sumP (l.take i)).1), some (.int (sumP (l.take i)).2), u]) ⟨rfl, _, rfl⟩ ?_ ?_ ?_⟩
    · rintro i σ H' _ ⟨rfl, _⟩
      exact SqT.of ha
    · rintro i x σ H' hx ⟨rfl, u, rfl⟩
      rw [List.getElem?_map] at hx
      obtain ⟨b, hb, rfl⟩ := Option.map_eq_some_iff.mp hx
      rw [sumP_snoc hb]
      exact ⟨_, rfl, _, rfl, _, _, rfl, rfl, _, _, rfl, rfl, (by show (0 : Int) < 65521; decide), _, rfl, _, rfl, _, _, rfl, rfl, _, _, rfl, rfl, (by show (0 : Int) < 65521; decide), rfl, _, rfl⟩
    · rintro σ H' ⟨rfl, u, rfl⟩
      rw [List.length_map, List.take_length]
      refine ⟨_, rfl, _, _, rfl, rfl, ⟨by decide, by decide⟩, _, rfl, _, _, rfl, rfl, (by show (0 : Int) < 256; decide), _, rfl, _, _, rfl, rfl, ⟨by decide, by decide⟩, _, rfl, _, _, rfl, rfl, (by show (0 : Int) < 256; decide), (by show 4 ≤ sizeLine; decide), fun p hp => ?_⟩
      exact fin _ p (Ex.upd hp) upd_same
theorem scLS : FnScope ["data", "first", "second", "byte"] ["data"] (defScope sLSum) := ⟨rfl, rfl, rfl, by decide +kernel, rfl, by decide +kernel, by decide +kernel⟩
theorem ok_lsum (F : FnP K "_law_sum" "_law_sum" sLSum [] f fd) : FnOk P w K mg base CX0 1 f fd ["data"] spSum := by
  refine F.ok scLS (fun vs H Q E h => ?_) (fun cdv A outer s H vs Q E hr h => ?_)
  · unfold spSum at h
    obtain ⟨_, _, rfl, _⟩ := h; rfl
  · unfold spSum at h
    obtain ⟨a, l, rfl, ha, fin⟩ := h
    refine ⟨_, PSs.nox <| pss_cons (ps_asg (pe_tup (pa_cons pe_int (pa_cons pe_int pa_nil))) (pg_tup rfl (pgs_cons (pg_name (i := 1) scLS.nd rfl (Or.inl rfl)) (pgs_cons (pg_name (i := 2) scLS.nd rfl (Or.inl rfl)) pgs_nil))))
      (pss_cons (ps_for PassesOwn.never rfl (pi_tup (pv 0)) (pg_name (i := 3) scLS.nd rfl (Or.inl rfl))
        (pss_cons (ps_set (i := 1) scLS.nd rfl (Or.inl rfl) (pe_op op_mod (pe_op op_add (pv 1) (pv 3)) pe_int))
        (pss_one (ps_set (i := 2) scLS.nd rfl (Or.inl rfl) (pe_op op_mod (pe_op op_add (pv 2) (pv 1)) pe_int)))))
      (pss_one (ps_ret (pe_tup (pa_cons (pe_op op_fdiv (pv 2) pe_int) (pa_cons (pe_op op_mod (pv 2) pe_int) (pa_cons (pe_op op_fdiv (pv 1) pe_int) (pa_cons (pe_op op_mod (pv 1) pe_int) pa_nil)))))))), ?_⟩
    refine ⟨(by show 2 ≤ sizeLine; decide), fun z hz => ⟨z, _, rfl, SqT.of upd_same, rfl, _, _, rfl, _, _, rfl, rfl, ?_⟩⟩
    have e0 : KS.Ex H (upd H z (.tup [.int 1, .int 0])) := Ex.upd hz
    generalize upd H z (.tup [.int 1, .int 0]) = H2 at e0
    have fin : ∀ H' p, KS.Ex H2 H' → H' p = some (.tup ((sumL l).map V.int)) → Q (.ref p) H' := fun H' p e => fin H' p (e0.trans e)
    have ha := e0 _ _ ha
    refine ⟨_, rfl, a, rfl, ⟨_, SqT.of ha⟩, for_tup (xs := l.map V.int) (fun i σ H' => H' = H2 ∧ ∃ u, σ = [some (.ref a), some (.int (sumP (l.take i)).1), some (.int (sumP (l.take i)).2), u]) ⟨rfl, _, rfl⟩ ?_ ?_ ?_⟩
    · rintro i σ H' _ ⟨rfl, _⟩
      exact SqT.of ha
    · rintro i x σ H' hx ⟨rfl, u, rfl⟩
      rw [List.getElem?_map] at hx
      obtain ⟨b, hb, rfl⟩ := Option.map_eq_some_iff.mp hx
      rw [sumP_snoc hb]
      exact ⟨_, rfl, _, rfl, _, _, rfl, rfl, _, _, rfl, rfl, (by show (0 : Int) < 65521; decide), _, rfl, _, rfl, _, _, rfl, rfl, _, _, rfl, rfl, (by show (0 : Int) < 65521; decide), rfl, _, rfl⟩
    · rintro σ H' ⟨rfl, u, rfl⟩
      rw [List.length_map, List.take_length]
      refine ⟨_, rfl, _, _, rfl, rfl, ⟨by decide, by decide⟩, _, rfl, _, _, rfl, rfl, (by show (0 : Int) < 256; decide), _, rfl, _, _, rfl, rfl, ⟨by decide, by decide⟩, _, rfl, _, _, rfl, rfl, (by show (0 : Int) < 256; decide), (by show 4 ≤ sizeLine; decide), fun p hp => ?_⟩
      exact fin _ p (Ex.upd hp) upd_same
end
structure OkB (x : Rc) : Prop where
  kv : ∀ y ∈ x.1, OkV y
  rv : ∀ y ∈ x.2.1, OkV y
  kl : x.1.length ≤ 20
  rl : x.2.1.length ≤ 20
  t : (x.2.2 : Int) < 2 ^ 2000
def RecAt (H : Hp) (t : Addr) (x : Rc) : Prop := ∃ a b, H t = some (.tup [.ref a, .ref b, .int (x.2.2 : Nat)]) ∧ H a = some (.tup (x.1.map kV)) ∧ H b = some (.tup (x.2.1.map kV))
theorem RecAt.kt {H H' : Hp} {t : Addr} {x : Rc} (r : RecAt H t x) (e : KT' H H') : RecAt H' t x := by
  obtain ⟨a, b, h1, h2, h3⟩ := r
  exact ⟨a, b, e _ _ h1, e _ _ h2, e _ _ h3⟩
theorem kt_of {H H' : Hp} (e : KS.Ex H H') : KT' H H' := fun b xs h => e b _ h
theorem kt_tb {Ps : Addr} {H H' : Hp} (t : TabS H Ps qK) (e : Tb Ps H H') : KT' H H' := fun b xs h => e.2 b _ (fun z => by
  obtain ⟨ps, hP, _⟩ := t
  rw [z, hP] at h; cases h) h
@[irreducible] def spRec (CR Ps : Addr) : Sp := fun vs H Q E => ∃ (a b : Addr) (x : Rc), vs = [.ref a, .ref b, .int (x.2.2 : Nat)] ∧ H a = some (.tup (x.1.map kV)) ∧ H b = some (.tup (x.2.1.map kV)) ∧ OkB x ∧ TabS H Ps qK ∧ ∀ H' p, Tb Ps H H' → H' p = some (.tup ((recL x).map V.int)) → Q (.ref p) H'
theorem rec_step {CR Ps : Addr} {H : Hp} {Q : VK} {E : XK} {a b : Addr} {x : Rc} (ha : H a = some (.tup (x.1.map kV))) (hb : H b = some (.tup (x.2.1.map kV))) (ok : OkB x) (t : TabS H Ps qK) (fin : ∀ H' p, Tb Ps H H' → H' p = some (.tup ((recL x).map V.int)) → Q (.ref p) H') : spRec CR Ps [.ref a, .ref b, .int (x.2.2 : Nat)] H Q E := by
  unfold spRec
  exact ⟨a, b, x, rfl, ha, hb, ok, t, fin⟩
theorem body_bd {x : Rc} (ok : OkB x) : (bodyL x).length ≤ 60000 ∧ (rowL tabL x.1).length ≤ 27000 ∧ (rowL tabL x.2.1).length ≤ 27000 ∧ (natL x.2.2).length ≤ 300 := by
  have h1 := flat_len ok.kv
  have h2 := flat_len ok.rv
  have hb : ∀ n : Nat, n ≤ 20 → (natL n).length ≤ 300 := fun n hn => by rw [natL_one hn]; show 1 ≤ 300; decide
  have h3 := hb _ ok.kl
  have h4 := hb _ ok.rl
  have h5 := natL_short ok.t
  rw [Int.toNat_natCast] at h5
  have k1 := ok.kl
  have k2 := ok.rl
  unfold bodyL rowL
  rw [List.length_append, List.length_append, List.length_append, List.length_append]
  omega
section
variable {P : Program} {w : World} {K : PySem.W.Frag} {mg : Str → Option Value} {base : Heap} {f fS fR fN CR Ps : Addr} {fd fdS fdR fdN : FuncData}
theorem scRec : FnScope ["key", "row", "time", "body"] ["key", "row", "time"] (defScope sRec) := ⟨rfl, rfl, rfl, by decide +kernel, rfl, by decide +kernel, by decide +kernel⟩
theorem ok_rec (F : FnP K "record_bytes" "record_bytes" sRec [] f fd) (GR : FnOk P w K mg base (L2.CX P w) 3 fR fdR ["row"] (spRow CR Ps)) (gR : mg "row_bytes" = some (.ref fR)) (kR : PySem.W.keepIn K (.ref fR) = true) (bR : Binds K fdR ["row"] [])
    (GN : FnOk P w K mg base CX0 1 fN fdN ["number"] spNat) (gN : mg "natural_bytes" = some (.ref fN)) (kN : PySem.W.keepIn K (.ref fN) = true) (bN : Binds K fdN ["number"] [])
    (GS : FnOk P w K mg base CX0 1 fS fdS ["data"] spSum) (gS : mg "sum_of_bytes" = some (.ref fS)) (kS : PySem.W.keepIn K (.ref fS) = true) (bS : Binds K fdS ["data"] []) (T : TxtL mg) : FnOk P w K mg base CX0 4 f fd ["key", "row", "time"] (spRec CR Ps) := by
  refine F.ok scRec (fun vs H Q E h => ?_) (fun cdv A outer s H vs Q E hr h => ?_)
  · unfold spRec at h
    obtain ⟨_, _, _, rfl, _⟩ := h; rfl
  · unfold spRec at h
    obtain ⟨a, b, x, rfl, ha, hb, ok, tab, fin⟩ := h
    refine ⟨_, PSs.nox <| pss_cons (ps_set (i := 3) scRec.nd rfl (Or.inl rfl) (pe_op op_catA (pe_op op_catA (pe_call GR (hr.mono (by decide)) (by rfl) gR kR bR (E := fun _ _ _ => False) .nil (passes_call L2.takes0 (fun _ _ _ _ h => h)) (pa_cons (pv 0) pa_nil))
        (pe_call GR (hr.mono (by decide)) (by rfl) gR kR bR (E := fun _ _ _ => False) .nil (passes_call L2.takes0 (fun _ _ _ _ h => h)) (pa_cons (pv 1) pa_nil))) (pe_call GN (hr.mono (by decide)) (by rfl) gN kN bN .nil pass0 (pa_cons (pv 2) pa_nil))))
      (pss_one (ps_ret (pe_op op_catA (pe_op op_catA (pe_call GN (hr.mono (by decide)) (by rfl) gN kN bN .nil pass0 (pa_cons (pe_callB call_len_seq (by rfl) T.len (by decide +kernel) (pa_cons (pv 3) pa_nil)) pa_nil)) (pv 3)) (pe_call GS (hr.mono (by decide)) (by rfl) gS kS bS .nil pass0 (pa_cons (pv 3) pa_nil))))), ?_⟩
    obtain ⟨l1, l2, l3, l4⟩ := body_bd ok
    have big : (60001 : Int) < 2 ^ 2000 := by decide +kernel
    refine ⟨_, rfl, row_step ha ok.kv (by have := ok.kl; omega) tab fun H1 p1 t1 h1 => ?_⟩
    have k1 := kt_tb tab t1
    refine ⟨_, rfl, row_step (k1 _ _ hb) ok.rv (by have := ok.rl; omega) t1.1 fun H2 p2 t2 h2 => ?_⟩
    have k2 := kt_tb t1.1 t2
    refine cat_two (k2 _ _ h1) h2 (by omega) fun H3 p3 e3 h3 => ?_
    refine ⟨_, rfl, nat_step (by omega) ok.t fun H4 p4 e4 h4 => ?_⟩
    rw [Int.toNat_natCast] at h4
    refine cat_two (e4 _ _ h3) h4 (by rw [List.length_append]; omega) fun H5 p5 e5 h5 => ?_
    have h5 : H5 p5 = some (.tup ((bodyL x).map V.int)) := by rw [h5]; unfold bodyL; rw [List.append_assoc]
    refine ⟨_, rfl, p5, _, rfl, .inr (SqT.of h5), nat_step (by omega) (by rw [List.length_map]; omega) fun H6 p6 e6 h6 => ?_⟩
    rw [List.length_map, Int.toNat_natCast] at h6
    have ln := natL_short (n := ((bodyL x).length : Int)) (by omega)
    rw [Int.toNat_natCast] at ln
    refine ⟨_, rfl, cat_two h6 (e6 _ _ h5) (by omega) fun H7 p7 e7 h7 => ?_⟩
    refine ⟨_, rfl, sum_step (e7 _ _ (e6 _ _ h5)) fun H8 p8 e8 h8 => ?_⟩
    refine cat_two (e8 _ _ h7) h8 (by rw [List.length_append, sumL_len]; omega) fun H9 p9 e9 h9 => ?_
    refine fin H9 p9 ((t1.trans t2).ex (((((e3.trans e4).trans e5).trans e6).trans e7).trans (e8.trans e9))) ?_
    rw [h9]
    unfold recL
    rw [List.append_assoc]
@[irreducible] def spLRec (Ps : Addr) : Sp := fun vs H Q _ => ∃ (t : Addr) (x : Rc), vs = [.ref t] ∧ RecAt H t x ∧ OkB x ∧ TabS H Ps qK ∧ ∀ H' p, Tb Ps H H' → H' p = some (.tup ((recL x).map V.int)) → Q (.ref p) H'
theorem lrec_step {H : Hp} {Q : VK} {E : XK} {t : Addr} {x : Rc} (h : RecAt H t x) (ok : OkB x) (tb : TabS H Ps qK) (fin : ∀ H' p, Tb Ps H H' → H' p = some (.tup ((recL x).map V.int)) → Q (.ref p) H') : spLRec Ps [.ref t] H Q E := by
  unfold spLRec
  exact ⟨t, x, rfl, h, ok, tb, fin⟩
theorem scLB : FnScope ["record", "body"] ["record"] (defScope sLBytes) := ⟨rfl, rfl, rfl, by decide +kernel, rfl, by decide +kernel, by decide +kernel⟩
theorem ok_lrec (F : FnP K "_law_bytes" "_law_bytes" sLBytes [] f fd) (GR : FnOk P w K mg base (L2.CX P w) 3 fR fdR ["row"] (spRow CR Ps)) (gR : mg "row_bytes" = some (.ref fR)) (kR : PySem.W.keepIn K (.ref fR) = true) (bR : Binds K fdR ["row"] [])
    (GN : FnOk P w K mg base CX0 1 fN fdN ["number"] spNat) (gN : mg "natural_bytes" = some (.ref fN)) (kN : PySem.W.keepIn K (.ref fN) = true) (bN : Binds K fdN ["number"] [])
    (GS : FnOk P w K mg base CX0 1 fS fdS ["data"] spSum) (gS : mg "_law_sum" = some (.ref fS)) (kS : PySem.W.keepIn K (.ref fS) = true) (bS : Binds K fdS ["data"] []) (T : TxtL mg) : FnOk P w K mg base CX0 4 f fd ["record"] (spLRec Ps) := by
  refine F.ok scLB (fun vs H Q E h => ?_) (fun cdv A outer s H vs Q E hr h => ?_)
  · unfold spLRec at h
    obtain ⟨_, _, rfl, _⟩ := h; rfl
  · unfold spLRec at h
    obtain ⟨t, x, rfl, ⟨a, b, ht, ha, hb⟩, ok, tab, fin⟩ := h
    refine ⟨_, PSs.nox <| pss_cons (ps_set (i := 1) scLB.nd rfl (Or.inl rfl) (pe_op op_catA (pe_op op_catA (pe_call GR (hr.mono (by decide)) (by rfl) gR kR bR (E := fun _ _ _ => False) .nil (passes_call L2.takes0 (fun _ _ _ _ h => h)) (pa_cons (pe_ix ix_tupD (pv 0) pe_int (fun _ _ => rfl)) pa_nil))
        (pe_call GR (hr.mono (by decide)) (by rfl) gR kR bR (E := fun _ _ _ => False) .nil (passes_call L2.takes0 (fun _ _ _ _ h => h)) (pa_cons (pe_ix ix_tupD (pv 0) pe_int (fun _ _ => rfl)) pa_nil))) (pe_call GN (hr.mono (by decide)) (by rfl) gN kN bN .nil pass0 (pa_cons (pe_ix ix_tupD (pv 0) pe_int (fun _ _ => rfl)) pa_nil))))
      (pss_one (ps_ret (pe_op op_catA (pe_op op_catA (pe_call GN (hr.mono (by decide)) (by rfl) gN kN bN .nil pass0 (pa_cons (pe_callB call_len_seq (by rfl) T.len (by decide +kernel) (pa_cons (pv 1) pa_nil)) pa_nil)) (pv 1)) (pe_call GS (hr.mono (by decide)) (by rfl) gS kS bS .nil pass0 (pa_cons (pv 1) pa_nil))))), ?_⟩
    obtain ⟨l1, l2, l3, l4⟩ := body_bd ok
    have big : (60001 : Int) < 2 ^ 2000 := by decide +kernel
    refine ⟨_, rfl, t, _, _, _, rfl, rfl, ht, rfl, row_step ha ok.kv (by have := ok.kl; omega) tab fun H1 p1 t1 h1 => ?_⟩
    have k1 := kt_tb tab t1
    refine ⟨_, rfl, t, _, _, _, rfl, rfl, k1 _ _ ht, rfl, row_step (k1 _ _ hb) ok.rv (by have := ok.rl; omega) t1.1 fun H2 p2 t2 h2 => ?_⟩
    have k2 := kt_tb t1.1 t2
    refine cat_two (k2 _ _ h1) h2 (by omega) fun H3 p3 e3 h3 => ?_
    refine ⟨_, rfl, t, _, _, _, rfl, rfl, e3 _ _ (k2 _ _ (k1 _ _ ht)), rfl, nat_step (by omega) ok.t fun H4 p4 e4 h4 => ?_⟩
    rw [Int.toNat_natCast] at h4
    refine cat_two (e4 _ _ h3) h4 (by rw [List.length_append]; omega) fun H5 p5 e5 h5 => ?_
    have h5 : H5 p5 = some (.tup ((bodyL x).map V.int)) := by rw [h5]; unfold bodyL; rw [List.append_assoc]
    refine ⟨_, rfl, p5, _, rfl, .inr (SqT.of h5), nat_step (by omega) (by rw [List.length_map]; omega) fun H6 p6 e6 h6 => ?_⟩
    rw [List.length_map, Int.toNat_natCast] at h6
    have ln := natL_short (n := ((bodyL x).length : Int)) (by omega)
    rw [Int.toNat_natCast] at ln
    refine ⟨_, rfl, cat_two h6 (e6 _ _ h5) (by omega) fun H7 p7 e7 h7 => ?_⟩
    refine ⟨_, rfl, sum_step (e7 _ _ (e6 _ _ h5)) fun H8 p8 e8 h8 => ?_⟩
    refine cat_two (e8 _ _ h7) h8 (by rw [List.length_append, sumL_len]; omega) fun H9 p9 e9 h9 => ?_
    refine fin H9 p9 ((t1.trans t2).ex (((((e3.trans e4).trans e5).trans e6).trans e7).trans (e8.trans e9))) ?_
    rw [h9]
    unfold recL
    rw [List.append_assoc]
end
end KL6
set_option Elab.async false
set_option linter.all false
set_option maxRecDepth 100000
set_option maxHeartbeats 4000000
namespace KL6
open PySem PySem.Spec PyProof.Rows L2 KB KC KS KN1 LamX K7
theorem sl_mid {K : PySem.W.Frag} {H : Hp} {Q : VK} {t : Addr} {dat : List Int} {lo hi : Nat} (h : H t = some (.tup (dat.map V.int))) (q : ∀ H' p, KS.Ex H H' → H' p = some (.tup (((dat.drop lo).take (hi - lo)).map V.int)) → Q (.ref p) H') : rSlA K (.ref t) (some (lo : Int)) (some (hi : Int)) H Q := by
  refine ⟨t, _, rfl, SqT.of h, fun ⟨z1, z2⟩ => q H t (Ex.refl H) ?_, fun _ p hp => q _ p (Ex.upd hp) ?_⟩
  · rw [HT.sIx_nat, List.length_map] at z1 z2
    have e : (dat.drop lo).take (hi - lo) = dat := by
      by_cases c : dat = []
      · subst c; simp
      · have : 0 < dat.length := List.length_pos_iff.mpr c
        have l0 : lo = 0 := by omega
        subst l0
        rw [List.drop_zero]
        exact List.take_of_length_le (by omega)
    rw [e]; exact h
  · rw [upd_same]
    unfold cutV
    rw [HT.sIx_nat, HT.sIx_nat, List.length_map]
    by_cases c : lo < dat.length
    · rw [Nat.min_eq_left (Nat.le_of_lt c), ← List.map_drop, ← List.map_take]
      congr 2
      by_cases c2 : hi ≤ dat.length
      · rw [Nat.min_eq_left c2]
      · rw [Nat.min_eq_right (by omega), List.take_of_length_le (by rw [List.length_drop]; omega), List.take_of_length_le (by rw [List.length_drop]; omega)]
    · rw [List.drop_eq_nil_of_le (by rw [List.length_map]; omega), List.drop_eq_nil_of_le (by omega)]
      simp
theorem sl_midI {K : PySem.W.Frag} {H : Hp} {Q : VK} {t : Addr} {dat : List Int} {lo hi : Nat} {a b : Int} (ea : a = (lo : Int)) (eb : b = (hi : Int)) (h : H t = some (.tup (dat.map V.int))) (q : ∀ H' p, KS.Ex H H' → H' p = some (.tup (((dat.drop lo).take (hi - lo)).map V.int)) → Q (.ref p) H') : rSlA K (.ref t) (some a) (some b) H Q := by
  subst ea eb
  exact sl_mid h q
theorem sl_to {K : PySem.W.Frag} {H : Hp} {Q : VK} {t : Addr} {dat : List Int} {hi : Nat} (h : H t = some (.tup (dat.map V.int))) (q : ∀ H' p, KS.Ex H H' → H' p = some (.tup ((dat.take hi).map V.int)) → Q (.ref p) H') : rSlA K (.ref t) none (some (hi : Int)) H Q := by
  refine ⟨t, _, rfl, SqT.of h, fun ⟨_, z2⟩ => q H t (Ex.refl H) ?_, fun _ p hp => q _ p (Ex.upd hp) ?_⟩
  · rw [HT.sIx_nat, List.length_map] at z2
    rw [List.take_of_length_le (by omega)]; exact h
  · rw [upd_same]
    unfold cutV
    rw [HT.sIx_nat, HT.sIx_none, List.length_map, Nat.sub_zero, List.drop_zero, ← List.map_take]
    congr 2
    by_cases c2 : hi ≤ dat.length
    · rw [Nat.min_eq_left c2]
    · rw [Nat.min_eq_right (by omega), List.take_of_length_le (by omega), List.take_of_length_le (by omega)]
theorem sl_from {K : PySem.W.Frag} {H : Hp} {Q : VK} {t : Addr} {dat : List Int} {lo : Nat} (h : H t = some (.tup (dat.map V.int))) (q : ∀ H' p, KS.Ex H H' → H' p = some (.tup ((dat.drop lo).map V.int)) → Q (.ref p) H') : rSlA K (.ref t) (some (lo : Int)) none H Q := by
  refine ⟨t, _, rfl, SqT.of h, fun ⟨z1, _⟩ => q H t (Ex.refl H) ?_, fun _ p hp => q _ p (Ex.upd hp) ?_⟩
  · rw [HT.sIx_nat, List.length_map] at z1
    by_cases c : dat = []
    · subst c
      rw [List.drop_nil]; exact h
    · have : 0 < dat.length := List.length_pos_iff.mpr c
      have l0 : lo = 0 := by omega
      rw [l0, List.drop_zero]; exact h
  · rw [upd_same]
    unfold cutV
    rw [HT.sIx_nat, HT.sIx_none, List.length_map]
    by_cases c : lo < dat.length
    · rw [Nat.min_eq_left (Nat.le_of_lt c), List.take_of_length_le (by rw [List.length_drop, List.length_map]; omega), List.map_drop]
    · rw [List.drop_eq_nil_of_le (as := dat.map V.int) (by rw [List.length_map]; omega), List.drop_eq_nil_of_le (as := dat) (by omega)]
      simp
def iD (l : List Int) : PyData := .tuple (l.map PyData.int)
theorem dp_i {K : PySem.W.Frag} {H : Hp} {q : Addr} {l : List Int} (h : H q = some (.tup (l.map V.int))) : Dp K H (.ref q) (iD l) := by
  refine .tup (SqT.of h) ?_
  clear h
  induction l with
  | nil => exact .nil
  | cons n l ih => exact .cons (.int n) ih
theorem lay_i (l : List Int) : PyData.canLayAll0 (l.map PyData.int) = true ∧ PyData.depthAll (l.map PyData.int) = 0 := by
  induction l with
  | nil => exact ⟨rfl, rfl⟩
  | cons n l ih =>
    refine ⟨?_, ?_⟩
    · show (PyData.canLay0 (.int n) && PyData.canLayAll0 (l.map PyData.int)) = true
      rw [ih.1]; rfl
    · show max (PyData.depth (.int n)) (PyData.depthAll (l.map PyData.int)) = 0
      rw [ih.2]; rfl
theorem shaped_i (l : List Int) : SeqAt.shaped (iD l) = true := by
  obtain ⟨a, b⟩ := lay_i l
  show (PyData.canLayAll0 (l.map PyData.int) && decide (PyData.depthAll (l.map PyData.int) + 1 ≤ 64)) = true
  rw [a, b]; rfl
theorem eqv_int (a b : Int) : PyData.eqv (.int a) (.int b) = decide (a = b) := by
  show (a == b) = _
  rw [Bool.eq_iff_iff, decide_eq_true_eq, beq_iff_eq]
theorem eqv_str (a b : Str) : PyData.eqv (.str a) (.str b) = decide (a = b) := by
  show (a == b) = _
  rw [Bool.eq_iff_iff, decide_eq_true_eq, beq_iff_eq]
theorem eqv_i (a b : List Int) : PyData.eqv (iD a) (iD b) = decide (a = b) := by
  show PyData.eqvAll (a.map PyData.int) (b.map PyData.int) = _
  induction a generalizing b with
  | nil => cases b <;> first | rfl | (rw [decide_eq_false (by simp)]; rfl)
  | cons x r ih =>
    cases b with
    | nil => rw [decide_eq_false (by simp)]; rfl
    | cons y q =>
      show (PyData.eqv (.int x) (.int y) && PyData.eqvAll (r.map PyData.int) (q.map PyData.int)) = _
      rw [ih q, eqv_int, Bool.eq_iff_iff]; simp
theorem RdA.kt {CB r p : Addr} {dat : List Int} {i : Nat} {H H' : Hp} (x : RdA CB r p dat i H) (e : ExD r H H') : KT' H H' := fun b xs h => e b _ (fun z => by
  obtain ⟨⟨dx, h1⟩, _⟩ := x
  rw [z, h1] at h; cases h) h
@[irreducible] def spRd1 (CB CR : Addr) : Sp := fun vs H Q _ => ∃ (r p : Addr) (dat : List Int) (i : Nat), vs = [.ref r] ∧ RdA CB r p dat i H ∧ Bytes dat ∧ dat.length ≤ 1000 ∧
  (pRec (dat.drop i) = none → ∀ H' j, ExD r H H' → RdA CB r p dat j H' → Q .non H') ∧
  (∀ x rest, pRec (dat.drop i) = some (x, rest) → ∀ H' j t, ExD r H H' → RdA CB r p dat j H' → dat.drop j = rest → RecAt H' t x → Q (.ref t) H')
theorem rd1_step {CB CR r p : Addr} {dat : List Int} {i : Nat} {H : Hp} {Q : VK} {E : XK} (x : RdA CB r p dat i H) (hb : Bytes dat) (hl : dat.length ≤ 1000) (bad : pRec (dat.drop i) = none → ∀ H' j, ExD r H H' → RdA CB r p dat j H' → Q .non H')
    (good : ∀ x rest, pRec (dat.drop i) = some (x, rest) → ∀ H' j t, ExD r H H' → RdA CB r p dat j H' → dat.drop j = rest → RecAt H' t x → Q (.ref t) H') : spRd1 CB CR [.ref r] H Q E := by
  unfold spRd1
  exact ⟨r, p, dat, i, rfl, x, hb, hl, bad, good⟩
theorem ExD.trans {d : Addr} {H H1 H2 : Hp} (a : ExD d H H1) (b : ExD d H1 H2) : ExD d H H2 := fun x o n h => b x o n (a x o n h)
theorem ExD.of {d : Addr} {H H' : Hp} (e : KS.Ex H H') : ExD d H H' := fun b o _ h => e b o h
section
variable {P : Program} {w : World} {K : PySem.W.Frag} {mg : Str → Option Value} {base : Heap} {f fN fR fS CB CR : Addr} {fd fdN fdR fdS : FuncData}
abbrev nRR : List Str := ["reader", "many", "begin", "end", "body", "record"]
theorem scRR : FnScope nRR ["reader"] (defScope sRd1) := ⟨rfl, rfl, rfl, by decide +kernel, rfl, by decide +kernel, by decide +kernel⟩
theorem ok_rd1 (F : FnP K "read_record" "read_record" sRd1 [] f fd) (B : TxtB K mg CB) (J : TxtX K mg CR) (N : TxtN mg)
    (mN : Meth K CB "natural" fN) (GN : FnOk P w K mg base (L2.CX P w) 2 fN fdN ["self"] (spP CB CR pN RN)) (bN : Binds K fdN ["self"] [])
    (mR : Meth K CB "row" fR) (GR : FnOk P w K mg base (L2.CX P w) 6 fR fdR ["self"] (spRd CB CR)) (bR : Binds K fdR ["self"] [])
    (GS : FnOk P w K mg base CX0 1 fS fdS ["data"] spSum) (gS : mg "sum_of_bytes" = some (.ref fS)) (kS : PySem.W.keepIn K (.ref fS) = true) (bS : Binds K fdS ["data"] []) : FnOk P w K mg base CX0 7 f fd ["reader"] (spRd1 CB CR) := by
  obtain ⟨tk4, h4⟩ := N.bytes
  refine F.ok scRR (fun vs H Q E h => ?_) (fun cdv A outer s H vs Q E hr h => ?_)
  · unfold spRd1 at h
    obtain ⟨_, _, _, _, rfl, _⟩ := h; rfl
  · unfold spRd1 at h
    obtain ⟨r, p, dat, i, rfl, x, hb, hl, bad, good⟩ := h
    have hu := hr.units
    refine ⟨_, PSs.nox <| pss_cons (ps_try_only (tb := fun W => tSeq (tAsg (RC.tMethS CB "natural" (spP CB CR pN RN) W (tVar 0)) (gName 1)) (tSeq (tAsg (tFld K (tVar 0) "place") (gName 2)) (tSeq (tAsg (tOp (rI0 fun i j => V.int (i + j)) (tVar 2) (tVar 1)) (gName 3)) (tSeq (tAsg (tSl (rSlA K) (tFld K (tVar 0) "data") (tPart (tVar 2)) (tPart (tVar 3))) (gName 4)) (tSeq (tIfS (tTest (tOp (rNeD K) (tSl (rSlA K) (tFld K (tVar 0) "data") (tPart (tVar 3)) (tPart (tOp (rI0 fun i j => V.int (i + j)) (tVar 3) (tC (.int 4))))) (tCall spSum [] E0 (tCons (tVar 4) tNil)))) (tRet (tC .non)) tNext) (tAsg (tTup (tCons (RC.tMethS CB "row" (spRd CB CR) W (tVar 0)) (tCons (RC.tMethS CB "row" (spRd CB CR) W (tVar 0)) (tCons (RC.tMethS CB "natural" (spP CB CR pN RN) W (tVar 0)) tNil)))) (gName 5)))))))
        (c := .ref CR) rfl rfl ⟨by rfl, by rfl, .inl J.g⟩ L2.takes0
        (fun W pn xe tk _ => pss_cons (ps_set (i := 1) scRR.nd rfl (Or.inl rfl) (RC.pe_methS (pv 0) B.cl mN GN (hr.mono (by decide)) bN tk))
          (pss_cons (ps_set (i := 2) scRR.nd rfl (Or.inl rfl) (pf 0))
          (pss_cons (ps_set (i := 3) scRR.nd rfl (Or.inl rfl) (pe_op op_add (pv 2) (pv 1)))
          (pss_cons (ps_set (i := 4) scRR.nd rfl (Or.inl rfl) (pe_slice sl_tupA (pf 0) (po_some (pv 2)) (po_some (pv 3))))
          (pss_cons (ps_if (pt_cmpR (op_neD hu) (pe_slice sl_tupA (pf 0) (po_some (pv 3)) (po_some (pe_op op_add (pv 3) (pe_glob (v := .int 4) (by rfl) h4 ⟨_, rfl⟩)))) (pe_call GS (hr.mono (by decide)) (by rfl) gS kS bS .nil pass0 (pa_cons (pv 4) pa_nil)) (nomark _)) (pss_one (ps_ret pe_non)) pss_nil)
          (pss_one (ps_set (i := 5) scRR.nd rfl (Or.inl rfl) (pe_tup (pa_cons (RC.pe_methS (pv 0) B.cl mR GR hr bR tk) (pa_cons (RC.pe_methS (pv 0) B.cl mR GR hr bR tk) (pa_cons (RC.pe_methS (pv 0) B.cl mN GN (hr.mono (by decide)) bN tk) pa_nil)))))))))))
        (fun a oe cls d pn _ _ => pss_one (ps_ret pe_non)))
      (pss_cons (ps_if (pt_cmpR op_ne (pf 0) (pv 3) (nomark _)) (pss_one (ps_ret pe_non)) pss_nil)
      (pss_cons (ps_fld (pv 0) (pe_op op_add (pv 3) (pe_glob (v := .int 4) (by rfl) h4 ⟨_, rfl⟩)) rfl)
      (pss_one (ps_ret (pv 5))))), ?_⟩
    obtain ⟨⟨dx, g1⟩, g2, g3⟩ := id x
    refine ⟨_, rfl, r, dx, _, rfl, g1, bF_m (by decide +kernel) (by decide +kernel), readP x hb hl (fun hn H1 j e1 x1 => ⟨true, J.e, fun _ _ _ => bad (pRec_none hn) H1 j e1 x1, fun z => nomatch z⟩) fun many l1 hn H1 j1 v1 e1 x1 hj1 hv1 => ?_⟩
    obtain rfl : v1 = .int (many : Nat) := hv1
    obtain ⟨⟨dx1, k1⟩, k2, k3⟩ := id x1
    refine ⟨_, rfl, r, CB, dx1, _, _, rfl, k1, B.cl, B.p, rfl, ?_⟩
    refine ⟨_, rfl, _, rfl, _, _, rfl, rfl, ?_⟩
    refine ⟨_, rfl, r, CB, dx1, _, _, rfl, k1, B.cl, B.d, rfl, _, rfl, _, rfl, _, rfl, _, rfl, ?_⟩
    refine sl_midI (lo := j1) (hi := j1 + many) rfl (by show ((j1 : Nat) : Int) + ((many : Nat) : Int) = _; omega) k2 fun H2 b2 e2 h2 => ?_
    have hbody : (dat.drop j1).take (j1 + many - j1) = l1.take many := by rw [hj1, show j1 + many - j1 = many by omega]
    rw [hbody] at h2
    have x2 := x1.ex e2
    obtain ⟨⟨dx2, m1⟩, m2, m3⟩ := id x2
    refine ⟨_, rfl, r, CB, dx2, _, _, rfl, m1, B.cl, B.d, rfl, _, rfl, _, rfl, _, rfl, _, _, rfl, rfl, _, rfl, ?_⟩
    refine sl_midI (lo := j1 + many) (hi := j1 + many + 4) (by show ((j1 : Nat) : Int) + ((many : Nat) : Int) = _; omega) (by show ((j1 : Nat) : Int) + ((many : Nat) : Int) + 4 = _; omega) m2 fun H3 b3 e3 h3 => ?_
    have hsum : (dat.drop (j1 + many)).take (j1 + many + 4 - (j1 + many)) = (l1.drop many).take 4 := by rw [← hj1, List.drop_drop, show j1 + many + 4 - (j1 + many) = 4 by omega]
    rw [hsum] at h3
    refine ⟨_, rfl, sum_step (e3 _ _ h2) fun H4 b4 e4 h4' => ⟨_, _, dp_i (e4 _ _ h3), dp_i h4', shaped_i _, shaped_i _, _, rfl, ?_⟩⟩
    have x4 := x2.ex (e3.trans e4)
    have ex4 : ExD r H H4 := e1.trans (ExD.of ((e2.trans e3).trans e4))
    rw [eqv_i]
    by_cases cs : ¬ (l1.drop many).take 4 = sumL (l1.take many)
    · refine ifT (by simp [cs]) ?_
      exact bad (pRec_bad hn cs) H4 j1 ex4 x4
    have cs : (l1.drop many).take 4 = sumL (l1.take many) := Classical.not_not.mp cs
    refine ifF (by simp [cs]) ?_
    obtain ⟨⟨dx4, n1⟩, n2, n3⟩ := id x4
    refine ⟨_, rfl, r, dx4, _, rfl, n1, bF_m (by decide +kernel) (by decide +kernel), rd_step x4 hb hl (fun hk H5 e5 x5 => ⟨true, J.e, fun _ _ _ => ?_, fun z => nomatch z⟩) fun k l2 hk H5 j5 q5 e5 x5 hj5 hq5 => ?_⟩
    · refine bad ?_ H5 j1 (ex4.trans e5) x5
      rw [hj1] at hk
      unfold pRec
      rw [hn]
      simp only
      rw [if_pos cs, hk]
    rw [hj1] at hk
    obtain ⟨⟨dx5, o1⟩, o2, o3⟩ := id x5
    refine ⟨_, rfl, r, dx5, _, rfl, o1, bF_m (by decide +kernel) (by decide +kernel), rd_step x5 hb hl (fun hr' H6 e6 x6 => ⟨true, J.e, fun _ _ _ => ?_, fun z => nomatch z⟩) fun rr l3 hr' H6 j6 q6 e6 x6 hj6 hq6 => ?_⟩
    · refine bad ?_ H6 j5 ((ex4.trans e5).trans e6) x6
      rw [hj5] at hr'
      unfold pRec
      rw [hn]
      simp only
      rw [if_pos cs, hk]
      simp only
      rw [hr']
    rw [hj5] at hr'
    obtain ⟨⟨dx6, s1⟩, s2, s3⟩ := id x6
    refine ⟨_, rfl, r, dx6, _, rfl, s1, bF_m (by decide +kernel) (by decide +kernel), readP x6 hb hl (fun ht H7 j7 e7 x7 => ⟨true, J.e, fun _ _ _ => ?_, fun z => nomatch z⟩) fun t l4 ht H7 j7 v7 e7 x7 hj7 hv7 => ?_⟩
    · refine bad ?_ H7 j7 (((ex4.trans e5).trans e6).trans e7) x7
      rw [hj6] at ht
      unfold pRec
      rw [hn]
      simp only
      rw [if_pos cs, hk]
      simp only
      rw [hr']
      simp only
      rw [ht]
    rw [hj6] at ht
    obtain rfl : v7 = .int (t : Nat) := hv7
    refine ⟨(by show 3 ≤ sizeLine; decide), fun z hz => ?_⟩
    have e8 : KS.Ex H7 (upd H7 z (.tup [.ref q5, .ref q6, .int (t : Nat)])) := Ex.upd hz
    have hz8 : (upd H7 z (.tup [.ref q5, .ref q6, .int (t : Nat)])) z = some (.tup [.ref q5, .ref q6, .int (t : Nat)]) := upd_same
    have x8 := x7.ex e8
    have hq58 := e8 _ _ (x6.kt e7 _ _ (x5.kt e6 _ _ hq5))
    have hq68 := e8 _ _ (x6.kt e7 _ _ hq6)
    have ex8 : ExD r H (upd H7 z (.tup [.ref q5, .ref q6, .int (t : Nat)])) := (((ex4.trans e5).trans e6).trans e7).trans (ExD.of e8)
    show tSeq _ _ _ [some (.ref r), some (.int (many : Nat)), some (.int (j1 : Nat)), some (.int ((j1 : Nat) + (many : Nat) : Int)), some (.ref b2), some (.ref z)] (upd H7 z (.tup [.ref q5, .ref q6, .int (t : Nat)]))
    generalize upd H7 z (.tup [.ref q5, .ref q6, .int (t : Nat)]) = H8 at hz8 x8 hq58 hq68 ex8
    obtain ⟨⟨dx8, u1⟩, u2, u3⟩ := id x8
    have lj1 : l1.length = dat.length - j1 := by rw [← hj1, List.length_drop]
    have lj7 : l4.length = dat.length - j7 := by rw [← hj7, List.length_drop]
    have lcs := congrArg List.length cs
    rw [sumL_len, List.length_take, List.length_drop] at lcs
    refine ⟨_, rfl, r, CB, dx8, _, _, rfl, u1, B.cl, B.p, rfl, _, rfl, rfl, _, rfl, ?_⟩
    rw [eqI]
    by_cases c : l4.length + many = l1.length
    · refine ifF (by simp; omega) ?_
      refine ⟨_, rfl, _, _, rfl, rfl, _, rfl, r, CB, dx8, _, rfl, u1, B.cl, B.p, (by show 2 < 1000; decide), ?_⟩
      refine ⟨_, rfl, ?_⟩
      have hpr := pRec_good hn cs hk hr' ht c
      have nz : z ≠ r := fun e => by rw [e, u1] at hz8; cases hz8
      have n5 : q5 ≠ r := fun e => by rw [e, u1] at hq58; cases hq58
      have n6 : q6 ≠ r := fun e => by rw [e, u1] at hq68; cases hq68
      have np : p ≠ r := fun e => by rw [e, u1] at u2; cases u2
      refine good _ _ hpr _ (j1 + many + 4) z (fun b o nb h => by rw [L2.upd_ne nb]; exact ex8 b o nb h) ⟨⟨dx8, ?_⟩, by rw [L2.upd_ne np]; exact u2, by omega⟩ (by rw [← hj1, List.drop_drop, List.drop_drop, Nat.add_assoc]) ⟨q5, q6, by rw [L2.upd_ne nz]; exact hz8, by rw [L2.upd_ne n5]; exact hq58, by rw [L2.upd_ne n6]; exact hq68⟩
      rw [upd_same]
      show some (HO.ins CB dx8 [("data", .ref p), ("place", .int (((j1 : Nat) : Int) + ((many : Nat) : Int) + 4))]) = _
      rw [show ((j1 : Nat) : Int) + ((many : Nat) : Int) + 4 = ((j1 + many + 4 : Nat) : Int) by omega]
    · refine ifT (by simp; omega) ?_
      refine bad ?_ H8 j7 ex8 x8
      unfold pRec
      rw [hn]
      simp only
      rw [if_pos cs, hk]
      simp only
      rw [hr']
      simp only
      rw [ht]
      simp only
      rw [if_neg c]
end
end KL6
set_option Elab.async false
set_option linter.all false
set_option maxRecDepth 100000
set_option maxHeartbeats 4000000
namespace KL6
open PySem PySem.Spec PyProof.Rows L2 KB KC KS KN1 LamX K7
def Recs (H : Hp) : List Addr → List Rc → Prop := Paired (RecAt H)
theorem paired_mono {α β : Type} {F G : α → β → Prop} (h : ∀ a b, F a b → G a b) : ∀ {xs : List α} {ys : List β}, Paired F xs ys → Paired G xs ys
  | _, _, .nil => .nil
  | _, _, .cons a r => .cons (h _ _ a) (paired_mono h r)
theorem Recs.kt {H H' : Hp} {ts : List Addr} {xs : List Rc} (r : Recs H ts xs) (e : KT' H H') : Recs H' ts xs := paired_mono (fun _ _ h => h.kt e) r
theorem pRecs_len {l : List Int} {xs : List Rc} {rest : List Int} (h : pRecs l = (xs, rest)) : xs.length + rest.length ≤ l.length := by
  induction hn : l.length using Nat.strongRecOn generalizing l xs rest with
  | ind n ih =>
    cases e : pRec l with
    | none =>
      rw [pRecs_none e] at h
      injection h with h1 h2
      rw [← h1, ← h2]
      show 0 + l.length ≤ _
      omega
    | some q =>
      obtain ⟨x, l'⟩ := q
      rw [pRecs_some e] at h
      injection h with h1 h2
      have hs := pRec_short e
      have := ih l'.length (by omega) (l := l') (xs := (pRecs l').1) (rest := (pRecs l').2) rfl rfl
      rw [← h1, ← h2, List.length_cons]
      omega
def Found (CB r p : Addr) (dat rest : List Int) (H : Hp) (v : V) : Prop := (pRec rest = none ∧ v = .non ∧ ∃ j, RdA CB r p dat j H) ∨ ∃ x rest1 t j, pRec rest = some (x, rest1) ∧ v = .ref t ∧ RecAt H t x ∧ RdA CB r p dat j H ∧ dat.drop j = rest1
theorem rd1_any {CB CR r p : Addr} {dat rest : List Int} {i : Nat} {H : Hp} {Q : VK} {E : XK} (x : RdA CB r p dat i H) (hi : dat.drop i = rest) (hb : Bytes dat) (hl : dat.length ≤ 1000) (q : ∀ H' v, ExD r H H' → Found CB r p dat rest H' v → Q v H') : spRd1 CB CR [.ref r] H Q E := by
  subst hi
  exact rd1_step x hb hl (fun hn H' j e x' => q H' _ e (.inl ⟨hn, rfl, j, x'⟩)) fun y rest1 hn H' j t e x' hj ra => q H' _ e (.inr ⟨y, rest1, t, j, hn, rfl, ra, x', hj⟩)
@[irreducible] def spReads : Sp := fun vs H Q _ => ∃ (p : Addr) (dat : List Int), vs = [.ref p] ∧ H p = some (.tup (dat.map V.int)) ∧ Bytes dat ∧ dat.length ≤ 1000 ∧
  ∀ H' q l ts, KS.Ex H H' → H' q = some (.tup [.ref l, .int ((dat.length - (pRecs dat).2.length : Nat) : Int)]) → H' l = some (.lst (ts.map V.ref)) → H l = none → Recs H' ts (pRecs dat).1 → Q (.ref q) H'
theorem reads_step {H : Hp} {Q : VK} {E : XK} {p : Addr} {dat : List Int} (h : H p = some (.tup (dat.map V.int))) (hb : Bytes dat) (hl : dat.length ≤ 1000)
    (fin : ∀ H' q l ts, KS.Ex H H' → H' q = some (.tup [.ref l, .int ((dat.length - (pRecs dat).2.length : Nat) : Int)]) → H' l = some (.lst (ts.map V.ref)) → H l = none → Recs H' ts (pRecs dat).1 → Q (.ref q) H') : spReads [.ref p] H Q E := by
  unfold spReads
  exact ⟨p, dat, rfl, h, hb, hl, fin⟩
section
variable {P : Program} {w : World} {K : PySem.W.Frag} {mg : Str → Option Value} {base : Heap} {f fI fR CB CR : Addr} {fd fdI fdR : FuncData}
abbrev nRs : List Str := ["data", "found", "reader", "whole", "record"]
theorem scRs : FnScope nRs ["data"] (defScope sReads) := ⟨rfl, rfl, rfl, by decide +kernel, rfl, by decide +kernel, by decide +kernel⟩
theorem ok_reads (F : FnP K "read_records" "read_records" sReads [] f fd) (B : TxtB K mg CB) (M : Mk K CB fI) (GI : FnOk P w K mg base CX0 1 fI fdI ["self", "data"] (spBInit CB)) (bI : Binds K fdI ["self", "data"] [])
    (GR : FnOk P w K mg base CX0 7 fR fdR ["reader"] (spRd1 CB CR)) (gR : mg "read_record" = some (.ref fR)) (kR : PySem.W.keepIn K (.ref fR) = true) (bR : Binds K fdR ["reader"] []) : FnOk P w K mg base CX0 8 f fd ["data"] spReads := by
  refine F.ok scRs (fun vs H Q E h => ?_) (fun cdv A outer s H vs Q E hr h => ?_)
  · unfold spReads at h
    obtain ⟨_, _, rfl, _⟩ := h; rfl
  · unfold spReads at h
    obtain ⟨p, dat, rfl, hp, hb, hl, fin⟩ := h
    refine ⟨_, PSs.nox <| pss_cons (ps_set (i := 1) scRs.nd rfl (Or.inl rfl) (pe_lst pa_nil))
      (pss_cons (ps_set (i := 2) scRs.nd rfl (Or.inl rfl) (pe_make M GI (hr.mono (by decide)) (by rfl) B.g bI .nil pass0 (pa_cons (pv 0) pa_nil)))
      (pss_cons (ps_set (i := 3) scRs.nd rfl (Or.inl rfl) pe_int)
      (pss_cons (ps_set (i := 4) scRs.nd rfl (Or.inl rfl) (pe_call GR hr (by rfl) gR kR bR .nil pass0 (pa_cons (pv 2) pa_nil)))
      (pss_cons (ps_while PassesOwn.never (pt_cmp (pc_notN (pv 4)))
        (pss_cons (ps_expr (pe_bm PySem.F.plainAttrs_list PySem.F.slot_list_append PySem.F.type_list_append mt_append (pv 1) (pa_cons (pv 4) pa_nil)))
        (pss_cons (ps_set (i := 3) scRs.nd rfl (Or.inl rfl) (pf 2))
        (pss_one (ps_set (i := 4) scRs.nd rfl (Or.inl rfl) (pe_call GR hr (by rfl) gR kR bR .nil pass0 (pa_cons (pv 2) pa_nil)))))))
      (pss_one (ps_ret (pe_tup (pa_cons (pv 1) (pa_cons (pv 3) pa_nil))))))))), ?_⟩
    have hz : sizeLine = 16777216 := rfl
    refine ⟨by decide, fun l hl0 => ?_⟩
    have e1 : KS.Ex H (upd H l (.lst [])) := Ex.upd hl0
    have hl1 : (upd H l (.lst [])) l = some (.lst (([] : List Addr).map V.ref)) := upd_same
    show tSeq _ _ _ [some (.ref p), some (.ref l), none, none, none] (upd H l (.lst []))
    generalize upd H l (.lst []) = H1 at e1 hl1
    refine ⟨_, rfl, fun r dx hr0 hdx nr => ?_⟩
    have e2 : KS.Ex H1 (upd (upd H1 dx (.own r)) r (.ins CB dx [])) := (Ex.upd hdx).trans (Ex.upd (by rw [L2.upd_ne nr.symm]; exact hr0))
    have hr2 : (upd (upd H1 dx (.own r)) r (.ins CB dx [])) r = some (.ins CB dx []) := upd_same
    show spBInit CB [.ref r, .ref p] _ _ _
    generalize upd (upd H1 dx (.own r)) r (.ins CB dx []) = H2 at e2 hr2
    refine binit_step hr2 (e2 _ _ (e1 _ _ hp)) fun H3 e3 x3 => ⟨rfl, _, rfl, rd1_any x3 (List.drop_zero (l := dat)) hb hl fun H4 v4 e4 f4 => ?_⟩
    have nlr : l ≠ r := fun z => by rw [z, hr0] at hl1; cases hl1
    have hHr : H r = none := by
      cases q : H r with
      | none => rfl
      | some o => rw [e1 _ _ q] at hr0; cases hr0
    have exH : KS.Ex H H4 := fun b o h => e4 b o (ne_of_none (e1 _ _ h) hr0) (e3 b o (ne_of_none (e1 _ _ h) hr0) (e2 b o (e1 b o h)))
    have hl4 : H4 l = some (.lst (([] : List Addr).map V.ref)) := e4 _ _ nlr (e3 _ _ nlr (e2 _ _ hl1))
    refine ⟨fun m σ H' => ∃ (xs : List Rc) (ts : List Addr) (rest : List Int) (v : V), σ = [some (.ref p), some (.ref l), some (.ref r), some (.int ((dat.length - rest.length : Nat) : Int)), some v] ∧ m = rest.length ∧ xs ++ (pRecs rest).1 = (pRecs dat).1 ∧ (pRecs rest).2 = (pRecs dat).2 ∧ rest.length ≤ dat.length ∧ xs.length + rest.length ≤ dat.length ∧ KS.Ex H H' ∧ H' l = some (.lst (ts.map V.ref)) ∧ Recs H' ts xs ∧ Found CB r p dat rest H' v,
      ⟨dat.length, [], [], dat, v4, by rw [Nat.sub_self]; rfl, rfl, rfl, rfl, Nat.le_refl _, (by simp), exH, hl4, .nil, f4⟩, ?_⟩
    rintro m σ H5 ⟨xs, ts, rest, v, rfl, rfl, h1, h2, h3, h4, ex5, hl5, rs5, f5⟩
    rcases f5 with ⟨hn, rfl, j5, x5⟩ | ⟨y, rest1, t5, j5, hn, rfl, ra5, x5, hj5⟩
    · refine ⟨_, rfl, _, rfl, ifF (by decide) ?_⟩
      rw [pRecs_none hn, List.append_nil] at h1
      rw [pRecs_none hn] at h2
      refine ⟨_, rfl, _, rfl, (by show 2 ≤ sizeLine; decide), fun q hq => ?_⟩
      have e6 : KS.Ex H5 (upd H5 q (.tup [.ref l, .int ((dat.length - rest.length : Nat) : Int)])) := Ex.upd hq
      refine fin _ q l ts (ex5.trans e6) ?_ (e6 _ _ hl5) hl0 (by rw [← h1]; exact rs5.kt (kt_of e6))
      rw [upd_same, ← h2]
    · have hs := pRec_short hn
      have ltn := paired_len rs5
      refine ⟨_, rfl, _, rfl, ifT (by simp) ?_⟩
      rw [pRecs_some hn] at h1 h2
      refine ⟨fun σ' H' => ∃ m', m' < rest.length ∧ _, fun σ' H' h => h, ?_⟩
      refine ⟨_, rfl, .inl ⟨rfl, _, SqL.of hl5⟩, _, rfl, l, _, _, rfl, rfl, hl5, by rw [List.length_map]; omega, ?_⟩
      rw [show ts.map V.ref ++ [V.ref t5] = (ts ++ [t5]).map V.ref by rw [List.map_append]; rfl]
      have x6 : RdA CB r p dat j5 (upd H5 l (.lst ((ts ++ [t5]).map V.ref))) := by
        obtain ⟨⟨dx5, g1⟩, g2, g3⟩ := x5
        exact ⟨⟨dx5, by rw [L2.upd_ne nlr.symm]; exact g1⟩, by rw [L2.upd_ne (fun z => by rw [z, hl5] at g2; cases g2)]; exact g2, g3⟩
      have k6 : KT' H5 (upd H5 l (.lst ((ts ++ [t5]).map V.ref))) := fun b xs h => by
        rw [L2.upd_ne (fun z => by rw [z, hl5] at h; cases h)]; exact h
      have ex6 : KS.Ex H (upd H5 l (.lst ((ts ++ [t5]).map V.ref))) := fun b o h => by
        rw [L2.upd_ne (ne_of_none h hl0)]; exact ex5 b o h
      have hl6 : (upd H5 l (.lst ((ts ++ [t5]).map V.ref))) l = some (.lst ((ts ++ [t5]).map V.ref)) := upd_same
      have rs6 : Recs (upd H5 l (.lst ((ts ++ [t5]).map V.ref))) (ts ++ [t5]) (xs ++ [y]) := paired_snoc' (rs5.kt k6) (ra5.kt k6)
      generalize upd H5 l (.lst ((ts ++ [t5]).map V.ref)) = H6 at x6 k6 ex6 hl6 rs6
      obtain ⟨⟨dx6, g1⟩, g2, g3⟩ := id x6
      have lj : rest1.length = dat.length - j5 := by rw [← hj5, List.length_drop]
      refine ⟨_, rfl, r, CB, dx6, _, _, rfl, g1, B.cl, B.p, rfl, ?_⟩
      refine ⟨_, rfl, rd1_any x6 hj5 hb hl fun H7 v7 e7 f7 => ?_⟩
      have k7 := x6.kt e7
      refine ⟨rest1.length, hs, xs ++ [y], ts ++ [t5], rest1, v7, ?_, rfl, by rw [← h1, List.append_assoc]; rfl, h2, by omega, by rw [List.length_append]; show _ + 1 + _ ≤ _; omega, fun b o h => e7 b o (ne_of_none h hHr) (ex6 b o h), e7 _ _ nlr hl6, rs6.kt k7, f7⟩
      show [some (V.ref p), some (V.ref l), some (V.ref r), some (V.int ((j5 : Nat) : Int)), some v7] = _
      rw [show j5 = dat.length - rest1.length by omega]
end
end KL6
set_option Elab.async false
set_option linter.all false
set_option maxRecDepth 100000
set_option maxHeartbeats 2000000
namespace EN
open PySem PySem.Spec
section
variable {prog : Program} {w : World} {A : Around} {E : Value → Shared → Prop} {s : Shared}
theorem held_next {e it l T : Addr} {i : Nat} {c : Int} {items : Array Value} {x old : Value} {f : Bool} {oT : Obj} {Q : Value → Shared → Prop}
    (he : IsEnumHeld s.heap e it c old T f) (hT : s.heap.get? T = some oT) (nTe : T ≠ e) (nTi : T ≠ it) (hit : s.heap.IsListIter it l i) (hl : s.heap.IsList l items) (hx : items[i]? = some x) (ne : e ≠ it)
    (q : ∀ h', IsEnumHeld h' e it (c + 1) old T true → h'.IsListIter it l (i + 1) → h'.get? s.heap.objs.size = some { cls := .type "tuple", data := .seq #[.int c s.toks, x] } → h'.objs.size = s.heap.objs.size + 1 →
      (∀ b o, b ≠ e → b ≠ it → s.heap.get? b = some o → h'.get? b = some o) → Q (.ref s.heap.objs.size) { s with heap := h', toks := s.toks + 1 }) :
    wpAny (model prog w) A (Builtin.«enumerate.__next__» ⟨[.ref e], []⟩) (fun r s' => ∃ v, r = .done (.ret v) ∧ Q v s') E s := by
  obtain ⟨hp, g, d, tk, os⟩ := s
  have lte : e < hp.objs.size := Heap.lt_size he
  show wpAny _ _ (field (.ref e) 2 >>= _) _ _ _
  refine wpAny_bind (wpAny_field he rfl (x := .ref it) rfl (wpAny_bind (wpAny_nextOf_list_item hit hl hx fun h1 it1 k1 => ?_)))
  have k1 : Heap.SameBut it hp h1 := k1
  have e1 : IsEnumHeld h1 e it c old T f := (k1.2 e ne).trans he
  show wpAny _ _ (field (.ref e) 3 >>= _) _ _ ⟨h1, g, d, tk, os⟩
  refine wpAny_bind (wpAny_field e1 rfl (x := rawInt c) rfl ?_)
  show wpAny _ _ (field (.ref e) 4 >>= _) _ _ ⟨h1, g, d, tk, os⟩
  refine wpAny_bind (wpAny_field e1 rfl (x := .none) rfl ?_)
  show wpAny _ _ (mkInt c >>= _) _ _ ⟨h1, g, d, tk, os⟩
  refine wpAny_bind (wpAny_mkInt ?_)
  show wpAny _ _ (setField (.ref e) 3 (rawInt (c + 1)) >>= _) _ _ ⟨h1, g, d, tk + 1, os⟩
  refine wpAny_bind (wpAny_setField_rec e1 (by simp) fun h2 e2 k2 => ?_)
  have k2 : Heap.SameBut e h1 h2 := k2
  have e2 : IsEnumHeld h2 e it (c + 1) old T f := e2
  show wpAny _ _ (setField (.ref e) 4 .none >>= _) _ _ ⟨h2, g, d, tk + 1, os⟩
  refine wpAny_bind (wpAny_setField_rec e2 (by simp) fun h3 e3 k3 => ?_)
  have k3 : Heap.SameBut e h2 h3 := k3
  have e3 : IsEnumHeld h3 e it (c + 1) old T f := e3
  have sz3 : h3.objs.size = hp.objs.size := by rw [k3.1, k2.1, k1.1]
  show wpAny _ _ (newTuple [.int c tk, x] >>= _) _ _ ⟨h3, g, d, tk + 1, os⟩
  refine wpAny_bind (wpAny_newTuple ?_)
  have e4 : IsEnumHeld (h3.push { cls := .type "tuple", data := .seq #[.int c tk, x] }) e it (c + 1) old T f := Heap.get?_push_of_some _ e3
  have t4 : (h3.push { cls := .type "tuple", data := .seq #[.int c tk, x] }).get? hp.objs.size = some { cls := .type "tuple", data := .seq #[.int c tk, x] } := by
    rw [← sz3]; exact Heap.get?_push_size _ rfl
  have z4 : (h3.push { cls := .type "tuple", data := .seq #[.int c tk, x] }).objs.size = hp.objs.size + 1 := by rw [Heap.size_push, sz3]
  have keep4 : ∀ b o, b ≠ e → b ≠ it → hp.get? b = some o → (h3.push { cls := .type "tuple", data := .seq #[.int c tk, x] }).get? b = some o := fun b o n1 n2 hb =>
    Heap.get?_push_of_some _ (k3.extBut b o n1 (k2.extBut b o n1 (k1.extBut b o n2 hb)))
  have it4 : (h3.push { cls := .type "tuple", data := .seq #[.int c tk, x] }).IsListIter it l (i + 1) :=
    ((it1.extBut k2.extBut ne.symm).extBut k3.extBut ne.symm).at fun o ho => Heap.get?_push_of_some _ ho
  rw [sz3]
  generalize h3.push { cls := .type "tuple", data := .seq #[.int c tk, x] } = h4 at e4 t4 z4 keep4 it4
  show wpAny _ _ (Builtin.SmallTypes.ownedTupleIsFree (.ref e) >>= _) _ _ ⟨h4, g, d, tk + 1, os⟩
  refine wpAny_bind (wpAny_tupleHeld_enum (s := ⟨h4, g, d, tk + 1, os⟩) e4 (keep4 T oT nTe nTi hT) fun h5 e5 k5 => ?_)
  have k5 : Heap.SameBut e h4 h5 := k5
  simp only [Bool.false_eq_true, if_false]
  refine wpAny_pure ⟨_, rfl, q h5 e5 (it4.extBut k5.extBut ne.symm) (k5.extBut _ _ (Nat.ne_of_gt lte) t4) ?_ fun b o n1 n2 hb => k5.extBut b o n1 (keep4 b o n1 n2 hb)⟩
  show h5.objs.size = hp.objs.size + 1
  rw [k5.1, z4]
theorem held_pyNext {e it l T : Addr} {i : Nat} {c : Int} {items : Array Value} {x old : Value} {f : Bool} {oT : Obj} {Q : Option Value → Shared → Prop}
    (he : IsEnumHeld s.heap e it c old T f) (hT : s.heap.get? T = some oT) (nTe : T ≠ e) (nTi : T ≠ it) (hit : s.heap.IsListIter it l i) (hl : s.heap.IsList l items) (hx : items[i]? = some x) (ne : e ≠ it)
    (q : ∀ h', IsEnumHeld h' e it (c + 1) old T true → h'.IsListIter it l (i + 1) → h'.get? s.heap.objs.size = some { cls := .type "tuple", data := .seq #[.int c s.toks, x] } → h'.objs.size = s.heap.objs.size + 1 →
      (∀ b o, b ≠ e → b ≠ it → s.heap.get? b = some o → h'.get? b = some o) → Q (some (.ref s.heap.objs.size)) { s with heap := h', toks := s.toks + 1 }) :
    wpAny (model prog w) A (pyNext (.ref e)) Q E s := by
  have ty : s.TypeIs (.ref e) "enumerate" := ⟨_, he, rfl⟩
  unfold pyNext
  exact wpAny_bind (wpAny_attempt (wpAny_callSpecial?_slot (name := Str.ofString "__next__") ty F.slot_enumerate_next
    (wpAny_call_entry F.slot_enumerate_next ty F.entry_enumerate_next (held_next he hT nTe nTi hit hl hx ne fun h' a1 a2 a3 a4 a5 => wpAny_pure (q h' a1 a2 a3 a4 a5)) (F.args_enumerate_next_1 _))))
theorem held_end {e it l T : Addr} {i : Nat} {c : Int} {items : Array Value} {old : Value} {f : Bool} {Q : Option Value → Shared → Prop} (hh : A.handled = none)
    (he : IsEnumHeld s.heap e it c old T f) (hit : s.heap.IsListIter it l i) (hl : s.heap.IsList l items) (hx : items[i]? = none) (q : ∀ h', Heap.ExtBut it s.heap h' → Q none { s with heap := h' }) : wpAny (model prog w) A (pyNext (.ref e)) Q E s := by
  have ty : s.TypeIs (.ref e) "enumerate" := ⟨_, he, rfl⟩
  unfold pyNext
  refine wpAny_bind (wpAny_attempt (wpAny_callSpecial?_slot (name := Str.ofString "__next__") ty F.slot_enumerate_next (wpAny_call_entry F.slot_enumerate_next ty F.entry_enumerate_next ?_ (F.args_enumerate_next_1 _))))
  show wpAny _ _ (field (.ref e) 2 >>= _) _ _ _
  refine wpAny_bind (wpAny_field he rfl (x := .ref it) rfl (wpAny_bind (wpAny_nextOf_list_end hh hit hl hx fun h' x ke kx => ?_)))
  obtain ⟨o, ho, hc⟩ := kx
  exact wpAny_bind (wpAny_isInstance (T := "StopIteration") (b := true) ⟨o, ho, hc⟩ isSubtype_stop (wpAny_pure (q _ ke)))
def PairsAt (h : Heap) (e it S : Addr) (c : Int) (items acc : Array Value) (i : Nat) : Prop :=
  acc.size = i ∧ ∀ j < i, ∃ (T : Addr) (t : Tok) (x : Value), acc[j]? = some (.ref T) ∧ items[j]? = some x ∧ h.get? T = some { cls := .type "tuple", data := .seq #[.int (c + (j : Int)) t, x] } ∧ e < T ∧ T ≠ it ∧ T ≠ S
def EnumAt (h : Heap) (e it l S : Addr) (c : Int) (items : Array Value) (i : Nat) : Prop :=
  h.IsListIter it l i ∧ h.IsList l items ∧ ((i = 0 ∧ ∃ old, IsEnum h e it c old) ∨ ∃ old T f oT, IsEnumHeld h e it (c + (i : Int)) old T f ∧ h.get? T = some oT ∧ T ≠ e ∧ T ≠ it ∧ T ≠ S)
abbrev lstO (acc : Array Value) (k : Nat) : Obj := { cls := .type "list", dict := none, data := .seq acc k, slots := #[] }
theorem enum_loop {e it l S : Addr} {c : Int} {items : Array Value} {R : Result → Shared → Prop} (hh : A.handled = none) (ne : e ≠ it) (nl1 : l ≠ e) (nl2 : l ≠ it) (nSe : S ≠ e) (nSi : S ≠ it) (nSl : S ≠ l) (hn : items.size ≤ sizeLine) (res : Value) :
    ∀ (k i : Nat) (s : Shared) (acc : Array Value) (n : Nat), items.size - i = k → i ≤ items.size → EnumAt s.heap e it l S c items i → s.heap.get? S = some (lstO acc n) → PairsAt s.heap e it S c items acc i →
    (∀ (h' : Heap) (tk : Nat) (acc' : Array Value) (n' : Nat), (∀ b o, b ≠ e → b ≠ it → b ≠ S → s.heap.get? b = some o → h'.get? b = some o) → h'.get? S = some (lstO acc' n') → PairsAt h' e it S c items acc' items.size → R (.ok (.ret res)) { s with heap := h', toks := tk }) →
    codeAny (model prog w) A (.builtin "list.extend.loop" ⟨[.ref S, .ref e, res], []⟩) R s := by
  intro k
  induction k with
  | zero =>
    intro i s acc n hk hi st hS hp q
    have hi2 : i = items.size := by omega
    subst hi2
    obtain ⟨hit, hl, he⟩ := st
    refine codeAny_builtin F.entry_extend_loop ?_
    rw [Around.under_plainId F.plain_extend_loop _]
    show wpAny _ A.in1 (pyNext (.ref e) >>= _) _ _ s
    have out : ∀ h', Heap.ExtBut it s.heap h' → R (.ok (.ret res)) { s with heap := h' } := fun h' x => q h' s.toks acc n (fun b o n1 n2 n3 hb => x b o n2 hb) (x _ _ nSi hS) ⟨hp.1, fun j hj => by
      obtain ⟨T, t, y, p1, p2, p3, p4, p5, p6⟩ := hp.2 j hj
      exact ⟨T, t, y, p1, p2, x _ _ p5 p3, p4, p5, p6⟩⟩
    rcases he with ⟨h0, old, he⟩ | ⟨old, T, f, oT, he, hT, n1, n2, n3⟩
    · refine wpAny_bind (wpAny_pyNext_enum_endD (n := items.size) (P := fun i v => items[i]? = some v) (Draws.list (prog := prog) (w := w) (A := A.in1.in1) hh it l nl2 items) he ⟨hit, hl⟩ fun h' x => wpAny_pure (out h' x))
    · exact wpAny_bind (held_end (A := A.in1) hh he hit hl (by simp) fun h' x => wpAny_pure (out h' x))
  | succ k ih =>
    intro i s acc n hk hi st hS hp q
    have hlt : i < items.size := by omega
    obtain ⟨hit, hl, he⟩ := st
    have hx : items[i]? = some items[i] := by simp [hlt]
    have ltS : S < s.heap.objs.size := Heap.lt_size hS
    have lte : e < s.heap.objs.size := by
      rcases he with ⟨_, old, he⟩ | ⟨old, T, f, oT, he, _⟩
      · exact Heap.lt_size he
      · exact Heap.lt_size he
    have lti : it < s.heap.objs.size := by obtain ⟨_, z, _⟩ := hit; exact Heap.lt_size z
    refine codeAny_builtin F.entry_extend_loop ?_
    rw [Around.under_plainId F.plain_extend_loop _]
    show wpAny _ A.in1 (pyNext (.ref e) >>= _) _ _ s
    have go : ∀ (h' : Heap) (tk : Nat) (t : Tok), EnumAt h' e it l S c items (i + 1) → h'.get? s.heap.objs.size = some { cls := .type "tuple", data := .seq #[.int (c + (i : Int)) t, items[i]] } → (∀ b o, b ≠ e → b ≠ it → s.heap.get? b = some o → h'.get? b = some o) →
        wpAny (model prog w) A.in1 (updateSeq S (·.push (.ref s.heap.objs.size)) >>= fun _ => again (.builtin "list.extend.loop" ⟨[.ref S, .ref e, res], []⟩)) (fun r s' => match r with | .done f => R (.ok f) s' | .again c' => c'.quiet = true ∧ codeAny (model prog w) A c' R s') (fun e s' => R (.error e) s') { s with heap := h', toks := tk } := by
      intro h' tk t st' ht keep
      have hS' : h'.get? S = some (lstO acc n) := keep _ _ nSe nSi hS
      obtain ⟨hit', hl', he'⟩ := st'
      have oth : ∀ b o, b ≠ S → h'.get? b = some o → (h'.update S (Obj.mapSeq (·.push (.ref s.heap.objs.size)))).get? b = some o := fun b o nb hb => (Heap.get?_update_other _ _ (Ne.symm nb)).trans hb
      refine wpAny_bind (wpAny_updateSeq hS' rfl (wpAny_pure ⟨plainId_quiet F.plain_extend_loop _, ih (i + 1) _ (acc.push (.ref s.heap.objs.size)) _ (by omega) hlt ?_ (Heap.get?_update_self _ hS' rfl) ?_ fun h'' tk'' acc'' n'' k'' hS'' p'' => ?_⟩) (by rw [hp.1]; omega) (by show (acc.push _).size ≤ sizeLine + 1; rw [Array.size_push, hp.1]; omega))
      · refine ⟨hit'.at fun o z => oth _ _ nSi.symm z, hl'.at fun o z => oth _ _ nSl.symm z, ?_⟩
        rcases he' with ⟨z, _⟩ | ⟨old, T, f, oT, z1, z2, z3, z4, z5⟩
        · exact absurd z (Nat.succ_ne_zero i)
        · exact .inr ⟨old, T, f, oT, oth _ _ nSe.symm z1, oth _ _ z5 z2, z3, z4, z5⟩
      · refine ⟨by rw [Array.size_push, hp.1], fun j hj => ?_⟩
        by_cases ej : j = i
        · subst ej
          exact ⟨s.heap.objs.size, t, items[j], by rw [← hp.1]; simp, hx, oth _ _ (Nat.ne_of_gt ltS) ht, lte, Nat.ne_of_gt lti, Nat.ne_of_gt ltS⟩
        · obtain ⟨T, t', y, p1, p2, p3, p4, p5, p6⟩ := hp.2 j (by omega)
          refine ⟨T, t', y, ?_, p2, oth _ _ p6 (keep _ _ (Nat.ne_of_gt p4) p5 p3), p4, p5, p6⟩
          rw [Array.getElem?_push, if_neg (by rw [hp.1]; exact ej)]
          exact p1
      · exact q h'' tk'' acc'' n'' (fun b o n1 n2 n3 hb => k'' b o n1 n2 n3 (oth _ _ n3 (keep b o n1 n2 hb))) hS'' p''
    rcases he with ⟨h0, old, he⟩ | ⟨old, T, f, oT, he, hT, n1, n2, n3⟩
    · subst h0
      refine wpAny_bind (wpAny_pyNext_enum_itemC (n := items.size) (P := fun i v => items[i]? = some v) (Draws.list (prog := prog) (w := w) (A := A.in1.in1) hh it l nl2 items) he ⟨hit, hl⟩ hlt ne (by simp [ne, nl1.symm]) fun x h' tk hP ho hs' ht hz hk' => ?_)
      have ex : x = items[0] := by
        have hP : items[0]? = some x := hP
        rw [hx] at hP
        exact (Option.some.inj hP).symm
      subst ex
      exact go h' (tk + 1) tk ⟨hs'.1, hs'.2, .inr ⟨_, s.heap.objs.size, false, _, ho, ht, Nat.ne_of_gt lte, Nat.ne_of_gt lti, Nat.ne_of_gt ltS⟩⟩ (by simpa using ht) hk'
    · refine wpAny_bind (held_pyNext he hT n1 n2 hit hl hx ne fun h' he' hit' ht hz hk' => ?_)
      refine go h' (s.toks + 1) s.toks ⟨hit', hl.at fun o z => hk' _ _ nl1 nl2 z, .inr ⟨old, T, true, oT, ?_, hk' _ _ n1 n2 hT, n1, n2, n3⟩⟩ ht hk'
      have e1 : c + ((i + 1 : Nat) : Int) = c + (i : Int) + 1 := by omega
      rw [e1]; exact he'
end
end EN
set_option Elab.async false
set_option linter.all false
set_option maxRecDepth 100000
set_option maxHeartbeats 2000000
namespace EN
open PySem PySem.Spec PyProof.Rows L2
theorem en_nolen : typeLookup (.type "enumerate") "__len__" = pure none := by rw [typeLookup_type, builtinLookup_eq_fast]; kernel_rfl
theorem en_nohint : typeLookup (.type "enumerate") "__length_hint__" = pure none := by rw [typeLookup_type, builtinLookup_eq_fast]; kernel_rfl
section
variable {prog : Program} {w : World} {A : Around} {E : Value → Shared → Prop} {s : Shared}
structure Fresh (h : Heap) (e it l : Addr) (c : Int) (items : Array Value) : Prop where
  hen : IsEnum h e it c .none
  hit : h.IsListIter it l 0
  hl : h.IsList l items
  hei : e ≠ it
  hle : l ≠ e
  hli : l ≠ it
def Gone (h h' : Heap) (e it : Addr) (c : Int) (items acc : Array Value) : Prop :=
  (∀ b o, b ≠ e → b ≠ it → h.get? b = some o → h'.get? b = some o) ∧ ∃ S, h.get? S = none ∧ PairsAt h' e it S c items acc items.size
theorem collect_enum {e it l : Addr} {c : Int} {items : Array Value} {Q : List Value → Shared → Prop} (hh : A.handled = none) (F0 : Fresh s.heap e it l c items) (hn : items.size ≤ sizeLine)
    (hQ : ∀ (h' : Heap) (tk : Nat) (acc : Array Value), Gone s.heap h' e it c items acc → Q acc.toList { s with heap := h', toks := tk }) :
    wpAny (model prog w) A (collect (.ref e)) Q E s := by
  have le1 : e < s.heap.objs.size := Heap.lt_size F0.hen
  have le2 : it < s.heap.objs.size := by obtain ⟨_, z, _⟩ := F0.hit; exact Heap.lt_size z
  have le3 : l < s.heap.objs.size := by obtain ⟨_, z, _⟩ := F0.hl; exact Heap.lt_size z
  unfold collect
  refine wpAny_bind (wpAny_runValue (codeAny_builtin F.entry_proto_collect ?_))
  rw [Around.under_plainId F.plain_proto_collect _]
  show wpAny _ A.in1 (newList [] >>= fun m => again (.builtin "list.__iadd__" ⟨[m, .ref e], []⟩)) _ _ s
  refine wpAny_bind (wpAny_newObj_type (wpAny_pure ⟨plainId_quiet F.plain_list_iadd _, codeAny_builtin F.entry_list_iadd ?_⟩))
  rw [Around.under_plainId F.plain_list_iadd _]
  have new : (s.heap.push { cls := .type "list", data := .seq ([] : List Value).toArray }).get? s.heap.objs.size = some { cls := .type "list", data := .seq ([] : List Value).toArray } := Heap.get?_push_size _ rfl
  have en1 : IsEnum (s.heap.push { cls := .type "list", data := .seq ([] : List Value).toArray }) e it c .none := Heap.get?_push_of_some _ F0.hen
  have ty : ({ s with heap := s.heap.push { cls := .type "list", data := .seq ([] : List Value).toArray } } : Shared).TypeIs (.ref e) "enumerate" := ⟨_, en1, rfl⟩
  have nSe : (s.heap.objs.size : Nat) ≠ e := Nat.ne_of_gt le1
  have nSi : (s.heap.objs.size : Nat) ≠ it := Nat.ne_of_gt le2
  have nSl : (s.heap.objs.size : Nat) ≠ l := Nat.ne_of_gt le3
  have b1 : Builtin.List.listSameRef (.ref s.heap.objs.size) (.ref e) = false := by simp [Builtin.List.listSameRef, nSe]
  have b2 : (Value.type "enumerate" == Value.type "list") = false := by decide
  have b3 : (Value.type "enumerate" == Value.type "tuple") = false := by decide
  show wpAny _ A.in1 (Builtin.List.listExtendWith (.ref s.heap.objs.size) (.ref e) (.ref s.heap.objs.size)) _ _ _
  unfold Builtin.List.listExtendWith
  refine wpAny_bind (wpAny_typeOf ty ?_)
  simp only [b1, b2, b3, Bool.or_false, Bool.false_eq_true, if_false]
  refine wpAny_bind (wpAny_pyIter_enum en1 (wpAny_bind (wpAny_holding ?_)))
  unfold Builtin.List.listLengthHint
  refine wpAny_bind (wpAny_specialOf ty en_nolen ?_)
  show wpAny _ A.in1 (specialOf (Value.ref e) (Str.ofString "__length_hint__") >>= _) _ _ _
  refine wpAny_bind (wpAny_specialOf ty en_nohint (wpAny_pure ?_))
  show wpAny _ A.in1 (rule "list.extend.makes-room" >>= fun _ => Builtin.List.listTouch (.ref s.heap.objs.size) >>= fun _ => again (.builtin "list.extend.loop" ⟨[.ref s.heap.objs.size, .ref e, .ref s.heap.objs.size], []⟩)) _ _ _
  refine wpAny_bind (wpAny_rule (wpAny_bind ?_))
  show wpAny _ A.in1 (updateSeq s.heap.objs.size (·.push .none) >>= fun _ => updateSeq s.heap.objs.size (·.pop)) _ _ _
  refine wpAny_bind (wpAny_updateSeq new rfl ?_)
  have new2 := Heap.get?_update_self (Obj.mapSeq (·.push Value.none)) new rfl
  refine wpAny_updateSeq new2 rfl ?_
  have new3 := Heap.get?_update_self (Obj.mapSeq (·.pop)) new2 rfl
  have oth : ∀ b o, b ≠ s.heap.objs.size → s.heap.get? b = some o →
      (((s.heap.push { cls := .type "list", data := .seq ([] : List Value).toArray }).update s.heap.objs.size (Obj.mapSeq (·.push Value.none))).update s.heap.objs.size (Obj.mapSeq (·.pop))).get? b = some o :=
    fun b o nb z => (Heap.get?_update_other _ _ (Ne.symm nb)).trans ((Heap.get?_update_other _ _ (Ne.symm nb)).trans (Heap.get?_push_of_some _ z))
  refine wpAny_pure ⟨plainId_quiet F.plain_extend_loop _, enum_loop (A := A) hh F0.hei F0.hle F0.hli nSe nSi nSl hn _ items.size 0 _ #[] _ rfl (Nat.zero_le _)
    ⟨F0.hit.at fun o z => oth _ _ nSi.symm z, F0.hl.at fun o z => oth _ _ nSl.symm z, .inl ⟨rfl, _, oth _ _ nSe.symm F0.hen⟩⟩ new3 ⟨rfl, fun j hj => absurd hj (Nat.not_lt_zero j)⟩ fun h' tk acc n kp hS hp => ?_⟩
  show wpAny _ A (load s.heap.objs.size >>= _) _ _ _
  refine wpAny_bind (wpAny_load (s := { s with heap := h', toks := tk }) hS ?_)
  refine wpAny_pure (hQ h' tk acc ⟨fun b o n1 n2 z => kp b o n1 n2 (fun q => by rw [q] at z; exact Nat.lt_irrefl _ (Heap.lt_size z)) (oth b o (fun q => by rw [q] at z; exact Nat.lt_irrefl _ (Heap.lt_size z)) z), s.heap.objs.size, ?_, hp⟩)
  cases z : s.heap.get? s.heap.objs.size with
  | none => rfl
  | some o => exact absurd (Heap.lt_size z) (Nat.lt_irrefl _)
theorem code_tuple_enum {e it l : Addr} {c : Int} {items : Array Value} {Q₁ : Value → Shared → Prop} (hh : A.handled = none) (F0 : Fresh s.heap e it l c items) (hn : items.size ≤ sizeLine)
    (h : ∀ (h' : Heap) (tk : Nat) (acc : Array Value), Gone s.heap h' e it c items acc → Q₁ (.ref h'.objs.size) { s with heap := h'.push { cls := .type "tuple", data := .seq acc }, toks := tk }) :
    codeAny (model prog w) A (.call (.builtin "tuple.__new__") ⟨[.type "tuple", .ref e], []⟩) (wants Q₁ E) s := by
  refine codeAny_of_tree ?_
  show wpAny _ A.in1 (do checkBuiltinCall "tuple.__new__" ⟨[.type "tuple", .ref e], []⟩; again (.builtin "tuple.__new__" ⟨[.type "tuple", .ref e], []⟩)) _ _ s
  refine wpAny_bind (wpAny_of_eq (F.newCall_tuple_1 _) (wpAny_pure ⟨plainId_quiet F.plain_tuple_new _, codeAny_builtin F.entry_tuple_new ?_⟩))
  rw [Around.under_plainId F.plain_tuple_new _]
  have f1 := sub_tuple_self
  have f2 := init_tuple_lookup
  have f3 := madeHere_tuple
  have ty : s.TypeIs (.ref e) "enumerate" := ⟨_, F0.hen, rfl⟩
  have hh1 : A.in1.handled = none := hh
  wp_walk using wpAny_typeOf ty, collect_enum (A := A.in1) hh1 F0 hn
  intro h' tk acc z
  have hz : acc.size = items.size := by obtain ⟨_, _, _, z, _⟩ := z; exact z
  show wpAny _ _ (Builtin.Tuple.tupleExact acc.toList.toArray >>= fun v => ret v) _ _ _
  unfold Builtin.Tuple.tupleExact
  refine wpAny_bind (wpAny_newObj_type ?_ (by show acc.toList.toArray.size ≤ sizeLine; simp only [Array.toArray_toList]; rw [hz]; exact hn))
  refine wpAny_pure ?_
  have ea : acc.toList.toArray = acc := by simp
  rw [ea]
  exact h h' tk acc z
theorem call_tuple_enum {e it l : Addr} {c : Int} {items : Array Value} {Q : Value → Shared → Prop} (hh : A.handled = none) (F0 : Fresh s.heap e it l c items) (hn : items.size ≤ sizeLine)
    (hQ : ∀ (h' : Heap) (tk : Nat) (acc : Array Value), Gone s.heap h' e it c items acc → Q (.ref h'.objs.size) { s with heap := h'.push { cls := .type "tuple", data := .seq acc }, toks := tk }) :
    wpAny (model prog w) A (call (.type "tuple") [.ref e]) Q E s := by
  refine callType_codes (Q₁ := fun obj s₁ => s₁.TypeIs obj "tuple" ∧ Q obj s₁) F.called_tuple (F.typeCall_tuple_1 _) F.entry_object_init
    (code_tuple_enum (A := A.in1) hh F0 hn fun h' tk acc z => ⟨⟨_, Heap.get?_push_size _ rfl, rfl⟩, hQ h' tk acc z⟩) fun obj s₁ h₁ => ?_
  exact ⟨h₁.1, F.args_object_init_2 obj _, object_init_meets F.called_tuple.init.lookup F.called_tuple.made (by decide) prog w A.in1 _ s₁ ⟨h₁.1, rfl, h₁.2⟩⟩
end
end EN
set_option Elab.async false
set_option linter.all false
set_option maxRecDepth 100000
set_option maxHeartbeats 2000000
namespace EN
open PySem PySem.Spec PyProof.Rows L2
section
variable {M : Model} {A : Around} {E : Value → Shared → Prop} {s : Shared} {env : Env}
theorem callWith_typeK {pos : Pos} {T : String} {e : Expr} {rest : List Expr} {kws : List Keyword} {Q : Value → Shared → Prop}
    (h : wpAny M A (spliced (backTo pos (starEach (e :: rest) env))) (fun vs s₁ => wpAny M A (evalAll ((backToKw pos (keywordEach kws env)).map (·.2)))
      (fun kvs s₂ => wpAny M A (call (.type T) vs (((backToKw pos (keywordEach kws env)).filterMap (·.1)).zip kvs)) Q E s₂) E s₁) E s)
    (he : backTo pos (starEach (e :: rest) env) = (false, eval e env) :: backTo pos (starEach rest env) := by rfl)
    (hplain : (backTo pos (starEach (e :: rest) env)).any (·.1) = false := by rfl)
    (hall : (backToKw pos (keywordEach kws env)).all (·.1.isSome) = true := by rfl)
    (hkw : (backToKw pos (keywordEach kws env)).any (·.1.isNone) = false := by rfl) :
    wpAny M A (callWith pos (.type T) [] (backTo pos (starEach (e :: rest) env)) (backToKw pos (keywordEach kws env))) Q E s := by
  unfold callWith
  have h2 : wpAny M A (evalArgs (.type T) true (backTo pos (starEach (e :: rest) env)) (backToKw pos (keywordEach kws env))) (fun a s₁ => wpAny M A (call (.type T) ([] ++ a.pos) a.kw) Q E s₁) E s := by
    rw [he] at h ⊢
    exact evalArgs_kwB hall h
  refine wpAny_bind (wpAny_holding (wpAny_mono h2 (fun a s₁ h₁ => wpAny_bind (wpAny_standAt ?_)) fun _ _ x => x))
  simp only [hplain, hkw, Bool.or_false]
  refine wpAny_bind (wpAny_pure ?_)
  exact wpAny_bind (wpAny_mono h₁ (fun r s₂ hr => wpAny_bind (wpAny_holding (wpAny_point (wpAny_pure hr)))) fun _ _ x => x)
end
section
def Nums (H : Hp) (k : Int) (ys : List V) (ts : List Addr) : Prop := ts.length = ys.length ∧ ∀ (j : Nat) (y : V), ys[j]? = some y → ∃ t, ts[j]? = some t ∧ H t = some (.tup [.int (k + (j : Int)), y])
theorem lay_pairs {X : Cx} {pins : List (Addr × Obj)} {σ : L2.St} {H : Hp} {s0 s : Shared} {k : Int} {ys : List V} {its : List Value} {acc : Array Value} (I0 : Inv X pins σ H s0) (I : Inv X pins σ H s) (r : Vals ys its)
    (hp : ∀ j < ys.length, ∃ (T : Addr) (t : Tok) (x : Value), acc[j]? = some (.ref T) ∧ its[j]? = some x ∧ s.heap.get? T = some { cls := .type "tuple", data := .seq #[.int (k + (j : Int)) t, x] } ∧ s0.heap.objs.size ≤ T) :
    ∀ n ≤ ys.length, ∃ (H' : Hp) (ts : List Addr), KS.Ex H H' ∧ Inv X pins σ H' s ∧ ts.length = n ∧ (∀ b, H' b = none ∨ H' b = H b ∨ b ∈ ts) ∧ (∀ j < n, ∃ (T : Addr) (t : Tok) (x : Value) (y : V), ts[j]? = some T ∧ acc[j]? = some (.ref T) ∧ ys[j]? = some y ∧ H' T = some (.tup [.int (k + (j : Int)), y]) ∧ s.heap.get? T = some { cls := .type "tuple", data := .seq #[.int (k + (j : Int)) t, x] }) := by
  intro n
  induction n with
  | zero => exact fun _ => ⟨H, [], KS.Ex.refl H, I, rfl, fun b => .inr (.inl rfl), fun j hj => absurd hj (Nat.not_lt_zero j)⟩
  | succ n ih =>
    intro hn
    obtain ⟨H1, ts, e1, I1, hl, ho, hj⟩ := ih (by omega)
    obtain ⟨T, t, x, a1, a2, a3, a4⟩ := hp n (by omega)
    have hy : ys[n]? = some ys[n] := List.getElem?_eq_getElem (by omega)
    obtain ⟨u, u1, u2⟩ := r.get hy
    rw [a2] at u1
    cases u1
    have hT0 : H T = none := I0.hok.fresh a4
    have nin : T ∉ ts := fun hm => by
      obtain ⟨i, hi, e⟩ := List.mem_iff_getElem.mp hm
      obtain ⟨T', t', x', y', b1, b2, b3, b4, b5⟩ := hj i (by omega)
      rw [List.getElem?_eq_getElem hi, e] at b1
      cases b1
      rw [a3] at b5
      injection b5 with b5
      injection b5 with _ _ b5
      injection b5 with b5
      have b5 := congrArg Array.toList b5
      simp only [List.cons.injEq] at b5
      have := b5.1
      injection this with q1 q2
      omega
    have hT : H1 T = none := by
      rcases ho T with q | q | q
      · exact q
      · rw [q]; exact hT0
      · exact absurd q nin
    have e2 : KS.Ex H1 (upd H1 T (.tup [.int (k + (n : Int)), ys[n]])) := KS.Ex.upd hT
    have I2 : Inv X pins σ (upd H1 T (.tup [.int (k + (n : Int)), ys[n]])) s := by
      have := I1.take (h' := s.heap) (t' := s.toks) (it := T) (o := .tup [.int (k + (n : Int)), ys[n]]) (fun b ob _ q => q) (I0.fpOk a4 hT) (show ObjOk X.prog X.w _ _ _ (.tup _) from ⟨by show 2 ≤ sizeLine; decide, [.int (k + (n : Int)) t, x], .cons ⟨t, rfl⟩ (.cons u2 .nil), ⟨_, a3, rfl, 0, rfl⟩⟩)
      exact this
    refine ⟨_, ts ++ [T], e1.trans e2, I2, by rw [List.length_append, hl]; rfl, fun b => ?_, fun j hjn => ?_⟩
    · by_cases c : b = T
      · exact .inr (.inr (by rw [c]; simp))
      · rw [upd_ne c]
        rcases ho b with q | q | q
        · exact .inl q
        · exact .inr (.inl q)
        · exact .inr (.inr (by simp [q]))
    · by_cases c : j = n
      · subst c
        exact ⟨T, t, x, ys[j], by rw [List.getElem?_append_right (by omega), hl, Nat.sub_self]; rfl, a1, hy, upd_same, a3⟩
      · obtain ⟨T', t', x', y', b1, b2, b3, b4, b5⟩ := hj j (by omega)
        exact ⟨T', t', x', y', by rw [List.getElem?_append_left (by omega)]; exact b1, b2, b3, e2 _ _ b4, b5⟩
def tTEnum (K : PySem.W.Frag) (ta tk : TE) : TE := fun σ H Q => ta σ H fun v H1 => tCons tk tNil σ H1 fun zs H2 => ∃ a ys k, v = .ref a ∧ zs = [.int k] ∧ -(2 ^ 63) ≤ k ∧ k < 2 ^ 63 ∧ SqL K H2 a ys ∧
  ∀ H' p ts, KS.Ex H2 H' → H' p = some (.tup (ts.map V.ref)) → Nums H' k ys ts → Q (.ref p) H'
theorem pe_tupleEnum {X : Cx} {xs e : Expr} {ta tk : TE} {p p2 pos pos2 kpos : Pos} (hg : Gl X "tuple") (hm : X.mg "tuple" = none) (hg2 : Gl X "enumerate") (hm2 : X.mg "enumerate" = none) (hc : X.calm = true) (ha : PE X xs ta) (hk : PE X e tk)
    (na : starEach [.Call (.Name "enumerate" p2) [xs] [⟨some "start", e, kpos⟩] pos2] X.env = (false, eval (.Call (.Name "enumerate" p2) [xs] [⟨some "start", e, kpos⟩] pos2) X.env) :: starEach [] X.env := by rfl)
    (na2 : starEach [xs] X.env = (false, eval xs X.env) :: starEach [] X.env := by rfl) (nb2 : backTo pos2 (starEach [xs] X.env) = (false, eval xs X.env) :: backTo pos2 (starEach [] X.env) := by rfl) (np2 : (backTo pos2 (starEach [xs] X.env)).any (·.1) = false := by rfl) :
    PE X (.Call (.Name "tuple" p) [.Call (.Name "enumerate" p2) [xs] [⟨some "start", e, kpos⟩] pos2] [] pos) (tTEnum X.K ta tk) := by
  refine ⟨fun pins s σ H Q I h => ?_⟩
  have hk' : PK X [⟨some "start", e, kpos⟩] (tCons tk tNil) := pk_cons hk pk_nil
  refine Call_ (ld_blt I hg hm boot_tuple (PyProof.Rows.callWith_type1 (args_cons (wpAny_Call_Name_kw (ld_blt I hg2 hm2 boot_enumerate (callWith_typeK (args_cons (thn (ha.run pins s σ H _ I h) fun v s1 ⟨x, H1, I1, r1, q1⟩ => args_nil (thn (hk'.run pos2 pins s1 σ H1 _ I1 q1) fun us s2 hus => ?_)) na2) nb2 np2))) na) na))
  obtain ⟨zs, H2, I2, r2, a, ys, k, ex, ez, k1, k2, hl, q⟩ := hus
  subst ex ez
  obtain rfl : v = .ref a := r1
  obtain ⟨u, rfl, r3⟩ := vals1 r2
  obtain ⟨t, rfl⟩ := r3
  obtain ⟨its, rv, pl, hz⟩ := I2.list hl
  have hl0 := pl.isList
  have lta : a < s2.heap.objs.size := by obtain ⟨_, z, _⟩ := hl0; exact Heap.lt_size z
  refine enum_begins_start (begins_list a its.toArray) hl0 k1 k2 fun h' he hi hsz hk => args_nil ?_
  have F0 : Fresh h' (s2.heap.objs.size + 1) s2.heap.objs.size a k its.toArray := ⟨he, ⟨_, hi, rfl, rfl⟩, hl0.at fun o z => hk _ _ z, Nat.succ_ne_self _, Nat.ne_of_lt (Nat.lt_succ_of_lt lta), Nat.ne_of_lt lta⟩
  have I3 : Inv X pins σ H2 { s2 with heap := h' } := I2.kept (t' := s2.toks) hk
  have lr := rv.length
  refine call_tuple_enum (s := { s2 with heap := h' }) (I2.ok.hd hc) F0 (by rw [List.size_toArray, ← lr]; exact hz) fun h2 tk acc ⟨g1, S, gS, gsz, gp⟩ => ?_
  simp only [List.size_toArray] at gsz gp
  have hk2 : ∀ b o, s2.heap.get? b = some o → h2.get? b = some o := fun b o z => by
    have := Heap.lt_size z
    exact g1 b o (Nat.ne_of_lt (Nat.lt_succ_of_lt this)) (Nat.ne_of_lt this) (hk b o z)
  have I4 : Inv X pins σ H2 { s2 with heap := h2, toks := tk } := I2.kept (t' := tk) hk2
  obtain ⟨H3, ts, e3, I5, hts, _, hj⟩ := lay_pairs (k := k) (acc := acc) I2 I4 rv (fun j hj => by
    obtain ⟨T, t', y, p1, p2, p3, p4, p5, p6⟩ := gp j (by omega)
    exact ⟨T, t', y, p1, by simpa using p2, p3, Nat.le_of_lt (Nat.lt_of_succ_lt p4)⟩) ys.length (Nat.le_refl _)
  have ea : acc.toList = ts.map Value.ref := by
    apply List.ext_getElem?
    intro j
    rw [Array.getElem?_toList, List.getElem?_map]
    by_cases c : j < ys.length
    · obtain ⟨T, t', y, y', b1, b2, _⟩ := hj j c
      rw [b1, b2]; rfl
    · rw [Array.getElem?_eq_none (by omega), List.getElem?_eq_none (by omega)]; rfl
  have I6 : Inv X pins σ (upd H3 h2.objs.size (.tup (ts.map V.ref))) { s2 with heap := h2.push { cls := .type "tuple", data := .seq acc }, toks := tk } :=
    I5.laid (t' := tk) (fun b o e => Heap.get?_push_of_some _ e) (Nat.le_refl _) (show ObjOk X.prog X.w _ _ _ (.tup _) from ⟨by rw [List.length_map, hts]; exact hz, ts.map Value.ref, vals_refs ts, by
      rw [← ea]; exact IsTup.new _ _⟩)
  have hp0 : H3 h2.objs.size = none := I5.hok.fresh (Nat.le_refl _)
  have e4 : KS.Ex H3 (upd H3 h2.objs.size (.tup (ts.map V.ref))) := KS.Ex.upd hp0
  refine ⟨.ref h2.objs.size, _, I6, rfl, q _ h2.objs.size ts (e3.trans e4) upd_same ⟨hts, fun j y hy => ?_⟩⟩
  have hlt : j < ys.length := (List.getElem?_eq_some_iff.mp hy).1
  obtain ⟨T, t', x', y', b1, b2, b3, b4, b5⟩ := hj j hlt
  rw [hy] at b3
  cases b3
  exact ⟨T, b1, e4 _ _ b4⟩
end
end EN
set_option Elab.async false
set_option linter.all false
set_option maxRecDepth 100000
set_option maxHeartbeats 4000000
namespace KL6
open PySem PySem.Spec PyProof.Rows L2 KB KC KS KN1 LamX K7
def gFld (K : PySem.W.Frag) (to : TE) (f : Str) : TG := fun v σ H Q => to σ H fun x H2 => ∃ a C dx fs, x = .ref a ∧ H2 a = some (.ins C dx fs) ∧ Cls K C ∧ NoAttr K C f ∧ fs.length < 1000 ∧ Q σ (upd H2 a (.ins C dx (putF f v fs)))
theorem pg_fld {X : Cx} {o : Expr} {to : TE} {f : Str} {pos : Pos} (ho : PE X o to) : PG X (.Attribute o f pos) (gFld X.K to f) := by
  refine ⟨fun pins s σ H v u Q I r h => ?_⟩
  rw [assign_Attribute]
  refine wpAny_bind (wpAny_holding (thn (ho.run pins s σ H _ I h) fun ov s2 ⟨x, H2, I2, rx, a, C, dx, fs, ex, ea, c, n, l, q2⟩ => ?_))
  subst ex
  obtain rfl : ov = Value.ref a := rx
  refine wpAny_bind (wpAny_standAt (wpAny_bind (wpAny_holding (setattr_ok I2 ea c n l r fun s3 I3 => ?_))))
  exact wpAny_release ⟨σ, _, I3, q2⟩
structure TxtP (K : PySem.W.Frag) (mg : Str → Option Value) (CP : Addr) : Prop where
  cl : Cls K CP
  k : NoAttr K CP "kept"
  w : NoAttr K CP "waiting"
  r : NoAttr K CP "records"
  f : NoAttr K CP "first"
  g : mg "Part" = some (.ref CP)
structure TxtG (K : PySem.W.Frag) (mg : Str → Option Value) (CG : Addr) : Prop where
  g : mg "LogError" = some (.ref CG)
  x : PySem.W.excIn K CG veB "ValueError.__new__" = true
  k : PySem.W.keepIn K (.ref CG) = true
  b : PySem.W.subIn K (.ref CG) (.type "BaseException") = some true
  t : PySem.W.typeIn K (.ref CG) = some (.type "type")
  e : PySem.W.exmOne K (.ref CG) (.ref CG) = some true
abbrev pF (k w l : Addr) (fi : Nat) : List (Str × V) := [("kept", .ref k), ("waiting", .ref w), ("records", .ref l), ("first", .int ((fi : Nat) : Int))]
theorem put_kept {k w l c : Addr} {fi : Nat} : putF "kept" (.ref c) (pF k w l fi) = pF c w l fi := rfl
theorem put_wait {k w l c : Addr} {fi : Nat} : putF "waiting" (.ref c) (pF k w l fi) = pF k c l fi := rfl
theorem put_recs {k w l c : Addr} {fi : Nat} : putF "records" (.ref c) (pF k w l fi) = pF k w c fi := rfl
theorem put_first {k w l : Addr} {fi c : Nat} : putF "first" (.int ((c : Nat) : Int)) (pF k w l fi) = pF k w l c := rfl
def PtA (CP p l : Addr) (kb wb : List Int) (xs : List Rc) (fi : Nat) (H : Hp) : Prop := ∃ dx k w ts, H p = some (.ins CP dx (pF k w l fi)) ∧ H k = some (.tup (kb.map V.int)) ∧ H w = some (.tup (wb.map V.int)) ∧ H l = some (.lst (ts.map V.ref)) ∧ Recs H ts xs
theorem PtA.ex {CP p l : Addr} {kb wb : List Int} {xs : List Rc} {fi : Nat} {H H' : Hp} (x : PtA CP p l kb wb xs fi H) (e : KS.Ex H H') : PtA CP p l kb wb xs fi H' := by
  obtain ⟨dx, k, w, ts, h1, h2, h3, h4, h5⟩ := x
  exact ⟨dx, k, w, ts, e _ _ h1, e _ _ h2, e _ _ h3, e _ _ h4, h5.kt (kt_of e)⟩
theorem PtA.tb {CP Ps p l : Addr} {kb wb : List Int} {xs : List Rc} {fi : Nat} {H H' : Hp} (x : PtA CP p l kb wb xs fi H) (t : TabS H Ps qK) (e : Tb Ps H H') : PtA CP p l kb wb xs fi H' := by
  obtain ⟨dx, k, w, ts, h1, h2, h3, h4, h5⟩ := x
  obtain ⟨ps, hP, _⟩ := id t
  have ne : ∀ {b : Addr} {o : HO}, H b = some o → o ≠ .tbl ps → H' b = some o := fun {b o} h n => e.2 b o (fun z => n (by rw [z, hP] at h; exact (Option.some.inj h).symm)) h
  exact ⟨dx, k, w, ts, ne h1 (by simp), ne h2 (by simp), ne h3 (by simp), ne h4 (by simp), h5.kt (kt_tb t e)⟩
def FrP (Ps p l : Addr) (H H' : Hp) : Prop := TabS H' Ps qK ∧ ∀ b o, b ≠ Ps → b ≠ p → b ≠ l → H b = some o → H' b = some o
theorem FrP.trans {Ps p l : Addr} {H H1 H2 : Hp} (a : FrP Ps p l H H1) (b : FrP Ps p l H1 H2) : FrP Ps p l H H2 := ⟨b.1, fun x o n1 n2 n3 h => b.2 x o n1 n2 n3 (a.2 x o n1 n2 n3 h)⟩
theorem FrP.tb {Ps p l : Addr} {H H' : Hp} (e : Tb Ps H H') : FrP Ps p l H H' := ⟨e.1, fun b o n _ _ h => e.2 b o n h⟩
theorem FrP.ex {Ps p l : Addr} {H H' : Hp} (t : TabS H Ps qK) (e : KS.Ex H H') : FrP Ps p l H H' := FrP.tb ((Tb.refl t).ex e)
theorem tab_upd {Ps a : Addr} {H : Hp} {u o : HO} (t : TabS H Ps qK) (h : H a = some u) (n1 : ∀ ps, u ≠ .tbl ps) (n2 : ∀ φ, u ≠ .ext φ) : TabS (upd H a o) Ps qK := by
  obtain ⟨ps, h1, h2, h3⟩ := t
  refine ⟨ps, ?_, h2, fun pos cv hc => ?_⟩
  · rw [L2.upd_ne (fun z => n1 ps (by rw [z, h] at h1; exact Option.some.inj h1))]; exact h1
  · obtain ⟨c, e1, e2⟩ := h3 pos cv hc
    refine ⟨c, e1, ?_⟩
    rw [L2.upd_ne (fun z => by rw [z, h] at e2; exact n2 _ (Option.some.inj e2))]; exact e2
theorem FrP.wr {Ps p l a : Addr} {H : Hp} {u o : HO} (t : TabS H Ps qK) (h : H a = some u) (n1 : ∀ ps, u ≠ .tbl ps) (n2 : ∀ φ, u ≠ .ext φ) (ha : a = p ∨ a = l) : FrP Ps p l H (upd H a o) :=
  ⟨tab_upd t h n1 n2, fun b q _ np nl hb => by
    rw [L2.upd_ne (fun z => by rcases ha with e | e
                               · exact np (z.trans e)
                               · exact nl (z.trans e))]; exact hb⟩
theorem recL_bd {x : Rc} (ok : OkB x) : (recL x).length ≤ 70000 := by
  obtain ⟨l1, l2, l3, l4⟩ := body_bd ok
  have big : (60001 : Int) < 2 ^ 2000 := by decide +kernel
  have ln := natL_short (n := ((bodyL x).length : Int)) (by omega)
  rw [Int.toNat_natCast] at ln
  unfold recL
  rw [List.length_append, List.length_append, sumL_len]
  omega
@[irreducible] def spPI (CP : Addr) : Sp := fun vs H Q _ => ∃ (p dx : Addr), vs = [.ref p] ∧ H p = some (.ins CP dx []) ∧ ∀ H' l, H l = none → (∀ b o, b ≠ p → H b = some o → H' b = some o) → PtA CP p l [] [] [] 0 H' → Q .non H'
theorem pi_step {CP p dx : Addr} {H : Hp} {Q : VK} {E : XK} (h : H p = some (.ins CP dx [])) (fin : ∀ H' l, H l = none → (∀ b o, b ≠ p → H b = some o → H' b = some o) → PtA CP p l [] [] [] 0 H' → Q .non H') : spPI CP [.ref p] H Q E := by
  unfold spPI
  exact ⟨p, dx, rfl, h, fin⟩
@[irreducible] def spPE (CP : Addr) : Sp := fun vs H Q _ => ∃ (p l : Addr) (kb wb : List Int) (xs : List Rc) (fi : Nat), vs = [.ref p] ∧ PtA CP p l kb wb xs fi H ∧ Q (.int ((fi + xs.length : Nat) : Int)) H
theorem pe_step {CP p l : Addr} {kb wb : List Int} {xs : List Rc} {fi : Nat} {H : Hp} {Q : VK} {E : XK} (h : PtA CP p l kb wb xs fi H) (fin : Q (.int ((fi + xs.length : Nat) : Int)) H) : spPE CP [.ref p] H Q E := by
  unfold spPE
  exact ⟨p, l, kb, wb, xs, fi, rfl, h, fin⟩
@[irreducible] def spPS (CP Ps : Addr) : Sp := fun vs H Q _ => ∃ (p l : Addr) (kb wb : List Int) (xs : List Rc) (fi : Nat), vs = [.ref p] ∧ PtA CP p l kb wb xs fi H ∧ kb.length + wb.length ≤ 100000 ∧ TabS H Ps qK ∧ ∀ H', FrP Ps p l H H' → PtA CP p l (kb ++ wb) [] xs fi H' → Q .non H'
theorem ps_step {CP Ps p l : Addr} {kb wb : List Int} {xs : List Rc} {fi : Nat} {H : Hp} {Q : VK} {E : XK} (h : PtA CP p l kb wb xs fi H) (hl : kb.length + wb.length ≤ 100000) (t : TabS H Ps qK) (fin : ∀ H', FrP Ps p l H H' → PtA CP p l (kb ++ wb) [] xs fi H' → Q .non H') : spPS CP Ps [.ref p] H Q E := by
  unfold spPS
  exact ⟨p, l, kb, wb, xs, fi, rfl, h, hl, t, fin⟩
@[irreducible] def spPA (CP CG CR Ps : Addr) : Sp := fun vs H Q E => (∃ (p a b : Addr) (t : Int), vs = [.ref p, .ref a, .ref b, .int t] ∧ t < 0 ∧ E (.ref CG) none H) ∨
  ∃ (p l a b : Addr) (kb wb : List Int) (xs : List Rc) (fi : Nat) (x : Rc), vs = [.ref p, .ref a, .ref b, .int (x.2.2 : Nat)] ∧ PtA CP p l kb wb xs fi H ∧ wb.length ≤ 10000 ∧ xs.length ≤ 10000 ∧ H a = some (.tup (x.1.map kV)) ∧ H b = some (.tup (x.2.1.map kV)) ∧ OkB x ∧ TabS H Ps qK ∧
    ∀ H', FrP Ps p l H H' → PtA CP p l kb (wb ++ recL x) (xs ++ [x]) fi H' → Q (.int ((fi + xs.length : Nat) : Int)) H'
theorem app_bad {CP CG CR Ps p a b : Addr} {t : Int} {H : Hp} {Q : VK} {E : XK} (ht : t < 0) (e : E (.ref CG) none H) : spPA CP CG CR Ps [.ref p, .ref a, .ref b, .int t] H Q E := by
  unfold spPA
  exact .inl ⟨p, a, b, t, rfl, ht, e⟩
theorem app_step {CP CG CR Ps p l a b : Addr} {kb wb : List Int} {xs : List Rc} {fi : Nat} {x : Rc} {H : Hp} {Q : VK} {E : XK} (h : PtA CP p l kb wb xs fi H) (hw : wb.length ≤ 10000) (hx : xs.length ≤ 10000) (ha : H a = some (.tup (x.1.map kV))) (hb : H b = some (.tup (x.2.1.map kV))) (ok : OkB x) (t : TabS H Ps qK)
    (fin : ∀ H', FrP Ps p l H H' → PtA CP p l kb (wb ++ recL x) (xs ++ [x]) fi H' → Q (.int ((fi + xs.length : Nat) : Int)) H') : spPA CP CG CR Ps [.ref p, .ref a, .ref b, .int (x.2.2 : Nat)] H Q E := by
  unfold spPA
  exact .inr ⟨p, l, a, b, kb, wb, xs, fi, x, rfl, h, hw, hx, ha, hb, ok, t, fin⟩
abbrev sPM (j : Nat) : Stmt := inClass sPart j
section
variable {P : Program} {w : World} {K : PySem.W.Frag} {mg : Str → Option Value} {base : Heap} {f fE fR CP CG CR Ps : Addr} {fd fdE fdR : FuncData}
theorem scPI : FnScope ["self"] ["self"] (defScope (sPM 0)) := ⟨rfl, rfl, rfl, by decide +kernel, rfl, by decide +kernel, by decide +kernel⟩
theorem ok_pinit (F : FnP K "__init__" "Part.__init__" (sPM 0) [] f fd) (T : TxtP K mg CP) : FnOk P w K mg base CX0 1 f fd ["self"] (spPI CP) := by
  refine F.ok scPI (fun vs H Q E h => ?_) (fun cdv A outer s H vs Q E hr h => ?_)
  · unfold spPI at h
    obtain ⟨_, _, rfl, _⟩ := h; rfl
  · unfold spPI at h
    obtain ⟨p, dx, rfl, h1, fin⟩ := h
    refine ⟨_, PSs.nox <| pss_cons (ps_fld (pv 0) (pe_tup pa_nil) rfl) (pss_cons (ps_fld (pv 0) (pe_tup pa_nil) rfl) (pss_cons (ps_fld (pv 0) (pe_lst pa_nil) rfl) (pss_one (ps_fld (pv 0) pe_int rfl)))), ?_⟩
    refine ⟨by decide, fun k hk => ⟨_, rfl, p, CP, dx, _, rfl, (Ex.upd hk) _ _ h1, T.cl, T.k, (by show 0 < 1000; decide), ?_⟩⟩
    have nkp : k ≠ p := fun z => by rw [z, h1] at hk; cases hk
    have e1 : ∀ b o, b ≠ p → H b = some o → (upd (upd H k (.tup [])) p (.ins CP dx [("kept", .ref k)])) b = some o := fun b o nb h => by rw [L2.upd_ne nb]; exact Ex.upd hk _ _ h
    have k1 : (upd (upd H k (.tup [])) p (.ins CP dx [("kept", .ref k)])) k = some (.tup []) := by rw [L2.upd_ne nkp]; exact upd_same
    have p1 : (upd (upd H k (.tup [])) p (.ins CP dx [("kept", .ref k)])) p = some (.ins CP dx [("kept", .ref k)]) := upd_same
    show tSeq _ _ _ [some (.ref p)] (upd (upd H k (.tup [])) p (.ins CP dx [("kept", .ref k)]))
    generalize upd (upd H k (.tup [])) p (.ins CP dx [("kept", .ref k)]) = H1 at e1 k1 p1
    refine ⟨by decide, fun v hv => ⟨_, rfl, p, CP, dx, _, rfl, (Ex.upd hv) _ _ p1, T.cl, T.w, (by show 1 < 1000; decide), ?_⟩⟩
    have nvp : v ≠ p := fun z => by rw [z, p1] at hv; cases hv
    have e2 : ∀ b o, b ≠ p → H b = some o → (upd (upd H1 v (.tup [])) p (.ins CP dx [("kept", .ref k), ("waiting", .ref v)])) b = some o := fun b o nb h => by rw [L2.upd_ne nb]; exact Ex.upd hv _ _ (e1 b o nb h)
    have k2 : (upd (upd H1 v (.tup [])) p (.ins CP dx [("kept", .ref k), ("waiting", .ref v)])) k = some (.tup []) := by rw [L2.upd_ne nkp]; exact Ex.upd hv _ _ k1
    have v2 : (upd (upd H1 v (.tup [])) p (.ins CP dx [("kept", .ref k), ("waiting", .ref v)])) v = some (.tup []) := by rw [L2.upd_ne nvp]; exact upd_same
    have p2 : (upd (upd H1 v (.tup [])) p (.ins CP dx [("kept", .ref k), ("waiting", .ref v)])) p = some (.ins CP dx [("kept", .ref k), ("waiting", .ref v)]) := upd_same
    show tSeq _ _ _ [some (.ref p)] (upd (upd H1 v (.tup [])) p (.ins CP dx [("kept", .ref k), ("waiting", .ref v)]))
    generalize upd (upd H1 v (.tup [])) p (.ins CP dx [("kept", .ref k), ("waiting", .ref v)]) = H2 at e2 k2 v2 p2
    refine ⟨by decide, fun l hl => ⟨_, rfl, p, CP, dx, _, rfl, (Ex.upd hl) _ _ p2, T.cl, T.r, (by show 2 < 1000; decide), ?_⟩⟩
    have nlp : l ≠ p := fun z => by rw [z, p2] at hl; cases hl
    refine ⟨_, rfl, p, CP, dx, _, rfl, upd_same, T.cl, T.f, (by show 3 < 1000; decide), ?_⟩
    rw [upd2]
    have hl0 : H l = none := by
      cases q : H l with
      | none => rfl
      | some o => rw [e2 _ _ nlp q] at hl; cases hl
    refine fin _ l hl0 (fun b o nb h => by rw [L2.upd_ne nb]; exact Ex.upd hl _ _ (e2 b o nb h)) ⟨dx, k, v, [], upd_same, by rw [L2.upd_ne nkp]; exact Ex.upd hl _ _ k2, by rw [L2.upd_ne nvp]; exact Ex.upd hl _ _ v2, by rw [L2.upd_ne nlp]; exact upd_same, .nil⟩
theorem scPE : FnScope ["self"] ["self"] (defScope (sPM 3)) := ⟨rfl, rfl, rfl, by decide +kernel, rfl, by decide +kernel, by decide +kernel⟩
theorem ok_pend (F : FnP K "end" "Part.end" (sPM 3) [] f fd) (T : TxtP K mg CP) (TL : TxtL mg) : FnOk P w K mg base CX0 1 f fd ["self"] (spPE CP) := by
  refine F.ok scPE (fun vs H Q E h => ?_) (fun cdv A outer s H vs Q E hr h => ?_)
  · unfold spPE at h
    obtain ⟨_, _, _, _, _, _, rfl, _⟩ := h; rfl
  · unfold spPE at h
    obtain ⟨p, l, kb, wb, xs, fi, rfl, ⟨dx, k, v, ts, h1, h2, h3, h4, h5⟩, fin⟩ := h
    refine ⟨_, PSs.nox <| pss_one (ps_ret (pe_op op_add (pf 0) (pe_callB call_len_seq (by rfl) TL.len (by decide +kernel) (pa_cons (pf 0) pa_nil)))), ?_⟩
    refine ⟨_, rfl, p, CP, dx, _, _, rfl, h1, T.cl, T.f, rfl, _, rfl, p, CP, dx, _, _, rfl, h1, T.cl, T.r, rfl, l, _, rfl, .inl (SqL.of h4), ?_⟩
    refine ⟨_, _, rfl, rfl, ?_⟩
    have := paired_len h5
    rw [List.length_map, this]
    exact fin
theorem scPS : FnScope ["self"] ["self"] (defScope (sPM 2)) := ⟨rfl, rfl, rfl, by decide +kernel, rfl, by decide +kernel, by decide +kernel⟩
theorem ok_psync (F : FnP K "sync" "Part.sync" (sPM 2) [] f fd) (T : TxtP K mg CP) : FnOk P w K mg base CX0 1 f fd ["self"] (spPS CP Ps) := by
  refine F.ok scPS (fun vs H Q E h => ?_) (fun cdv A outer s H vs Q E hr h => ?_)
  · unfold spPS at h
    obtain ⟨_, _, _, _, _, _, rfl, _⟩ := h; rfl
  · unfold spPS at h
    obtain ⟨p, l, kb, wb, xs, fi, rfl, ⟨dx, k, v, ts, h1, h2, h3, h4, h5⟩, hl, tab, fin⟩ := h
    refine ⟨_, PSs.nox <| pss_cons (ps_fld (pv 0) (pe_op op_catA (pf 0) (pf 0)) rfl) (pss_one (ps_fld (pv 0) (pe_tup pa_nil) rfl)), ?_⟩
    refine ⟨_, rfl, p, CP, dx, _, _, rfl, h1, T.cl, T.k, rfl, _, rfl, p, CP, dx, _, _, rfl, h1, T.cl, T.w, rfl, cat_two h2 h3 hl fun H1 c e1 hc => ?_⟩
    refine ⟨_, rfl, p, CP, dx, _, rfl, e1 _ _ h1, T.cl, T.k, (by show 4 < 1000; decide), ?_⟩
    have t1 := tab.ext e1
    have ncp : c ≠ p := fun z => by rw [z, e1 _ _ h1] at hc; cases hc
    have hp2 : (upd H1 p (.ins CP dx (pF c v l fi))) p = some (.ins CP dx (pF c v l fi)) := upd_same
    have f2 : FrP Ps p l H (upd H1 p (.ins CP dx (pF c v l fi))) := (FrP.ex tab e1).trans (FrP.wr t1 (e1 _ _ h1) (fun _ z => by cases z) (fun _ z => by cases z) (.inl rfl))
    have hc2 : (upd H1 p (.ins CP dx (pF c v l fi))) c = some (.tup ((kb ++ wb).map V.int)) := by rw [L2.upd_ne ncp]; exact hc
    have nlp : l ≠ p := fun z => by rw [z, h1] at h4; cases h4
    have hl2 : (upd H1 p (.ins CP dx (pF c v l fi))) l = some (.lst (ts.map V.ref)) := by rw [L2.upd_ne nlp]; exact e1 _ _ h4
    have k2 : KT' H (upd H1 p (.ins CP dx (pF c v l fi))) := fun b ys h => by rw [L2.upd_ne (fun z => by rw [z, h1] at h; cases h)]; exact e1 _ _ h
    rw [put_kept]
    generalize upd H1 p (.ins CP dx (pF c v l fi)) = H2 at hp2 f2 hc2 hl2 k2
    refine ⟨by decide, fun z hz => ⟨_, rfl, p, CP, dx, _, rfl, (Ex.upd hz) _ _ hp2, T.cl, T.w, (by show 4 < 1000; decide), ?_⟩⟩
    have nzp : z ≠ p := fun y => by rw [y, hp2] at hz; cases hz
    refine fin _ (f2.trans ((FrP.ex f2.1 (Ex.upd hz)).trans (FrP.wr (f2.1.ext (Ex.upd hz)) (Ex.upd hz _ _ hp2) (fun _ z => by cases z) (fun _ z => by cases z) (.inl rfl)))) ⟨dx, c, z, ts, upd_same, by rw [L2.upd_ne ncp]; exact Ex.upd hz _ _ hc2, by rw [L2.upd_ne nzp]; exact upd_same, by rw [L2.upd_ne nlp]; exact Ex.upd hz _ _ hl2, ?_⟩
    exact h5.kt fun b ys h => by rw [L2.upd_ne (fun y => by rw [y, h1] at h; cases h)]; exact Ex.upd hz _ _ (k2 _ _ h)
theorem scPA : FnScope ["self", "key", "row", "time"] ["self", "key", "row", "time"] (defScope (sPM 1)) := ⟨rfl, rfl, rfl, by decide +kernel, rfl, by decide +kernel, by decide +kernel⟩
theorem ok_papp (F : FnP K "append" "Part.append" (sPM 1) [] f fd) (T : TxtP K mg CP) (G : TxtG K mg CG) (GR : FnOk P w K mg base CX0 4 fR fdR ["key", "row", "time"] (spRec CR Ps)) (gR : mg "record_bytes" = some (.ref fR)) (kR : PySem.W.keepIn K (.ref fR) = true) (bR : Binds K fdR ["key", "row", "time"] [])
    (mE : Meth K CP "end" fE) (GE : FnOk P w K mg base CX0 1 fE fdE ["self"] (spPE CP)) (bE : Binds K fdE ["self"] []) : FnOk P w K mg base (L2.CX P w) 5 f fd ["self", "key", "row", "time"] (spPA CP CG CR Ps) := by
  refine F.ok scPA (fun vs H Q E h => ?_) (fun cdv A outer s H vs Q E hr h => ?_)
  · unfold spPA at h
    rcases h with ⟨_, _, _, _, rfl, _⟩ | ⟨_, _, _, _, _, _, _, _, _, rfl, _⟩ <;> rfl
  · unfold spPA at h
    refine ⟨_, pss_cons (ps_if (pt_cmpR op_lt (pv 3) pe_int (nomark _)) (pss_one (ps_raise rfl (takes_of rfl rfl rfl rfl) (pmk_own PySem.F.excBase_ValueError G.x G.g G.k (raises_own G.b G.t) rfl))) pss_nil)
      (pss_cons (ps_fld (pv 0) (pe_op op_catA (pf 0) (pe_call GR (hr.mono (by decide)) (by rfl) gR kR bR .nil pass0 (pa_cons (pv 1) (pa_cons (pv 2) (pa_cons (pv 3) pa_nil))))) rfl)
      (pss_cons (ps_expr (pe_bm PySem.F.plainAttrs_list PySem.F.slot_list_append PySem.F.type_list_append mt_append (pf 0) (pa_cons (pe_tup (pa_cons (pv 1) (pa_cons (pv 2) (pa_cons (pv 3) pa_nil)))) pa_nil)))
      (pss_one (ps_ret (pe_op op_sub (pe_meth0 (pv 0) T.cl mE GE (hr.mono (by decide)) bE .nil pass0) pe_int))))), ?_⟩
    rcases h with ⟨p, a, b, t, rfl, ht, e⟩ | ⟨p, l, a, b, kb, wb, xs, fi, x, rfl, pt, hw, hx, ha, hb, ok, tab, fin⟩
    · exact ⟨_, rfl, _, _, rfl, rfl, _, rfl, ifT (by simp; omega) e⟩
    · refine ⟨_, rfl, _, _, rfl, rfl, _, rfl, ifF (by simp) ?_⟩
      obtain ⟨dx, k, v, ts, h1, h2, h3, h4, h5⟩ := pt
      have hz0 : sizeLine = 16777216 := rfl
      have lts := paired_len h5
      refine ⟨_, rfl, p, CP, dx, _, _, rfl, h1, T.cl, T.w, rfl, _, rfl, _, rfl, _, rfl, rec_step ha hb ok tab fun H1 q t1 hq => ?_⟩
      have k1 := kt_tb tab t1
      have rb := recL_bd ok
      refine cat_two (k1 _ _ h3) hq (by omega) fun H2 c e2 hc => ?_
      have t2 := t1.ex e2
      have k2 := kt_tb tab t2
      obtain ⟨ps, hP, _⟩ := id tab
      have ne : ∀ {b : Addr} {o : HO}, H b = some o → o ≠ .tbl ps → H2 b = some o := fun {b o} h n => t2.2 b o (fun z => n (by rw [z, hP] at h; exact (Option.some.inj h).symm)) h
      have p2 := ne h1 (by simp)
      have l2 := ne h4 (by simp)
      refine ⟨_, rfl, p, CP, dx, _, rfl, p2, T.cl, T.w, (by show 4 < 1000; decide), ?_⟩
      have ncp : c ≠ p := fun z => by rw [z, p2] at hc; cases hc
      have nlp : l ≠ p := fun z => by rw [z, h1] at h4; cases h4
      have hp3 : (upd H2 p (.ins CP dx (pF k c l fi))) p = some (.ins CP dx (pF k c l fi)) := upd_same
      have f3 : FrP Ps p l H (upd H2 p (.ins CP dx (pF k c l fi))) := (FrP.tb t2).trans (FrP.wr t2.1 p2 (fun _ z => by cases z) (fun _ z => by cases z) (.inl rfl))
      have hc3 : (upd H2 p (.ins CP dx (pF k c l fi))) c = some (.tup ((wb ++ recL x).map V.int)) := by rw [L2.upd_ne ncp]; exact hc
      have hl3 : (upd H2 p (.ins CP dx (pF k c l fi))) l = some (.lst (ts.map V.ref)) := by rw [L2.upd_ne nlp]; exact l2
      have k3 : KT' H (upd H2 p (.ins CP dx (pF k c l fi))) := fun b ys h => by rw [L2.upd_ne (fun z => by rw [z, h1] at h; cases h)]; exact k2 _ _ h
      rw [put_wait]
      generalize upd H2 p (.ins CP dx (pF k c l fi)) = H3 at hp3 f3 hc3 hl3 k3
      refine ⟨_, rfl, p, CP, dx, _, _, rfl, hp3, T.cl, T.r, rfl, .inl ⟨rfl, _, SqL.of hl3⟩, _, rfl, _, rfl, _, rfl, (by show 3 ≤ sizeLine; decide), fun z hz => ⟨l, _, _, rfl, rfl, Ex.upd hz _ _ hl3, by rw [List.length_map]; omega, ?_⟩⟩
      have e4 : KS.Ex H3 (upd H3 z (.tup [.ref a, .ref b, .int (x.2.2 : Nat)])) := Ex.upd hz
      have hz4 : (upd H3 z (.tup [.ref a, .ref b, .int (x.2.2 : Nat)])) z = some (.tup [.ref a, .ref b, .int (x.2.2 : Nat)]) := upd_same
      generalize upd H3 z (.tup [.ref a, .ref b, .int (x.2.2 : Nat)]) = H4 at e4 hz4
      rw [show ts.map V.ref ++ [V.ref z] = (ts ++ [z]).map V.ref by rw [List.map_append]; rfl]
      have l4 := e4 _ _ hl3
      have p5 : (upd H4 l (.lst ((ts ++ [z]).map V.ref))) p = some (.ins CP dx (pF k c l fi)) := by rw [L2.upd_ne nlp.symm]; exact e4 _ _ hp3
      have k5 : KT' H4 (upd H4 l (.lst ((ts ++ [z]).map V.ref))) := fun b ys h => by rw [L2.upd_ne (fun y => by rw [y, l4] at h; cases h)]; exact h
      have f5 : FrP Ps p l H (upd H4 l (.lst ((ts ++ [z]).map V.ref))) := f3.trans ((FrP.ex f3.1 e4).trans (FrP.wr (f3.1.ext e4) l4 (fun _ z => by cases z) (fun _ z => by cases z) (.inr rfl)))
      have ra : RecAt H4 z x := ⟨a, b, hz4, e4 _ _ (k3 _ _ ha), e4 _ _ (k3 _ _ hb)⟩
      have pt5 : PtA CP p l kb (wb ++ recL x) (xs ++ [x]) fi (upd H4 l (.lst ((ts ++ [z]).map V.ref))) := ⟨dx, k, c, ts ++ [z], p5, k5 _ _ (e4 _ _ (k3 _ _ h2)), k5 _ _ (e4 _ _ hc3), upd_same, paired_snoc' ((h5.kt k3).kt (fun b ys h => k5 _ _ (e4 _ _ h))) (ra.kt k5)⟩
      refine ⟨_, rfl, p, dx, _, rfl, p5, rfl, pe_step pt5 ⟨_, _, rfl, rfl, ?_⟩⟩
      have fq := fin _ f5 pt5
      show Q (V.int (((fi + (xs ++ [x]).length : Nat) : Int) - 1)) _
      rw [List.length_append, show (((fi + (xs.length + [x].length) : Nat) : Int) - 1) = ((fi + xs.length : Nat) : Int) by show (((fi + (xs.length + 1) : Nat) : Int) - 1) = _; omega]
      exact fq
end
end KL6
set_option Elab.async false
set_option linter.all false
set_option maxRecDepth 100000
set_option maxHeartbeats 4000000
namespace KL6
open PySem PySem.Spec PyProof.Rows L2 KB KC KS KN1 LamX K7
theorem cut_mid {α : Type} (f : α → V) (ts : List α) (lo hi : Nat) : cutV (ts.map f) (some (lo : Int)) (some (hi : Int)) = ((ts.drop lo).take (hi - lo)).map f := by
  unfold cutV
  rw [HT.sIx_nat, HT.sIx_nat, List.length_map]
  by_cases c : lo < ts.length
  · rw [Nat.min_eq_left (Nat.le_of_lt c), ← List.map_drop, ← List.map_take]
    congr 1
    by_cases c2 : hi ≤ ts.length
    · rw [Nat.min_eq_left c2]
    · rw [Nat.min_eq_right (by omega), List.take_of_length_le (by rw [List.length_drop]; omega), List.take_of_length_le (by rw [List.length_drop]; omega)]
  · rw [List.drop_eq_nil_of_le (by rw [List.length_map]; omega), List.drop_eq_nil_of_le (as := ts) (by omega)]
    simp
theorem cut_from {α : Type} (f : α → V) (ts : List α) (lo : Nat) : cutV (ts.map f) (some (lo : Int)) none = (ts.drop lo).map f := by
  unfold cutV
  rw [HT.sIx_nat, HT.sIx_none, List.length_map]
  by_cases c : lo < ts.length
  · rw [Nat.min_eq_left (Nat.le_of_lt c), List.take_of_length_le (by rw [List.length_drop, List.length_map]; omega), List.map_drop]
  · rw [List.drop_eq_nil_of_le (as := ts.map f) (by rw [List.length_map]; omega), List.drop_eq_nil_of_le (as := ts) (by omega)]
    simp
theorem cut_to {α : Type} (f : α → V) (ts : List α) (hi : Nat) : cutV (ts.map f) none (some (hi : Int)) = (ts.take hi).map f := by
  unfold cutV
  rw [HT.sIx_nat, HT.sIx_none, List.length_map, Nat.sub_zero, List.drop_zero, ← List.map_take]
  congr 1
  by_cases c2 : hi ≤ ts.length
  · rw [Nat.min_eq_left c2]
  · rw [Nat.min_eq_right (by omega), List.take_of_length_le (by omega), List.take_of_length_le (by omega)]
theorem paired_drop {α β : Type} {F : α → β → Prop} : ∀ {xs : List α} {ys : List β} (n : Nat), Paired F xs ys → Paired F (xs.drop n) (ys.drop n)
  | _, _, 0, h => h
  | _, _, _ + 1, .nil => .nil
  | _, _, n + 1, .cons _ r => paired_drop n r
theorem paired_take {α β : Type} {F : α → β → Prop} : ∀ {xs : List α} {ys : List β} (n : Nat), Paired F xs ys → Paired F (xs.take n) (ys.take n)
  | _, _, 0, _ => .nil
  | _, _, _ + 1, .nil => .nil
  | _, _, n + 1, .cons a r => .cons a (paired_take n r)
theorem max0 (m : Int) : (if (0 : Int) > m then (0 : Int) else m) = ((m.toNat : Nat) : Int) := by
  by_cases c : (0 : Int) > m
  · rw [if_pos c]; omega
  · rw [if_neg c]; omega
theorem sl_toI {K : PySem.W.Frag} {H : Hp} {Q : VK} {t : Addr} {dat : List Int} {hi : Nat} {b : Int} (eb : b = (hi : Int)) (h : H t = some (.tup (dat.map V.int))) (q : ∀ H' p, KS.Ex H H' → H' p = some (.tup ((dat.take hi).map V.int)) → Q (.ref p) H') : rSlA K (.ref t) none (some b) H Q := by
  subst eb
  exact sl_to h q
structure TxtM (mg : Str → Option Value) : Prop where
  max : mg "max" = none
  min : mg "min" = none
  sum : mg "sum" = none
  enu : mg "enumerate" = none
def leftL (kb wb : List Int) (many : Int) : List Int := kb ++ wb.take many.toNat
def keptL (dat : List Int) : List Int := dat.take (dat.length - (pRecs dat).2.length)
@[irreducible] def spPC (CP Ps : Addr) : Sp := fun vs H Q _ => ∃ (p l : Addr) (kb wb : List Int) (xs : List Rc) (fi : Nat) (many : Int), vs = [.ref p, .int many] ∧ PtA CP p l kb wb xs fi H ∧ Bytes (leftL kb wb many) ∧ (leftL kb wb many).length ≤ 1000 ∧ TabS H Ps qK ∧
  ∀ H' l', H l' = none → FrP Ps p l H H' → PtA CP p l' (keptL (leftL kb wb many)) [] (pRecs (leftL kb wb many)).1 fi H' → Q .non H'
theorem pc_step {CP Ps p l : Addr} {kb wb : List Int} {xs : List Rc} {fi : Nat} {many : Int} {H : Hp} {Q : VK} {E : XK} (h : PtA CP p l kb wb xs fi H) (hb : Bytes (leftL kb wb many)) (hl : (leftL kb wb many).length ≤ 1000) (t : TabS H Ps qK)
    (fin : ∀ H' l', H l' = none → FrP Ps p l H H' → PtA CP p l' (keptL (leftL kb wb many)) [] (pRecs (leftL kb wb many)).1 fi H' → Q .non H') : spPC CP Ps [.ref p, .int many] H Q E := by
  unfold spPC
  exact ⟨p, l, kb, wb, xs, fi, many, rfl, h, hb, hl, t, fin⟩
section
variable {P : Program} {w : World} {K : PySem.W.Frag} {mg : Str → Option Value} {base : Heap} {f fE fR CP CG CR Ps : Addr} {fd fdE fdR : FuncData}
theorem scPC : FnScope ["self", "many", "left", "whole"] ["self", "many"] (defScope (sPM 4)) := ⟨rfl, rfl, rfl, by decide +kernel, rfl, by decide +kernel, by decide +kernel⟩
theorem ok_pcrash (F : FnP K "crash" "Part.crash" (sPM 4) [] f fd) (T : TxtP K mg CP) (M : TxtM mg) (GR : FnOk P w K mg base CX0 8 fR fdR ["data"] spReads) (gR : mg "read_records" = some (.ref fR)) (kR : PySem.W.keepIn K (.ref fR) = true) (bR : Binds K fdR ["data"] []) : FnOk P w K mg base CX0 9 f fd ["self", "many"] (spPC CP Ps) := by
  refine F.ok scPC (fun vs H Q E h => ?_) (fun cdv A outer s H vs Q E hr h => ?_)
  · unfold spPC at h
    obtain ⟨_, _, _, _, _, _, _, rfl, _⟩ := h; rfl
  · unfold spPC at h
    obtain ⟨p, l, kb, wb, xs, fi, many, rfl, ⟨dx, k, v, ts, h1, h2, h3, h4, h5⟩, hb, hl, tab, fin⟩ := h
    refine ⟨_, PSs.nox <| pss_cons (ps_set (i := 2) scPC.nd rfl (Or.inl rfl) (pe_op op_catA (pf 0) (pe_slice sl_tupA (pf 0) po_none (po_some (pe_callB (call_max2 rfl) (by rfl) M.max (by decide +kernel) (pa_cons (pv 1) (pa_cons pe_int pa_nil)))))))
      (pss_cons (ps_asg (pe_call GR hr (by rfl) gR kR bR .nil pass0 (pa_cons (pv 2) pa_nil)) (pg_tup rfl (pgs_cons (pg_fld (pv 0)) (pgs_cons (pg_name (i := 3) scPC.nd rfl (Or.inl rfl)) pgs_nil))))
      (pss_cons (ps_fld (pv 0) (pe_slice sl_tupA (pv 2) po_none (po_some (pv 3))) rfl)
      (pss_one (ps_fld (pv 0) (pe_tup pa_nil) rfl)))), ?_⟩
    refine ⟨_, rfl, p, CP, dx, _, _, rfl, h1, T.cl, T.k, rfl, _, rfl, p, CP, dx, _, _, rfl, h1, T.cl, T.w, rfl, _, rfl, _, _, rfl, _, rfl, sl_toI (max0 many) h3 fun H1 b1 e1 hb1 => ?_⟩
    have hlen : (leftL kb wb many).length = kb.length + (wb.take many.toNat).length := by unfold leftL; rw [List.length_append]
    refine cat_two (e1 _ _ h2) hb1 (by omega) fun H2 b2 e2 hb2 => ?_
    have hb2 : H2 b2 = some (.tup ((leftL kb wb many).map V.int)) := hb2
    have ep : (pRecs (leftL kb wb many)).2.length ≤ (leftL kb wb many).length := by
      have := pRecs_len (l := leftL kb wb many) (xs := (pRecs (leftL kb wb many)).1) (rest := (pRecs (leftL kb wb many)).2) rfl
      omega
    unfold keptL at fin
    generalize leftL kb wb many = dat at hb hl hlen hb2 ep fin
    refine ⟨_, rfl, reads_step hb2 hb hl fun H3 q l' ts' e3 hq hl3 hl2 rs => ?_⟩
    have t3 := tab.ext ((e1.trans e2).trans e3)
    have ex3 := (e1.trans e2).trans e3
    refine ⟨q, _, rfl, SqT.of hq, rfl, _, _, rfl, ?_⟩
    refine ⟨_, rfl, p, CP, dx, _, rfl, ex3 _ _ h1, T.cl, T.r, (by show 4 < 1000; decide), _, _, rfl, ?_⟩
    have nlp : l' ≠ p := fun z => by rw [z, ex3 _ _ h1] at hl3; cases hl3
    have nq : b2 ≠ p := fun z => by rw [z, (e1.trans e2) _ _ h1] at hb2; cases hb2
    have hl0 : H l' = none := by
      cases z : H l' with
      | none => rfl
      | some o => rw [(e1.trans e2) _ _ z] at hl2; cases hl2
    rw [put_recs]
    have p4 : (upd H3 p (.ins CP dx (pF k v l' fi))) p = some (.ins CP dx (pF k v l' fi)) := upd_same
    have f4 : FrP Ps p l H (upd H3 p (.ins CP dx (pF k v l' fi))) := (FrP.ex tab ex3).trans (FrP.wr t3 (ex3 _ _ h1) (fun _ z => by cases z) (fun _ z => by cases z) (.inl rfl))
    have k4 : KT' H3 (upd H3 p (.ins CP dx (pF k v l' fi))) := fun b ys h => by rw [L2.upd_ne (fun z => by rw [z, ex3 _ _ h1] at h; cases h)]; exact h
    have l4 : (upd H3 p (.ins CP dx (pF k v l' fi))) l' = some (.lst (ts'.map V.ref)) := by rw [L2.upd_ne nlp]; exact hl3
    have d4 := k4 _ _ (e3 _ _ hb2)
    have rs4 := rs.kt k4
    generalize upd H3 p (.ins CP dx (pF k v l' fi)) = H4 at p4 f4 l4 d4 rs4
    refine ⟨rfl, ?_⟩
    refine ⟨_, rfl, _, rfl, _, rfl, sl_to d4 fun H5 c e5 hc => ?_⟩
    refine ⟨_, rfl, p, CP, dx, _, rfl, e5 _ _ p4, T.cl, T.k, (by show 4 < 1000; decide), ?_⟩
    rw [put_kept]
    have ncp : c ≠ p := fun z => by rw [z, e5 _ _ p4] at hc; cases hc
    have p6 : (upd H5 p (.ins CP dx (pF c v l' fi))) p = some (.ins CP dx (pF c v l' fi)) := upd_same
    have f6 : FrP Ps p l H (upd H5 p (.ins CP dx (pF c v l' fi))) := f4.trans ((FrP.ex f4.1 e5).trans (FrP.wr (f4.1.ext e5) (e5 _ _ p4) (fun _ z => by cases z) (fun _ z => by cases z) (.inl rfl)))
    have k6 : KT' H5 (upd H5 p (.ins CP dx (pF c v l' fi))) := fun b ys h => by rw [L2.upd_ne (fun z => by rw [z, e5 _ _ p4] at h; cases h)]; exact h
    have l6 : (upd H5 p (.ins CP dx (pF c v l' fi))) l' = some (.lst (ts'.map V.ref)) := by rw [L2.upd_ne nlp]; exact e5 _ _ l4
    have c6 := k6 _ _ hc
    have rs6 := (rs4.kt (kt_of e5)).kt k6
    generalize upd H5 p (.ins CP dx (pF c v l' fi)) = H6 at p6 f6 l6 c6 rs6
    refine ⟨by decide, fun z hz => ⟨_, rfl, p, CP, dx, _, rfl, (Ex.upd hz) _ _ p6, T.cl, T.w, (by show 4 < 1000; decide), ?_⟩⟩
    rw [put_wait]
    have nzp : z ≠ p := fun y => by rw [y, p6] at hz; cases hz
    have k7 : KT' H6 (upd (upd H6 z (.tup [])) p (.ins CP dx (pF c z l' fi))) := fun b ys h => by rw [L2.upd_ne (fun y => by rw [y, p6] at h; cases h)]; exact Ex.upd hz _ _ h
    exact fin _ l' hl0 (f6.trans ((FrP.ex f6.1 (Ex.upd hz)).trans (FrP.wr (f6.1.ext (Ex.upd hz)) (Ex.upd hz _ _ p6) (fun _ z => by cases z) (fun _ z => by cases z) (.inl rfl)))) ⟨dx, c, z, ts', upd_same, k7 _ _ c6, by rw [L2.upd_ne nzp]; exact upd_same, by rw [L2.upd_ne nlp]; exact Ex.upd hz _ _ l6, rs6.kt k7⟩
end
end KL6
set_option Elab.async false
set_option linter.all false
set_option maxRecDepth 100000
set_option maxHeartbeats 4000000
namespace KL6
open PySem PySem.Spec PyProof.Rows L2 KB KC KS KN1 LamX K7
theorem txt_len {t : Int} (h0 : -1 ≤ t) (h1 : t < 100000) : (Str.ofString (toString t)).length ≤ 10 := by
  by_cases c : t = -1
  · subst c; decide +kernel
  · have := PyProof.Rows.toString_length_le (v := t) (by omega) (k := 5) (by decide) (by omega)
    omega
theorem txt_log {t : Int} (h0 : -1 ≤ t) (h1 : t < 100000) : t.natAbs.log2 < 1920 := by
  have a : t.natAbs < 100000 := by omega
  by_cases z : t.natAbs = 0
  · rw [z]; decide +kernel
  · exact (Nat.log2_lt z).mpr (Nat.lt_of_lt_of_le a (by decide +kernel))
theorem js_int {i : Nat} {txt : Str} {t : Int} {σ : L2.St} {H : Hp} {R : Str → Hp → Prop} (hs : σ[i]? = some (some (.int t))) (h0 : -1 ≤ t) (h1 : t < 100000) (ht : txt.length ≤ 100) (r : ∀ out, R out H) : tJs [tC (V.str txt), tFmt (tVar i)] Str.empty σ H R := by
  have e := txt_len h0 h1
  have hz : sizeLine = 16777216 := rfl
  have l0 : (Str.empty ++ txt).length = txt.length := by rw [Str.length_append]; show 0 + _ = _; omega
  refine ⟨txt, rfl, by rw [l0]; omega, _, hs, .inr ⟨t, rfl, txt_log h0 h1, _, rfl, ?_, r _⟩⟩
  show (Str.empty ++ txt ++ Str.ofString (toString t)).length ≤ sizeLine
  rw [show (Str.empty ++ txt ++ Str.ofString (toString t)).length = (Str.empty ++ txt).length + (Str.ofString (toString t)).length from Str.length_append .., l0]
  omega
theorem lst_mid {K : PySem.W.Frag} {H : Hp} {Q : VK} {l : Addr} {ts : List Addr} {lo hi : Nat} {a b : Int} (ea : a = (lo : Int)) (eb : b = (hi : Int)) (h : H l = some (.lst (ts.map V.ref))) (q : ∀ H' p, KS.Ex H H' → H' p = some (.lst (((ts.drop lo).take (hi - lo)).map V.ref)) → H p = none → Q (.ref p) H') : rSlL K (.ref l) (some a) (some b) H Q := by
  subst ea eb
  refine ⟨l, _, rfl, SqL.of h, fun p hp => ?_⟩
  rw [cut_mid]
  exact q _ p (Ex.upd hp) upd_same hp
theorem lst_from {K : PySem.W.Frag} {H : Hp} {Q : VK} {l : Addr} {ts : List Addr} {lo : Nat} {a : Int} (ea : a = (lo : Int)) (h : H l = some (.lst (ts.map V.ref))) (q : ∀ H' p, KS.Ex H H' → H' p = some (.lst ((ts.drop lo).map V.ref)) → H p = none → Q (.ref p) H') : rSlL K (.ref l) (some a) none H Q := by
  subst ea
  refine ⟨l, _, rfl, SqL.of h, fun p hp => ?_⟩
  rw [cut_from]
  exact q _ p (Ex.upd hp) upd_same hp
theorem lst_to {K : PySem.W.Frag} {H : Hp} {Q : VK} {l : Addr} {ts : List Addr} {hi : Nat} {b : Int} (eb : b = (hi : Int)) (h : H l = some (.lst (ts.map V.ref))) (q : ∀ H' p, KS.Ex H H' → H' p = some (.lst ((ts.take hi).map V.ref)) → H p = none → Q (.ref p) H') : rSlL K (.ref l) none (some b) H Q := by
  subst eb
  refine ⟨l, _, rfl, SqL.of h, fun p hp => ?_⟩
  rw [cut_to]
  exact q _ p (Ex.upd hp) upd_same hp
@[irreducible] def spPR (CP CG : Addr) : Sp := fun vs H Q E => ∃ (p l : Addr) (kb wb : List Int) (xs : List Rc) (fi : Nat) (place most : Int), vs = [.ref p, .int place, .int most] ∧ PtA CP p l kb wb xs fi H ∧ -1 ≤ place ∧ place < 100000 ∧
  (¬ ((fi : Int) ≤ place ∧ place ≤ (fi + xs.length : Nat)) → E (.ref CG) none H) ∧
  (((fi : Int) ≤ place ∧ place ≤ (fi + xs.length : Nat)) → ∀ H' q ts rs, KS.Ex H H' → H' q = some (.tup (ts.map V.ref)) → EN.Nums H' place (rs.map V.ref) ts → Recs H' rs ((xs.drop (place - fi).toNat).take most.toNat) → Q (.ref q) H')
theorem pr_step {CP CG p l : Addr} {kb wb : List Int} {xs : List Rc} {fi : Nat} {place most : Int} {H : Hp} {Q : VK} {E : XK} (h : PtA CP p l kb wb xs fi H) (h0 : -1 ≤ place) (h1 : place < 100000) (bad : ¬ ((fi : Int) ≤ place ∧ place ≤ (fi + xs.length : Nat)) → E (.ref CG) none H)
    (good : ((fi : Int) ≤ place ∧ place ≤ (fi + xs.length : Nat)) → ∀ H' q ts rs, KS.Ex H H' → H' q = some (.tup (ts.map V.ref)) → EN.Nums H' place (rs.map V.ref) ts → Recs H' rs ((xs.drop (place - fi).toNat).take most.toNat) → Q (.ref q) H') : spPR CP CG [.ref p, .int place, .int most] H Q E := by
  unfold spPR
  exact ⟨p, l, kb, wb, xs, fi, place, most, rfl, h, h0, h1, bad, good⟩
@[irreducible] def spPT (CP Ps : Addr) : Sp := fun vs H Q _ => ∃ (p l : Addr) (kb wb : List Int) (xs : List Rc) (fi : Nat) (place : Int), vs = [.ref p, .int place] ∧ PtA CP p l kb wb xs fi H ∧ (∀ x ∈ xs, OkB x) ∧ (recsL xs).length ≤ 100000 ∧ TabS H Ps qK ∧
  ∀ H' l', H l' = none → FrP Ps p l H H' → PtA CP p l' (recsL (xs.drop (min (place - fi).toNat xs.length))) [] (xs.drop (min (place - fi).toNat xs.length)) (fi + min (place - fi).toNat xs.length) H' → Q (.int ((min (place - fi).toNat xs.length : Nat) : Int)) H'
theorem pt_step {CP Ps p l : Addr} {kb wb : List Int} {xs : List Rc} {fi : Nat} {place : Int} {H : Hp} {Q : VK} {E : XK} (h : PtA CP p l kb wb xs fi H) (ok : ∀ x ∈ xs, OkB x) (hl : (recsL xs).length ≤ 100000) (t : TabS H Ps qK)
    (fin : ∀ H' l', H l' = none → FrP Ps p l H H' → PtA CP p l' (recsL (xs.drop (min (place - fi).toNat xs.length))) [] (xs.drop (min (place - fi).toNat xs.length)) (fi + min (place - fi).toNat xs.length) H' → Q (.int ((min (place - fi).toNat xs.length : Nat) : Int)) H') : spPT CP Ps [.ref p, .int place] H Q E := by
  unfold spPT
  exact ⟨p, l, kb, wb, xs, fi, place, rfl, h, ok, hl, t, fin⟩
section
variable {P : Program} {w : World} {K : PySem.W.Frag} {mg : Str → Option Value} {base : Heap} {f fE fR CP CG CR Ps : Addr} {fd fdE fdR : FuncData}
theorem scPR : FnScope ["self", "place", "most", "begin"] ["self", "place", "most"] (defScope (sPM 5)) := ⟨rfl, rfl, rfl, by decide +kernel, rfl, by decide +kernel, by decide +kernel⟩
theorem ok_pread (F : FnP K "read" "Part.read" (sPM 5) [] f fd) (T : TxtP K mg CP) (G : TxtG K mg CG) (TL : TxtL mg) (M : TxtM mg) (mE : Meth K CP "end" fE) (GE : FnOk P w K mg base CX0 1 fE fdE ["self"] (spPE CP)) (bE : Binds K fdE ["self"] []) : FnOk P w K mg base (L2.CX P w) 2 f fd ["self", "place", "most"] (spPR CP CG) := by
  refine F.ok scPR (fun vs H Q E h => ?_) (fun cdv A outer s H vs Q E hr h => ?_)
  · unfold spPR at h
    obtain ⟨_, _, _, _, _, _, _, _, rfl, _⟩ := h; rfl
  · unfold spPR at h
    obtain ⟨p, l, kb, wb, xs, fi, place, most, rfl, pt, h0, h1', bad, good⟩ := h
    refine ⟨_, pss_cons (ps_if (pt_not (pt_chain op_le op_le (pf 0) (pv 1) (pe_meth0 (pv 0) T.cl mE GE (hr.mono (by decide)) bE .nil pass0))) (pss_one (ps_raise rfl (takes_of rfl rfl rfl rfl) (SkE.pmk_own1 PySem.F.excBase_ValueError G.x G.g G.k (raises_own G.b G.t) rfl (pe_joined (.cons pe_str (.cons (pe_fmt (pv 1)) .nil)))))) pss_nil)
      (pss_cons (ps_set (i := 3) scPR.nd rfl (Or.inl rfl) (pe_op op_sub (pv 1) (pf 0)))
      (pss_one (ps_ret (EN.pe_tupleEnum (by rfl) TL.tuple (by rfl) M.enu rfl (pe_slice sl_list (pf 0) (po_some (pv 3)) (po_some (pe_op op_add (pv 3) (pe_callB (call_max2 rfl) (by rfl) M.max (by decide +kernel) (pa_cons (pv 2) (pa_cons pe_int pa_nil)))))) (pv 1))))), ?_⟩
    obtain ⟨dx, k, v, ts, h1, h2, h3, h4, h5⟩ := id pt
    have hz0 : sizeLine = 16777216 := rfl
    refine ⟨_, rfl, p, CP, dx, _, _, rfl, h1, T.cl, T.f, rfl, _, rfl, _, _, rfl, rfl, _, rfl, ?_⟩
    by_cases c : (fi : Int) ≤ place ∧ place ≤ ((fi + xs.length : Nat) : Int)
    · refine ifT (by simp; exact c.1) ⟨_, rfl, p, dx, _, rfl, h1, rfl, pe_step pt ⟨_, _, rfl, rfl, _, rfl, ifF (by simp; exact c.2) ?_⟩⟩
      refine ⟨_, rfl, _, rfl, p, CP, dx, _, _, rfl, h1, T.cl, T.f, rfl, _, _, rfl, rfl, ?_⟩
      obtain ⟨b, hb⟩ : ∃ b : Nat, place = (fi : Int) + (b : Nat) := ⟨(place - fi).toNat, by omega⟩
      subst hb
      have e1 : ((fi : Int) + (b : Nat)) - (fi : Int) = (b : Nat) := by omega
      have e2 : (((fi : Int) + (b : Nat)) - (fi : Int)).toNat = b := by omega
      have good := good c
      rw [e2] at good
      refine ⟨_, rfl, p, CP, dx, _, _, rfl, h1, T.cl, T.r, rfl, _, rfl, _, rfl, _, rfl, _, rfl, _, _, rfl, _, _, rfl, rfl, _, rfl, lst_mid (lo := b) (hi := b + most.toNat) e1 (by show _ + _ = _; rw [max0]; omega) h4 fun H2 q e hq _ => ?_⟩
      rw [show b + most.toNat - b = most.toNat by omega] at hq
      refine ⟨_, rfl, q, _, (fi : Int) + (b : Nat), rfl, rfl, by omega, by omega, SqL.of hq, fun H' z ts' e' hz hn => ?_⟩
      exact good H' z ts' _ (e.trans e') hz hn (paired_take _ (paired_drop _ (h5.kt (kt_of (e.trans e')))))
    · by_cases c1 : (fi : Int) ≤ place
      · refine ifT (by simp; exact c1) ⟨_, rfl, p, dx, _, rfl, h1, rfl, pe_step pt ⟨_, _, rfl, rfl, _, rfl, ifT ?_ (js_int rfl h0 h1' (by decide) fun out => bad c)⟩⟩
        have : ¬ place ≤ ((fi + xs.length : Nat) : Int) := fun z => c ⟨c1, z⟩
        simp only [this, decide_false, Bool.not_false]
      · exact ifF (by simp; omega) ⟨_, rfl, ifT (by rfl) (js_int rfl h0 h1' (by decide) fun out => bad c)⟩
theorem scPT : FnScope ["self", "place", "many", "left", "found", "key", "row", "time"] ["self", "place"] (defScope (sPM 6)) := ⟨rfl, rfl, rfl, by decide +kernel, rfl, by decide +kernel, by decide +kernel⟩
theorem minmax (d : Int) (n : Nat) : (if ((n : Nat) : Int) < (if (0 : Int) > d then (0 : Int) else d) then ((n : Nat) : Int) else (if (0 : Int) > d then (0 : Int) else d)) = ((min d.toNat n : Nat) : Int) := by
  rw [max0]
  split <;> omega
theorem ok_ptrim (F : FnP K "trim" "Part.trim" (sPM 6) [] f fd) (T : TxtP K mg CP) (TL : TxtL mg) (M : TxtM mg) (GR : FnOk P w K mg base CX0 4 fR fdR ["key", "row", "time"] (spRec CR Ps)) (gR : mg "record_bytes" = some (.ref fR)) (kR : PySem.W.keepIn K (.ref fR) = true) (bR : Binds K fdR ["key", "row", "time"] []) : FnOk P w K mg base CX0 5 f fd ["self", "place"] (spPT CP Ps) := by
  refine F.ok scPT (fun vs H Q E h => ?_) (fun cdv A outer s H vs Q E hr h => ?_)
  · unfold spPT at h
    obtain ⟨_, _, _, _, _, _, _, rfl, _⟩ := h; rfl
  · unfold spPT at h
    obtain ⟨p, l, kb, wb, xs, fi, place, rfl, ⟨dx, k, v, ts, h1, h2, h3, h4, h5⟩, ok, hl, tab, fin⟩ := h
    refine ⟨_, PSs.nox <| pss_cons (ps_set (i := 2) scPT.nd rfl (Or.inl rfl) (pe_callB (call_min2 rfl) (by rfl) M.min (by decide +kernel) (pa_cons (pe_callB (call_max2 rfl) (by rfl) M.max (by decide +kernel) (pa_cons (pe_op op_sub (pv 1) (pf 0)) (pa_cons pe_int pa_nil))) (pa_cons (pe_callB call_len_seq (by rfl) TL.len (by decide +kernel) (pa_cons (pf 0) pa_nil)) pa_nil))))
      (pss_cons (ps_set (i := 3) scPT.nd rfl (Or.inl rfl) (pe_slice sl_list (pf 0) (po_some (pv 2)) po_none))
      (pss_cons (ps_set (i := 4) scPT.nd rfl (Or.inl rfl) (pe_lst pa_nil))
      (pss_cons (ps_for PassesOwn.never rfl (pi_list (pv 3)) (pg_tup rfl (pgs_cons (pg_name (i := 5) scPT.nd rfl (Or.inl rfl)) (pgs_cons (pg_name (i := 6) scPT.nd rfl (Or.inl rfl)) (pgs_cons (pg_name (i := 7) scPT.nd rfl (Or.inl rfl)) pgs_nil))))
        (pss_one (ps_expr (pe_bm PySem.F.plainAttrs_list PySem.F.slot_list_extend PySem.F.type_list_extend mt_extendT (pv 4) (pa_cons (pe_call GR (hr.mono (by decide)) (by rfl) gR kR bR .nil pass0 (pa_cons (pv 5) (pa_cons (pv 6) (pa_cons (pv 7) pa_nil)))) pa_nil)))))
      (pss_cons (ps_fld (pv 0) (pe_tupleOf (by rfl) TL.tuple (pv 4)) rfl)
      (pss_cons (ps_fld (pv 0) (pe_tup pa_nil) rfl)
      (pss_cons (ps_fld (pv 0) (pv 3) rfl)
      (pss_cons (ps_fldaug (pv 0) (pv 2) in_add)
      (pss_one (ps_ret (pv 2)))))))))), ?_⟩
    have hz0 : sizeLine = 16777216 := rfl
    have lts := paired_len h5
    refine ⟨_, rfl, _, rfl, p, CP, dx, _, _, rfl, h1, T.cl, T.f, rfl, _, _, rfl, rfl, _, _, rfl, _, rfl, p, CP, dx, _, _, rfl, h1, T.cl, T.r, rfl, l, _, rfl, .inl (SqL.of h4), _, _, rfl, ?_⟩
    rw [List.length_map, lts, minmax]
    generalize hm : min (place - fi).toNat xs.length = m at fin
    refine ⟨_, rfl, p, CP, dx, _, _, rfl, h1, T.cl, T.r, rfl, _, rfl, _, rfl, ?_⟩
    dsimp only [tNoPart]
    refine lst_from (lo := m) rfl h4 fun H1 l' e1 hl1 hl0 => ?_
    have ok : ∀ x ∈ xs.drop m, OkB x := fun x hx => ok x (List.mem_of_mem_drop hx)
    have hl : (recsL (xs.drop m)).length ≤ 100000 := by
      have e := recsL_app (xs.take m) (xs.drop m)
      rw [List.take_append_drop] at e
      have := congrArg List.length e
      rw [List.length_append] at this
      omega
    have rs0 : Recs H1 (ts.drop m) (xs.drop m) := Recs.kt (paired_drop m h5) (kt_of e1)
    generalize ts.drop m = ts' at hl1 rs0
    generalize xs.drop m = ys at ok hl fin rs0
    have t1 := tab.ext e1
    have p1 := e1 _ _ h1
    refine ⟨by decide, fun F hF => ?_⟩
    have e2 : KS.Ex H1 (upd H1 F (.lst [])) := Ex.upd hF
    have hF2 : (upd H1 F (.lst [])) F = some (.lst (([] : List Int).map V.int)) := upd_same
    generalize upd H1 F (.lst []) = H2 at e2 hF2
    have t2 := t1.ext e2
    obtain ⟨ps, hP, _⟩ := id t2
    have rs2 := rs0.kt (kt_of e2)
    have nFP : F ≠ Ps := fun z => by rw [z, hP] at hF2; cases hF2
    have l2 := e2 _ _ hl1
    have p2 := e2 _ _ p1
    have nlF : l' ≠ F := fun z => by rw [z, hF] at hl1; cases hl1
    have nlP : l' ≠ Ps := fun z => by rw [z, hP] at l2; cases l2
    have npF : p ≠ F := fun z => by rw [z, hF] at p1; cases p1
    have npP : p ≠ Ps := fun z => by rw [z, hP] at p2; cases p2
    have lys := paired_len rs2
    refine ⟨_, rfl, l', rfl, ⟨_, SqL.of l2⟩, for_list (xs := ts'.map V.ref) (fun i σ H' => (∃ u1 u2 u3, σ = [some (.ref p), some (.int place), some (.int (m : Nat)), some (.ref l'), some (.ref F), u1, u2, u3]) ∧ TabS H' Ps qK ∧ (∀ b o, b ≠ Ps → b ≠ F → H2 b = some o → H' b = some o) ∧ H' F = some (.lst ((recsL (ys.take i)).map V.int))) ⟨⟨_, _, _, rfl⟩, t2, fun _ _ _ _ h => h, hF2⟩ ?_ ?_ ?_⟩
    · rintro i σ H' _ ⟨_, _, fr, _⟩
      exact SqL.of (fr _ _ nlP nlF l2)
    · rintro i x σ H' hx ⟨⟨u1, u2, u3, rfl⟩, t', fr, hF'⟩
      rw [List.getElem?_map] at hx
      obtain ⟨t, ht, rfl⟩ := Option.map_eq_some_iff.mp hx
      have hlt : i < ys.length := by
        have := (List.getElem?_eq_some_iff.mp ht).1
        omega
      have ktF : KT' H2 H' := fun b zs h => fr b _ (fun z => by rw [z, hP] at h; cases h) (fun z => by rw [z, hF2] at h; cases h) h
      obtain ⟨a, b, r1, r2, r3⟩ : RecAt H' t ys[i] := by
        obtain ⟨y, hy, ra⟩ := paired_get rs2 ht
        rw [List.getElem?_eq_getElem hlt] at hy
        cases hy
        exact ra.kt ktF
      refine ⟨t, _, rfl, SqT.of r1, rfl, _, _, rfl, _, _, rfl, _, _, rfl, rfl, ?_⟩
      refine ⟨_, rfl, .inl ⟨rfl, _, SqL.of hF'⟩, _, rfl, _, rfl, _, rfl, rec_step r2 r3 (ok _ (List.getElem_mem hlt)) t' fun H3 q t3 hq => ?_⟩
      have hF3 := t3.2 _ _ nFP hF'
      refine ⟨F, q, _, _, rfl, rfl, hF3, hq, ?_, ?_⟩
      · rw [List.length_map, List.length_map]
        have := recL_bd (ok _ (List.getElem_mem hlt))
        have e := recsL_app (ys.take i) (ys.drop i)
        rw [List.take_append_drop] at e
        have := congrArg List.length e
        rw [List.length_append] at this
        omega
      · refine ⟨⟨_, _, _, rfl⟩, tab_upd t3.1 hF3 (fun _ z => by cases z) (fun _ z => by cases z), fun b' o n1 n2 h => by rw [L2.upd_ne n2]; exact t3.2 _ _ n1 (fr _ _ n1 n2 h), ?_⟩
        rw [upd_same, ← List.map_append, List.take_add_one, List.getElem?_eq_getElem hlt, recsL_app]
        show _ = some (HO.lst ((recsL (ys.take i) ++ recsL [ys[i]]).map V.int))
        rw [show recsL [ys[i]] = recL ys[i] by show recL ys[i] ++ [] = _; rw [List.append_nil]]
    · rintro σ H3 ⟨⟨u1, u2, u3, rfl⟩, t3, fr, hF3⟩
      rw [List.length_map, lys, List.take_length] at hF3
      have p3 := fr _ _ npP npF p2
      have l3 := fr _ _ nlP nlF l2
      have k23 : KT' H2 H3 := fun b zs h => fr b _ (fun z => by rw [z, hP] at h; cases h) (fun z => by rw [z, hF2] at h; cases h) h
      have rs3 := rs2.kt k23
      have f3 : FrP Ps p l H H3 := ⟨t3, fun b o n1 n2 n3 h => fr b o n1 (ne_of_none (e1 _ _ h) hF) (e2 _ _ (e1 _ _ h))⟩
      refine ⟨_, rfl, .inl ⟨F, _, rfl, SqL.of hF3, fun c hc => ⟨_, rfl, p, CP, dx, _, rfl, Ex.upd hc _ _ p3, T.cl, T.k, (by show 4 < 1000; decide), ?_⟩⟩⟩
      rw [put_kept]
      have e4 : KS.Ex H3 (upd H3 c (.tup ((recsL ys).map V.int))) := Ex.upd hc
      have c4 : (upd H3 c (.tup ((recsL ys).map V.int))) c = some (.tup ((recsL ys).map V.int)) := upd_same
      generalize upd H3 c (.tup ((recsL ys).map V.int)) = H4 at e4 c4
      have p4 := e4 _ _ p3
      have nlp : l' ≠ p := fun z => by rw [z, p3] at l3; cases l3
      have ncp : c ≠ p := fun z => by rw [z, p4] at c4; cases c4
      have p5 : (upd H4 p (.ins CP dx (pF c v l fi))) p = some (.ins CP dx (pF c v l fi)) := upd_same
      have f5 : FrP Ps p l H (upd H4 p (.ins CP dx (pF c v l fi))) := f3.trans ((FrP.ex f3.1 e4).trans (FrP.wr (f3.1.ext e4) p4 (fun _ z => by cases z) (fun _ z => by cases z) (.inl rfl)))
      have k5 : KT' H4 (upd H4 p (.ins CP dx (pF c v l fi))) := fun b ys h => by rw [L2.upd_ne (fun z => by rw [z, p4] at h; cases h)]; exact h
      have l5 : (upd H4 p (.ins CP dx (pF c v l fi))) l' = some (.lst (ts'.map V.ref)) := by rw [L2.upd_ne nlp]; exact e4 _ _ l3
      have c5 := k5 _ _ c4
      have rs5 := (rs3.kt (kt_of e4)).kt k5
      generalize upd H4 p (.ins CP dx (pF c v l fi)) = H5 at p5 f5 l5 c5 rs5
      refine ⟨by decide, fun z hz => ⟨_, rfl, p, CP, dx, _, rfl, (Ex.upd hz) _ _ p5, T.cl, T.w, (by show 4 < 1000; decide), ?_⟩⟩
      rw [put_wait]
      have nzp : z ≠ p := fun y => by rw [y, p5] at hz; cases hz
      have k6 : KT' H5 (upd (upd H5 z (.tup [])) p (.ins CP dx (pF c z l fi))) := fun b ys h => by rw [L2.upd_ne (fun y => by rw [y, p5] at h; cases h)]; exact Ex.upd hz _ _ h
      have f6 : FrP Ps p l H (upd (upd H5 z (.tup [])) p (.ins CP dx (pF c z l fi))) := f5.trans ((FrP.ex f5.1 (Ex.upd hz)).trans (FrP.wr (f5.1.ext (Ex.upd hz)) (Ex.upd hz _ _ p5) (fun _ z => by cases z) (fun _ z => by cases z) (.inl rfl)))
      have p6 : (upd (upd H5 z (.tup [])) p (.ins CP dx (pF c z l fi))) p = some (.ins CP dx (pF c z l fi)) := upd_same
      have l6 : (upd (upd H5 z (.tup [])) p (.ins CP dx (pF c z l fi))) l' = some (.lst (ts'.map V.ref)) := by rw [L2.upd_ne nlp]; exact Ex.upd hz _ _ l5
      have z6 : (upd (upd H5 z (.tup [])) p (.ins CP dx (pF c z l fi))) z = some (.tup (([] : List Int).map V.int)) := by rw [L2.upd_ne nzp]; exact upd_same
      have c6 := k6 _ _ c5
      have rs6 := rs5.kt k6
      generalize upd (upd H5 z (.tup [])) p (.ins CP dx (pF c z l fi)) = H6 at p6 f6 l6 z6 c6 rs6
      refine ⟨_, rfl, _, rfl, p, CP, dx, _, rfl, p6, T.cl, T.r, (by show 4 < 1000; decide), ?_⟩
      rw [put_recs]
      refine ⟨_, rfl, p, CP, dx, _, _, rfl, upd_same, T.cl, T.f, rfl, _, rfl, _, _, rfl, rfl, dx, _, upd_same, (by show 4 < 1000; decide), ?_⟩
      rw [upd2, show ((fi : Nat) : Int) + ((m : Nat) : Int) = ((fi + m : Nat) : Int) from (Int.natCast_add fi m).symm, put_first]
      have k7 : KT' H6 (upd H6 p (.ins CP dx (pF c z l' (fi + m)))) := fun b ys h => by rw [L2.upd_ne (fun y => by rw [y, p6] at h; cases h)]; exact h
      exact ⟨_, rfl, fin _ l' (hl0) (f6.trans (FrP.wr f6.1 p6 (fun _ z => by cases z) (fun _ z => by cases z) (.inl rfl))) ⟨dx, c, z, ts', upd_same, k7 _ _ c6, k7 _ _ z6, by rw [L2.upd_ne nlp]; exact l6, rs6.kt k7⟩⟩
end
end KL6
set_option Elab.async false
set_option linter.all false
set_option maxRecDepth 100000
set_option maxHeartbeats 4000000
namespace KL6
open PySem PySem.Spec PyProof.Rows L2 KB KC KS KN1 LamX K7
structure TxtO (K : PySem.W.Frag) (mg : Str → Option Value) (CL : Addr) : Prop where
  cl : Cls K CL
  p : NoAttr K CL "parts"
  g : mg "Log" = some (.ref CL)
abbrev PS := List Int × List Int × List Rc
abbrev ps0 : PS := ([], [], [])
def Parts (CP : Addr) (H : Hp) : List (Addr × Addr) → List PS → Prop := Paired fun pl st => PtA CP pl.1 pl.2 st.1 st.2.1 st.2.2 0 H
theorem Parts.of {CP : Addr} {H H' : Hp} {ps : List (Addr × Addr)} {sts : List PS} (h : Parts CP H ps sts) (f : ∀ (pl : Addr × Addr) (st : PS), pl ∈ ps → PtA CP pl.1 pl.2 st.1 st.2.1 st.2.2 0 H → PtA CP pl.1 pl.2 st.1 st.2.1 st.2.2 0 H') : Parts CP H' ps sts := by
  unfold Parts at h ⊢
  induction h with
  | nil => exact .nil
  | cons a r ih => exact .cons (f _ _ List.mem_cons_self a) (ih fun pl st hm => f pl st (List.mem_cons_of_mem _ hm))
theorem Parts.ex {CP : Addr} {H H' : Hp} {ps : List (Addr × Addr)} {sts : List PS} (h : Parts CP H ps sts) (e : KS.Ex H H') : Parts CP H' ps sts := Parts.of h fun _ _ _ x => x.ex e
theorem PtA.apart {CP p l a : Addr} {kb wb : List Int} {xs : List Rc} {fi : Nat} {H H' : Hp} (x : PtA CP p l kb wb xs fi H) (e : ∀ b o, b ≠ a → H b = some o → H' b = some o) (ha : ∃ C d fs, H a = some (.ins C d fs)) (n : p ≠ a) : PtA CP p l kb wb xs fi H' := by
  obtain ⟨dx, k, v, ts, h1, h2, h3, h4, h5⟩ := x
  obtain ⟨C, d, fs, ha⟩ := ha
  refine ⟨dx, k, v, ts, e _ _ n h1, e _ _ (fun z => by rw [z, ha] at h2; cases h2) h2, e _ _ (fun z => by rw [z, ha] at h3; cases h3) h3, e _ _ (fun z => by rw [z, ha] at h4; cases h4) h4, h5.kt fun b ys h => e _ _ (fun z => by rw [z, ha] at h; cases h) h⟩
structure LogA (CL CP o q : Addr) (ps : List (Addr × Addr)) (sts : List PS) (H : Hp) : Prop where
  ob : ∃ dx, H o = some (.ins CL dx [("parts", .ref q)])
  ql : H q = some (.lst (ps.map fun pl => V.ref pl.1))
  pt : Parts CP H ps sts
  n1 : (ps.map (·.1)).Nodup
  n2 : (ps.map (·.2)).Nodup
  n3 : q ∉ ps.map (·.2)
  n4 : o ∉ ps.map (·.1)
@[irreducible] def spLI (CL CP CG : Addr) : Sp := fun vs H Q E => ∃ (o dx : Addr) (many : Int), vs = [.ref o, .int many] ∧ H o = some (.ins CL dx []) ∧ -1 ≤ many ∧ many < 100000 ∧
  (¬ (0 < many ∧ many ≤ 16) → E (.ref CG) none H) ∧
  ((0 < many ∧ many ≤ 16) → ∀ H' q ps, (∀ b x, b ≠ o → H b = some x → H' b = some x) → LogA CL CP o q ps (List.replicate many.toNat ps0) H' → H q = none → (∀ pl ∈ ps, H pl.1 = none ∧ H pl.2 = none) → Q .non H')
theorem li_step {CL CP CG o dx : Addr} {many : Int} {H : Hp} {Q : VK} {E : XK} (h : H o = some (.ins CL dx [])) (h0 : -1 ≤ many) (h1 : many < 100000) (bad : ¬ (0 < many ∧ many ≤ 16) → E (.ref CG) none H)
    (good : (0 < many ∧ many ≤ 16) → ∀ H' q ps, (∀ b x, b ≠ o → H b = some x → H' b = some x) → LogA CL CP o q ps (List.replicate many.toNat ps0) H' → H q = none → (∀ pl ∈ ps, H pl.1 = none ∧ H pl.2 = none) → Q .non H') : spLI CL CP CG [.ref o, .int many] H Q E := by
  unfold spLI
  exact ⟨o, dx, many, rfl, h, h0, h1, bad, good⟩
theorem js_int3 {i : Nat} {txt txt2 : Str} {t : Int} {σ : L2.St} {H : Hp} {R : Str → Hp → Prop} (hs : σ[i]? = some (some (.int t))) (h0 : -1 ≤ t) (h1 : t < 100000) (ht : txt.length ≤ 100) (ht2 : txt2.length ≤ 100) (r : ∀ out, R out H) : tJs [tC (V.str txt), tFmt (tVar i), tC (V.str txt2)] Str.empty σ H R := by
  have e := txt_len h0 h1
  have hz : sizeLine = 16777216 := rfl
  have l0 : (Str.empty ++ txt).length = txt.length := by rw [Str.length_append]; show 0 + _ = _; omega
  have l1 : (Str.empty ++ txt ++ Str.ofString (toString t)).length = (Str.empty ++ txt).length + (Str.ofString (toString t)).length := Str.length_append ..
  refine ⟨txt, rfl, by rw [l0]; omega, _, hs, .inr ⟨t, rfl, txt_log h0 h1, _, rfl, ?_, txt2, rfl, ?_, r _⟩⟩
  · show (Str.empty ++ txt ++ Str.ofString (toString t)).length ≤ sizeLine
    rw [l1, l0]
    omega
  · show ((Str.empty ++ txt ++ Str.ofString (toString t)) ++ txt2).length ≤ sizeLine
    rw [show ((Str.empty ++ txt ++ Str.ofString (toString t)) ++ txt2).length = (Str.empty ++ txt ++ Str.ofString (toString t)).length + txt2.length from Str.length_append .., l1, l0]
    omega
abbrev sOM (j : Nat) : Stmt := inClass sLog j
section
variable {P : Program} {w : World} {K : PySem.W.Frag} {mg : Str → Option Value} {base : Heap} {f fI CL CP CG : Addr} {fd fdI : FuncData}
theorem scLI : FnScope ["self", "many", "_"] ["self", "many"] (defScope (sOM 0)) := ⟨rfl, rfl, rfl, by decide +kernel, rfl, by decide +kernel, by decide +kernel⟩
theorem ok_linit (F : FnP K "__init__" "Log.__init__" (sOM 0) [] f fd) (O : TxtO K mg CL) (T : TxtP K mg CP) (G : TxtG K mg CG) (TL : TxtL mg) (N : TxtN mg) (M : Mk K CP fI) (GI : FnOk P w K mg base CX0 1 fI fdI ["self"] (spPI CP)) (bI : Binds K fdI ["self"] []) : FnOk P w K mg base (L2.CX P w) 3 f fd ["self", "many"] (spLI CL CP CG) := by
  obtain ⟨tk, hP⟩ := N.parts
  refine F.ok scLI (fun vs H Q E h => ?_) (fun cdv A outer s H vs Q E hr h => ?_)
  · unfold spLI at h
    obtain ⟨_, _, _, rfl, _⟩ := h; rfl
  · unfold spLI at h
    obtain ⟨o, dx, many, rfl, h1, b0, b1, bad, good⟩ := h
    refine ⟨_, pss_cons (ps_if (pt_not (pt_chain op_lt op_le pe_int (pv 1) (pe_glob (v := .int 16) (by rfl) hP ⟨_, rfl⟩))) (pss_one (ps_raise rfl (takes_of rfl rfl rfl rfl) (SkE.pmk_own1 PySem.F.excBase_ValueError G.x G.g G.k (raises_own G.b G.t) rfl (pe_joined (.cons pe_str (.cons (pe_fmt (pv 1)) (.cons pe_str .nil))))))) pss_nil)
      (pss_one (ps_fld (pv 0) (pe_lc (own := [("_", 2)]) (g := gName 2) (tt := tYes) rfl scLI.nd (pi_range1 (by rfl) TL.range (pa_cons (pv 1) pa_nil)) (blkOk_by (N := ["self", "many", "_"]) (sc := defScope (sOM 0)) (by decide +kernel))
        (fun _ _ _ _ _ => pg_name (i := 2) scLI.nd rfl (Or.inl rfl)) (fun _ _ _ _ _ => pts_nil)
        (fun _ _ _ _ _ => pe_make0 M GI (hr.mono (by decide)) (by rfl) T.g bI .nil pass0)) rfl)), ?_⟩
    refine ⟨_, rfl, _, _, rfl, rfl, _, rfl, ?_⟩
    by_cases c : 0 < many ∧ many ≤ 16
    · refine ifT (by simp; exact c.1) ⟨_, _, rfl, rfl, _, rfl, ifF (by simp; exact c.2) ?_⟩
      have good := good c
      refine ⟨_, rfl, many, rfl, by omega, by omega, fun D hD => ?_⟩
      have hw : many.toNat ≤ 16 := by omega
      generalize many.toNat = n at good hw
      refine lc_range (fun i H' => KS.Ex H H' ∧ ∃ ps : List (Addr × Addr), H' D = some (.lst (ps.map fun pl => V.ref pl.1)) ∧ Parts CP H' ps (List.replicate i ps0) ∧ (ps.map (·.1)).Nodup ∧ (ps.map (·.2)).Nodup ∧ D ∉ ps.map (·.2) ∧ (∀ pl ∈ ps, H pl.1 = none ∧ H pl.2 = none) ∧ o ∉ ps.map (·.1)) ⟨Ex.upd hD, [], upd_same, .nil, .nil, .nil, (by simp), (fun _ h => nomatch h), by simp⟩ ?_ ?_
      · rintro i H1 hi ⟨e1, ps, hD1, hps, m1, m2, m3, m4, m5⟩
        refine ⟨rfl, ?_⟩
        refine fun x d hx hd nd => ?_
        have hx2 : (upd (upd H1 d (.own x)) x (.ins CP d [])) x = some (.ins CP d []) := upd_same
        have e2 : KS.Ex H1 (upd (upd H1 d (.own x)) x (.ins CP d [])) := (Ex.upd hd).trans (Ex.upd (by rw [L2.upd_ne nd.symm]; exact hx))
        show spPI CP [.ref x] _ _ _
        generalize upd (upd H1 d (.own x)) x (.ins CP d []) = H2 at hx2 e2
        refine pi_step hx2 fun H3 l hl0 e3 pt3 => ⟨rfl, ps.map (fun pl => V.ref pl.1), ?_, ?_, ?_⟩
        · exact e3 _ _ (ne_of_none hD1 hx) (e2 _ _ hD1)
        · rw [List.length_map]
          have := paired_len hps
          rw [List.length_replicate] at this
          have hz0 : sizeLine = 16777216 := rfl
          omega
        · have hD3 := e3 _ _ (ne_of_none hD1 hx) (e2 _ _ hD1)
          have hlH1 : H1 l = none := by
            cases z : H1 l with
            | none => rfl
            | some u => rw [e2 _ _ z] at hl0; cases hl0
          have lD : l ≠ D := fun z => by rw [z, hD1] at hlH1; cases hlH1
          have xnew : x ∉ ps.map (·.1) := fun hm => by
            obtain ⟨pl, hpl, e⟩ := List.mem_map.mp hm
            obtain ⟨j, hj, ej⟩ := List.mem_iff_getElem.mp hpl
            obtain ⟨y, hy, q⟩ := paired_get (G := fun (pl : Addr × Addr) (st : PS) => PtA CP pl.1 pl.2 st.1 st.2.1 st.2.2 0 H1) hps (List.getElem?_eq_getElem hj)
            obtain ⟨_, _, _, _, z, _⟩ := q
            rw [ej, e, hx] at z; cases z
          have lnew : l ∉ ps.map (·.2) := fun hm => by
            obtain ⟨pl, hpl, e⟩ := List.mem_map.mp hm
            obtain ⟨j, hj, ej⟩ := List.mem_iff_getElem.mp hpl
            obtain ⟨y, hy, q⟩ := paired_get (G := fun (pl : Addr × Addr) (st : PS) => PtA CP pl.1 pl.2 st.1 st.2.1 st.2.2 0 H1) hps (List.getElem?_eq_getElem hj)
            obtain ⟨_, _, _, _, _, _, _, z, _⟩ := q
            rw [ej, e, hlH1] at z; cases z
          have eH3 : KS.Ex H (upd H3 D (.lst (ps.map (fun pl => V.ref pl.1) ++ [V.ref x]))) := fun b u h => by
            rw [L2.upd_ne (ne_of_none h hD)]
            exact e3 _ _ (ne_of_none (e1 _ _ h) hx) (e2 _ _ (e1 _ _ h))
          have out : ∀ b, H1 b = none → H b = none := fun b hb => by
            cases z : H b with
            | none => rfl
            | some u => rw [e1 _ _ z] at hb; cases hb
          have pt1 : ∀ (pl : Addr × Addr) (st : PS), pl.2 ≠ D → PtA CP pl.1 pl.2 st.1 st.2.1 st.2.2 0 H3 → PtA CP pl.1 pl.2 st.1 st.2.1 st.2.2 0 (upd H3 D (.lst (ps.map (fun pl => V.ref pl.1) ++ [V.ref x]))) := fun pl st nD ⟨dy, k, v, ts, g1, g2, g3, g4, g5⟩ => by
            refine ⟨dy, k, v, ts, ?_, ?_, ?_, ?_, g5.kt fun b ys h => ?_⟩
            · rw [L2.upd_ne (fun z => by rw [z, hD3] at g1; cases g1)]; exact g1
            · rw [L2.upd_ne (fun z => by rw [z, hD3] at g2; cases g2)]; exact g2
            · rw [L2.upd_ne (fun z => by rw [z, hD3] at g3; cases g3)]; exact g3
            · rw [L2.upd_ne nD]; exact g4
            · rw [L2.upd_ne (fun z => by rw [z, hD3] at h; cases h)]; exact h
          refine ⟨eH3, ps ++ [(x, l)], ?_, ?_, ?_, ?_, ?_, ?_, ?_⟩
          · rw [upd_same, List.map_append]; rfl
          · rw [List.replicate_succ']
            refine paired_snoc' (Parts.of (H := H1) hps fun pl st hm q => ?_) (pt1 (x, l) ps0 lD pt3)
            refine pt1 pl st (fun z => m3 (by rw [← z]; exact List.mem_map_of_mem hm)) ?_
            exact (q.ex e2).apart e3 ⟨_, _, _, hx2⟩ fun z => xnew (by rw [← z]; exact List.mem_map_of_mem hm)
          · rw [List.map_append, List.nodup_append]
            exact ⟨m1, by simp, fun a ha b hb => by
              simp at hb
              rw [hb]
              exact fun z => xnew (by rw [← z]; exact ha)⟩
          · rw [List.map_append, List.nodup_append]
            exact ⟨m2, by simp, fun a ha b hb => by
              simp at hb
              rw [hb]
              exact fun z => lnew (by rw [← z]; exact ha)⟩
          · rw [List.map_append, List.mem_append]
            rintro (z | z)
            · exact m3 z
            · simp at z
              exact lD z.symm
          · intro pl hpl
            rcases List.mem_append.mp hpl with z | z
            · exact m4 pl z
            · simp at z
              rw [z]
              exact ⟨out _ hx, out _ hlH1⟩
          · rw [List.map_append, List.mem_append]
            rintro (z | z)
            · exact m5 z
            · simp at z
              rw [← z, e1 _ _ h1] at hx
              cases hx
      · rintro H1 ⟨e1, ps, hD1, hps, m1, m2, m3, m4, m5⟩
        refine ⟨_, rfl, o, CL, dx, _, rfl, e1 _ _ h1, O.cl, O.p, (by show 0 < 1000; decide), ?_⟩
        have nDo : D ≠ o := fun z => by rw [z, h1] at hD; cases hD
        refine good _ D ps (fun b u nb h => by rw [L2.upd_ne nb]; exact e1 _ _ h) ⟨⟨dx, upd_same⟩, by rw [L2.upd_ne nDo]; exact hD1, ?_, m1, m2, m3, m5⟩ hD m4
        exact Parts.of hps fun pl st hm q => q.apart (fun b u nb h => by rw [L2.upd_ne nb]; exact h) ⟨_, _, _, e1 _ _ h1⟩ fun z => m5 (by rw [← z]; exact List.mem_map_of_mem hm)
    · by_cases c1 : 0 < many
      · refine ifT (by simp; exact c1) ⟨_, _, rfl, rfl, _, rfl, ifT ?_ (js_int3 rfl b0 b1 (by decide) (by decide) fun out => bad c)⟩
        have : ¬ many ≤ 16 := fun z => c ⟨c1, z⟩
        simp only [this, decide_false, Bool.not_false]
      · exact ifF (by simp; omega) ⟨_, rfl, ifT (by rfl) (js_int3 rfl b0 b1 (by decide) (by decide) fun out => bad c)⟩
end
end KL6
set_option Elab.async false
set_option linter.all false
set_option maxRecDepth 100000
set_option maxHeartbeats 4000000
namespace KL6
open PySem PySem.Spec PyProof.Rows L2 KB KC KS KN1 LamX K7
theorem PtA.other {CP Ps p l p' l' : Addr} {kb wb : List Int} {xs : List Rc} {fi : Nat} {H H' : Hp} (x : PtA CP p' l' kb wb xs fi H) (t : TabS H Ps qK) (hp : ∃ C d fs, H p = some (.ins C d fs)) (hl : ∃ ys, H l = some (.lst ys)) (f : FrP Ps p l H H') (n1 : p' ≠ p) (n2 : l' ≠ l) : PtA CP p' l' kb wb xs fi H' := by
  obtain ⟨dx, k, v, ts, h1, h2, h3, h4, h5⟩ := x
  obtain ⟨C, d, fs, hp⟩ := hp
  obtain ⟨ys, hl⟩ := hl
  obtain ⟨ps, hP, _⟩ := t
  have tup : KT' H H' := fun b zs h => f.2 b _ (fun z => by rw [z, hP] at h; cases h) (fun z => by rw [z, hp] at h; cases h) (fun z => by rw [z, hl] at h; cases h) h
  exact ⟨dx, k, v, ts, f.2 _ _ (fun z => by rw [z, hP] at h1; cases h1) n1 (fun z => by rw [z, hl] at h1; cases h1) h1, tup _ _ h2, tup _ _ h3, f.2 _ _ (fun z => by rw [z, hP] at h4; cases h4) (fun z => by rw [z, hp] at h4; cases h4) n2 h4, h5.kt tup⟩
def FrL (Ps : Addr) (ps : List (Addr × Addr)) (H H' : Hp) : Prop := TabS H' Ps qK ∧ ∀ b u, b ≠ Ps → b ∉ ps.map (·.1) → b ∉ ps.map (·.2) → H b = some u → H' b = some u
theorem FrL.trans {Ps : Addr} {ps : List (Addr × Addr)} {H H1 H2 : Hp} (a : FrL Ps ps H H1) (b : FrL Ps ps H1 H2) : FrL Ps ps H H2 := ⟨b.1, fun x o n1 n2 n3 h => b.2 x o n1 n2 n3 (a.2 x o n1 n2 n3 h)⟩
theorem FrL.tb {Ps : Addr} {ps : List (Addr × Addr)} {H H' : Hp} (e : Tb Ps H H') : FrL Ps ps H H' := ⟨e.1, fun b o n _ _ h => e.2 b o n h⟩
theorem FrL.ex {Ps : Addr} {ps : List (Addr × Addr)} {H H' : Hp} (t : TabS H Ps qK) (e : KS.Ex H H') : FrL Ps ps H H' := FrL.tb ((Tb.refl t).ex e)
theorem FrL.fp {Ps p l : Addr} {ps : List (Addr × Addr)} {H H' : Hp} (f : FrP Ps p l H H') (hm : (p, l) ∈ ps) : FrL Ps ps H H' := ⟨f.1, fun b u n n1 n2 h => f.2 b u n (fun z => n1 (by rw [z]; exact List.mem_map_of_mem (f := (·.1)) hm)) (fun z => n2 (by rw [z]; exact List.mem_map_of_mem (f := (·.2)) hm)) h⟩
theorem paired_set {α β : Type} {F : α → β → Prop} {b : β} : ∀ {xs : List α} {ys : List β} {j : Nat} {a : α}, Paired F xs ys → xs[j]? = some a → F a b → Paired F xs (ys.set j b)
  | _, _, _, _, .nil, h, _ => by cases h
  | _, _, 0, _, .cons _ r, h, f => by cases h; exact .cons f r
  | _, _, j + 1, _, .cons x r, h, f => .cons x (paired_set r h f)
theorem nodup_ne {α β : Type} {f : α → β} {xs : List α} (h : (xs.map f).Nodup) {i j : Nat} {a b : α} (ha : xs[i]? = some a) (hb : xs[j]? = some b) (n : i ≠ j) : f a ≠ f b := fun z => by
  obtain ⟨hi, ea⟩ := List.getElem?_eq_some_iff.mp ha
  obtain ⟨hj, eb⟩ := List.getElem?_eq_some_iff.mp hb
  refine n ((List.getElem_inj (h₀ := by rw [List.length_map]; exact hi) (h₁ := by rw [List.length_map]; exact hj) h).mp ?_)
  rw [List.getElem_map, List.getElem_map, ea, eb]
  exact z
theorem LogA.len {CL CP o q : Addr} {ps : List (Addr × Addr)} {sts : List PS} {H : Hp} (x : LogA CL CP o q ps sts H) : ps.length = sts.length := paired_len x.pt
theorem LogA.get {CL CP o q : Addr} {ps : List (Addr × Addr)} {sts : List PS} {H : Hp} (x : LogA CL CP o q ps sts H) {j : Nat} {st : PS} (hj : sts[j]? = some st) : ∃ p l, ps[j]? = some (p, l) ∧ PtA CP p l st.1 st.2.1 st.2.2 0 H := by
  have hlt : j < ps.length := by rw [x.len]; exact (List.getElem?_eq_some_iff.mp hj).1
  obtain ⟨y, hy, q⟩ := paired_get (G := fun (pl : Addr × Addr) (st : PS) => PtA CP pl.1 pl.2 st.1 st.2.1 st.2.2 0 H) x.pt (List.getElem?_eq_getElem hlt)
  rw [hj] at hy
  cases hy
  exact ⟨_, _, List.getElem?_eq_getElem hlt, q⟩
theorem LogA.set {CL CP Ps o q p l : Addr} {ps : List (Addr × Addr)} {sts : List PS} {st : PS} {j : Nat} {H H' : Hp} (x : LogA CL CP o q ps sts H) (t : TabS H Ps qK) (hj : ps[j]? = some (p, l)) (f : FrP Ps p l H H') (n : PtA CP p l st.1 st.2.1 st.2.2 0 H') : LogA CL CP o q ps (sts.set j st) H' := by
  obtain ⟨dx, ob⟩ := x.ob
  have hlt : j < sts.length := by rw [← x.len]; exact (List.getElem?_eq_some_iff.mp hj).1
  obtain ⟨p1, l1, e1, y1⟩ := x.get (List.getElem?_eq_getElem hlt)
  rw [hj] at e1
  cases e1
  obtain ⟨dy, k, v, ts, g1, g2, g3, g4, g5⟩ := id y1
  obtain ⟨tb, hP, _⟩ := id t
  have hm : (p, l) ∈ ps := List.mem_of_getElem? hj
  have nop : o ≠ p := fun z => x.n4 (by rw [z]; exact List.mem_map_of_mem (f := (·.1)) hm)
  have nql : q ≠ l := fun z => x.n3 (by rw [z]; exact List.mem_map_of_mem (f := (·.2)) hm)
  refine ⟨⟨dx, f.2 _ _ (fun z => by rw [z, hP] at ob; cases ob) nop (fun z => by rw [z, g4] at ob; cases ob) ob⟩, f.2 _ _ (fun z => by have := x.ql; rw [z, hP] at this; cases this) (fun z => by have := x.ql; rw [z, g1] at this; cases this) nql x.ql, ?_, x.n1, x.n2, x.n3, x.n4⟩
  have others : Paired (fun (pl : Addr × Addr) (st : PS) => pl ≠ (p, l) → PtA CP pl.1 pl.2 st.1 st.2.1 st.2.2 0 H') ps sts := by
    refine paired_of x.len fun i pl s1 h1 h2 np => ?_
    obtain ⟨p2, l2, e2, y2⟩ := x.get h2
    rw [h1] at e2
    cases e2
    have ij : i ≠ j := fun z => np (by rw [z, hj] at h1; exact (Option.some.inj h1).symm)
    exact y2.other t ⟨_, _, _, g1⟩ ⟨_, g4⟩ f (nodup_ne x.n1 h1 hj ij) (nodup_ne x.n2 h1 hj ij)
  refine paired_of (by rw [List.length_set]; exact x.len) fun i pl s1 h1 h2 => ?_
  by_cases ij : i = j
  · subst ij
    rw [List.getElem?_set_self hlt] at h2
    cases h2
    rw [hj] at h1
    cases h1
    exact n
  · rw [List.getElem?_set_ne (fun z => ij z.symm)] at h2
    obtain ⟨y, hy, q⟩ := paired_get others h1
    rw [h2] at hy
    cases hy
    exact q fun z => nodup_ne x.n1 h1 hj ij (by rw [z])
theorem LogA.ex {CL CP o q : Addr} {ps : List (Addr × Addr)} {sts : List PS} {H H' : Hp} (x : LogA CL CP o q ps sts H) (e : KS.Ex H H') : LogA CL CP o q ps sts H' := by
  obtain ⟨dx, ob⟩ := x.ob
  exact ⟨⟨dx, e _ _ ob⟩, e _ _ x.ql, Parts.ex x.pt e, x.n1, x.n2, x.n3, x.n4⟩
theorem LogA.tb {CL CP Ps o q : Addr} {ps : List (Addr × Addr)} {sts : List PS} {H H' : Hp} (x : LogA CL CP o q ps sts H) (t : TabS H Ps qK) (e : Tb Ps H H') : LogA CL CP o q ps sts H' := by
  obtain ⟨dx, ob⟩ := x.ob
  obtain ⟨tb, hP, _⟩ := id t
  have ql := x.ql
  exact ⟨⟨dx, e.2 _ _ (fun z => by rw [z, hP] at ob; cases ob) ob⟩, e.2 _ _ (fun z => by rw [z, hP] at ql; cases ql) ql, Parts.of x.pt fun _ _ _ y => y.tb t e, x.n1, x.n2, x.n3, x.n4⟩
def sync1 (st : PS) : PS := (st.1 ++ st.2.1, [], st.2.2)
def app1 (st : PS) (x : Rc) : PS := (st.1, st.2.1 ++ recL x, st.2.2 ++ [x])
def numK (k : List Key) (n : Nat) : Nat := (hashL (rowL tabL k) % (n : Int)).toNat
theorem numK_eq {k : List Key} {n : Nat} (h : 0 < n) : hashL (rowL tabL k) % (n : Int) = ((numK k n : Nat) : Int) ∧ numK k n < n := by
  have h1 := Int.emod_nonneg (hashL (rowL tabL k)) (b := (n : Int)) (by omega)
  have h2 := Int.emod_lt_of_pos (hashL (rowL tabL k)) (b := (n : Int)) (by omega)
  unfold numK
  omega
@[irreducible] def spPO (CL CP Ps : Addr) : Sp := fun vs H Q _ => ∃ (o q a : Addr) (ps : List (Addr × Addr)) (sts : List PS) (k : List Key), vs = [.ref o, .ref a] ∧ LogA CL CP o q ps sts H ∧ 0 < ps.length ∧ H a = some (.tup (k.map kV)) ∧ (∀ x ∈ k, OkV x) ∧ k.length ≤ 25 ∧ TabS H Ps qK ∧ ∀ H', Tb Ps H H' → Q (.int ((numK k ps.length : Nat) : Int)) H'
theorem po_step {CL CP Ps o q a : Addr} {ps : List (Addr × Addr)} {sts : List PS} {k : List Key} {H : Hp} {Q : VK} {E : XK} (x : LogA CL CP o q ps sts H) (hn : 0 < ps.length) (ha : H a = some (.tup (k.map kV))) (ok : ∀ x ∈ k, OkV x) (hk : k.length ≤ 25) (t : TabS H Ps qK) (fin : ∀ H', Tb Ps H H' → Q (.int ((numK k ps.length : Nat) : Int)) H') : spPO CL CP Ps [.ref o, .ref a] H Q E := by
  unfold spPO
  exact ⟨o, q, a, ps, sts, k, rfl, x, hn, ha, ok, hk, t, fin⟩
theorem hash_step {Ps r : Addr} {k : List Key} {H : Hp} {Q : VK} {E : XK} (h : H r = some (.tup (k.map kV))) (ok : ∀ x ∈ k, OkV x) (hk : k.length ≤ 25) (t : TabS H Ps qK) (fin : ∀ H', Tb Ps H H' → Q (.int (hashL (rowL tabL k))) H') : spHash Ps [.ref r] H Q E := by
  unfold spHash
  exact ⟨r, k, rfl, h, ok, hk, t, fin⟩
@[irreducible] def spLS (CL CP Ps : Addr) : Sp := fun vs H Q _ => ∃ (o q : Addr) (ps : List (Addr × Addr)) (sts : List PS), vs = [.ref o] ∧ LogA CL CP o q ps sts H ∧ (∀ st ∈ sts, st.1.length + st.2.1.length ≤ 100000) ∧ TabS H Ps qK ∧ ∀ H', FrL Ps ps H H' → LogA CL CP o q ps (sts.map sync1) H' → Q .non H'
theorem ls_step {CL CP Ps o q : Addr} {ps : List (Addr × Addr)} {sts : List PS} {H : Hp} {Q : VK} {E : XK} (x : LogA CL CP o q ps sts H) (hl : ∀ st ∈ sts, st.1.length + st.2.1.length ≤ 100000) (t : TabS H Ps qK) (fin : ∀ H', FrL Ps ps H H' → LogA CL CP o q ps (sts.map sync1) H' → Q .non H') : spLS CL CP Ps [.ref o] H Q E := by
  unfold spLS
  exact ⟨o, q, ps, sts, rfl, x, hl, t, fin⟩
@[irreducible] def spLA (CL CP Ps : Addr) : Sp := fun vs H Q _ => ∃ (o q a b : Addr) (ps : List (Addr × Addr)) (sts : List PS) (st : PS) (x : Rc), vs = [.ref o, .ref a, .ref b, .int (x.2.2 : Nat)] ∧ LogA CL CP o q ps sts H ∧ 0 < ps.length ∧ sts[numK x.1 ps.length]? = some st ∧ st.2.1.length ≤ 10000 ∧ st.2.2.length ≤ 10000 ∧
  H a = some (.tup (x.1.map kV)) ∧ H b = some (.tup (x.2.1.map kV)) ∧ OkB x ∧ TabS H Ps qK ∧ ∀ H' z, FrL Ps ps H H' → LogA CL CP o q ps (sts.set (numK x.1 ps.length) (app1 st x)) H' → H' z = some (.tup [.int ((numK x.1 ps.length : Nat) : Int), .int ((st.2.2.length : Nat) : Int)]) → Q (.ref z) H'
theorem la_step {CL CP Ps o q a b : Addr} {ps : List (Addr × Addr)} {sts : List PS} {st : PS} {x : Rc} {H : Hp} {Q : VK} {E : XK} (y : LogA CL CP o q ps sts H) (hn : 0 < ps.length) (hs : sts[numK x.1 ps.length]? = some st) (b1 : st.2.1.length ≤ 10000) (b2 : st.2.2.length ≤ 10000)
    (ha : H a = some (.tup (x.1.map kV))) (hb : H b = some (.tup (x.2.1.map kV))) (ok : OkB x) (t : TabS H Ps qK) (fin : ∀ H' z, FrL Ps ps H H' → LogA CL CP o q ps (sts.set (numK x.1 ps.length) (app1 st x)) H' → H' z = some (.tup [.int ((numK x.1 ps.length : Nat) : Int), .int ((st.2.2.length : Nat) : Int)]) → Q (.ref z) H') : spLA CL CP Ps [.ref o, .ref a, .ref b, .int (x.2.2 : Nat)] H Q E := by
  unfold spLA
  exact ⟨o, q, a, b, ps, sts, st, x, rfl, y, hn, hs, b1, b2, ha, hb, ok, t, fin⟩
section
variable {P : Program} {w : World} {K : PySem.W.Frag} {mg : Str → Option Value} {base : Heap} {f fH fO fA fS CL CP CG CR Ps : Addr} {fd fdH fdO fdA fdS : FuncData}
theorem scPO : FnScope ["self", "key"] ["self", "key"] (defScope (sOM 1)) := ⟨rfl, rfl, rfl, by decide +kernel, rfl, by decide +kernel, by decide +kernel⟩
theorem ok_partof (F : FnP K "part_of" "Log.part_of" (sOM 1) [] f fd) (O : TxtO K mg CL) (TL : TxtL mg) (GH : FnOk P w K mg base (L2.CX P w) 4 fH fdH ["row"] (spHash Ps)) (gH : mg "hash_of" = some (.ref fH)) (kH : PySem.W.keepIn K (.ref fH) = true) (bH : Binds K fdH ["row"] []) : FnOk P w K mg base CX0 5 f fd ["self", "key"] (spPO CL CP Ps) := by
  refine F.ok scPO (fun vs H Q E h => ?_) (fun cdv A outer s H vs Q E hr h => ?_)
  · unfold spPO at h
    obtain ⟨_, _, _, _, _, _, rfl, _⟩ := h; rfl
  · unfold spPO at h
    obtain ⟨o, q, a, ps, sts, k, rfl, x, hn, ha, ok, hk, t, fin⟩ := h
    refine ⟨_, PSs.nox <| pss_one (ps_ret (pe_op op_mod (pe_call GH hr (by rfl) gH kH bH (E := fun _ _ _ => False) .nil (passes_call L2.takes0 (fun _ _ _ _ h => h)) (pa_cons (pv 1) pa_nil)) (pe_callB call_len_seq (by rfl) TL.len (by decide +kernel) (pa_cons (pf 0) pa_nil)))), ?_⟩
    refine ⟨_, rfl, hash_step ha ok hk t fun H1 t1 => ?_⟩
    have x1 := x.tb t t1
    obtain ⟨dx, ob⟩ := x1.ob
    refine ⟨_, rfl, o, CL, dx, _, _, rfl, ob, O.cl, O.p, rfl, q, _, rfl, .inl (SqL.of x1.ql), _, _, rfl, rfl, ?_, ?_⟩
    · show (0 : Int) < _
      rw [List.length_map]
      omega
    · have e := (numK_eq (k := k) hn).1
      rw [List.length_map]
      show Q (V.int (hashL (rowL tabL k) % (ps.length : Int))) H1
      rw [e]
      exact fin H1 t1
theorem scLSy : FnScope ["self", "part"] ["self"] (defScope (sOM 3)) := ⟨rfl, rfl, rfl, by decide +kernel, rfl, by decide +kernel, by decide +kernel⟩
def syncN (i : Nat) (sts : List PS) : List PS := (sts.take i).map sync1 ++ sts.drop i
theorem syncN_get {i : Nat} {sts : List PS} {st : PS} (h : sts[i]? = some st) : (syncN i sts)[i]? = some st ∧ (syncN i sts).set i (sync1 st) = syncN (i + 1) sts := by
  obtain ⟨hi, e⟩ := List.getElem?_eq_some_iff.mp h
  have hl : ((sts.take i).map sync1).length = i := by rw [List.length_map, List.length_take]; omega
  have hd : sts.drop i = st :: sts.drop (i + 1) := by rw [List.drop_eq_getElem_cons hi, e]
  unfold syncN
  constructor
  · rw [List.getElem?_append_right (by omega), hl, Nat.sub_self, hd]; rfl
  · rw [List.set_append_right _ _ (by omega), hl, Nat.sub_self, hd, List.take_add_one, h]
    show _ ++ sync1 st :: sts.drop (i + 1) = _
    rw [List.map_append, List.append_assoc]
    rfl
theorem ok_lsync (F : FnP K "sync" "Log.sync" (sOM 3) [] f fd) (O : TxtO K mg CL) (T : TxtP K mg CP) (mS : Meth K CP "sync" fS) (GS : FnOk P w K mg base CX0 1 fS fdS ["self"] (spPS CP Ps)) (bS : Binds K fdS ["self"] []) : FnOk P w K mg base CX0 2 f fd ["self"] (spLS CL CP Ps) := by
  refine F.ok scLSy (fun vs H Q E h => ?_) (fun cdv A outer s H vs Q E hr h => ?_)
  · unfold spLS at h
    obtain ⟨_, _, _, _, rfl, _⟩ := h; rfl
  · unfold spLS at h
    obtain ⟨o, q, ps, sts, rfl, x, hl, t, fin⟩ := h
    refine ⟨_, PSs.nox <| pss_one (ps_for PassesOwn.never rfl (pi_list (pf 0)) (pg_name (i := 1) scLSy.nd rfl (Or.inl rfl)) (pss_one (ps_expr (pe_meth0 (pv 1) T.cl mS GS hr bS .nil pass0)))), ?_⟩
    obtain ⟨dx, ob⟩ := x.ob
    refine ⟨_, rfl, o, CL, dx, _, _, rfl, ob, O.cl, O.p, rfl, q, rfl, ⟨_, SqL.of x.ql⟩, for_list (xs := ps.map fun pl => V.ref pl.1) (fun i σ H' => (∃ u, σ = [some (.ref o), u]) ∧ FrL Ps ps H H' ∧ LogA CL CP o q ps (syncN i sts) H') ⟨⟨_, rfl⟩, FrL.ex t (KS.Ex.refl H), x⟩ ?_ ?_ ?_⟩
    · rintro i σ H' _ ⟨_, _, x'⟩
      exact SqL.of x'.ql
    · rintro i v σ H' hv ⟨⟨u, rfl⟩, f', x'⟩
      rw [List.getElem?_map] at hv
      obtain ⟨⟨p, l⟩, hj, rfl⟩ := Option.map_eq_some_iff.mp hv
      have hi : i < sts.length := by
        have := (List.getElem?_eq_some_iff.mp hj).1
        rw [x.len] at this; exact this
      obtain ⟨g1, g2⟩ := syncN_get (List.getElem?_eq_getElem hi)
      obtain ⟨p1, l1, e1, pt⟩ := x'.get g1
      rw [hj] at e1
      cases e1
      obtain ⟨dp, k, v', ts, h1, _⟩ := id pt
      refine ⟨_, rfl, p, dp, _, rfl, h1, rfl, ps_step pt (hl _ (List.getElem_mem hi)) f'.1 fun H2 f2 pt2 => ?_⟩
      refine ⟨⟨_, rfl⟩, f'.trans (FrL.fp f2 (List.mem_of_getElem? hj)), ?_⟩
      rw [← g2]
      exact x'.set f'.1 hj f2 pt2
    · rintro σ H' ⟨⟨u, rfl⟩, f', x'⟩
      have e : syncN (ps.map fun pl => V.ref pl.1).length sts = sts.map sync1 := by
        unfold syncN
        rw [List.length_map, x.len, List.take_length, List.drop_length, List.append_nil]
      rw [e] at x'
      exact fin H' f' x'
theorem scLA : FnScope ["self", "key", "row", "time", "number"] ["self", "key", "row", "time"] (defScope (sOM 2)) := ⟨rfl, rfl, rfl, by decide +kernel, rfl, by decide +kernel, by decide +kernel⟩
theorem ok_lapp (F : FnP K "append" "Log.append" (sOM 2) [] f fd) (O : TxtO K mg CL) (T : TxtP K mg CP) (mO : Meth K CL "part_of" fO) (GO : FnOk P w K mg base CX0 5 fO fdO ["self", "key"] (spPO CL CP Ps)) (bO : Binds K fdO ["self", "key"] [])
    (mA : Meth K CP "append" fA) (GA : FnOk P w K mg base (L2.CX P w) 5 fA fdA ["self", "key", "row", "time"] (spPA CP CG CR Ps)) (bA : Binds K fdA ["self", "key", "row", "time"] []) : FnOk P w K mg base CX0 6 f fd ["self", "key", "row", "time"] (spLA CL CP Ps) := by
  refine F.ok scLA (fun vs H Q E h => ?_) (fun cdv A outer s H vs Q E hr h => ?_)
  · unfold spLA at h
    obtain ⟨_, _, _, _, _, _, _, _, rfl, _⟩ := h; rfl
  · unfold spLA at h
    obtain ⟨o, q, a, b, ps, sts, st, x, rfl, y, hn, hs, b1, b2, ha, hb, ok, t, fin⟩ := h
    refine ⟨_, PSs.nox <| pss_cons (ps_set (i := 4) scLA.nd rfl (Or.inl rfl) (pe_meth (pv 0) O.cl mO GO hr bO .nil pass0 (pa_cons (pv 1) pa_nil)))
      (pss_one (ps_ret (pe_tup (pa_cons (pv 4) (pa_cons (pe_meth (pe_ix ix_listD (pf 0) (pv 4) (fun _ _ => rfl)) T.cl mA GA hr bA (E := fun _ _ _ => False) .nil (passes_call L2.takes0 (fun _ _ _ _ h => h)) (pa_cons (pv 1) (pa_cons (pv 2) (pa_cons (pv 3) pa_nil)))) pa_nil))))), ?_⟩
    obtain ⟨dx, ob⟩ := y.ob
    have hk := ok.kl
    refine ⟨_, rfl, o, dx, _, rfl, ob, rfl, _, rfl, po_step y hn ha ok.kv (by omega) t fun H1 t1 => ?_⟩
    have y1 := y.tb t t1
    obtain ⟨dx1, ob1⟩ := y1.ob
    have k1 := kt_tb t t1
    obtain ⟨p, l, hj, pt⟩ := y1.get hs
    obtain ⟨dp, k, v', ts, h1, _⟩ := id pt
    refine ⟨_, rfl, _, rfl, o, CL, dx1, _, _, rfl, ob1, O.cl, O.p, rfl, _, rfl, q, _, _, _, rfl, rfl, y1.ql, atI_nat (v := V.ref p) (by rw [List.getElem?_map, hj]; rfl), p, dp, _, rfl, h1, rfl, _, rfl, _, rfl, _, rfl, ?_⟩
    refine app_step pt b1 b2 (k1 _ _ ha) (k1 _ _ hb) ok t1.1 fun H2 f2 pt2 => ?_
    refine ⟨(by show 2 ≤ sizeLine; decide), fun z hz => ?_⟩
    have f3 : FrL Ps ps H H2 := (FrL.tb t1).trans (FrL.fp f2 (List.mem_of_getElem? hj))
    have y2 : LogA CL CP o q ps (sts.set (numK x.1 ps.length) (app1 st x)) H2 := y1.set t1.1 hj f2 pt2
    have e4 : KS.Ex H2 (upd H2 z (.tup [.int ((numK x.1 ps.length : Nat) : Int), .int ((0 + st.2.2.length : Nat) : Int)])) := Ex.upd hz
    have hz4 : (upd H2 z (.tup [.int ((numK x.1 ps.length : Nat) : Int), .int ((0 + st.2.2.length : Nat) : Int)])) z = some (.tup [.int ((numK x.1 ps.length : Nat) : Int), .int ((st.2.2.length : Nat) : Int)]) := by rw [upd_same, Nat.zero_add]
    exact fin _ z (f3.trans (FrL.ex f3.1 e4)) (y2.ex e4) hz4
end
end KL6
set_option Elab.async false
set_option linter.all false
set_option maxRecDepth 100000
set_option maxHeartbeats 4000000
namespace KL6
open PySem PySem.Spec PyProof.Rows L2 KB KC KS KN1 LamX K7
def SameT (K : PySem.W.Frag) (H : Hp) (ks ls : List (List Key × V)) : Prop := ks.length = ls.length ∧ ∀ p ∈ ks, ∃ u d, valV ls p.1 = some u ∧ Dp K H p.2 d ∧ Dp K H u d ∧ SeqAt.shaped d = true ∧ PyData.eqv d d = true
def rNeT (K : PySem.W.Frag) : R2 := fun x y H Q => ∃ a b ks ls, x = .ref a ∧ y = .ref b ∧ H a = some (.dT ks) ∧ H b = some (.dT ls) ∧ SameT K H ks ls ∧ Q (.bl false) H
theorem op_neT {X : Cx} (hu : X.A.units + 66 < cLine) : OpR X (compareOp .NotEq) (rNeT X.K) := by
  intro pins s σ H x y v u Q I rx ry h
  obtain ⟨a, b, ks, ls, rfl, rfl, ea, eb, ⟨hlen, hp⟩, q⟩ := h
  obtain rfl : v = Value.ref a := rx
  obtain rfl : u = Value.ref b := ry
  obtain ⟨_, ya, xs, ra, da⟩ := dt_of I.hok ea
  obtain ⟨_, yb, ys, rb, db⟩ := dt_of I.hok eb
  have key : ∀ z ∈ xs, ∃ q, atKey ys z.1 = some q ∧ ∀ (R : Bool → Shared → Prop) (F : Value → Shared → Prop), R true s → wpAny (model X.prog X.w) X.A.in1 (eqBool z.2.2 q.2) R F s := by
    intro z hz
    obtain ⟨p, hpm, e1, _, rv⟩ := mem_r ra z hz
    obtain ⟨u, d, f0, f1, f2, f3, f4⟩ := hp p hpm
    have rr := rb.val p.1
    rw [f0] at rr
    obtain ⟨w', hw, ry⟩ := RelO.some_of rr
    obtain ⟨q, hq, hq2⟩ := Option.map_eq_some_iff.mp hw
    rw [e1] at hq
    refine ⟨q, hq, fun R F hR => ?_⟩
    obtain ⟨as, r1⟩ := Dp.reads I d p.2 z.2.2 f1 rv
    obtain ⟨bs, r2⟩ := Dp.reads I d u q.2 f2 (by rw [hq2]; exact ry)
    have sd := f3
    unfold SeqAt.shaped at sd
    rw [Bool.and_eq_true, decide_eq_true_eq] at sd
    have := SeqAt.eqAt_reads d d X.A.in1 s z.2.2 q.2 as bs r1 r2 sd.1 sd.1 (by show X.A.units + 1 + _ < _; omega)
    rw [f4] at this
    exact this _ _ _ _ hR
  refine neH (eqb := fun _ _ => true) ya yb da db (by omega) (tupleKind_room_in1 (by omega)) (fun z hz q hq R F hR => ?_) (fin_bl I q ?_)
  · obtain ⟨q', hq', k⟩ := key z hz
    rw [hq] at hq'
    cases hq'
    exact k R F hR
  · have e1 : xs.length = ys.length := by rw [← Paired.length ra, ← Paired.length rb]; exact hlen
    have e2 : xs.all (hitH ys fun _ _ => true) = true := by
      rw [List.all_eq_true]
      intro z hz
      obtain ⟨q', hq', _⟩ := key z hz
      unfold hitH
      rw [hq']
    rw [e2, e1]
    simp
def IsTab (H : Hp) (kvs : List (List Key × V)) (f : List Key → Option (List Key)) : Prop := (kvs.map (·.1)).Nodup ∧ ∀ k, match f k with
  | none => valV kvs k = none
  | some r => ∃ b, valV kvs k = some (.ref b) ∧ H b = some (.tup (r.map kV))
theorem IsTab.kt {H H' : Hp} {kvs : List (List Key × V)} {f : List Key → Option (List Key)} (t : IsTab H kvs f) (e : KT' H H') : IsTab H' kvs f := by
  refine ⟨t.1, fun k => ?_⟩
  have := t.2 k
  cases h : f k with
  | none => rw [h] at this; exact this
  | some r =>
    rw [h] at this
    obtain ⟨b, h1, h2⟩ := this
    exact ⟨b, h1, e _ _ h2⟩
theorem nd_put {kvs : List (List Key × V)} {k : List Key} {v : V} (h : (kvs.map (·.1)).Nodup) : ((putK kvs k v).map (·.1)).Nodup := by
  unfold putK
  split
  · rw [List.map_map]
    have e : (Prod.fst ∘ fun (kv : List Key × V) => if kv.1 = k then (kv.1, v) else kv) = Prod.fst := by
      funext kv
      show (if kv.1 = k then (kv.1, v) else kv).1 = kv.1
      split <;> rfl
    rw [e]
    exact h
  · rename_i c
    rw [List.map_append]
    refine L2.nd_snoc h fun hm => c ?_
    obtain ⟨p, hp, e⟩ := List.mem_map.mp hm
    exact List.any_eq_true.mpr ⟨p, hp, decide_eq_true e⟩
theorem IsTab.put {H H' : Hp} {kvs : List (List Key × V)} {f g : List Key → Option (List Key)} {k r : List Key} {b : Addr} (t : IsTab H kvs f) (e : KT' H H') (hb : H' b = some (.tup (r.map kV))) (hg : ∀ j, g j = if j = k then some r else f j) : IsTab H' (putK kvs k (.ref b)) g := by
  have t' := t.kt e
  refine ⟨nd_put t.1, fun j => ?_⟩
  rw [hg j, valV_put]
  by_cases c : j = k
  · rw [if_pos c, if_pos c]
    exact ⟨b, rfl, hb⟩
  · rw [if_neg c, if_neg c]
    exact t'.2 j
theorem valV_in : ∀ {kvs : List (List Key × V)} {k : List Key} {v : V}, (kvs.map (·.1)).Nodup → (k, v) ∈ kvs → valV kvs k = some v
  | [], _, _, _, h => nomatch h
  | p :: r, k, v, hn, h => by
    obtain ⟨h1, h2⟩ := List.nodup_cons.mp hn
    rcases List.mem_cons.mp h with e | h
    · rw [← e]; exact valV_pos rfl
    · have : p.1 ≠ k := fun z => h1 (List.mem_map.mpr ⟨(k, v), h, z.symm⟩)
      unfold valV
      rw [List.find?_cons_of_neg (by simpa using this)]
      exact valV_in h2 h
theorem IsTab.mem {H : Hp} {kvs : List (List Key × V)} {f : List Key → Option (List Key)} (t : IsTab H kvs f) (k : List Key) : k ∈ kvs.map (·.1) ↔ (f k).isSome = true := by
  have := t.2 k
  constructor
  · intro hm
    cases h : f k with
    | none => rw [h] at this; exact absurd hm (L2.valV_not this)
    | some r => rfl
  · intro hs
    cases h : f k with
    | none => rw [h] at hs; cases hs
    | some r =>
      rw [h] at this
      obtain ⟨b, h1, _⟩ := this
      unfold valV at h1
      obtain ⟨p, p1, p2⟩ := Option.map_eq_some_iff.mp h1
      exact List.mem_map.mpr ⟨p, List.mem_of_find?_eq_some p1, by simpa using List.find?_some p1⟩
theorem IsTab.same {K : PySem.W.Frag} {H : Hp} {ks ls : List (List Key × V)} {f : List Key → Option (List Key)} (D : List Key → PyData) (dp : ∀ {q : Addr} {k : List Key}, H q = some (.tup (k.map kV)) → Dp K H (.ref q) (D k)) (sh : ∀ k r, f k = some r → SeqAt.shaped (D r) = true ∧ PyData.eqv (D r) (D r) = true)
    (a : IsTab H ks f) (b : IsTab H ls f) : SameT K H ks ls := by
  refine ⟨?_, fun p hp => ?_⟩
  · have e : (ks.map (·.1)).Perm (ls.map (·.1)) := (List.perm_ext_iff_of_nodup a.1 b.1).mpr fun k => by rw [a.mem, b.mem]
    have := e.length_eq
    rw [List.length_map, List.length_map] at this
    exact this
  · obtain ⟨k, v⟩ := p
    have hv := valV_in a.1 hp
    have ha := a.2 k
    have hb := b.2 k
    cases h : f k with
    | none => rw [h] at ha; rw [ha] at hv; cases hv
    | some r =>
      rw [h] at ha hb
      obtain ⟨x, x1, x2⟩ := ha
      obtain ⟨y, y1, y2⟩ := hb
      rw [x1] at hv
      cases hv
      exact ⟨_, D r, y1, dp x2, dp y2, (sh k r h).1, (sh k r h).2⟩
def lastO (xs : List Rc) (k : List Key) : Option (List Key) := (xs.reverse.find? fun x => decide (x.1 = k)).map (·.2.1)
theorem lastO_snoc (xs : List Rc) (x : Rc) (j : List Key) : lastO (xs ++ [x]) j = if j = x.1 then some x.2.1 else lastO xs j := by
  unfold lastO
  rw [List.reverse_append]
  show Option.map _ (List.find? _ (x :: xs.reverse)) = _
  by_cases c : j = x.1
  · rw [if_pos c, List.find?_cons_of_pos (by simpa using c.symm)]; rfl
  · rw [if_neg c, List.find?_cons_of_neg (by simpa using fun z => c z.symm)]
@[irreducible] def spLL (CL CP : Addr) : Sp := fun vs H Q _ => ∃ (o q : Addr) (ps : List (Addr × Addr)) (sts : List PS), vs = [.ref o] ∧ LogA CL CP o q ps sts H ∧ (sts.flatMap (·.2.2)).length ≤ 10000 ∧ ∀ H' d kvs, KS.Ex H H' → H' d = some (.dT kvs) → IsTab H' kvs (lastO (sts.flatMap (·.2.2))) → Q (.ref d) H'
theorem ll_step {CL CP o q : Addr} {ps : List (Addr × Addr)} {sts : List PS} {H : Hp} {Q : VK} {E : XK} (x : LogA CL CP o q ps sts H) (hl : (sts.flatMap (·.2.2)).length ≤ 10000) (fin : ∀ H' d kvs, KS.Ex H H' → H' d = some (.dT kvs) → IsTab H' kvs (lastO (sts.flatMap (·.2.2))) → Q (.ref d) H') : spLL CL CP [.ref o] H Q E := by
  unfold spLL
  exact ⟨o, q, ps, sts, rfl, x, hl, fin⟩
section
variable {P : Program} {w : World} {K : PySem.W.Frag} {mg : Str → Option Value} {base : Heap} {f CL CP : Addr} {fd : FuncData}
theorem scLL : FnScope ["self", "found", "part", "key", "row", "_"] ["self"] (defScope (sOM 4)) := ⟨rfl, rfl, rfl, by decide +kernel, rfl, by decide +kernel, by decide +kernel⟩
theorem ok_latest (F : FnP K "latest" "Log.latest" (sOM 4) [] f fd) (O : TxtO K mg CL) (T : TxtP K mg CP) : FnOk P w K mg base CX0 2 f fd ["self"] (spLL CL CP) := by
  refine F.ok scLL (fun vs H Q E h => ?_) (fun cdv A outer s H vs Q E hr h => ?_)
  · unfold spLL at h
    obtain ⟨_, _, _, _, rfl, _⟩ := h; rfl
  · unfold spLL at h
    obtain ⟨o, q, ps, sts, rfl, x, hl, fin⟩ := h
    have hu := hr.units
    have hu1 := Nat.lt_trans (Nat.add_lt_add_left (by decide : 1 < 64) _) hu
    have hz0 : sizeLine = 16777216 := rfl
    refine ⟨_, PSs.nox <| pss_cons (ps_set (i := 1) scLL.nd rfl (Or.inl rfl) pe_dnewT)
      (pss_cons (ps_for PassesOwn.never rfl (pi_list (pf 0)) (pg_name (i := 2) scLL.nd rfl (Or.inl rfl))
        (pss_one (ps_for PassesOwn.never rfl (pi_list (pf 2)) (pg_tup rfl (pgs_cons (pg_name (i := 3) scLL.nd rfl (Or.inl rfl)) (pgs_cons (pg_name (i := 4) scLL.nd rfl (Or.inl rfl)) (pgs_cons (pg_name (i := 5) scLL.nd rfl (Or.inl rfl)) pgs_nil))))
          (pss_one (ps_dput hu1 (pv 1) (pv 3) (pv 4) rfl)))))
      (pss_one (ps_ret (pv 1)))), ?_⟩
    refine fun d hd => ?_
    have e1 : KS.Ex H (upd H d (.dT [])) := Ex.upd hd
    have hd1 : (upd H d (.dT [])) d = some (.dT []) := upd_same
    have x1 := x.ex e1
    show tSeq _ _ _ [some (.ref o), some (.ref d), none, none, none, none] (upd H d (.dT []))
    generalize upd H d (.dT []) = H1 at e1 hd1 x1
    obtain ⟨dx, ob⟩ := x1.ob
    have inv0 : ∀ {H' : Hp}, (∀ b u, b ≠ d → H1 b = some u → H' b = some u) → KS.Ex H H' := fun fr b u h => fr b u (ne_of_none h hd) (e1 b u h)
    refine ⟨_, rfl, o, CL, dx, _, _, rfl, ob, O.cl, O.p, rfl, q, rfl, ⟨_, SqL.of x1.ql⟩, for_list (xs := ps.map fun pl => V.ref pl.1) (fun i σ H' => (∃ u1 u2 u3 u4, σ = [some (.ref o), some (.ref d), u1, u2, u3, u4]) ∧ (∀ b u, b ≠ d → H1 b = some u → H' b = some u) ∧ ∃ kvs, H' d = some (.dT kvs) ∧ kvs.length ≤ ((sts.take i).flatMap (·.2.2)).length ∧ IsTab H' kvs (lastO ((sts.take i).flatMap (·.2.2)))) ⟨⟨_, _, _, _, rfl⟩, fun _ _ _ h => h, [], hd1, Nat.zero_le _, .nil, fun k => rfl⟩ ?_ ?_ ?_⟩
    · rintro i σ H' _ ⟨_, fr, _⟩
      exact SqL.of (x.ex (inv0 fr)).ql
    · rintro i v σ H' hv ⟨⟨u1, u2, u3, u4, rfl⟩, fr, kvs, hk, hkl, tb⟩
      rw [List.getElem?_map] at hv
      obtain ⟨⟨p, l⟩, hj, rfl⟩ := Option.map_eq_some_iff.mp hv
      have hi : i < sts.length := by
        have := (List.getElem?_eq_some_iff.mp hj).1
        rw [x.len] at this; exact this
      have hs := List.getElem?_eq_getElem hi
      obtain ⟨p1, l1, ee, pt⟩ := x.get hs
      rw [hj] at ee
      cases ee
      obtain ⟨dp, k, v', ts, h1, h2, h3, h4, h5⟩ := id pt
      have tke : (sts.take (i + 1)).flatMap (·.2.2) = (sts.take i).flatMap (·.2.2) ++ sts[i].2.2 := by
        rw [List.take_add_one, hs, List.flatMap_append]
        show _ ++ (sts[i].2.2 ++ []) = _
        rw [List.append_nil]
      have tot : ((sts.take i).flatMap (·.2.2)).length + sts[i].2.2.length ≤ 10000 := by
        have e := congrArg (fun z : List PS => (z.flatMap (·.2.2)).length) (List.take_append_drop (i + 1) sts)
        rw [List.flatMap_append, List.length_append, tke, List.length_append] at e
        omega
      have lts := paired_len h5
      refine ⟨_, rfl, p, CP, dp, _, _, rfl, inv0 fr _ _ h1, T.cl, T.r, rfl, l, rfl, ⟨_, SqL.of (inv0 fr _ _ h4)⟩, for_list (xs := ts.map V.ref) (fun j σ H2 => (∃ u2 u3 u4, σ = [some (.ref o), some (.ref d), some (.ref p), u2, u3, u4]) ∧ (∀ b u, b ≠ d → H1 b = some u → H2 b = some u) ∧ ∃ kvs, H2 d = some (.dT kvs) ∧ kvs.length ≤ ((sts.take i).flatMap (·.2.2) ++ sts[i].2.2.take j).length ∧ IsTab H2 kvs (lastO ((sts.take i).flatMap (·.2.2) ++ sts[i].2.2.take j))) ⟨⟨_, _, _, rfl⟩, fr, kvs, hk, by rw [List.take_zero, List.append_nil]; exact hkl, by rw [List.take_zero, List.append_nil]; exact tb⟩ ?_ ?_ ?_⟩
      · rintro j σ H2 _ ⟨_, fr2, _⟩
        exact SqL.of (inv0 fr2 _ _ h4)
      · rintro j v σ H2 hv2 ⟨⟨u2, u3, u4, rfl⟩, fr2, kvs2, hk2, hkl2, tb2⟩
        rw [List.getElem?_map] at hv2
        obtain ⟨t, ht, rfl⟩ := Option.map_eq_some_iff.mp hv2
        obtain ⟨y, hy, ra⟩ := paired_get h5 ht
        obtain ⟨a, b, r1, r2, r3⟩ := ra.kt (kt_of (inv0 fr2))
        have etk : sts[i].2.2.take (j + 1) = sts[i].2.2.take j ++ [y] := by rw [List.take_add_one, hy]; rfl
        refine ⟨t, _, rfl, SqT.of r1, rfl, _, _, rfl, _, _, rfl, _, _, rfl, rfl, ?_⟩
        have hb2 : kvs2.length < sizeLine := by
          rw [List.length_append, List.length_take] at hkl2
          omega
        refine ⟨_, rfl, _, rfl, _, rfl, d, _, rfl, DPut.t hk2 r2 hb2, ⟨_, _, _, rfl⟩, fun b' u nb hb' => by rw [L2.upd_ne nb]; exact fr2 b' u nb hb', _, upd_same, ?_, ?_⟩
        · have := length_putK kvs2 y.1 (.ref b)
          rw [etk, ← List.append_assoc, List.length_append (bs := [y])]
          show _ ≤ _ + 1
          omega
        · rw [etk, ← List.append_assoc]
          have nbd : b ≠ d := fun z => by rw [z, hk2] at r3; cases r3
          exact tb2.put (fun b' zs h => by rw [L2.upd_ne (fun z => by rw [z, hk2] at h; cases h)]; exact h) (by rw [L2.upd_ne nbd]; exact r3) fun j' => lastO_snoc _ _ _
      · rintro σ H2 ⟨⟨u2, u3, u4, rfl⟩, fr2, kvs2, hk2, hkl2, tb2⟩
        rw [List.length_map, lts, List.take_length, ← tke] at hkl2 tb2
        exact ⟨⟨_, _, _, _, rfl⟩, fr2, kvs2, hk2, hkl2, tb2⟩
    · rintro σ H' ⟨⟨u1, u2, u3, u4, rfl⟩, fr, kvs, hk, hkl, tb⟩
      rw [List.length_map, x.len, List.take_length] at tb
      exact ⟨_, rfl, fin H' d kvs (inv0 fr) hk tb⟩
end
end KL6
set_option Elab.async false
set_option linter.all false
set_option maxRecDepth 100000
set_option maxHeartbeats 4000000
namespace KL6
open PySem PySem.Spec PyProof.Rows L2 KB KC KS KN1 LamX K7
structure TxtD (K : PySem.W.Frag) (mg : Str → Option Value) (CD : Addr) : Prop where
  cl : Cls K CD
  l : NoAttr K CD "log"
  p : NoAttr K CD "places"
  g : mg "Door" = some (.ref CD)
abbrev Spot := Nat × Nat
def SpotAt (H : Hp) (t : Addr) (s : Spot) : Prop := H t = some (.tup [.int ((s.1 : Nat) : Int), .int ((s.2 : Nat) : Int)])
structure DoorA (CD d o pd : Addr) (c : Nat) (la : Str → Addr) (tl : Str → List Spot) (H : Hp) : Prop where
  ob : ∃ dx, H d = some (.ins CD dx [("log", .ref o), ("places", .ref pd)])
  dc : ∃ kvs, H pd = some (.dK kvs) ∧ kvs.length ≤ c ∧ ∀ n, (tl n = [] → valV kvs (.inr n) = none) ∧ (tl n ≠ [] → valV kvs (.inr n) = some (.ref (la n)))
  ls : ∀ n, tl n ≠ [] → ∃ ts, H (la n) = some (.lst (ts.map V.ref)) ∧ Paired (SpotAt H) ts (tl n)
  nj : ∀ m n, tl m ≠ [] → tl n ≠ [] → m ≠ n → la m ≠ la n
theorem spots_kt {H H' : Hp} {ts : List Addr} {xs : List Spot} (r : Paired (SpotAt H) ts xs) (e : KT' H H') : Paired (SpotAt H') ts xs := paired_mono (fun _ _ h => e _ _ h) r
theorem DoorA.ex {CD d o pd : Addr} {c : Nat} {la : Str → Addr} {tl : Str → List Spot} {H H' : Hp} (x : DoorA CD d o pd c la tl H) (e : KS.Ex H H') : DoorA CD d o pd c la tl H' := by
  obtain ⟨dx, ob⟩ := x.ob
  obtain ⟨kvs, h1, h2⟩ := x.dc
  exact ⟨⟨dx, e _ _ ob⟩, ⟨kvs, e _ _ h1, h2⟩, fun n hn => by
    obtain ⟨ts, g1, g2⟩ := x.ls n hn
    exact ⟨ts, e _ _ g1, spots_kt g2 (kt_of e)⟩, x.nj⟩
theorem LogA.lists {CL CP o q : Addr} {ps : List (Addr × Addr)} {sts : List PS} {H : Hp} (x : LogA CL CP o q ps sts H) {l : Addr} (hl : l ∈ ps.map (·.2)) : ∃ ys, H l = some (.lst ys) := by
  obtain ⟨pl, hpl, e⟩ := List.mem_map.mp hl
  obtain ⟨j, hj, ej⟩ := List.mem_iff_getElem.mp hpl
  obtain ⟨y, _, _, _, _, _, _, _, _, z, _⟩ := paired_get (G := fun (pl : Addr × Addr) (st : PS) => PtA CP pl.1 pl.2 st.1 st.2.1 st.2.2 0 H) x.pt (List.getElem?_eq_getElem hj)
  exact ⟨_, by rw [← e, ← ej]; exact z⟩
theorem LogA.insts {CL CP o q : Addr} {ps : List (Addr × Addr)} {sts : List PS} {H : Hp} (x : LogA CL CP o q ps sts H) {p : Addr} (hp : p ∈ ps.map (·.1)) : ∃ C d fs, H p = some (.ins C d fs) := by
  obtain ⟨pl, hpl, e⟩ := List.mem_map.mp hp
  obtain ⟨j, hj, ej⟩ := List.mem_iff_getElem.mp hpl
  obtain ⟨y, _, _, _, _, _, z, _⟩ := paired_get (G := fun (pl : Addr × Addr) (st : PS) => PtA CP pl.1 pl.2 st.1 st.2.1 st.2.2 0 H) x.pt (List.getElem?_eq_getElem hj)
  exact ⟨_, _, _, by rw [← e, ← ej]; exact z⟩
section
variable {CL CP Ps o q : Addr} {ps : List (Addr × Addr)} {sts sts' : List PS} {H H' : Hp}
theorem FrL.keepO (f : FrL Ps ps H H') (x : LogA CL CP o q ps sts H) (t : TabS H Ps qK) {b : Addr} {u : HO} (h : H b = some u) (n1 : ∀ tb, u ≠ .tbl tb) (n2 : ∀ C d fs, u ≠ .ins C d fs) (n3 : ∀ ys, u ≠ .lst ys) : H' b = some u := by
  obtain ⟨tb, hP, _⟩ := t
  refine f.2 b u (fun z => by rw [z, hP] at h; exact n1 _ (Option.some.inj h).symm) (fun z => ?_) (fun z => ?_) h
  · obtain ⟨C, d, fs, e⟩ := x.insts z
    rw [h] at e; exact n2 _ _ _ (Option.some.inj e)
  · obtain ⟨ys, e⟩ := x.lists z
    rw [h] at e; exact n3 _ (Option.some.inj e)
theorem FrL.keepI (f : FrL Ps ps H H') (x : LogA CL CP o q ps sts H) (t : TabS H Ps qK) {b C d : Addr} {fs : List (Str × V)} (h : H b = some (.ins C d fs)) (n : b ∉ ps.map (·.1)) : H' b = some (.ins C d fs) := by
  obtain ⟨tb, hP, _⟩ := t
  refine f.2 b _ (fun z => by rw [z, hP] at h; cases h) n (fun z => ?_) h
  obtain ⟨ys, e⟩ := x.lists z
  rw [h] at e; cases e
theorem FrL.keepL (f : FrL Ps ps H H') (x : LogA CL CP o q ps sts H) (t : TabS H Ps qK) {b : Addr} {ys : List V} (h : H b = some (.lst ys)) (n : b ∉ ps.map (·.2)) : H' b = some (.lst ys) := by
  obtain ⟨tb, hP, _⟩ := t
  refine f.2 b _ (fun z => by rw [z, hP] at h; cases h) (fun z => ?_) n h
  obtain ⟨_, _, _, e⟩ := x.insts z
  rw [h] at e; cases e
theorem FrL.kt (f : FrL Ps ps H H') (x : LogA CL CP o q ps sts H) (t : TabS H Ps qK) : KT' H H' := fun b xs h => f.keepO x t h (fun _ z => by cases z) (fun _ _ _ z => by cases z) (fun _ z => by cases z)
theorem FrL.back (f : FrL Ps ps H H') (y : LogA CL CP o q ps sts' H') {b : Addr} (h : H' b = none) : H b = none := by
  cases e : H b with
  | none => rfl
  | some u =>
    exfalso
    by_cases c1 : b = Ps
    · obtain ⟨tb, hP, _⟩ := f.1
      rw [c1, hP] at h; cases h
    · by_cases c2 : b ∈ ps.map (·.1)
      · obtain ⟨_, _, _, z⟩ := y.insts c2
        rw [h] at z; cases z
      · by_cases c3 : b ∈ ps.map (·.2)
        · obtain ⟨_, z⟩ := y.lists c3
          rw [h] at z; cases z
        · rw [f.2 b u c1 c2 c3 e] at h; cases h
theorem LogA.keep (x : LogA CL CP o q ps sts H) (hi : ∀ b C d fs, H b = some (.ins C d fs) → H' b = some (.ins C d fs)) (ht : KT' H H') (hl : ∀ b ys, b = q ∨ b ∈ ps.map (·.2) → H b = some (.lst ys) → H' b = some (.lst ys)) : LogA CL CP o q ps sts H' := by
  obtain ⟨dx, ob⟩ := x.ob
  refine ⟨⟨dx, hi _ _ _ _ ob⟩, hl _ _ (.inl rfl) x.ql, Parts.of x.pt fun pl st hm ⟨dy, k, v, ts, h1, h2, h3, h4, h5⟩ => ⟨dy, k, v, ts, hi _ _ _ _ h1, ht _ _ h2, ht _ _ h3, hl _ _ (.inr (List.mem_map_of_mem hm)) h4, h5.kt ht⟩, x.n1, x.n2, x.n3, x.n4⟩
end
structure DL (CD CL CP d o pd q : Addr) (c : Nat) (la : Str → Addr) (tl : Str → List Spot) (ps : List (Addr × Addr)) (sts : List PS) (H : Hp) : Prop where
  dr : DoorA CD d o pd c la tl H
  lg : LogA CL CP o q ps sts H
  s1 : ∀ n, tl n ≠ [] → la n ≠ q ∧ la n ∉ ps.map (·.2)
  s2 : d ∉ ps.map (·.1)
theorem DL.ex {CD CL CP d o pd q : Addr} {c : Nat} {la : Str → Addr} {tl : Str → List Spot} {ps : List (Addr × Addr)} {sts : List PS} {H H' : Hp} (x : DL CD CL CP d o pd q c la tl ps sts H) (e : KS.Ex H H') : DL CD CL CP d o pd q c la tl ps sts H' := ⟨x.dr.ex e, x.lg.ex e, x.s1, x.s2⟩
def FrD (Ps pd : Addr) (la : Str → Addr) (tl : Str → List Spot) (ps : List (Addr × Addr)) (H H' : Hp) : Prop := TabS H' Ps qK ∧ ∀ b u, b ≠ Ps → b ∉ ps.map (·.1) → b ∉ ps.map (·.2) → b ≠ pd → (∀ n, tl n ≠ [] → b ≠ la n) → H b = some u → H' b = some u
def addT (tl : Str → List Spot) (n : Str) (s : Spot) : Str → List Spot := fun m => if m = n then tl n ++ [s] else tl m
@[irreducible] def spDI (CD : Addr) : Sp := fun vs H Q _ => ∃ (d dx o : Addr), vs = [.ref d, .ref o] ∧ H d = some (.ins CD dx []) ∧ ∀ H' pd, (∀ b u, b ≠ d → H b = some u → H' b = some u) → H pd = none → (∀ la, DoorA CD d o pd 0 la (fun _ => []) H') → Q .non H'
theorem di_step {CD d dx o : Addr} {H : Hp} {Q : VK} {E : XK} (h : H d = some (.ins CD dx [])) (fin : ∀ H' pd, (∀ b u, b ≠ d → H b = some u → H' b = some u) → H pd = none → (∀ la, DoorA CD d o pd 0 la (fun _ => []) H') → Q .non H') : spDI CD [.ref d, .ref o] H Q E := by
  unfold spDI
  exact ⟨d, dx, o, rfl, h, fin⟩
structure Took (CD CL CP Ps d o pd q : Addr) (c : Nat) (la : Str → Addr) (tl : Str → List Spot) (ps : List (Addr × Addr)) (sts : List PS) (n : Str) (st : PS) (x : Rc) (H H' : Hp) (z : Addr) (la' : Str → Addr) : Prop where
  fr : FrD Ps pd la tl ps H H'
  dl : DL CD CL CP d o pd q (c + 1) la' (addT tl n (numK x.1 ps.length, st.2.2.length)) ps (sts.set (numK x.1 ps.length) (app1 st x)) H'
  sp : SpotAt H' z (numK x.1 ps.length, st.2.2.length)
  nw : ∀ m, addT tl n (numK x.1 ps.length, st.2.2.length) m ≠ [] → (tl m ≠ [] ∧ la' m = la m) ∨ H (la' m) = none
theorem took_mk {CD CL CP Ps d o pd q l t : Addr} {c : Nat} {la : Str → Addr} {tl : Str → List Spot} {ps : List (Addr × Addr)} {sts : List PS} {n : Str} {st : PS} {x : Rc} {H H2 H' : Hp} {kvs kvs' : List (Key × V)} {ts : List Addr}
    (y : DL CD CL CP d o pd q c la tl ps sts H) (tab : TabS H Ps qK) (f : FrL Ps ps H H2) (y2 : LogA CL CP o q ps (sts.set (numK x.1 ps.length) (app1 st x)) H2) (h2 : SpotAt H2 t (numK x.1 ps.length, st.2.2.length)) (hk : H pd = some (.dK kvs)) (hkl : kvs.length ≤ c) (hkv : ∀ m, (tl m = [] → valV kvs (.inr m) = none) ∧ (tl m ≠ [] → valV kvs (.inr m) = some (.ref (la m))))
    (keep : ∀ b u, b ≠ pd → b ≠ l → H2 b = some u → H' b = some u) (hl : H' l = some (.lst ((ts ++ [t]).map V.ref))) (hts : Paired (SpotAt H2) ts (tl n)) (hk' : H' pd = some (.dK kvs')) (hkl' : kvs'.length ≤ c + 1) (hv : ∀ m, valV kvs' (.inr m) = if m = n then some (.ref l) else valV kvs (.inr m))
    (cs : (tl n ≠ [] ∧ l = la n) ∨ (tl n = [] ∧ H2 l = none)) : Took CD CL CP Ps d o pd q c la tl ps sts n st x H H' t (fun m => if m = n then l else la m) := by
  have hk2 : H2 pd = some (.dK kvs) := f.keepO y.lg tab hk (fun _ z => by cases z) (fun _ _ _ z => by cases z) (fun _ z => by cases z)
  have hl2 : (∃ ys, H2 l = some (.lst ys)) ∨ H2 l = none := by
    rcases cs with ⟨c1, c2⟩ | ⟨_, c2⟩
    · obtain ⟨ts1, g1, _⟩ := y.dr.ls n c1
      rw [← c2] at g1
      exact .inl ⟨_, f.keepL y.lg tab g1 (by rw [c2]; exact (y.s1 n c1).2)⟩
    · exact .inr c2
  have nl : ∀ {b : Addr} {u : HO}, H2 b = some u → (∀ ys, u ≠ .lst ys) → b ≠ l := fun {b u} h k z => by
    rcases hl2 with ⟨ys, e⟩ | e
    · rw [z, e] at h; exact k _ (Option.some.inj h).symm
    · rw [z, e] at h; cases h
  have np : ∀ {b : Addr} {u : HO}, H2 b = some u → (∀ ys, u ≠ .dK ys) → b ≠ pd := fun {b u} h k z => by
    rw [z, hk2] at h; exact k _ (Option.some.inj h).symm
  have kt2 : KT' H2 H' := fun b xs h => keep b _ (np h fun _ z => by cases z) (nl h fun _ z => by cases z) h
  have ki : ∀ b C d fs, H2 b = some (.ins C d fs) → H' b = some (.ins C d fs) := fun b C d fs h => keep b _ (np h fun _ z => by cases z) (nl h fun _ z => by cases z) h
  have lq : l ≠ q ∧ l ∉ ps.map (·.2) := by
    rcases cs with ⟨c1, c2⟩ | ⟨_, c2⟩
    · rw [c2]; exact y.s1 n c1
    · refine ⟨fun z => (by rw [z, y2.ql] at c2; cases c2), fun z => ?_⟩
      obtain ⟨_, e⟩ := y2.lists z
      rw [c2] at e; cases e
  have lg' : LogA CL CP o q ps (sts.set (numK x.1 ps.length) (app1 st x)) H' := y2.keep ki kt2 fun b ys hb h => keep b _ (np h fun _ z => by cases z) (fun z => by
    rcases hb with e | e
    · exact lq.1 (by rw [← z, e])
    · exact lq.2 (by rw [← z]; exact e)) h
  have lone : ∀ m, m ≠ n → tl m ≠ [] → la m ≠ l := fun m hm h0 z => by
    rcases cs with ⟨c1, c2⟩ | ⟨_, c2⟩
    · exact y.dr.nj m n h0 c1 hm (by rw [z, c2])
    · obtain ⟨ts1, g1, _⟩ := y.dr.ls m h0
      have := f.keepL y.lg tab g1 (y.s1 m h0).2
      rw [z, c2] at this; cases this
  obtain ⟨dx, ob⟩ := y.dr.ob
  have tab' : TabS H' Ps qK := by
    obtain ⟨tb, g1, g2, g3⟩ := f.1
    refine ⟨tb, keep _ _ (np g1 fun _ z => by cases z) (nl g1 fun _ z => by cases z) g1, g2, fun pos cv hc => ?_⟩
    obtain ⟨a, a1, a2⟩ := g3 pos cv hc
    exact ⟨a, a1, keep _ _ (np a2 fun _ z => by cases z) (nl a2 fun _ z => by cases z) a2⟩
  refine ⟨⟨tab', fun b u n1 n2 n3 n4 n5 h => ?_⟩, ⟨⟨⟨dx, ki _ _ _ _ (f.keepI y.lg tab ob y.s2)⟩, ⟨kvs', hk', hkl', fun m => ?_⟩, fun m hm => ?_, fun m1 m2 h1 h2 h3 => ?_⟩, lg', fun m hm => ?_, y.s2⟩, kt2 _ _ h2, fun m hm => ?_⟩
  · refine keep b u n4 (fun z => ?_) (f.2 b u n1 n2 n3 h)
    rcases cs with ⟨c1, c2⟩ | ⟨_, c2⟩
    · exact n5 n c1 (by rw [z, c2])
    · have := f.back y2 c2
      rw [← z, h] at this; cases this
  · show (addT tl n _ m = [] → _) ∧ _
    unfold addT
    rw [hv m]
    by_cases e : m = n
    · rw [if_pos e, if_pos e, if_pos e]
      exact ⟨fun z => by simp at z, fun _ => rfl⟩
    · rw [if_neg e, if_neg e, if_neg e]
      exact hkv m
  · show ∃ ts, H' (if m = n then l else la m) = _ ∧ Paired _ ts (addT tl n _ m)
    unfold addT at hm ⊢
    by_cases e : m = n
    · rw [if_pos e, if_pos e]
      exact ⟨_, hl, paired_snoc' (spots_kt hts kt2) (kt2 _ _ h2)⟩
    · rw [if_neg e] at hm
      rw [if_neg e, if_neg e]
      obtain ⟨ts1, g1, g2⟩ := y.dr.ls m hm
      have g3 := f.keepL y.lg tab g1 (y.s1 m hm).2
      exact ⟨ts1, keep _ _ (np g3 fun _ z => by cases z) (lone m e hm) g3, spots_kt (spots_kt g2 (f.kt y.lg tab)) kt2⟩
  · show (if m1 = n then l else la m1) ≠ if m2 = n then l else la m2
    unfold addT at h1 h2
    by_cases e1 : m1 = n
    · by_cases e2 : m2 = n
      · exact absurd (e1.trans e2.symm) h3
      · rw [if_neg e2] at h2
        rw [if_pos e1, if_neg e2]
        exact (lone m2 e2 h2).symm
    · rw [if_neg e1] at h1
      rw [if_neg e1]
      by_cases e2 : m2 = n
      · rw [if_pos e2]; exact lone m1 e1 h1
      · rw [if_neg e2] at h2
        rw [if_neg e2]
        exact y.dr.nj m1 m2 h1 h2 h3
  · show (if m = n then l else la m) ≠ q ∧ (if m = n then l else la m) ∉ _
    unfold addT at hm
    by_cases e : m = n
    · rw [if_pos e]; exact lq
    · rw [if_neg e] at hm
      rw [if_neg e]; exact y.s1 m hm
  · show (tl m ≠ [] ∧ (if m = n then l else la m) = la m) ∨ H (if m = n then l else la m) = none
    unfold addT at hm
    by_cases e : m = n
    · rw [if_pos e]
      rcases cs with ⟨c1, c2⟩ | ⟨_, c2⟩
      · exact .inl ⟨by rw [e]; exact c1, by rw [e]; exact c2⟩
      · exact .inr (f.back y2 c2)
    · rw [if_neg e] at hm
      rw [if_neg e]
      exact .inl ⟨hm, rfl⟩
@[irreducible] def spDT (CD CL CP CG Ps : Addr) : Sp := fun vs H Q E => ∃ (d o pd q : Addr) (c : Nat) (la : Str → Addr) (tl : Str → List Spot) (ps : List (Addr × Addr)) (sts : List PS) (n : Str) (num : Int) (a b : Addr) (t : Int),
  vs = [.ref d, .str n, .int num, .ref a, .ref b, .int t] ∧ DL CD CL CP d o pd q c la tl ps sts H ∧ c ≤ 1000 ∧ (tl n).length ≤ 1000 ∧
  ((¬ (0 ≤ num ∧ num ≤ (tl n).length) ∧ ∀ H', KS.Ex H H' → E (.ref CG) none H') ∨
   (∃ j s, num = (j : Nat) ∧ (tl n)[j]? = some s ∧ ∀ H' z, KS.Ex H H' → SpotAt H' z s → Q (.ref z) H') ∨
   (∃ st x, num = (tl n).length ∧ t = (x.2.2 : Nat) ∧ 0 < ps.length ∧ sts[numK x.1 ps.length]? = some st ∧ st.2.1.length ≤ 10000 ∧ st.2.2.length ≤ 10000 ∧ H a = some (.tup (x.1.map kV)) ∧ H b = some (.tup (x.2.1.map kV)) ∧ OkB x ∧ TabS H Ps qK ∧
     ∀ H' z la', Took CD CL CP Ps d o pd q c la tl ps sts n st x H H' z la' → Q (.ref z) H'))
section
variable {P : Program} {w : World} {K : PySem.W.Frag} {mg : Str → Option Value} {base : Heap} {f fA CD CL CP CG Ps : Addr} {fd fdA : FuncData}
abbrev sDM (j : Nat) : Stmt := inClass sDoor j
theorem scDI : FnScope ["self", "log"] ["self", "log"] (defScope (sDM 0)) := ⟨rfl, rfl, rfl, by decide +kernel, rfl, by decide +kernel, by decide +kernel⟩
theorem ok_dinit (F : FnP K "__init__" "Door.__init__" (sDM 0) [] f fd) (D : TxtD K mg CD) : FnOk P w K mg base CX0 1 f fd ["self", "log"] (spDI CD) := by
  refine F.ok scDI (fun vs H Q E h => ?_) (fun cdv A outer s H vs Q E hr h => ?_)
  · unfold spDI at h
    obtain ⟨_, _, _, rfl, _⟩ := h; rfl
  · unfold spDI at h
    obtain ⟨d, dx, o, rfl, h1, fin⟩ := h
    refine ⟨_, PSs.nox <| pss_cons (ps_fld (pv 0) (pv 1) rfl) (pss_one (ps_fld (pv 0) pe_dnewK rfl)), ?_⟩
    refine ⟨_, rfl, _, rfl, d, CD, dx, _, rfl, h1, D.cl, D.l, (by show 0 < 1000; decide), ?_⟩
    have d2 : (upd H d (.ins CD dx [("log", .ref o)])) d = some (.ins CD dx [("log", .ref o)]) := upd_same
    refine fun pd hpd => ⟨_, rfl, d, CD, dx, _, rfl, Ex.upd hpd _ _ d2, D.cl, D.p, (by show 1 < 1000; decide), ?_⟩
    have npd : pd ≠ d := fun z => by rw [z, upd_same] at hpd; cases hpd
    refine fin _ pd (fun b u nb h => by rw [L2.upd_ne nb]; exact Ex.upd hpd _ _ (by rw [L2.upd_ne nb]; exact h)) (by rw [L2.upd_ne npd] at hpd; exact hpd) fun la => ⟨⟨dx, upd_same⟩, ⟨[], by rw [L2.upd_ne npd]; exact upd_same, Nat.zero_le _, fun n => ⟨fun _ => rfl, fun z => absurd rfl z⟩⟩, fun n z => absurd rfl z, fun m n z => absurd rfl z⟩
theorem scDT : FnScope ["self", "name", "number", "key", "row", "time", "due", "told"] ["self", "name", "number", "key", "row", "time"] (defScope (sDM 1)) := ⟨rfl, rfl, rfl, by decide +kernel, rfl, by decide +kernel, by decide +kernel⟩
theorem ok_dtake (F : FnP K "take" "Door.take" (sDM 1) [] f fd) (D : TxtD K mg CD) (O : TxtO K mg CL) (G : TxtG K mg CG) (TL : TxtL mg) (mA : Meth K CL "append" fA) (GA : FnOk P w K mg base CX0 6 fA fdA ["self", "key", "row", "time"] (spLA CL CP Ps)) (bA : Binds K fdA ["self", "key", "row", "time"] []) : FnOk P w K mg base (L2.CX P w) 7 f fd ["self", "name", "number", "key", "row", "time"] (spDT CD CL CP CG Ps) := by
  refine F.ok scDT (fun vs H Q E h => ?_) (fun cdv A outer s H vs Q E hr h => ?_)
  · unfold spDT at h
    obtain ⟨_, _, _, _, _, _, _, _, _, _, _, _, _, _, rfl, _⟩ := h; rfl
  · unfold spDT at h
    obtain ⟨d, o, pd, q, c, la, tl, ps, sts, n, num, a, b, t, rfl, x, hc, hl, h⟩ := h
    have hu := hr.units
    have hu1 := Nat.lt_trans (Nat.add_lt_add_left (by decide : 1 < 64) _) hu
    have hz0 : sizeLine = 16777216 := rfl
    refine ⟨_, pss_cons (ps_set (i := 6) scDT.nd rfl (Or.inl rfl) (pe_callB call_len_seq (by rfl) TL.len (by decide +kernel) (pa_cons (pe_dget2 hu1 (pf 0) (pv 1) (pe_lst pa_nil) ⟨rfl, rfl, rfl, rfl⟩) pa_nil)))
      (pss_cons (ps_if (pt_not (pt_chain op_le op_le pe_int (pv 2) (pv 6))) (pss_one (ps_raise rfl (takes_of rfl rfl rfl rfl) (SkE.pmk_own1 PySem.F.excBase_ValueError G.x G.g G.k (raises_own G.b G.t) rfl (pe_joined (.cons pe_str (.cons (pe_fmt (pv 6)) (.cons pe_str .nil))))))) pss_nil)
      (pss_cons (ps_if (pt_cmpR op_lt (pv 2) (pv 6) (nomark _)) (pss_one (ps_ret (pe_ix ix_listD (pe_dget hu1 (pf 0) (pv 1) (fun _ _ => rfl)) (pv 2) (fun _ _ => rfl)))) pss_nil)
      (pss_cons (ps_set (i := 7) scDT.nd rfl (Or.inl rfl) (pe_meth (pf 0) O.cl mA GA hr bA .nil pass0 (pa_cons (pv 3) (pa_cons (pv 4) (pa_cons (pv 5) pa_nil)))))
      (pss_cons (ps_expr (pe_bm PySem.F.plainAttrs_list PySem.F.slot_list_append PySem.F.type_list_append mt_append (pe_dsetd (pf 0) (pv 1) (pe_lst pa_nil) ⟨rfl, rfl, rfl, rfl⟩) (pa_cons (pv 7) pa_nil)))
      (pss_one (ps_ret (pv 7))))))), ?_⟩
    obtain ⟨dx, ob⟩ := x.dr.ob
    obtain ⟨kvs, hk, hkl, hkv⟩ := x.dr.dc
    refine ⟨_, rfl, d, CD, dx, _, _, rfl, ob, D.cl, D.p, rfl, pd, rfl, .inl ⟨kvs, .inl hk⟩, _, rfl, by decide, fun z hz => ?_⟩
    have e1 : KS.Ex H (upd H z (.lst [])) := Ex.upd hz
    have hz1 : (upd H z (.lst [])) z = some (.lst []) := upd_same
    generalize upd H z (.lst []) = H1 at e1 hz1
    refine ⟨_, DGet.k (k := Sum.inr n) (e1 _ _ hk), ?_⟩
    have due : ∃ (l : Addr) (ys : List V), (valV kvs (Sum.inr n)).getD (V.ref z) = V.ref l ∧ H1 l = some (.lst ys) ∧ ys.length = (tl n).length := by
      by_cases c0 : tl n = []
      · rw [(hkv n).1 c0, c0]
        exact ⟨z, [], rfl, hz1, rfl⟩
      · rw [(hkv n).2 c0]
        obtain ⟨ts, g1, g2⟩ := x.dr.ls n c0
        exact ⟨la n, _, rfl, e1 _ _ g1, by rw [List.length_map]; exact paired_len g2⟩
    obtain ⟨l, ys, q1, q2, q3⟩ := due
    refine ⟨l, ys, by rw [q1], .inl (SqL.of q2), ?_⟩
    rw [q3]
    refine ⟨_, rfl, _, _, rfl, rfl, _, rfl, ?_⟩
    have ob1 := e1 _ _ ob
    have hk1 := e1 _ _ hk
    rcases h with ⟨c0, bad⟩ | ⟨j, s, rfl, hj, good⟩ | ⟨st, r, rfl, rfl, hn, hs, b1, b2, ha, hb, ok, tab, fin⟩
    · by_cases c1 : 0 ≤ num
      · refine ifT (by simp; exact c1) ⟨_, rfl, _, _, rfl, rfl, _, rfl, ifT ?_ (js_int3 rfl (by omega) (by omega) (by decide) (by decide) fun out => bad H1 e1)⟩
        have : ¬ num ≤ (((tl n).length : Nat) : Int) := fun z => c0 ⟨c1, z⟩
        simp only [this, decide_false, Bool.not_false]
      · exact ifF (by simp; omega) ⟨_, rfl, ifT (by rfl) (js_int3 rfl (by omega) (by omega) (by decide) (by decide) fun out => bad H1 e1)⟩
    · have hlt : j < (tl n).length := (List.getElem?_eq_some_iff.mp hj).1
      have c0 : tl n ≠ [] := fun z => by rw [z] at hlt; exact Nat.not_lt_zero _ hlt
      obtain ⟨ts, g1, g2⟩ := x.dr.ls n c0
      have hjt : j < ts.length := by rw [paired_len g2]; exact hlt
      obtain ⟨s', hs', ra⟩ := paired_get g2 (List.getElem?_eq_getElem hjt)
      rw [hj] at hs'
      cases hs'
      refine ifT (by simp) ⟨_, rfl, _, _, rfl, rfl, _, rfl, ifF (by simp; omega) ?_⟩
      refine ⟨_, rfl, _, rfl, _, _, rfl, rfl, _, rfl, ifT (by simp; omega) ?_⟩
      refine ⟨_, rfl, d, CD, dx, _, _, rfl, ob1, D.cl, D.p, rfl, _, rfl, pd, V.ref (la n), rfl, by rw [← (hkv n).2 c0]; exact DGet.k (k := Sum.inr n) hk1, _, rfl, la n, _, _, V.ref ts[j], rfl, rfl, e1 _ _ g1, atI_nat (by rw [List.getElem?_map, List.getElem?_eq_getElem hjt]; rfl), ?_⟩
      exact good H1 _ e1 (e1 _ _ ra)
    · refine ifT (by simp) ⟨_, rfl, _, _, rfl, rfl, _, rfl, ifF (by simp) ?_⟩
      refine ⟨_, rfl, _, rfl, _, _, rfl, rfl, _, rfl, ifF (by simp) ?_⟩
      have y1 := x.ex e1
      have tab1 := tab.ext e1
      obtain ⟨dxo, obo⟩ := y1.lg.ob
      refine ⟨_, rfl, d, CD, dx, _, _, rfl, ob1, D.cl, D.l, rfl, o, dxo, _, rfl, obo, rfl, _, rfl, _, rfl, _, rfl, la_step y1.lg hn hs b1 b2 (e1 _ _ ha) (e1 _ _ hb) ok tab1 fun H2 t2 f2 y2 h2 => ?_⟩
      have ob2 := f2.keepI y1.lg tab1 ob1 y1.s2
      have hk2 := f2.keepO y1.lg tab1 hk1 (fun _ z => by cases z) (fun _ _ _ z => by cases z) (fun _ z => by cases z)
      have f0 : FrL Ps ps H H2 := (FrL.ex tab e1).trans f2
      refine ⟨_, rfl, d, CD, dx, _, _, rfl, ob2, D.cl, D.p, rfl, pd, rfl, .inl ⟨kvs, .inl hk2⟩, _, rfl, by decide, fun z2 hz2 => ?_⟩
      have e3 : KS.Ex H2 (upd H2 z2 (.lst [])) := Ex.upd hz2
      have hz3 : (upd H2 z2 (.lst [])) z2 = some (.lst []) := upd_same
      generalize hG : upd H2 z2 (.lst []) = H3 at e3 hz3
      have hk3 := e3 _ _ hk2
      refine ⟨kvs, Sum.inr n, hk3, rfl, by omega, fun v hv => ?_, fun hv => ?_⟩
      · have c0 : tl n ≠ [] := fun z => by rw [(hkv n).1 z] at hv; cases hv
        rw [(hkv n).2 c0] at hv
        cases hv
        obtain ⟨ts, g1, g2⟩ := x.dr.ls n c0
        have g3 := f0.keepL x.lg tab g1 (x.s1 n c0).2
        have lts := paired_len g2
        refine ⟨.inl ⟨rfl, _, SqL.of (e3 _ _ g3)⟩, _, rfl, la n, _, _, rfl, rfl, e3 _ _ g3, by rw [List.length_map]; omega, ?_⟩
        rw [show ts.map V.ref ++ [V.ref t2] = (ts ++ [t2]).map V.ref by rw [List.map_append]; rfl]
        have npl : pd ≠ la n := fun z => by rw [z, g3] at hk2; cases hk2
        refine ⟨_, rfl, fin _ t2 _ (took_mk (l := la n) x tab f0 y2 h2 hk hkl hkv (fun b u n1 n2 h => by rw [L2.upd_ne n2]; exact e3 _ _ h) upd_same (spots_kt g2 (f0.kt x.lg tab)) (by rw [L2.upd_ne npl]; exact hk3) (by omega) (fun m => ?_) (.inl ⟨c0, rfl⟩))⟩
        by_cases e : m = n
        · rw [if_pos e, e]; exact (hkv n).2 c0
        · rw [if_neg e]
      · have c0 : tl n = [] := Classical.byContradiction fun z => by rw [(hkv n).2 z] at hv; cases hv
        have nzp : z2 ≠ pd := fun z => by rw [z, hk2] at hz2; cases hz2
        have hz4 : (upd H3 pd (.dK (putK kvs (Sum.inr n) (V.ref z2)))) z2 = some (.lst []) := by rw [L2.upd_ne nzp]; exact hz3
        refine ⟨.inl ⟨rfl, _, SqL.of hz4⟩, _, rfl, z2, _, _, rfl, rfl, hz4, by show 0 < sizeLine; decide, ?_⟩
        refine ⟨_, rfl, fin _ t2 _ (took_mk (l := z2) (ts := []) x tab f0 y2 h2 hk hkl hkv (fun b u n1 n2 h => by rw [L2.upd_ne n2, L2.upd_ne n1]; exact e3 _ _ h) upd_same (by rw [c0]; exact .nil) (by rw [L2.upd_ne nzp.symm]; exact upd_same) (by have := length_putK kvs (Sum.inr n) (V.ref z2); omega) (fun m => ?_) (.inr ⟨c0, hz2⟩))⟩
        rw [valV_put]
        by_cases e : m = n
        · rw [if_pos e, if_pos (by rw [e])]
        · rw [if_neg e, if_neg (fun z => e (Sum.inr.inj z))]
end
end KL6
set_option Elab.async false
set_option linter.all false
set_option maxRecDepth 100000
set_option maxHeartbeats 4000000
namespace KL6
open PySem PySem.Spec PyProof.Rows L2 KB KC KS KN1 LamX K7
structure TxtK2 (K : PySem.W.Frag) (mg : Str → Option Value) (CM : Addr) : Prop where
  cl : Cls K CM
  n : NoAttr K CM "name"
  x : NoAttr K CM "next_number"
  g : mg "Producer" = some (.ref CM)
section
variable {CD CL CP Ps d o pd q : Addr} {c : Nat} {la : Str → Addr} {tl : Str → List Spot} {ps : List (Addr × Addr)} {sts : List PS} {H H' : Hp}
theorem FrD.keepI (f : FrD Ps pd la tl ps H H') (y : DL CD CL CP d o pd q c la tl ps sts H) (t : TabS H Ps qK) {b C d : Addr} {fs : List (Str × V)} (h : H b = some (.ins C d fs)) (n : b ∉ ps.map (·.1)) : H' b = some (.ins C d fs) := by
  obtain ⟨tb, hP, _⟩ := t
  obtain ⟨kvs, hk, _⟩ := y.dr.dc
  refine f.2 b _ (fun z => by rw [z, hP] at h; cases h) n (fun z => ?_) (fun z => by rw [z, hk] at h; cases h) (fun m hm z => ?_) h
  · obtain ⟨_, e⟩ := y.lg.lists z
    rw [h] at e; cases e
  · obtain ⟨_, e, _⟩ := y.dr.ls m hm
    rw [z, e] at h; cases h
theorem FrD.keepL (f : FrD Ps pd la tl ps H H') (y : DL CD CL CP d o pd q c la tl ps sts H) (t : TabS H Ps qK) {b : Addr} {xs : List V} (h : H b = some (.lst xs)) (n : b ∉ ps.map (·.2)) (n2 : ∀ m, tl m ≠ [] → b ≠ la m) : H' b = some (.lst xs) := by
  obtain ⟨tb, hP, _⟩ := t
  obtain ⟨kvs, hk, _⟩ := y.dr.dc
  refine f.2 b _ (fun z => by rw [z, hP] at h; cases h) (fun z => ?_) n (fun z => by rw [z, hk] at h; cases h) n2 h
  obtain ⟨_, _, _, e⟩ := y.lg.insts z
  rw [h] at e; cases e
theorem FrD.keepT (f : FrD Ps pd la tl ps H H') (y : DL CD CL CP d o pd q c la tl ps sts H) (t : TabS H Ps qK) {b : Addr} {u : HO} (h : H b = some u) (n0 : ∀ tb, u ≠ .tbl tb) (n1 : ∀ C d fs, u ≠ .ins C d fs) (n2 : ∀ ys, u ≠ .lst ys) (n3 : b ≠ pd) : H' b = some u := by
  obtain ⟨tb, hP, _⟩ := t
  refine f.2 b _ (fun z => by rw [z, hP] at h; exact n0 _ (Option.some.inj h).symm) (fun z => ?_) (fun z => ?_) n3 (fun m hm z => ?_) h
  · obtain ⟨_, _, _, e⟩ := y.lg.insts z
    rw [h] at e; exact n1 _ _ _ (Option.some.inj e)
  · obtain ⟨_, e⟩ := y.lg.lists z
    rw [h] at e; exact n2 _ (Option.some.inj e)
  · obtain ⟨_, e, _⟩ := y.dr.ls m hm
    rw [z, e] at h; exact n2 _ (Option.some.inj h).symm
theorem FrD.kt (f : FrD Ps pd la tl ps H H') (y : DL CD CL CP d o pd q c la tl ps sts H) (t : TabS H Ps qK) : KT' H H' := fun b xs h => by
  obtain ⟨kvs, hk, _⟩ := y.dr.dc
  exact f.keepT y t h (fun _ z => by cases z) (fun _ _ _ z => by cases z) (fun _ z => by cases z) (fun z => by rw [z, hk] at h; cases h)
theorem DL.wr (y : DL CD CL CP d o pd q c la tl ps sts H) {b C e : Addr} {fs fs' : List (Str × V)} (h : H b = some (.ins C e fs)) (n1 : b ≠ d) (n2 : b ≠ o) (n3 : b ∉ ps.map (·.1)) : DL CD CL CP d o pd q c la tl ps sts (upd H b (.ins C e fs')) := by
  have ki : ∀ a u, H a = some u → (∀ C d fs, u ≠ .ins C d fs) → (upd H b (.ins C e fs')) a = some u := fun a u g n => by rw [L2.upd_ne (fun z => by rw [z, h] at g; exact n _ _ _ (Option.some.inj g).symm)]; exact g
  have kt : KT' H (upd H b (.ins C e fs')) := fun a xs g => ki a _ g (fun _ _ _ z => by cases z)
  obtain ⟨dx, ob⟩ := y.dr.ob
  obtain ⟨kvs, h1, h2⟩ := y.dr.dc
  refine ⟨⟨⟨dx, by rw [L2.upd_ne n1.symm]; exact ob⟩, ⟨kvs, ki _ _ h1 (fun _ _ _ z => by cases z), h2⟩, fun n hn => ?_, y.dr.nj⟩, ?_, y.s1, y.s2⟩
  · obtain ⟨ts, g1, g2⟩ := y.dr.ls n hn
    exact ⟨ts, ki _ _ g1 (fun _ _ _ z => by cases z), spots_kt g2 kt⟩
  · obtain ⟨dxo, obo⟩ := y.lg.ob
    refine ⟨⟨dxo, by rw [L2.upd_ne n2.symm]; exact obo⟩, ki _ _ y.lg.ql (fun _ _ _ z => by cases z), Parts.of y.lg.pt fun pl st hm ⟨dy, k, v, ts, h1, h2, h3, h4, h5⟩ => ⟨dy, k, v, ts, ?_, kt _ _ h2, kt _ _ h3, ki _ _ h4 (fun _ _ _ z => by cases z), h5.kt kt⟩, y.lg.n1, y.lg.n2, y.lg.n3, y.lg.n4⟩
    rw [L2.upd_ne (fun z => n3 (by rw [← z]; exact List.mem_map_of_mem hm))]; exact h1
end
abbrev mF (n : Str) (i : Nat) : List (Str × V) := [("name", .str n), ("next_number", .int ((i : Nat) : Int))]
theorem put_next {n : Str} {i j : Nat} : putF "next_number" (.int ((j : Nat) : Int)) (mF n i) = mF n j := rfl
@[irreducible] def spMI (CM : Addr) : Sp := fun vs H Q _ => ∃ (m dx : Addr) (n : Str), vs = [.ref m, .str n] ∧ H m = some (.ins CM dx []) ∧ Q .non (upd H m (.ins CM dx (mF n 0)))
theorem mi_step {CM m dx : Addr} {n : Str} {H : Hp} {Q : VK} {E : XK} (h : H m = some (.ins CM dx [])) (fin : Q .non (upd H m (.ins CM dx (mF n 0)))) : spMI CM [.ref m, .str n] H Q E := by
  unfold spMI
  exact ⟨m, dx, n, rfl, h, fin⟩
@[irreducible] def spMS (CM CD CL CP Ps : Addr) : Sp := fun vs H Q _ => ∃ (m dm d o pd q a b : Addr) (c : Nat) (la : Str → Addr) (tl : Str → List Spot) (ps : List (Addr × Addr)) (sts : List PS) (n : Str) (st : PS) (x : Rc),
  vs = [.ref m, .ref d, .ref a, .ref b, .int (x.2.2 : Nat)] ∧ H m = some (.ins CM dm (mF n (tl n).length)) ∧ m ∉ ps.map (·.1) ∧ DL CD CL CP d o pd q c la tl ps sts H ∧ c ≤ 1000 ∧ (tl n).length ≤ 1000 ∧
  0 < ps.length ∧ sts[numK x.1 ps.length]? = some st ∧ st.2.1.length ≤ 10000 ∧ st.2.2.length ≤ 10000 ∧ H a = some (.tup (x.1.map kV)) ∧ H b = some (.tup (x.2.1.map kV)) ∧ OkB x ∧ TabS H Ps qK ∧
  ∀ H' z la', Took CD CL CP Ps d o pd q c la tl ps sts n st x H H' z la' → H' m = some (.ins CM dm (mF n (tl n).length)) → Q (.ref z) (upd H' m (.ins CM dm (mF n ((tl n).length + 1))))
theorem ms_step {CM CD CL CP Ps m dm d o pd q a b : Addr} {c : Nat} {la : Str → Addr} {tl : Str → List Spot} {ps : List (Addr × Addr)} {sts : List PS} {n : Str} {st : PS} {x : Rc} {H : Hp} {Q : VK} {E : XK} (hm : H m = some (.ins CM dm (mF n (tl n).length))) (nm : m ∉ ps.map (·.1)) (y : DL CD CL CP d o pd q c la tl ps sts H) (hc : c ≤ 1000) (hl : (tl n).length ≤ 1000)
    (hn : 0 < ps.length) (hs : sts[numK x.1 ps.length]? = some st) (b1 : st.2.1.length ≤ 10000) (b2 : st.2.2.length ≤ 10000) (ha : H a = some (.tup (x.1.map kV))) (hb : H b = some (.tup (x.2.1.map kV))) (ok : OkB x) (tab : TabS H Ps qK)
    (fin : ∀ H' z la', Took CD CL CP Ps d o pd q c la tl ps sts n st x H H' z la' → H' m = some (.ins CM dm (mF n (tl n).length)) → Q (.ref z) (upd H' m (.ins CM dm (mF n ((tl n).length + 1))))) : spMS CM CD CL CP Ps [.ref m, .ref d, .ref a, .ref b, .int (x.2.2 : Nat)] H Q E := by
  unfold spMS
  exact ⟨m, dm, d, o, pd, q, a, b, c, la, tl, ps, sts, n, st, x, rfl, hm, nm, y, hc, hl, hn, hs, b1, b2, ha, hb, ok, tab, fin⟩
theorem dt_step {CD CL CP CG Ps d o pd q a b : Addr} {c : Nat} {la : Str → Addr} {tl : Str → List Spot} {ps : List (Addr × Addr)} {sts : List PS} {n : Str} {num t : Int} {H : Hp} {Q : VK} {E : XK} (y : DL CD CL CP d o pd q c la tl ps sts H) (hc : c ≤ 1000) (hl : (tl n).length ≤ 1000)
    (h : (¬ (0 ≤ num ∧ num ≤ (tl n).length) ∧ ∀ H', KS.Ex H H' → E (.ref CG) none H') ∨
   (∃ j s, num = (j : Nat) ∧ (tl n)[j]? = some s ∧ ∀ H' z, KS.Ex H H' → SpotAt H' z s → Q (.ref z) H') ∨
   (∃ st x, num = (tl n).length ∧ t = (x.2.2 : Nat) ∧ 0 < ps.length ∧ sts[numK x.1 ps.length]? = some st ∧ st.2.1.length ≤ 10000 ∧ st.2.2.length ≤ 10000 ∧ H a = some (.tup (x.1.map kV)) ∧ H b = some (.tup (x.2.1.map kV)) ∧ OkB x ∧ TabS H Ps qK ∧
     ∀ H' z la', Took CD CL CP Ps d o pd q c la tl ps sts n st x H H' z la' → Q (.ref z) H')) : spDT CD CL CP CG Ps [.ref d, .str n, .int num, .ref a, .ref b, .int t] H Q E := by
  unfold spDT
  exact ⟨d, o, pd, q, c, la, tl, ps, sts, n, num, a, b, t, rfl, y, hc, hl, h⟩
section
variable {P : Program} {w : World} {K : PySem.W.Frag} {mg : Str → Option Value} {base : Heap} {f fT CM CD CL CP CG Ps : Addr} {fd fdT : FuncData}
abbrev sMM (j : Nat) : Stmt := inClass sMaker j
theorem scMI : FnScope ["self", "name"] ["self", "name"] (defScope (sMM 0)) := ⟨rfl, rfl, rfl, by decide +kernel, rfl, by decide +kernel, by decide +kernel⟩
theorem ok_minit (F : FnP K "__init__" "Producer.__init__" (sMM 0) [] f fd) (M : TxtK2 K mg CM) : FnOk P w K mg base CX0 1 f fd ["self", "name"] (spMI CM) := by
  refine F.ok scMI (fun vs H Q E h => ?_) (fun cdv A outer s H vs Q E hr h => ?_)
  · unfold spMI at h
    obtain ⟨_, _, _, rfl, _⟩ := h; rfl
  · unfold spMI at h
    obtain ⟨m, dx, n, rfl, h1, fin⟩ := h
    refine ⟨_, PSs.nox <| pss_cons (ps_fld (pv 0) (pv 1) rfl) (pss_one (ps_fld (pv 0) pe_int rfl)), ?_⟩
    refine ⟨_, rfl, _, rfl, m, CM, dx, _, rfl, h1, M.cl, M.n, (by show 0 < 1000; decide), ?_⟩
    refine ⟨_, rfl, m, CM, dx, _, rfl, upd_same, M.cl, M.x, (by show 1 < 1000; decide), ?_⟩
    rw [upd2]
    exact fin
theorem scMS : FnScope ["self", "door", "key", "row", "time", "told"] ["self", "door", "key", "row", "time"] (defScope (sMM 1)) := ⟨rfl, rfl, rfl, by decide +kernel, rfl, by decide +kernel, by decide +kernel⟩
theorem ok_msend (F : FnP K "send" "Producer.send" (sMM 1) [] f fd) (M : TxtK2 K mg CM) (D : TxtD K mg CD) (mT : Meth K CD "take" fT) (GT : FnOk P w K mg base (L2.CX P w) 7 fT fdT ["self", "name", "number", "key", "row", "time"] (spDT CD CL CP CG Ps)) (bT : Binds K fdT ["self", "name", "number", "key", "row", "time"] []) : FnOk P w K mg base CX0 8 f fd ["self", "door", "key", "row", "time"] (spMS CM CD CL CP Ps) := by
  refine F.ok scMS (fun vs H Q E h => ?_) (fun cdv A outer s H vs Q E hr h => ?_)
  · unfold spMS at h
    obtain ⟨_, _, _, _, _, _, _, _, _, _, _, _, _, _, _, _, rfl, _⟩ := h; rfl
  · unfold spMS at h
    obtain ⟨m, dm, d, o, pd, q, a, b, c, la, tl, ps, sts, n, st, x, rfl, hm, nm, y, hc, hl, hn, hs, b1, b2, ha, hb, ok, tab, fin⟩ := h
    refine ⟨_, PSs.nox <| pss_cons (ps_set (i := 5) scMS.nd rfl (Or.inl rfl) (pe_meth (pv 1) D.cl mT GT hr bT (E := fun _ _ _ => False) .nil (passes_call L2.takes0 (fun _ _ _ _ h => h)) (pa_cons (pf 0) (pa_cons (pf 0) (pa_cons (pv 2) (pa_cons (pv 3) (pa_cons (pv 4) pa_nil)))))))
      (pss_cons (ps_fldaug (pv 0) pe_int in_add) (pss_one (ps_ret (pv 5)))), ?_⟩
    obtain ⟨dx, ob⟩ := y.dr.ob
    refine ⟨_, rfl, d, dx, _, rfl, ob, rfl, _, rfl, m, CM, dm, _, _, rfl, hm, M.cl, M.n, rfl, _, rfl, m, CM, dm, _, _, rfl, hm, M.cl, M.x, rfl, _, rfl, _, rfl, _, rfl, ?_⟩
    refine dt_step y hc hl (.inr (.inr ⟨st, x, rfl, rfl, hn, hs, b1, b2, ha, hb, ok, tab, fun H' z la' tk => ?_⟩))
    have hm' := tk.fr.keepI y tab hm nm
    refine ⟨_, rfl, m, CM, dm, _, _, rfl, hm', M.cl, M.x, rfl, _, _, rfl, rfl, dm, _, hm', (by show 2 < 1000; decide), ?_⟩
    refine ⟨_, rfl, ?_⟩
    exact fin H' z la' tk hm'
end
end KL6
set_option Elab.async false
set_option linter.all false
set_option maxRecDepth 100000
set_option maxHeartbeats 4000000
namespace KL6
open PySem PySem.Spec PyProof.Rows L2 KB KC KS KN1 LamX K7
inductive Smp : Nat → PyData → Prop
  | int {n : Nat} (i : Int) : Smp n (.int i)
  | str {n : Nat} {z : Str} : PyData.strOk z = true → Smp n (.str z)
  | lst {n : Nat} {xs : List PyData} : (∀ x ∈ xs, Smp n x) → Smp (n + 1) (.list xs)
  | tup {n : Nat} {xs : List PyData} : (∀ x ∈ xs, Smp n x) → Smp (n + 1) (.tuple xs)
theorem lay_all {xs : List PyData} {n : Nat} (h : ∀ x ∈ xs, PyData.canLay0 x = true ∧ PyData.depth x ≤ n) : PyData.canLayAll0 xs = true ∧ PyData.depthAll xs ≤ n := by
  induction xs with
  | nil => exact ⟨rfl, Nat.zero_le _⟩
  | cons x r ih =>
    obtain ⟨a, b⟩ := h x List.mem_cons_self
    obtain ⟨c, d⟩ := ih fun y hy => h y (List.mem_cons_of_mem _ hy)
    refine ⟨?_, ?_⟩
    · show (PyData.canLay0 x && PyData.canLayAll0 r) = true
      rw [a, c]; rfl
    · show max (PyData.depth x) (PyData.depthAll r) ≤ n
      omega
theorem Smp.lay {n : Nat} {d : PyData} (h : Smp n d) : PyData.canLay0 d = true ∧ PyData.depth d ≤ n := by
  induction h with
  | int i => exact ⟨rfl, Nat.zero_le _⟩
  | str hz => exact ⟨by show PyData.strOk _ = true; exact hz, Nat.zero_le _⟩
  | lst _ ih =>
    obtain ⟨a, b⟩ := lay_all ih
    exact ⟨a, by show PyData.depthAll _ + 1 ≤ _; omega⟩
  | tup _ ih =>
    obtain ⟨a, b⟩ := lay_all ih
    exact ⟨a, by show PyData.depthAll _ + 1 ≤ _; omega⟩
theorem Smp.shaped {n : Nat} {d : PyData} (h : Smp n d) (hn : n ≤ 64) : SeqAt.shaped d = true := by
  obtain ⟨a, b⟩ := h.lay
  unfold SeqAt.shaped
  rw [a, decide_eq_true (by omega)]; rfl
theorem no_iff {a : Bool} {P : Prop} (ha : a = false) (hp : ¬ P) : a = true ↔ P := ⟨fun z => (by rw [ha] at z; cases z), fun z => absurd z hp⟩
theorem eqvAll_iff {xs : List PyData} (h : ∀ x ∈ xs, ∀ e, (∃ m, Smp m e) → (PyData.eqv x e = true ↔ x = e)) : ∀ ys : List PyData, (∀ y ∈ ys, ∃ m, Smp m y) → (PyData.eqvAll xs ys = true ↔ xs = ys) := by
  induction xs with
  | nil =>
    intro ys _
    cases ys with
    | nil => exact ⟨fun _ => rfl, fun _ => rfl⟩
    | cons y r => exact no_iff rfl (fun z => by cases z)
  | cons x r ih =>
    intro ys hy
    cases ys with
    | nil => exact no_iff rfl (fun z => by cases z)
    | cons y q =>
      show (PyData.eqv x y && PyData.eqvAll r q) = true ↔ _
      rw [Bool.and_eq_true, h x List.mem_cons_self y (hy y List.mem_cons_self), ih (fun z hz => h z (List.mem_cons_of_mem _ hz)) q fun z hz => hy z (List.mem_cons_of_mem _ hz)]
      constructor
      · rintro ⟨rfl, rfl⟩; rfl
      · intro e; injection e with e1 e2; exact ⟨e1, e2⟩
theorem Smp.eqv {n : Nat} {d : PyData} (h : Smp n d) : ∀ e : PyData, (∃ m, Smp m e) → (PyData.eqv d e = true ↔ d = e) := by
  induction h with
  | int i =>
    rintro e ⟨m, he⟩
    cases he with
    | int j => rw [eqv_int, decide_eq_true_eq]; exact ⟨fun z => by rw [z], fun z => by injection z⟩
    | str _ => exact no_iff rfl (fun z => by cases z)
    | lst _ => exact no_iff rfl (fun z => by cases z)
    | tup _ => exact no_iff rfl (fun z => by cases z)
  | str hz =>
    rintro e ⟨m, he⟩
    cases he with
    | int j => exact no_iff rfl (fun z => by cases z)
    | str _ => rw [eqv_str, decide_eq_true_eq]; exact ⟨fun z => by rw [z], fun z => by injection z⟩
    | lst _ => exact no_iff rfl (fun z => by cases z)
    | tup _ => exact no_iff rfl (fun z => by cases z)
  | lst _ ih =>
    rintro e ⟨m, he⟩
    cases he with
    | int j => exact no_iff rfl (fun z => by cases z)
    | str _ => exact no_iff rfl (fun z => by cases z)
    | lst hy =>
      show PyData.eqvAll _ _ = true ↔ _
      rw [eqvAll_iff ih _ fun y hm => ⟨_, hy y hm⟩]
      exact ⟨fun z => by rw [z], fun z => by injection z⟩
    | tup _ => exact no_iff rfl (fun z => by cases z)
  | tup _ ih =>
    rintro e ⟨m, he⟩
    cases he with
    | int j => exact no_iff rfl (fun z => by cases z)
    | str _ => exact no_iff rfl (fun z => by cases z)
    | lst _ => exact no_iff rfl (fun z => by cases z)
    | tup hy =>
      show PyData.eqvAll _ _ = true ↔ _
      rw [eqvAll_iff ih _ fun y hm => ⟨_, hy y hm⟩]
      exact ⟨fun z => by rw [z], fun z => by injection z⟩
theorem Smp.refl {n : Nat} {d : PyData} (h : Smp n d) : PyData.eqv d d = true := (h.eqv d ⟨n, h⟩).mpr rfl
theorem Smp.ne {n m : Nat} {d e : PyData} (h : Smp n d) (k : Smp m e) (ne : d ≠ e) : PyData.eqv d e = false := by
  cases z : PyData.eqv d e with
  | false => rfl
  | true => exact absurd ((h.eqv e ⟨m, k⟩).mp z) ne
theorem ne_same {K : PySem.W.Frag} {H : Hp} {Q : VK} {x y : V} {d : PyData} {n : Nat} (hx : Dp K H x d) (hy : Dp K H y d) (h : Smp n d) (hn : n ≤ 64) (q : Q (.bl false) H) : rNeD K x y H Q :=
  ⟨d, d, hx, hy, h.shaped hn, h.shaped hn, by rw [h.refl]; exact q⟩
def xT : Nat → Str
  | 0 => Str.empty
  | 1 => "x"
  | 2 => "xx"
  | _ => "xxx"
def rMulX : R2 := fun x y H Q => ∃ n : Nat, x = .str "x" ∧ y = .int (n : Nat) ∧ n < 4 ∧ Q (.str (xT n)) H
theorem op_mulX4 {X : Cx} : OpR X (binaryOp .Mult) rMulX := by
  intro pins s σ H x y v u Q I rx ry h
  obtain ⟨n, rfl, rfl, hn, q⟩ := h
  obtain ⟨t, rfl⟩ := rx
  obtain ⟨t', rfl⟩ := ry
  have c : n = 0 ∨ n = 1 ∨ n = 2 ∨ n = 3 := by omega
  rcases c with rfl | rfl | rfl | rfl
  · refine PySem.P.mul_str (by decide) (fun c => absurd (show ((0 : Nat) : Int) < 1 by decide) c) (fun c => absurd (show ((0 : Nat) : Int) < 1 by decide) c) ?_
    exact ⟨by decide, ⟨.str Str.empty, H, I.tok _, ⟨_, rfl⟩, q⟩⟩
  · refine PySem.P.mul_str (by decide) (fun _ _ => by decide) (fun _ _ => by decide) ?_
    exact ⟨.str "x", H, I, ⟨_, rfl⟩, q⟩
  · refine PySem.P.mul_str (by decide) (fun _ _ => by decide) (fun _ _ => by decide) ?_
    exact ⟨by decide, ⟨.str "xx", H, I.tok _, ⟨_, rfl⟩, q⟩⟩
  · refine PySem.P.mul_str (by decide) (fun _ _ => by decide) (fun _ _ => by decide) ?_
    exact ⟨by decide, ⟨.str "xxx", H, I.tok _, ⟨_, rfl⟩, q⟩⟩
end KL6
set_option Elab.async false
set_option linter.all false
set_option maxRecDepth 100000
set_option maxHeartbeats 4000000
namespace KL6
open PySem PySem.Spec PyProof.Rows L2 KB KC KS KN1 LamX K7
def kT : Nat → Str
  | 0 => "k"
  | _ => "key"
def lawRec (a b d t step : Nat) : Rc := ([.inl (a : Int), .inr (kT b)], [.inl (step : Int), .inr (xT d)], t)
def LawRc (step : Nat) (x : Rc) : Prop := ∃ a b d t, a < 3 ∧ b < 2 ∧ d < 4 ∧ t < 300 ∧ x = lawRec a b d t step
theorem kT_ok : ∀ b < 2, badT (kT b) = false ∧ (kT b).cps.toList.length ≤ 3 ∧ (∀ c ∈ (kT b).cps.toList, c ∈ tabL) ∧ PyData.strOk (kT b) = true := by decide +kernel
theorem xT_ok : ∀ d < 4, badT (xT d) = false ∧ (xT d).cps.toList.length ≤ 3 ∧ (∀ c ∈ (xT d).cps.toList, c ∈ tabL) ∧ PyData.strOk (xT d) = true := by decide +kernel
theorem int_ok {n : Nat} (h : n ≤ 1000) : -(2 ^ 1990) < (n : Int) ∧ (n : Int) < 2 ^ 1990 := by
  have big : (1001 : Int) < 2 ^ 1990 := by decide +kernel
  omega
theorem LawRc.okB {step : Nat} {x : Rc} (hs : step ≤ 100) (h : LawRc step x) : OkB x := by
  obtain ⟨a, b, d, t, ha, hb, hd, ht, rfl⟩ := h
  obtain ⟨k1, k2, _⟩ := kT_ok b hb
  obtain ⟨x1, x2, _⟩ := xT_ok d hd
  refine ⟨fun y hy => ?_, fun y hy => ?_, by show 2 ≤ 20; decide, by show 2 ≤ 20; decide, ?_⟩
  · rcases List.mem_cons.mp hy with rfl | hy
    · exact int_ok (by omega)
    · rcases List.mem_cons.mp hy with rfl | hy
      · exact ⟨k1, by omega⟩
      · cases hy
  · rcases List.mem_cons.mp hy with rfl | hy
    · exact int_ok (by omega)
    · rcases List.mem_cons.mp hy with rfl | hy
      · exact ⟨x1, by omega⟩
      · cases hy
  · have big : (1001 : Int) < 2 ^ 2000 := by decide +kernel
    show ((t : Nat) : Int) < _
    omega
theorem valL_int {n : Nat} (h : n < 128) : valL tabL (.inl (n : Int)) = [0, (n : Int)] := by
  rw [valL_pos tabL (by omega), Int.toNat_natCast, natL_small h]
theorem valL_txt {z : Str} (h : z.cps.toList.length ≤ 3) : (valL tabL (.inr z)).length ≤ 5 := by
  show (2 :: (natL z.cps.toList.length ++ z.cps.toList.map _)).length ≤ 5
  rw [natL_small (by omega), List.length_cons, List.length_append, List.length_map]
  show 1 + z.cps.toList.length + 1 ≤ 5
  omega
theorem natL_two {n : Nat} (h : n < 300) : (natL n).length ≤ 2 := by
  by_cases c : n < 128
  · rw [natL_small c]; show 1 ≤ 2; decide
  · rw [natL_big c, natL_small (by omega)]; show 2 ≤ 2; decide
theorem LawRc.okR {step : Nat} {x : Rc} (hs : step ≤ 100) (h : LawRc step x) : OkR x := by
  obtain ⟨a, b, d, t, ha, hb, hd, ht, rfl⟩ := h
  obtain ⟨k1, k2, k3, _⟩ := kT_ok b hb
  obtain ⟨x1, x2, x3, _⟩ := xT_ok d hd
  refine ⟨fun y hy => ?_, fun y hy => ?_, by show 2 ≤ 20; decide, by show 2 ≤ 20; decide, ?_⟩
  · rcases List.mem_cons.mp hy with rfl | hy
    · exact True.intro
    · rcases List.mem_cons.mp hy with rfl | hy
      · exact k3
      · cases hy
  · rcases List.mem_cons.mp hy with rfl | hy
    · exact True.intro
    · rcases List.mem_cons.mp hy with rfl | hy
      · exact x3
      · cases hy
  · have h1 := valL_txt k2
    have h2 := valL_txt x2
    have h3 := natL_two ht
    show (rowL tabL [.inl (a : Int), .inr (kT b)] ++ (rowL tabL [.inl (step : Int), .inr (xT d)] ++ natL t)).length ≤ 20
    have e : ∀ (n : Nat) (z : Str), n < 128 → (rowL tabL [.inl (n : Int), .inr z]).length = 3 + (valL tabL (.inr z)).length := fun n z hn => by
      show (natL 2 ++ (valL tabL (.inl (n : Int)) ++ (valL tabL (.inr z) ++ []))).length = _
      rw [natL_small (by omega), valL_int hn, List.append_nil, List.length_append, List.length_append]
      show 1 + (2 + _) = _
      omega
    rw [List.length_append, List.length_append, e a _ (by omega), e step _ (by omega)]
    omega
def dK : Key → PyData
  | .inl i => .int i
  | .inr s => .str s
def rD (k : List Key) : PyData := .tuple (k.map dK)
def rcD (x : Rc) : PyData := .tuple [rD x.1, rD x.2.1, .int (x.2.2 : Nat)]
theorem dp_kV (K : PySem.W.Frag) (H : Hp) (x : Key) : Dp K H (kV x) (dK x) := by
  cases x with
  | inl i => exact .int i
  | inr s => exact .str s
theorem dp_r (K : PySem.W.Frag) {H : Hp} {q : Addr} {k : List Key} (h : H q = some (.tup (k.map kV))) : Dp K H (.ref q) (rD k) := by
  refine .tup (SqT.of h) ?_
  have go : ∀ r : List Key, DpAll K H (r.map kV) (r.map dK) := fun r => by
    induction r with
    | nil => exact .nil
    | cons y r ih => exact .cons (dp_kV K H y) ih
  exact go k
theorem dp_rc (K : PySem.W.Frag) {H : Hp} {t : Addr} {x : Rc} (h : RecAt H t x) : Dp K H (.ref t) (rcD x) := by
  obtain ⟨a, b, h1, h2, h3⟩ := h
  exact .tup (SqT.of h1) (.cons (dp_r K h2) (.cons (dp_r K h3) (.cons (.int _) .nil)))
theorem dp_recs (K : PySem.W.Frag) {H : Hp} {ts : List Addr} {xs : List Rc} (h : Recs H ts xs) : DpAll K H (ts.map V.ref) (xs.map rcD) := by
  unfold Recs at h
  induction h with
  | nil => exact .nil
  | cons a r ih => exact .cons (dp_rc K a) ih
theorem smp_int (n : Nat) (k : Int) : Smp n (dK (.inl k)) := .int k
theorem smp_r2 {n : Nat} {a : Int} {z : Str} (hz : PyData.strOk z = true) : Smp (n + 1) (rD [.inl a, .inr z]) := .tup fun x hx => by
  rcases List.mem_cons.mp hx with rfl | hx
  · exact .int _
  · rcases List.mem_cons.mp hx with rfl | hx
    · exact .str hz
    · cases hx
theorem LawRc.smp {step : Nat} {x : Rc} (h : LawRc step x) : Smp 2 (rcD x) ∧ Smp 1 (rD x.1) ∧ Smp 1 (rD x.2.1) := by
  obtain ⟨a, b, d, t, ha, hb, hd, ht, rfl⟩ := h
  obtain ⟨_, _, _, k4⟩ := kT_ok b hb
  obtain ⟨_, _, _, x4⟩ := xT_ok d hd
  refine ⟨.tup fun x hx => ?_, smp_r2 k4, smp_r2 x4⟩
  rcases List.mem_cons.mp hx with rfl | hx
  · exact smp_r2 k4
  · rcases List.mem_cons.mp hx with rfl | hx
    · exact smp_r2 x4
    · rcases List.mem_cons.mp hx with rfl | hx
      · exact .int _
      · cases hx
theorem roll_step {H : Hp} {d : Addr} {m : Int} {Q : VK} {E : XK} (i : IsDice H d) (h0 : 0 < m) (h1 : m ≤ 100000000) (q : ∀ r H', 0 ≤ r → r < m → ExD d H H' → IsDice H' d → Q (.int r) H') : spRoll [.ref d, .int m] H Q E := by
  unfold spRoll
  exact ⟨d, m, rfl, i, h0, h1, fun r a b k l u => q r _ l u (fun c o n e => by rw [L2.upd_ne n]; exact e) ⟨a, b, k, upd_same⟩⟩
theorem rounds_step {K : PySem.W.Frag} {H : Hp} {s : Addr} {ns : List Int} {Q : VK} {E : XK} (h : SqL K H s (ns.map V.int)) (fin : ∀ H' p d, Ex H H' → H' p = some (.lst [.ref d]) → IsDice H' d → Q (.ref p) H') : spRounds K [.ref s, .int 1] H Q E := by
  unfold spRounds
  exact ⟨s, ns, rfl, h, fin⟩
theorem IsDice.ex {H H' : Hp} {d : Addr} (h : IsDice H d) (e : KS.Ex H H') : IsDice H' d := by
  obtain ⟨x, y, z, hd⟩ := h
  exact ⟨x, y, z, e _ _ hd⟩
@[irreducible] def spLR : Sp := fun vs H Q _ => ∃ (dc : Addr) (step : Nat), vs = [.ref dc, .int (step : Nat)] ∧ IsDice H dc ∧ ∀ H' z x, ExD dc H H' → IsDice H' dc → LawRc step x → RecAt H' z x → Q (.ref z) H'
theorem lr_step {dc : Addr} {step : Nat} {H : Hp} {Q : VK} {E : XK} (i : IsDice H dc) (fin : ∀ H' z x, ExD dc H H' → IsDice H' dc → LawRc step x → RecAt H' z x → Q (.ref z) H') : spLR [.ref dc, .int (step : Nat)] H Q E := by
  unfold spLR
  exact ⟨dc, step, rfl, i, fin⟩
section
variable {P : Program} {w : World} {K : PySem.W.Frag} {mg : Str → Option Value} {base : Heap} {f fR : Addr} {fd fdR : FuncData}
theorem scLR : FnScope ["dice", "step"] ["dice", "step"] (defScope sLRec) := ⟨rfl, rfl, rfl, by decide +kernel, rfl, by decide +kernel, by decide +kernel⟩
theorem ok_lrec2 (F : FnP K "_law_record" "_law_record" sLRec [] f fd) (GR : FnOk P w K mg base CX0 1 fR fdR ["dice", "many"] spRoll) (gR : mg "_law_roll" = some (.ref fR)) (kR : PySem.W.keepIn K (.ref fR) = true) (bR : Binds K fdR ["dice", "many"] []) : FnOk P w K mg base CX0 2 f fd ["dice", "step"] spLR := by
  refine F.ok scLR (fun vs H Q E h => ?_) (fun cdv A outer s H vs Q E hr h => ?_)
  · unfold spLR at h
    obtain ⟨_, _, rfl, _⟩ := h; rfl
  · unfold spLR at h
    obtain ⟨dc, step, rfl, i0, fin⟩ := h
    refine ⟨_, PSs.nox <| pss_one (ps_ret (pe_tup (pa_cons (pe_tup (pa_cons (pe_call GR hr (by rfl) gR kR bR .nil pass0 (pa_cons (pv 0) (pa_cons pe_int pa_nil))) (pa_cons (pe_ix ix_listD (pe_lst (pa_cons pe_str (pa_cons pe_str pa_nil))) (pe_call GR hr (by rfl) gR kR bR .nil pass0 (pa_cons (pv 0) (pa_cons pe_int pa_nil))) (fun _ _ => rfl)) pa_nil)))
      (pa_cons (pe_tup (pa_cons (pv 1) (pa_cons (pe_op op_mulX4 pe_str (pe_call GR hr (by rfl) gR kR bR .nil pass0 (pa_cons (pv 0) (pa_cons pe_int pa_nil)))) pa_nil)))
      (pa_cons (pe_call GR hr (by rfl) gR kR bR .nil pass0 (pa_cons (pv 0) (pa_cons pe_int pa_nil))) pa_nil))))), ?_⟩
    have hz0 : sizeLine = 16777216 := rfl
    refine ⟨_, rfl, roll_step i0 (by decide) (by decide) fun r1 H1 p1 q1 e1 i1 => ?_⟩
    refine ⟨(by show 2 ≤ sizeLine; decide), fun l hl => ⟨_, rfl, roll_step (i1.ex (Ex.upd hl)) (by decide) (by decide) fun r2 H2 p2 q2 e2 i2 => ?_⟩⟩
    have hl2 : H2 l = some (.lst [.str "k", .str "key"]) := e2 _ _ (fun z => by
      obtain ⟨x, y, k, h⟩ := i1
      rw [z, h] at hl; cases hl) upd_same
    obtain ⟨a, rfl⟩ : ∃ a : Nat, r1 = (a : Int) := ⟨r1.toNat, by omega⟩
    obtain ⟨b, rfl⟩ : ∃ b : Nat, r2 = (b : Int) := ⟨r2.toNat, by omega⟩
    refine ⟨l, _, _, .str (kT b), rfl, rfl, hl2, atI_nat ?_, ?_⟩
    · have : b = 0 ∨ b = 1 := by omega
      rcases this with rfl | rfl <;> rfl
    have ex2 : ExD dc H H2 := fun c o n h => e2 c o n (Ex.upd hl _ _ (e1 c o n h))
    refine ⟨(by show 2 ≤ sizeLine; decide), fun k hk => ?_⟩
    have e3 : KS.Ex H2 (upd H2 k (.tup [.int (a : Nat), .str (kT b)])) := Ex.upd hk
    have hk3 : (upd H2 k (.tup [.int (a : Nat), .str (kT b)])) k = some (.tup [.int (a : Nat), .str (kT b)]) := upd_same
    generalize upd H2 k (.tup [.int (a : Nat), .str (kT b)]) = H3 at e3 hk3
    refine ⟨_, rfl, _, rfl, roll_step (i2.ex e3) (by decide) (by decide) fun r3 H4 p3 q3 e4 i4 => ?_⟩
    obtain ⟨d, rfl⟩ : ∃ d : Nat, r3 = (d : Int) := ⟨r3.toNat, by omega⟩
    refine ⟨d, rfl, rfl, by omega, ?_⟩
    refine ⟨(by show 2 ≤ sizeLine; decide), fun r hr' => ?_⟩
    have nk : k ≠ dc := fun z => by
      obtain ⟨x, y, c, h⟩ := i2.ex e3
      rw [z, h] at hk3; cases hk3
    have e5 : KS.Ex H4 (upd H4 r (.tup [.int (step : Nat), .str (xT d)])) := Ex.upd hr'
    have hr5 : (upd H4 r (.tup [.int (step : Nat), .str (xT d)])) r = some (.tup [.int (step : Nat), .str (xT d)]) := upd_same
    generalize upd H4 r (.tup [.int (step : Nat), .str (xT d)]) = H5 at e5 hr5
    have nr : r ≠ dc := fun z => by
      obtain ⟨x, y, c, h⟩ := i4.ex e5
      rw [z, h] at hr5; cases hr5
    refine ⟨_, rfl, roll_step (i4.ex e5) (by decide) (by decide) fun r4 H6 p4 q4 e6 i6 => ?_⟩
    obtain ⟨t, rfl⟩ : ∃ t : Nat, r4 = (t : Int) := ⟨r4.toNat, by omega⟩
    refine ⟨(by show 3 ≤ sizeLine; decide), fun z hz => ?_⟩
    have e7 : KS.Ex H6 (upd H6 z (.tup [.ref k, .ref r, .int (t : Nat)])) := Ex.upd hz
    refine fin _ z (lawRec a b d t step) (fun c o n h => e7 _ _ (e6 c o n (e5 _ _ (e4 c o n (e3 _ _ (ex2 c o n h)))))) (i6.ex e7) ⟨a, b, d, t, by omega, by omega, by omega, by omega, rfl⟩ ⟨k, r, upd_same, ?_, ?_⟩
    · exact e7 _ _ (e6 _ _ nk (e5 _ _ (e4 _ _ nk hk3)))
    · exact e7 _ _ (e6 _ _ nr hr5)
end
end KL6
set_option Elab.async false
set_option linter.all false
set_option maxRecDepth 100000
set_option maxHeartbeats 4000000
namespace KL6
open PySem PySem.Spec PyProof.Rows L2 KB KC KS KN1 LamX K7
abbrev qN : Str := "_law_sent.<locals>.<lambda>"
abbrev qL : Str := "law.<locals>.<lambda>"
abbrev TT (Ps Pn Pl : Addr) : List (Addr × Str) := [(Ps, qK), (Pn, qN), (Pl, qL)]
structure Apt (Ps Pn Pl : Addr) : Prop where
  sn : Ps ≠ Pn
  sl : Ps ≠ Pl
  nl : Pn ≠ Pl
theorem tabS_two {H H' : Hp} {P : Addr} {q : Str} (t : TabS H P q) (hP : ∀ ps, H P = some (.tbl ps) → H' P = some (.tbl ps)) (hx : ∀ b φ, H b = some (.ext φ) → H' b = some (.ext φ)) : TabS H' P q := by
  obtain ⟨ps, h1, h2, h3⟩ := t
  refine ⟨ps, hP _ h1, h2, fun pos cv hc => ?_⟩
  obtain ⟨c, e1, e2⟩ := h3 pos cv hc
  exact ⟨c, e1, hx _ _ e2⟩
structure St (Ps Pn Pl d : Addr) (H : Hp) : Prop where
  ts : TabS H Ps qK
  tn : TabS H Pn qN
  tl : TabS H Pl qL
  dice : IsDice H d
def Kp (d : Addr) (H H' : Hp) : Prop := ∀ b o, b ≠ d → H b = some o → (∀ ps, o ≠ .tbl ps) → H' b = some o
theorem Kp.trans {d : Addr} {H H1 H2 : Hp} (a : Kp d H H1) (b : Kp d H1 H2) : Kp d H H2 := fun x o n h t => b x o n (a x o n h t) t
theorem Kp.of {d : Addr} {H H' : Hp} (e : KS.Ex H H') : Kp d H H' := fun b o _ h _ => e b o h
theorem Kp.refl (d : Addr) (H : Hp) : Kp d H H := Kp.of (Ex.refl H)
theorem Kp.exD {d : Addr} {H H' : Hp} (e : ExD d H H') : Kp d H H' := fun b o n h _ => e b o n h
theorem keepTb {Ps : Addr} {H H' : Hp} (t : TabS H Ps qK) (e : Tb Ps H H') {b : Addr} {o : HO} (h : H b = some o) (n : ∀ ps, o ≠ .tbl ps) : H' b = some o := by
  obtain ⟨ps, hP, _⟩ := t
  exact e.2 b o (fun z => by rw [z, hP] at h; exact n _ (Option.some.inj h).symm) h
theorem Kp.tb {d Ps : Addr} {H H' : Hp} (t : TabS H Ps qK) (e : Tb Ps H H') : Kp d H H' := fun b o _ h n => keepTb t e h n
theorem Kp.exN {d : Addr} {H H' : Hp} (e : ExtN H H') : Kp d H H' := fun b o _ h n => e b o h n
section
variable {Ps Pn Pl d : Addr} {H H' : Hp}
theorem tabs_mk (a : TabS H Ps qK) (b : TabS H Pn qN) (c : TabS H Pl qL) : Tabs (TT Ps Pn Pl) H := fun x hx => by
  rcases List.mem_cons.mp hx with rfl | hx
  · exact a
  rcases List.mem_cons.mp hx with rfl | hx
  · exact b
  rcases List.mem_cons.mp hx with rfl | hx
  · exact c
  cases hx
theorem St.tabs (s : St Ps Pn Pl d H) : Tabs (TT Ps Pn Pl) H := tabs_mk s.ts s.tn s.tl
theorem St.dne (s : St Ps Pn Pl d H) {b : Addr} {o : HO} (h : H b = some o) (n : ∀ xs, o ≠ .lst xs) : b ≠ d := fun z => by
  obtain ⟨x, y, k, q⟩ := s.dice
  rw [z, q] at h
  exact n _ (Option.some.inj h).symm
theorem St.ex (s : St Ps Pn Pl d H) (e : KS.Ex H H') : St Ps Pn Pl d H' := ⟨s.ts.ext e, s.tn.ext e, s.tl.ext e, s.dice.ex e⟩
theorem St.exD (s : St Ps Pn Pl d H) (e : ExD d H H') (i : IsDice H' d) : St Ps Pn Pl d H' :=
  have go : ∀ {P : Addr} {q : Str}, TabS H P q → TabS H' P q := fun t => tabS_two t (fun ps h => e _ _ (s.dne h (fun _ z => nomatch z)) h) (fun b φ h => e _ _ (s.dne h (fun _ z => nomatch z)) h)
  ⟨go s.ts, go s.tn, go s.tl, i⟩
theorem St.tb (s : St Ps Pn Pl d H) (ap : Apt Ps Pn Pl) (e : Tb Ps H H') : St Ps Pn Pl d H' := by
  have go : ∀ {P : Addr} {q : Str}, P ≠ Ps → TabS H P q → TabS H' P q := fun n t => tabS_two t (fun ps h => e.2 _ _ n h) (fun b φ h => keepTb s.ts e h (fun _ z => nomatch z))
  obtain ⟨x, y, k, q⟩ := s.dice
  exact ⟨e.1, go ap.sn.symm s.tn, go ap.sl.symm s.tl, ⟨x, y, k, keepTb s.ts e q (fun _ z => nomatch z)⟩⟩
theorem St.exN (s : St Ps Pn Pl d H) (e : ExtN H H') (t : Tabs (TT Ps Pn Pl) H') : St Ps Pn Pl d H' := by
  obtain ⟨x, y, k, q⟩ := s.dice
  exact ⟨t _ (List.mem_cons_self ..), t _ (List.mem_cons_of_mem _ (List.mem_cons_self ..)), t _ (List.mem_cons_of_mem _ (List.mem_cons_of_mem _ (List.mem_cons_self ..))), ⟨x, y, k, e _ _ q (fun _ z => nomatch z)⟩⟩
theorem St.wr (s : St Ps Pn Pl d H) {r : Addr} {o u : HO} (h : H r = some o) (n1 : ∀ ps, o ≠ .tbl ps) (n2 : ∀ φ, o ≠ .ext φ) (n3 : r ≠ d) : St Ps Pn Pl d (upd H r u) := by
  have go : ∀ {P : Addr} {q : Str}, TabS H P q → TabS (upd H r u) P q := fun t => tabS_two t (fun ps hb => by rw [L2.upd_ne (fun z => by rw [z, h] at hb; exact n1 _ (Option.some.inj hb))]; exact hb) (fun b φ hb => by rw [L2.upd_ne (fun z => by rw [z, h] at hb; exact n2 _ (Option.some.inj hb))]; exact hb)
  obtain ⟨x, y, k, q⟩ := s.dice
  exact ⟨go s.ts, go s.tn, go s.tl, ⟨x, y, k, by rw [L2.upd_ne n3.symm]; exact q⟩⟩
end
theorem PtA.exN {CP p l : Addr} {kb wb : List Int} {xs : List Rc} {fi : Nat} {H H' : Hp} (x : PtA CP p l kb wb xs fi H) (e : ExtN H H') : PtA CP p l kb wb xs fi H' := by
  obtain ⟨dx, k, v, ts, h1, h2, h3, h4, h5⟩ := x
  exact ⟨dx, k, v, ts, e _ _ h1 (fun _ z => nomatch z), e _ _ h2 (fun _ z => nomatch z), e _ _ h3 (fun _ z => nomatch z), e _ _ h4 (fun _ z => nomatch z), h5.kt fun b ys h => e _ _ h (fun _ z => nomatch z)⟩
theorem PtA.kp {CP p l d : Addr} {kb wb : List Int} {xs : List Rc} {fi : Nat} {H H' : Hp} (x : PtA CP p l kb wb xs fi H) (i : IsDice H d) (e : Kp d H H') (n : l ≠ d) : PtA CP p l kb wb xs fi H' := by
  obtain ⟨dx, k, v, ts, h1, h2, h3, h4, h5⟩ := x
  obtain ⟨a, b, c, hd⟩ := i
  exact ⟨dx, k, v, ts, e _ _ (fun z => by rw [z, hd] at h1; cases h1) h1 (fun _ z => nomatch z), e _ _ (fun z => by rw [z, hd] at h2; cases h2) h2 (fun _ z => nomatch z), e _ _ (fun z => by rw [z, hd] at h3; cases h3) h3 (fun _ z => nomatch z), e _ _ n h4 (fun _ z => nomatch z), h5.kt fun b ys h => e _ _ (fun z => by rw [z, hd] at h; cases h) h (fun _ z => nomatch z)⟩
theorem Kp.kt {d : Addr} {H H' : Hp} (e : Kp d H H') (i : IsDice H d) : KT' H H' := fun b xs h => e _ _ (fun z => by
  obtain ⟨x, y, k, q⟩ := i
  rw [z, q] at h; cases h) h (fun _ z => nomatch z)
theorem LogA.kp {CL CP o q d : Addr} {ps : List (Addr × Addr)} {sts : List PS} {H H' : Hp} (x : LogA CL CP o q ps sts H) (i : IsDice H d) (e : Kp d H H') (n1 : q ≠ d) (n2 : d ∉ ps.map (·.2)) : LogA CL CP o q ps sts H' := by
  obtain ⟨a, b, c, hd⟩ := id i
  exact x.keep (fun b C dx fs h => e _ _ (fun z => by rw [z, hd] at h; cases h) h (fun _ z => nomatch z)) (e.kt i) fun b ys hb h => e _ _ (fun z => by
    rcases hb with r | r
    · exact n1 (by rw [← r, z])
    · exact n2 (by rw [← z]; exact r)) h (fun _ z => nomatch z)
theorem DL.kp {CD CL CP d o pd q dc : Addr} {c : Nat} {la : Str → Addr} {tl : Str → List Spot} {ps : List (Addr × Addr)} {sts : List PS} {H H' : Hp} (y : DL CD CL CP d o pd q c la tl ps sts H) (i : IsDice H dc) (e : Kp dc H H') (n1 : q ≠ dc) (n2 : dc ∉ ps.map (·.2)) (n3 : ∀ n, tl n ≠ [] → la n ≠ dc) : DL CD CL CP d o pd q c la tl ps sts H' := by
  obtain ⟨a, b, c', hd⟩ := id i
  have ki : ∀ {b : Addr} {u : HO}, H b = some u → (∀ xs, u ≠ .lst xs) → (∀ ps, u ≠ .tbl ps) → H' b = some u := fun {b u} h m1 m2 => e _ _ (fun z => by rw [z, hd] at h; exact m1 _ (Option.some.inj h).symm) h m2
  obtain ⟨dx, ob⟩ := y.dr.ob
  obtain ⟨kvs, h1, h2⟩ := y.dr.dc
  refine ⟨⟨⟨dx, ki ob (fun _ z => nomatch z) (fun _ z => nomatch z)⟩, ⟨kvs, ki h1 (fun _ z => nomatch z) (fun _ z => nomatch z), h2⟩, fun n hn => ?_, y.dr.nj⟩, y.lg.kp i e n1 n2, y.s1, y.s2⟩
  obtain ⟨ts, g1, g2⟩ := y.dr.ls n hn
  exact ⟨ts, e _ _ (n3 n hn) g1 (fun _ z => nomatch z), spots_kt g2 (e.kt i)⟩
def Cal (P : Program) (w : World) (K : PySem.W.Frag) (mg : Str → Option Value) (base : Heap) (CX : CXT) (k : Nat) (x : Str) (ps : List Str) (sp : Sp) : Prop :=
  ∃ f fd, FnOk P w K mg base CX k f fd ps sp ∧ mg x = some (.ref f) ∧ PySem.W.keepIn K (.ref f) = true ∧ Binds K fd ps []
def CalM (P : Program) (w : World) (K : PySem.W.Frag) (mg : Str → Option Value) (base : Heap) (C : Addr) (CX : CXT) (k : Nat) (m : Str) (ps : List Str) (sp : Sp) : Prop :=
  ∃ f fd, FnOk P w K mg base CX k f fd ps sp ∧ Meth K C m f ∧ Binds K fd ps []
def CalI (P : Program) (w : World) (K : PySem.W.Frag) (mg : Str → Option Value) (base : Heap) (C : Addr) (CX : CXT) (k : Nat) (ps : List Str) (sp : Sp) : Prop :=
  ∃ f fd, FnOk P w K mg base CX k f fd ps sp ∧ Mk K C f ∧ Binds K fd ps []
structure LawE (P : Program) (w : World) (K : PySem.W.Frag) (mg : Str → Option Value) (base : Heap) (CP CL CD CM CG CR Ps Pn Pl cN cL fTo : Addr) (fdTo : FuncData) : Prop where
  T : TxtL mg
  M : TxtM mg
  G : TxtG K mg CG
  TP : TxtP K mg CP
  TO : TxtO K mg CL
  TD : TxtD K mg CD
  TM : TxtK2 K mg CM
  TBn : LamX.TabB base mg cN Pn
  TBl : LamX.TabB base mg cL Pl
  ap : Apt Ps Pn Pl
  rounds : Cal P w K mg base CX0 2 "_law_rounds" ["script", "most"] (spRounds K)
  roll : Cal P w K mg base CX0 1 "_law_roll" ["dice", "many"] spRoll
  lrec : Cal P w K mg base CX0 2 "_law_record" ["dice", "step"] spLR
  lbytes : Cal P w K mg base CX0 4 "_law_bytes" ["record"] (spLRec Ps)
  lsum : Cal P w K mg base CX0 1 "_law_sum" ["data"] spSum
  sum : Cal P w K mg base CX0 1 "sum_of_bytes" ["data"] spSum
  recb : Cal P w K mg base CX0 4 "record_bytes" ["key", "row", "time"] (spRec CR Ps)
  reads : Cal P w K mg base CX0 8 "read_records" ["data"] spReads
  hash : Cal P w K mg base (L2.CX P w) 4 "hash_of" ["row"] (spHash Ps)
  pinit : CalI P w K mg base CP CX0 1 ["self"] (spPI CP)
  papp : CalM P w K mg base CP (L2.CX P w) 5 "append" ["self", "key", "row", "time"] (spPA CP CG CR Ps)
  psync : CalM P w K mg base CP CX0 1 "sync" ["self"] (spPS CP Ps)
  pend : CalM P w K mg base CP CX0 1 "end" ["self"] (spPE CP)
  pcrash : CalM P w K mg base CP CX0 9 "crash" ["self", "many"] (spPC CP Ps)
  pread : CalM P w K mg base CP (L2.CX P w) 2 "read" ["self", "place", "most"] (spPR CP CG)
  ptrim : CalM P w K mg base CP CX0 5 "trim" ["self", "place"] (spPT CP Ps)
  linit : CalI P w K mg base CL (L2.CX P w) 3 ["self", "many"] (spLI CL CP CG)
  lpart : CalM P w K mg base CL CX0 5 "part_of" ["self", "key"] (spPO CL CP Ps)
  lapp : CalM P w K mg base CL CX0 6 "append" ["self", "key", "row", "time"] (spLA CL CP Ps)
  lsync : CalM P w K mg base CL CX0 2 "sync" ["self"] (spLS CL CP Ps)
  llat : CalM P w K mg base CL CX0 2 "latest" ["self"] (spLL CL CP)
  dinit : CalI P w K mg base CD CX0 1 ["self", "log"] (spDI CD)
  dtake : CalM P w K mg base CD (L2.CX P w) 7 "take" ["self", "name", "number", "key", "row", "time"] (spDT CD CL CP CG Ps)
  minit : CalI P w K mg base CM CX0 1 ["self", "name"] (spMI CM)
  msend : CalM P w K mg base CM CX0 8 "send" ["self", "door", "key", "row", "time"] (spMS CM CD CL CP Ps)
  told : FnP K "_law_told" "_law_told" sTold [] fTo fdTo
  gTold : mg "_law_told" = some (.ref fTo)
abbrev nSt : List Str := ["dice", "log", "own", "sent", "door", "makers", "step", "maker", "key", "row", "time", "number", "spot", "old", "one", "part", "k"]
theorem scSt : FnScope nSt ["dice"] (defScope sSent) := ⟨rfl, rfl, rfl, by decide +kernel, rfl, by decide +kernel, by decide +kernel⟩
abbrev pS : Stmt := .Pass ⟨0, 0, 0, 0⟩
def forBody : Stmt → List Stmt
  | .For _ _ b _ _ => b
  | _ => []
abbrev sSt (i : Nat) : Stmt := (defBody sSent).getD i pS
abbrev sSf (i : Nat) : Stmt := (forBody (sSt 2)).getD i pS
theorem sSt_len : (defBody sSent).length = 4 := rfl
theorem sSf_len : (forBody (sSt 2)).length = 5 := rfl
abbrev xS (P : Program) (w : World) (K : PySem.W.Frag) (mg : Str → Option Value) (base : Heap) (fS cN : Addr) (A : Around) (outer : List PySem.Env) (s : Shared) (H0 : Hp) (E0' : XK) : Cx := (cxOf CX0 P w K mg base nSt "_law_sent" (defScope sSent) fS (.ref cN) A outer s H0 E0').nox
end KL6
set_option Elab.async false
set_option linter.all false
set_option maxRecDepth 100000
set_option maxHeartbeats 4000000
namespace KL6
open PySem PySem.Spec PyProof.Rows L2 KB KC KS KN1 LamX K7
structure SA where
  (d o pd q ml m1 m2 dm1 dm2 se : Addr)
  ps : List (Addr × Addr)
structure SV where
  c : Nat
  la : Str → Addr
  tl : Str → List Spot
  sts : List PS
  os : List Nat
  kvs : List (List Key × V)
  ow : Addr
def cnt (os : List Nat) (k : Nat) : Nat := (os.filter fun n => decide (n = k)).length
structure SI (CD CL CP CM Ps Pn Pl dc : Addr) (HB : Hp) (i : Nat) (a : SA) (v : SV) (H : Hp) : Prop where
  st : St Ps Pn Pl dc H
  dl : DL CD CL CP a.d a.o a.pd a.q v.c v.la v.tl a.ps v.sts H
  ow : H v.ow = some (.lst (v.os.map fun n => V.int ((n : Nat) : Int)))
  se : H a.se = some (.dT v.kvs)
  ml : H a.ml = some (.lst [.ref a.m1, .ref a.m2])
  a1 : H a.m1 = some (.ins CM a.dm1 (mF "p" (v.tl "p").length))
  a2 : H a.m2 = some (.ins CM a.dm2 (mF "q" (v.tl "q").length))
  sn : ∀ n j s, (v.tl n)[j]? = some s → ∃ t, valV v.kvs [.inr n, .inl ((j : Nat) : Int)] = some (.ref t) ∧ SpotAt H t s
  cn : ∀ k st, v.sts[k]? = some st → st.2.2.length = cnt v.os k
  bd : ∀ st ∈ v.sts, st.2.1.length ≤ 25 * i ∧ st.2.2.length ≤ i
  bl : ∀ n, (v.tl n).length ≤ i
  bc : v.c ≤ i ∧ v.kvs.length ≤ i ∧ v.os.length ≤ i
  hn : 0 < a.ps.length ∧ a.ps.length ≤ 4
  p1 : v.ow ∉ a.ps.map (·.2) ∧ a.ml ∉ a.ps.map (·.2) ∧ dc ∉ a.ps.map (·.2)
  p2 : ∀ n, v.tl n ≠ [] → v.la n ≠ v.ow ∧ v.la n ≠ a.ml ∧ v.la n ≠ dc
  p3 : (a.m1 ∉ a.ps.map (·.1) ∧ a.m2 ∉ a.ps.map (·.1)) ∧ a.m1 ≠ a.m2 ∧ (a.m1 ≠ a.d ∧ a.m1 ≠ a.o) ∧ a.m2 ≠ a.d ∧ a.m2 ≠ a.o
  p4 : a.q ≠ dc ∧ v.ow ≠ dc ∧ a.ml ≠ dc
  kb : Kp dc HB H
  fb : (∀ pl ∈ a.ps, HB pl.1 = none ∧ HB pl.2 = none) ∧ HB a.pd = none ∧ HB a.se = none ∧ (HB a.m1 = none ∧ HB a.m2 = none) ∧ ∀ n, v.tl n ≠ [] → ∀ u, HB (v.la n) = some u → ∃ tb, u = .tbl tb
theorem none_ex {H H' : Hp} {b : Addr} (e : KS.Ex H H') (h : H' b = none) : H b = none := by
  cases z : H b with
  | none => rfl
  | some u => rw [e _ _ z] at h; cases h
section
variable {P : Program} {w : World} {K : PySem.W.Frag} {mg : Str → Option Value} {base : Heap} {CP CL CD CM CG CR Ps Pn Pl cN cL fTo fS : Addr} {fdTo : FuncData} {A : Around} {outer : List PySem.Env} {s : Shared} {H0 : Hp} {E0' : XK}
theorem g_begin (ve : LawE P w K mg base CP CL CD CM CG CR Ps Pn Pl cN cL fTo fdTo) (hr : Room 14 (xS P w K mg base fS cN A outer s H0 E0').A) :
    ∃ t0 t1, L2.PS (xS P w K mg base fS cN A outer s H0 E0') (sSt 0) t0 ∧ L2.PS (xS P w K mg base fS cN A outer s H0 E0') (sSt 1) t1 ∧ ∀ (D : Ends) (HB : Hp) (dc : Addr) (tr : TS), St Ps Pn Pl dc HB →
      (∀ (H : Hp) (a : SA) (v : SV), SI CD CL CP CM Ps Pn Pl dc HB 0 a v H → tr D [some (.ref dc), some (.ref a.o), some (.ref v.ow), some (.ref a.se), some (.ref a.d), some (.ref a.ml), none, none, none, none, none, none, none, none, none, none, none] H) →
      tSeq t0 (tSeq t1 tr) D [some (.ref dc), none, none, none, none, none, none, none, none, none, none, none, none, none, none, none, none] HB := by
  obtain ⟨fR, fdR, GR, gR, kR, bR⟩ := ve.roll
  obtain ⟨fL, fdL, GL, ML, bL⟩ := ve.linit
  obtain ⟨fD, fdD, GD, MD, bD⟩ := ve.dinit
  obtain ⟨fM, fdM, GM, MM, bM⟩ := ve.minit
  refine ⟨_, _, ps_asg (pe_tup (pa_cons (pe_make (CX := L2.CX P w) ML GL (hr.mono (by decide)) (by rfl) ve.TO.g bL (E := fun _ _ _ => False) .nil (passes_call L2.takes0 (fun _ _ _ _ h => h)) (pa_cons (pe_op op_add pe_int (pe_call GR (hr.mono (by decide)) (by rfl) gR kR bR .nil pass0 (pa_cons (pv 0) (pa_cons pe_int pa_nil)))) pa_nil)) (pa_cons (pe_lst pa_nil) (pa_cons pe_dnewT pa_nil))))
      (pg_tup rfl (pgs_cons (pg_name (i := 1) scSt.nd rfl (Or.inr rfl)) (pgs_cons (pg_name (i := 2) scSt.nd rfl (Or.inr rfl)) (pgs_cons (pg_name (i := 3) scSt.nd rfl (Or.inl rfl)) pgs_nil)))),
    ps_asg (pe_tup (pa_cons (pe_make MD GD (hr.mono (by decide)) (by rfl) ve.TD.g bD .nil pass0 (pa_cons (pv 1) pa_nil)) (pa_cons (pe_lst (pa_cons (pe_make MM GM (hr.mono (by decide)) (by rfl) ve.TM.g bM .nil pass0 (pa_cons pe_str pa_nil)) (pa_cons (pe_make MM GM (hr.mono (by decide)) (by rfl) ve.TM.g bM .nil pass0 (pa_cons pe_str pa_nil)) pa_nil))) pa_nil)))
      (pg_tup rfl (pgs_cons (pg_name (i := 4) scSt.nd rfl (Or.inr rfl)) (pgs_cons (pg_name (i := 5) scSt.nd rfl (Or.inl rfl)) pgs_nil))), ?_⟩
  intro D HB dc tr st fin
  refine ⟨_, rfl, roll_step st.dice (by decide) (by decide) fun r H1 r0 r4 e1 i1 => ⟨_, _, rfl, rfl, fun o dxo ho hdo nd => ?_⟩⟩
  have s1 := st.exD e1 i1
  obtain ⟨n, hn⟩ : ∃ n : Nat, 1 + r = (n : Int) := ⟨(1 + r).toNat, by omega⟩
  have e2 : KS.Ex H1 (upd (upd H1 dxo (.own o)) o (.ins CL dxo [])) := (Ex.upd hdo).trans (Ex.upd (by rw [L2.upd_ne nd.symm]; exact ho))
  have o2 : (upd (upd H1 dxo (.own o)) o (.ins CL dxo [])) o = some (.ins CL dxo []) := upd_same
  show spLI CL CP CG [.ref o, .int (1 + r)] _ _ _
  rw [hn]
  generalize upd (upd H1 dxo (.own o)) o (.ins CL dxo []) = H2 at e2 o2
  refine li_step o2 (by omega) (by omega) (fun c => absurd ⟨by omega, by omega⟩ c) fun _ H3 q ps e3 lg hq hps => ⟨rfl, ?_⟩
  have ex3 : KS.Ex H1 H3 := fun b u h => e3 b u (ne_of_none h ho) (e2 b u h)
  have s3 := s1.ex ex3
  refine ⟨by decide, fun ow how => ?_⟩
  have e4 : KS.Ex H3 (upd H3 ow (.lst [])) := Ex.upd how
  have ow4 : (upd H3 ow (.lst [])) ow = some (.lst []) := upd_same
  generalize upd H3 ow (.lst []) = H4 at e4 ow4
  refine fun se hse => ?_
  have e5 : KS.Ex H4 (upd H4 se (.dT [])) := Ex.upd hse
  have se5 : (upd H4 se (.dT [])) se = some (.dT []) := upd_same
  show 3 ≤ sizeLine ∧ _
  generalize upd H4 se (.dT []) = H5 at e5 se5
  refine ⟨by decide, fun z hz => ⟨z, _, rfl, SqT.of upd_same, rfl, _, _, rfl, _, _, rfl, _, _, rfl, rfl, ?_⟩⟩
  have e6 : KS.Ex H5 (upd H5 z (.tup [.ref o, .ref ow, .ref se])) := Ex.upd hz
  generalize upd H5 z (.tup [.ref o, .ref ow, .ref se]) = H6 at e6
  have ex6 : KS.Ex H3 H6 := (e4.trans e5).trans e6
  refine ⟨_, rfl, fun d dxd hd hdd ndd => ?_⟩
  have e7 : KS.Ex H6 (upd (upd H6 dxd (.own d)) d (.ins CD dxd [])) := (Ex.upd hdd).trans (Ex.upd (by rw [L2.upd_ne ndd.symm]; exact hd))
  have d7 : (upd (upd H6 dxd (.own d)) d (.ins CD dxd [])) d = some (.ins CD dxd []) := upd_same
  show spDI CD [.ref d, .ref o] _ _ _
  generalize upd (upd H6 dxd (.own d)) d (.ins CD dxd []) = H7 at e7 d7
  refine di_step d7 fun H8 pd e8 hpd dr => ⟨rfl, fun m1 dm1 hm1 hdm1 nm1 => ?_⟩
  have ex8 : KS.Ex H6 H8 := fun b u h => e8 b u (ne_of_none h hd) (e7 b u h)
  have e9 : KS.Ex H8 (upd (upd H8 dm1 (.own m1)) m1 (.ins CM dm1 (mF "p" 0))) := (Ex.upd hdm1).trans (Ex.upd (by rw [L2.upd_ne nm1.symm]; exact hm1))
  have m9 : (upd (upd H8 dm1 (.own m1)) m1 (.ins CM dm1 (mF "p" 0))) m1 = some (.ins CM dm1 (mF "p" 0)) := upd_same
  show spMI CM [.ref m1, .str "p"] (upd (upd H8 dm1 (.own m1)) m1 (.ins CM dm1 [])) _ _
  refine mi_step upd_same ?_
  rw [upd2]
  generalize upd (upd H8 dm1 (.own m1)) m1 (.ins CM dm1 (mF "p" 0)) = H9 at e9 m9
  refine ⟨rfl, fun m2 dm2 hm2 hdm2 nm2 => ?_⟩
  have e10 : KS.Ex H9 (upd (upd H9 dm2 (.own m2)) m2 (.ins CM dm2 (mF "q" 0))) := (Ex.upd hdm2).trans (Ex.upd (by rw [L2.upd_ne nm2.symm]; exact hm2))
  have m10 : (upd (upd H9 dm2 (.own m2)) m2 (.ins CM dm2 (mF "q" 0))) m2 = some (.ins CM dm2 (mF "q" 0)) := upd_same
  show spMI CM [.ref m2, .str "q"] (upd (upd H9 dm2 (.own m2)) m2 (.ins CM dm2 [])) _ _
  refine mi_step upd_same ?_
  rw [upd2]
  generalize upd (upd H9 dm2 (.own m2)) m2 (.ins CM dm2 (mF "q" 0)) = H10 at e10 m10
  refine ⟨rfl, (by show 2 ≤ sizeLine; decide), fun mk hmk => ?_⟩
  have e11 : KS.Ex H10 (upd H10 mk (.lst [.ref m1, .ref m2])) := Ex.upd hmk
  have k11 : (upd H10 mk (.lst [.ref m1, .ref m2])) mk = some (.lst [.ref m1, .ref m2]) := upd_same
  show 2 ≤ sizeLine ∧ _
  generalize upd H10 mk (.lst [.ref m1, .ref m2]) = H11 at e11 k11
  refine ⟨by decide, fun z hz => ⟨z, _, rfl, SqT.of upd_same, rfl, _, _, rfl, _, _, rfl, rfl, ?_⟩⟩
  have e12 : KS.Ex H11 (upd H11 z (.tup [.ref d, .ref mk])) := Ex.upd hz
  generalize upd H11 z (.tup [.ref d, .ref mk]) = H12 at e12
  have nb : ∀ b, H1 b = none → HB b = none := fun b hb => by
    cases y : HB b with
    | none => rfl
    | some u =>
      by_cases c : b = dc
      · obtain ⟨x1, x2, x3, x4⟩ := i1
        rw [c, x4] at hb; cases hb
      · rw [e1 b u c y] at hb; cases hb
  have f36 : KS.Ex H3 H8 := ex6.trans ex8
  have f8 : KS.Ex H8 H12 := ((e9.trans e10).trans e11).trans e12
  have f3 : KS.Ex H3 H12 := f36.trans f8
  obtain ⟨x1, x2, x3, dcv⟩ := i1
  have dc2 := e2 _ _ dcv
  have dc3 := ex3 _ _ dcv
  obtain ⟨dl0, ob3⟩ := lg.ob
  have n1 : ∀ {b : Addr}, H3 b = none → H1 b = none := fun h => none_ex ex3 h
  have n8 : ∀ {b : Addr}, H8 b = none → H1 b = none := fun h => n1 (none_ex f36 h)
  have hpd6 : H6 pd = none := none_ex e7 hpd
  have sse : H3 se = none := none_ex e4 hse
  have hm2' : H8 m2 = none := none_ex e9 hm2
  obtain ⟨dx8, ob8⟩ := (dr fun _ => 0).ob
  refine fin H12 ⟨d, o, pd, q, mk, m1, m2, dm1, dm2, se, ps⟩ ⟨0, fun _ => 0, fun _ => [], List.replicate n ps0, [], [], ow⟩
    { st := s3.ex f3, dl := ⟨(dr fun _ => 0).ex f8, ?_, fun m h => absurd rfl h, fun hm => ?_⟩, ow := (e5.trans e6) |>.trans (ex8.trans f8) _ _ ow4, se := (e6.trans (ex8.trans f8)) _ _ se5, ml := e12 _ _ k11, a1 := ((e10.trans e11).trans e12) _ _ m9, a2 := (e11.trans e12) _ _ m10, sn := fun m j s h => (nomatch h), cn := fun k st' h => ?_, bd := fun st' h => ?_, bl := fun m => Nat.le_refl _, bc := ⟨Nat.le_refl _, Nat.le_refl _, Nat.le_refl _⟩, hn := ?_, p1 := ⟨fun hm => ?_, fun hm => ?_, fun hm => ?_⟩, p2 := fun m h => absurd rfl h, p3 := ⟨⟨fun hm => ?_, fun hm => ?_⟩, fun z => ?_, ⟨fun z => ?_, fun z => ?_⟩, fun z => ?_, fun z => ?_⟩, p4 := ⟨fun z => ?_, fun z => ?_, fun z => ?_⟩, kb := (Kp.exD e1).trans (Kp.of (ex3.trans f3)), fb := ⟨fun pl hpl => ?_, nb _ (n1 (none_ex ex6 hpd6)), nb _ (n1 sse), ⟨nb _ (n8 hm1), nb _ (n8 hm2')⟩, fun m h => absurd rfl h⟩ }
  · have e := Int.toNat_natCast n
    rw [e] at lg
    exact lg.ex f3
  · obtain ⟨_, _, _, e⟩ := lg.insts hm
    rw [ex6 _ _ e] at hd; cases hd
  · have := List.eq_of_mem_replicate (List.mem_of_getElem? h)
    rw [this]; rfl
  · have := List.eq_of_mem_replicate h
    rw [this]; exact ⟨Nat.le_refl _, Nat.le_refl _⟩
  · have e := lg.len
    rw [List.length_replicate, Int.toNat_natCast] at e
    show 0 < ps.length ∧ ps.length ≤ 4
    omega
  · obtain ⟨_, e⟩ := lg.lists hm
    rw [e] at how; cases how
  · obtain ⟨_, e⟩ := lg.lists hm
    have := e10 _ _ (e9 _ _ (f36 _ _ e))
    rw [hmk] at this; cases this
  · obtain ⟨pl, hpl, e⟩ := List.mem_map.mp hm
    have := (hps pl hpl).2
    rw [e, dc2] at this; cases this
  · obtain ⟨_, _, _, e⟩ := lg.insts hm
    rw [f36 _ _ e] at hm1; cases hm1
  · obtain ⟨_, _, _, e⟩ := lg.insts hm
    rw [f36 _ _ e] at hm2'; cases hm2'
  · have : m1 = m2 := z
    rw [← this, m9] at hm2; cases hm2
  · have : m1 = d := z
    rw [this, ob8] at hm1; cases hm1
  · have : m1 = o := z
    rw [this, f36 _ _ ob3] at hm1; cases hm1
  · have : m2 = d := z
    rw [this, ob8] at hm2'; cases hm2'
  · have : m2 = o := z
    rw [this, f36 _ _ ob3] at hm2'; cases hm2'
  · have : q = dc := z
    rw [this, dc2] at hq; cases hq
  · have : ow = dc := z
    rw [this, dc3] at how; cases how
  · have : mk = dc := z
    rw [this, (e10 _ _ (e9 _ _ (f36 _ _ dc3)))] at hmk; cases hmk
  · obtain ⟨h1, h2⟩ := hps pl hpl
    exact ⟨nb _ (none_ex e2 h1), nb _ (none_ex e2 h2)⟩
end
end KL6
set_option Elab.async false
set_option linter.all false
set_option maxRecDepth 100000
set_option maxHeartbeats 4000000
namespace KL6
open PySem PySem.Spec PyProof.Rows L2 KB KC KS KN1 LamX K7
theorem SI.kp {CD CL CP CM Ps Pn Pl dc : Addr} {HB : Hp} {i : Nat} {a : SA} {v : SV} {H H' : Hp} (x : SI CD CL CP CM Ps Pn Pl dc HB i a v H) (s : St Ps Pn Pl dc H') (e : Kp dc H H') : SI CD CL CP CM Ps Pn Pl dc HB i a v H' := by
  have k : ∀ {b : Addr} {o : HO}, H b = some o → (∀ xs, o ≠ .lst xs) → (∀ ps, o ≠ .tbl ps) → H' b = some o := fun {b o} h n1 n2 => e _ _ (x.st.dne h n1) h n2
  exact { st := s, dl := x.dl.kp x.st.dice e x.p4.1 x.p1.2.2 (fun n hn => (x.p2 n hn).2.2), ow := e _ _ x.p4.2.1 x.ow (fun _ z => nomatch z), se := k x.se (fun _ z => nomatch z) (fun _ z => nomatch z), ml := e _ _ x.p4.2.2 x.ml (fun _ z => nomatch z), a1 := k x.a1 (fun _ z => nomatch z) (fun _ z => nomatch z), a2 := k x.a2 (fun _ z => nomatch z) (fun _ z => nomatch z), sn := fun n j s' h => (let ⟨t, h1, h2⟩ := x.sn n j s' h; ⟨t, h1, e.kt x.st.dice _ _ h2⟩), cn := x.cn, bd := x.bd, bl := x.bl, bc := x.bc, hn := x.hn, p1 := x.p1, p2 := x.p2, p3 := x.p3, p4 := x.p4, kb := x.kb.trans e, fb := x.fb }
theorem SI.ex {CD CL CP CM Ps Pn Pl dc : Addr} {HB : Hp} {i : Nat} {a : SA} {v : SV} {H H' : Hp} (x : SI CD CL CP CM Ps Pn Pl dc HB i a v H) (e : KS.Ex H H') : SI CD CL CP CM Ps Pn Pl dc HB i a v H' := x.kp (x.st.ex e) (Kp.of e)
theorem SI.exD {CD CL CP CM Ps Pn Pl dc : Addr} {HB : Hp} {i : Nat} {a : SA} {v : SV} {H H' : Hp} (x : SI CD CL CP CM Ps Pn Pl dc HB i a v H) (e : ExD dc H H') (d : IsDice H' dc) : SI CD CL CP CM Ps Pn Pl dc HB i a v H' := x.kp (x.st.exD e d) (Kp.exD e)
theorem SI.tb {CD CL CP CM Ps Pn Pl dc : Addr} {HB : Hp} {i : Nat} {a : SA} {v : SV} {H H' : Hp} (x : SI CD CL CP CM Ps Pn Pl dc HB i a v H) (ap : Apt Ps Pn Pl) (e : Tb Ps H H') : SI CD CL CP CM Ps Pn Pl dc HB i a v H' := x.kp (x.st.tb ap e) (Kp.tb x.st.ts e)
theorem SI.exN {CD CL CP CM Ps Pn Pl dc : Addr} {HB : Hp} {i : Nat} {a : SA} {v : SV} {H H' : Hp} (x : SI CD CL CP CM Ps Pn Pl dc HB i a v H) (e : ExtN H H') (t : Tabs (TT Ps Pn Pl) H') : SI CD CL CP CM Ps Pn Pl dc HB i a v H' := x.kp (x.st.exN e t) (Kp.exN e)
def Mkr (a : SA) (m dm : Addr) (n : Str) : Prop := (m = a.m1 ∧ dm = a.dm1 ∧ n = "p") ∨ (m = a.m2 ∧ dm = a.dm2 ∧ n = "q")
theorem Mkr.at {CD CL CP CM Ps Pn Pl dc : Addr} {HB : Hp} {i : Nat} {a : SA} {v : SV} {H : Hp} (x : SI CD CL CP CM Ps Pn Pl dc HB i a v H) {m dm : Addr} {n : Str} (h : Mkr a m dm n) : H m = some (.ins CM dm (mF n (v.tl n).length)) ∧ m ∉ a.ps.map (·.1) := by
  rcases h with ⟨rfl, rfl, rfl⟩ | ⟨rfl, rfl, rfl⟩
  · exact ⟨x.a1, x.p3.1.1⟩
  · exact ⟨x.a2, x.p3.1.2⟩
def KeyRow (i : Nat) (ka ra : Addr) (x : Rc) (H : Hp) : Prop := LawRc i x ∧ H ka = some (.tup (x.1.map kV)) ∧ H ra = some (.tup (x.2.1.map kV))
theorem KeyRow.kt {i : Nat} {ka ra : Addr} {x : Rc} {H H' : Hp} (h : KeyRow i ka ra x H) (e : KT' H H') : KeyRow i ka ra x H' := ⟨h.1, e _ _ h.2.1, e _ _ h.2.2⟩
section
variable {P : Program} {w : World} {K : PySem.W.Frag} {mg : Str → Option Value} {base : Heap} {CP CL CD CM CG CR Ps Pn Pl cN cL fTo fS : Addr} {fdTo : FuncData} {A : Around} {outer : List PySem.Env} {s : Shared} {H0 : Hp} {E0' : XK}
theorem g_draw (ve : LawE P w K mg base CP CL CD CM CG CR Ps Pn Pl cN cL fTo fdTo) (hr : Room 14 (xS P w K mg base fS cN A outer s H0 E0').A) :
    ∃ t0 t1 t2, L2.PS (xS P w K mg base fS cN A outer s H0 E0') (sSf 0) t0 ∧ L2.PS (xS P w K mg base fS cN A outer s H0 E0') (sSf 1) t1 ∧ L2.PS (xS P w K mg base fS cN A outer s H0 E0') (sSf 2) t2 ∧ ∀ (D : Ends) (HB H : Hp) (dc : Addr) (i : Nat) (a : SA) (v : SV) (a7 a8 a9 a10 a11 a12 a13 a14 a15 a16 : Option V) (tr : TS), SI CD CL CP CM Ps Pn Pl dc HB i a v H →
      (∀ (H' : Hp) (m dm ka ra : Addr) (n : Str) (x : Rc), SI CD CL CP CM Ps Pn Pl dc HB i a v H' → Mkr a m dm n → KeyRow i ka ra x H' →
        tr D [some (.ref dc), some (.ref a.o), some (.ref v.ow), some (.ref a.se), some (.ref a.d), some (.ref a.ml), some (.int (i : Nat)), some (.ref m), some (.ref ka), some (.ref ra), some (.int (x.2.2 : Nat)), some (.int ((v.tl n).length : Nat)), a12, a13, a14, a15, a16] H') →
      tSeq t0 (tSeq t1 (tSeq t2 tr)) D [some (.ref dc), some (.ref a.o), some (.ref v.ow), some (.ref a.se), some (.ref a.d), some (.ref a.ml), some (.int (i : Nat)), a7, a8, a9, a10, a11, a12, a13, a14, a15, a16] H := by
  obtain ⟨fR, fdR, GR, gR, kR, bR⟩ := ve.roll
  obtain ⟨fX, fdX, GX, gX, kX, bX⟩ := ve.lrec
  refine ⟨_, _, _, ps_set (i := 7) scSt.nd rfl (Or.inr rfl) (pe_ix ix_listD (pv 5) (pe_call GR (hr.mono (by decide)) (by rfl) gR kR bR .nil pass0 (pa_cons (pv 0) (pa_cons pe_int pa_nil))) (fun _ _ => rfl)),
    ps_asg (pe_call GX (hr.mono (by decide)) (by rfl) gX kX bX .nil pass0 (pa_cons (pv 0) (pa_cons (pv 6) pa_nil))) (pg_tup rfl (pgs_cons (pg_name (i := 8) scSt.nd rfl (Or.inr rfl)) (pgs_cons (pg_name (i := 9) scSt.nd rfl (Or.inr rfl)) (pgs_cons (pg_name (i := 10) scSt.nd rfl (Or.inr rfl)) pgs_nil)))),
    ps_set (i := 11) scSt.nd rfl (Or.inr rfl) (pf 7), ?_⟩
  intro D HB H dc i a v a7 a8 a9 a10 a11 a12 a13 a14 a15 a16 tr x fin
  refine ⟨_, rfl, _, rfl, roll_step x.st.dice (by decide) (by decide) fun r H1 r0 r2 e1 i1 => ?_⟩
  have x1 := x.exD e1 i1
  obtain ⟨b, rfl⟩ : ∃ b : Nat, r = (b : Int) := ⟨r.toNat, by omega⟩
  obtain ⟨m, dm, n, hM, hb⟩ : ∃ m dm n, Mkr a m dm n ∧ ([V.ref a.m1, V.ref a.m2] : List V)[b]? = some (V.ref m) := by
    have : b = 0 ∨ b = 1 := by omega
    rcases this with rfl | rfl
    · exact ⟨_, _, _, .inl ⟨rfl, rfl, rfl⟩, rfl⟩
    · exact ⟨_, _, _, .inr ⟨rfl, rfl, rfl⟩, rfl⟩
  refine ⟨a.ml, _, _, V.ref m, rfl, rfl, x1.ml, atI_nat hb, ?_⟩
  refine ⟨_, rfl, _, rfl, lr_step x1.st.dice fun H2 z y e2 i2 hl ra2 => ?_⟩
  have x2 := x1.exD e2 i2
  obtain ⟨ka, ra, h1, h2, h3⟩ := ra2
  refine ⟨z, _, rfl, SqT.of h1, rfl, _, _, rfl, _, _, rfl, _, _, rfl, rfl, ?_⟩
  obtain ⟨hm, _⟩ := hM.at x2
  exact ⟨_, rfl, m, CM, dm, _, _, rfl, hm, ve.TM.cl, ve.TM.x, rfl, fin H2 m dm ka ra n y x2 hM ⟨hl, h2, h3⟩⟩
end
end KL6
set_option Elab.async false
set_option linter.all false
set_option maxRecDepth 100000
set_option maxHeartbeats 4000000
namespace KL6
open PySem PySem.Spec PyProof.Rows L2 KB KC KS KN1 LamX K7
theorem mod_num {k : List Key} {n l : Nat} {H : Hp} {Q : VK} (h : 0 < n) (e : l = n) (q : Q (.int ((numK k n : Nat) : Int)) H) : rI (fun _ j => 0 < j) (fun i j => V.int (i % j)) (.int (hashL (rowL tabL k))) (.int ((l : Nat) : Int)) H Q := by
  subst e
  exact ⟨_, _, rfl, rfl, by omega, by show Q (V.int (hashL (rowL tabL k) % (l : Int))) H; rw [(numK_eq h).1]; exact q⟩
theorem cnt_snoc (os : List Nat) (n k : Nat) : cnt (os ++ [n]) k = cnt os k + if n = k then 1 else 0 := by
  unfold cnt
  rw [List.filter_append, List.length_append]
  by_cases c : n = k
  · rw [if_pos c, List.filter_cons_of_pos (by simpa using c)]; rfl
  · rw [if_neg c, List.filter_cons_of_neg (by simpa using c)]; rfl
theorem cnt_take {os : List Nat} {i n : Nat} (h : os[i]? = some n) (k : Nat) : cnt (os.take (i + 1)) k = cnt (os.take i) k + if n = k then 1 else 0 := by
  rw [List.take_add_one, h]
  exact cnt_snoc _ _ _
def rLen2 (K : PySem.W.Frag) : List V → Hp → VK → Prop := fun xs H Q => ∃ p ys, xs = [.ref p] ∧ (SqL K H p ys ∨ SqT K H p ys) ∧ Q (.int ys.length) H
def FrC (Ps D : Addr) (H H' : Hp) : Prop := TabS H' Ps qK ∧ ∀ b u, b ≠ Ps → b ≠ D → H b = some u → H' b = some u
def ones (n : Nat) : List V := List.replicate n (V.int 1)
theorem ones_snoc (n : Nat) : ones n ++ [V.int 1] = ones (n + 1) := by unfold ones; rw [List.replicate_succ']
def ifBody : Stmt → List Stmt
  | .If _ b _ _ => b
  | _ => []
def ifElse : Stmt → List Stmt
  | .If _ _ b _ => b
  | _ => []
abbrev sTh : List Stmt := ifBody (sSf 3)
abbrev sEl : List Stmt := ifElse (sSf 3)
section
variable {P : Program} {w : World} {K : PySem.W.Frag} {mg : Str → Option Value} {base : Heap} {CP CL CD CM CG CR Ps Pn Pl cN cL fTo fS : Addr} {fdTo : FuncData} {A : Around} {outer : List PySem.Env} {s : Shared} {H0 : Hp} {E0' : XK}
theorem g_spot (ve : LawE P w K mg base CP CL CD CM CG CR Ps Pn Pl cN cL fTo fdTo) (hr : Room 14 (xS P w K mg base fS cN A outer s H0 E0').A) :
    ∃ t0, L2.PS (xS P w K mg base fS cN A outer s H0 E0') (sTh.getD 0 pS) t0 ∧ ∀ (D : Ends) (HB H : Hp) (dc : Addr) (i : Nat) (a : SA) (v : SV) (m dm ka ra : Addr) (n : Str) (x : Rc) (a12 a13 a14 a15 a16 : Option V) (tr : TS), SI CD CL CP CM Ps Pn Pl dc HB i a v H → KeyRow i ka ra x H → i ≤ 20 →
      (∀ (H' : Hp) (sp : Addr), SI CD CL CP CM Ps Pn Pl dc HB i a v H' → KeyRow i ka ra x H' → SpotAt H' sp (numK x.1 a.ps.length, cnt v.os (numK x.1 a.ps.length)) →
        tr D [some (.ref dc), some (.ref a.o), some (.ref v.ow), some (.ref a.se), some (.ref a.d), some (.ref a.ml), some (.int (i : Nat)), some (.ref m), some (.ref ka), some (.ref ra), some (.int (x.2.2 : Nat)), some (.int ((v.tl n).length : Nat)), some (.ref sp), a13, a14, a15, a16] H') →
      tSeq t0 tr D [some (.ref dc), some (.ref a.o), some (.ref v.ow), some (.ref a.se), some (.ref a.d), some (.ref a.ml), some (.int (i : Nat)), some (.ref m), some (.ref ka), some (.ref ra), some (.int (x.2.2 : Nat)), some (.int ((v.tl n).length : Nat)), a12, a13, a14, a15, a16] H := by
  obtain ⟨fH, fdH, GH, gH, kH, bH⟩ := ve.hash
  have hz0 : sizeLine = 16777216 := rfl
  refine ⟨_, ps_set (i := 12) scSt.nd rfl (Or.inl rfl) (pe_tup (pa_cons (pe_op op_mod (pe_call GH (hr.mono (by decide)) (by rfl) gH kH bH (E := fun _ _ _ => False) .nil (passes_call L2.takes0 (fun _ _ _ _ h => h)) (pa_cons (pv 8) pa_nil)) (pe_callB call_len_seq (by rfl) ve.T.len (by decide +kernel) (pa_cons (pf 1) pa_nil)))
    (pa_cons (pe_callB call_len_seq (by rfl) ve.T.len (by decide +kernel) (pa_cons (pe_lc (own := [("one", 14)]) (g := gName 14) (tt := tTest (tOp rEq (tVar 14) (tOp (rI (fun _ j => 0 < j) fun i j => .int (i % j)) (tCall (spHash Ps) [] (fun _ _ _ => False) (tCons (tVar 8) tNil)) (tCB (rLen2 K) (tCons (tFld K (tVar 1) "parts") tNil))))) (te := tC (.int 1)) rfl scSt.nd (pi_list (pv 2)) (blkOk_by (N := nSt) (sc := defScope sSent) (by decide +kernel)) (fun _ _ _ _ _ => pg_name (i := 14) scSt.nd rfl (Or.inl rfl))
      (fun _ _ _ _ _ => pts_one (pt_cmpR op_eq (pv 14) (pe_op op_mod (pe_call GH (hr.mono (by decide)) (by rfl) gH kH bH (E := fun _ _ _ => False) .nil (passes_call L2.takes0 (fun _ _ _ _ h => h)) (pa_cons (pv 8) pa_nil)) (pe_callB call_len_seq (by rfl) ve.T.len PySem.boot_len (pa_cons (pf 1) pa_nil))) (nomark _))) (fun _ _ _ _ _ => pe_int)) pa_nil)) pa_nil))), ?_⟩
  intro D HB H dc i a v m dm ka ra n x a12 a13 a14 a15 a16 tr y kr hi fin
  have okB := kr.1.okB (by omega : i ≤ 100)
  have hk25 := okB.kl
  refine ⟨_, rfl, hash_step kr.2.1 okB.kv (by omega) y.st.ts fun H1 t1 => ?_⟩
  have y1 := y.tb ve.ap t1
  have kr1 := kr.kt (kt_tb y.st.ts t1)
  obtain ⟨dxo, obo⟩ := y1.dl.lg.ob
  refine ⟨_, rfl, a.o, CL, dxo, _, _, rfl, obo, ve.TO.cl, ve.TO.p, rfl, a.q, _, rfl, .inl (SqL.of y1.dl.lg.ql), mod_num y.hn.1 (List.length_map ..) ?_⟩
  refine ⟨_, rfl, v.ow, rfl, ⟨_, SqL.of y1.ow⟩, fun L hL => ?_⟩
  have hn1 := y.hn.1
  generalize hk : numK x.1 a.ps.length = k at fin
  have keep : ∀ {H' : Hp}, FrC Ps L H1 H' → ∀ {b : Addr} {u : HO}, H1 b = some u → (∀ tb, u ≠ .tbl tb) → H' b = some u := fun {H'} f {b u} h n => by
    obtain ⟨tb, hP, _⟩ := y1.st.ts
    exact f.2 b u (fun z => by rw [z, hP] at h; exact n _ (Option.some.inj h).symm) (ne_of_none h hL) h
  refine lc_list (xs := v.os.map fun n => V.int ((n : Nat) : Int)) (fun j H' => FrC Ps L H1 H' ∧ H' L = some (.lst (ones (cnt (v.os.take j) k)))) ⟨⟨y1.st.ts.ext (Ex.upd hL), fun b u _ nb h => by rw [L2.upd_ne nb]; exact h⟩, upd_same⟩ ?_ ?_ ?_
  · rintro j H' _ ⟨f, _⟩
    exact SqL.of (keep f y1.ow (fun _ z => nomatch z))
  · rintro j z H' hz ⟨f, hD⟩
    rw [List.getElem?_map] at hz
    obtain ⟨b, hb, rfl⟩ := Option.map_eq_some_iff.mp hz
    refine ⟨rfl, ?_⟩
    refine ⟨_, rfl, _, rfl, hash_step (keep f kr1.2.1 (fun _ z => nomatch z)) okB.kv (by omega) f.1 fun H3 t3 => ?_⟩
    have nL : L ≠ Ps := fun z => by
      obtain ⟨tb, hP, _⟩ := f.1
      rw [z, hP] at hD; cases hD
    have hD3 := t3.2 _ _ nL hD
    have f3 : FrC Ps L H1 H3 := ⟨t3.1, fun b u n1 n2 h => t3.2 _ _ n1 (f.2 b u n1 n2 h)⟩
    refine ⟨_, rfl, a.o, CL, dxo, _, _, rfl, keep f3 obo (fun _ z => nomatch z), ve.TO.cl, ve.TO.p, rfl, a.q, _, rfl, .inl (SqL.of (keep f3 y1.dl.lg.ql (fun _ z => nomatch z))), mod_num hn1 (List.length_map ..) ?_⟩
    rw [hk]
    refine ⟨rfl, _, rfl, ?_⟩
    rw [eqI]
    have ct := cnt_take hb k
    by_cases c : b = k
    · refine ifT (by simp [c]) ⟨_, hD3, ?_, ⟨tab_upd t3.1 hD3 (fun _ z => nomatch z) (fun _ z => nomatch z), fun b' u n1 n2 h => by rw [L2.upd_ne n2]; exact f3.2 b' u n1 n2 h⟩, ?_⟩
      · unfold ones
        rw [List.length_replicate]
        have e1 : cnt (v.os.take j) k ≤ (v.os.take j).length := List.length_filter_le _ _
        rw [List.length_take] at e1
        have := y.bc.2.2
        omega
      · rw [upd_same, ones_snoc, ct, if_pos c]
    · refine ifF (by simp; omega) ⟨f3, ?_⟩
      rw [hD3, ct, if_neg c]
      rfl
  · rintro H' ⟨f, hD⟩
    rw [List.length_map, List.take_length] at hD
    have t' : Tb Ps H1 H' := ⟨f.1, fun b u n h => f.2 b u n (ne_of_none h hL) h⟩
    have y2 := y1.tb ve.ap t'
    have kr2 := kr1.kt (kt_tb y1.st.ts t')
    refine ⟨L, _, rfl, .inl (SqL.of hD), (by show 2 ≤ sizeLine; decide), fun sp hsp => ?_⟩
    have e3 : KS.Ex H' (upd H' sp (.tup [.int ((k : Nat) : Int), .int (((ones (cnt v.os k)).length : Nat) : Int)])) := Ex.upd hsp
    refine fin _ sp (y2.ex e3) (kr2.kt (kt_of e3)) ?_
    show (upd H' sp _) sp = some (.tup [.int ((k : Nat) : Int), .int ((cnt v.os k : Nat) : Int)])
    rw [upd_same]
    unfold ones
    rw [List.length_replicate]
end
end KL6
set_option Elab.async false
set_option linter.all false
set_option maxRecDepth 100000
set_option maxHeartbeats 4000000
namespace KL6
open PySem PySem.Spec PyProof.Rows L2 KB KC KS KN1 LamX K7
def But2 (m se : Addr) (H H' : Hp) : Prop := ∀ b u, b ≠ m → b ≠ se → H b = some u → H' b = some u
theorem DL.two {CD CL CP d o pd q m se C e : Addr} {c : Nat} {la : Str → Addr} {tl : Str → List Spot} {ps : List (Addr × Addr)} {sts : List PS} {H H' : Hp} {fs : List (Str × V)} {ks : List (List Key × V)} (y : DL CD CL CP d o pd q c la tl ps sts H) (k : But2 m se H H') (hm : H m = some (.ins C e fs)) (hs : H se = some (.dT ks)) (n1 : m ≠ d) (n2 : m ≠ o) (n3 : m ∉ ps.map (·.1)) : DL CD CL CP d o pd q c la tl ps sts H' := by
  have ko : ∀ {b : Addr} {u : HO}, H b = some u → (∀ C d fs, u ≠ .ins C d fs) → (∀ ks, u ≠ .dT ks) → H' b = some u := fun {b u} h x1 x2 => k b u (fun z => by rw [z, hm] at h; exact x1 _ _ _ (Option.some.inj h).symm) (fun z => by rw [z, hs] at h; exact x2 _ (Option.some.inj h).symm) h
  have ki : ∀ {b C d : Addr} {fs : List (Str × V)}, b ≠ m → H b = some (.ins C d fs) → H' b = some (.ins C d fs) := fun {b C d fs} n h => k b _ n (fun z => by rw [z, hs] at h; cases h) h
  have kt : KT' H H' := fun b xs h => ko h (fun _ _ _ z => nomatch z) (fun _ z => nomatch z)
  obtain ⟨dx, ob⟩ := y.dr.ob
  obtain ⟨kvs, h1, h2⟩ := y.dr.dc
  obtain ⟨dxo, obo⟩ := y.lg.ob
  refine ⟨⟨⟨dx, ki n1.symm ob⟩, ⟨kvs, ko h1 (fun _ _ _ z => nomatch z) (fun _ z => nomatch z), h2⟩, fun n hn => ?_, y.dr.nj⟩, ⟨⟨dxo, ki n2.symm obo⟩, ko y.lg.ql (fun _ _ _ z => nomatch z) (fun _ z => nomatch z), Parts.of y.lg.pt fun pl st hmm ⟨dy, kk, v, ts, g1, g2, g3, g4, g5⟩ => ⟨dy, kk, v, ts, ki (fun z => n3 (by rw [← z]; exact List.mem_map_of_mem hmm)) g1, kt _ _ g2, kt _ _ g3, ko g4 (fun _ _ _ z => nomatch z) (fun _ z => nomatch z), g5.kt kt⟩, y.lg.n1, y.lg.n2, y.lg.n3, y.lg.n4⟩, y.s1, y.s2⟩
  obtain ⟨ts, g1, g2⟩ := y.dr.ls n hn
  exact ⟨ts, ko g1 (fun _ _ _ z => nomatch z) (fun _ z => nomatch z), spots_kt g2 kt⟩
theorem St.two {Ps Pn Pl dc m se C e : Addr} {H H' : Hp} {fs : List (Str × V)} {ks : List (List Key × V)} (s : St Ps Pn Pl dc H) (k : But2 m se H H') (hm : H m = some (.ins C e fs)) (hs : H se = some (.dT ks)) : St Ps Pn Pl dc H' := by
  have ko : ∀ {b : Addr} {u : HO}, H b = some u → (∀ C d fs, u ≠ .ins C d fs) → (∀ ks, u ≠ .dT ks) → H' b = some u := fun {b u} h x1 x2 => k b u (fun z => by rw [z, hm] at h; exact x1 _ _ _ (Option.some.inj h).symm) (fun z => by rw [z, hs] at h; exact x2 _ (Option.some.inj h).symm) h
  have go : ∀ {P : Addr} {q : Str}, TabS H P q → TabS H' P q := fun t => tabS_two t (fun _ h => ko h (fun _ _ _ z => nomatch z) (fun _ z => nomatch z)) (fun _ _ h => ko h (fun _ _ _ z => nomatch z) (fun _ z => nomatch z))
  obtain ⟨x, y, z, q⟩ := s.dice
  exact ⟨go s.ts, go s.tn, go s.tl, ⟨x, y, z, ko q (fun _ _ _ z => nomatch z) (fun _ z => nomatch z)⟩⟩
section
variable {CD CL CP CM Ps Pn Pl dc : Addr} {HB : Hp} {i : Nat} {a : SA} {v : SV} {H H2 : Hp}
theorem SI.frd (y : SI CD CL CP CM Ps Pn Pl dc HB i a v H) (ap : Apt Ps Pn Pl) (f : FrD Ps a.pd v.la v.tl a.ps H H2) : St Ps Pn Pl dc H2 ∧ Kp dc HB H2 := by
  obtain ⟨kvs, hk, _⟩ := y.dl.dr.dc
  have other : ∀ {b : Addr} {u : HO}, b ≠ Ps → H b = some u → (∀ C d fs, u ≠ .ins C d fs) → (∀ xs, u ≠ .lst xs) → (∀ ks, u ≠ .dK ks) → H2 b = some u := fun {b u} n h x1 x2 x3 => by
    refine f.2 b u n (fun z => ?_) (fun z => ?_) (fun z => by rw [z, hk] at h; exact x3 _ (Option.some.inj h).symm) (fun m hm z => ?_) h
    · obtain ⟨_, _, _, e⟩ := y.dl.lg.insts z
      rw [h] at e; exact x1 _ _ _ (Option.some.inj e)
    · obtain ⟨_, e⟩ := y.dl.lg.lists z
      rw [h] at e; exact x2 _ (Option.some.inj e)
    · obtain ⟨_, e, _⟩ := y.dl.dr.ls m hm
      rw [z, e] at h; exact x2 _ (Option.some.inj h).symm
  obtain ⟨tb, hP, _⟩ := id y.st.ts
  have go : ∀ {P : Addr} {q : Str}, P ≠ Ps → TabS H P q → TabS H2 P q := fun n t => tabS_two t (fun _ h => other n h (fun _ _ _ z => nomatch z) (fun _ z => nomatch z) (fun _ z => nomatch z)) (fun _ _ h => other (fun z => by rw [z, hP] at h; cases h) h (fun _ _ _ z => nomatch z) (fun _ z => nomatch z) (fun _ z => nomatch z))
  obtain ⟨x1, x2, x3, hd⟩ := y.st.dice
  refine ⟨⟨f.1, go ap.sn.symm y.st.tn, go ap.sl.symm y.st.tl, ⟨x1, x2, x3, f.keepL y.dl y.st.ts hd y.p1.2.2 fun m hm z => (y.p2 m hm).2.2 z.symm⟩⟩, fun b u n h nt => ?_⟩
  have hb := y.kb b u n h nt
  refine f.2 b u (fun z => by rw [z, hP] at hb; exact nt _ (Option.some.inj hb).symm) (fun z => ?_) (fun z => ?_) (fun z => by rw [z, y.fb.2.1] at h; cases h) (fun m hm z => by
    obtain ⟨tb', e⟩ := y.fb.2.2.2.2 m hm u (by rw [← z]; exact h)
    exact nt tb' e) hb
  · obtain ⟨pl, hpl, e⟩ := List.mem_map.mp z
    rw [← e, (y.fb.1 pl hpl).1] at h; cases h
  · obtain ⟨pl, hpl, e⟩ := List.mem_map.mp z
    rw [← e, (y.fb.1 pl hpl).2] at h; cases h
def SV.add (v : SV) (la' : Str → Addr) (n : Str) (s : Spot) (st' : PS) (sp ow : Addr) : SV := ⟨v.c + 1, la', addT v.tl n s, v.sts.set s.1 st', v.os ++ [s.1], putK v.kvs [.inr n, .inl (((v.tl n).length : Nat) : Int)] (.ref sp), ow⟩
theorem addT_len (tl : Str → List Spot) (n m : Str) (s : Spot) : (addT tl n s m).length = (tl m).length + if m = n then 1 else 0 := by
  unfold addT
  by_cases c : m = n
  · rw [if_pos c, if_pos c, List.length_append, c]; rfl
  · rw [if_neg c, if_neg c]; rfl
theorem SI.add (y : SI CD CL CP CM Ps Pn Pl dc HB i a v H) (ap : Apt Ps Pn Pl) {m dm z sp ow : Addr} {n : Str} {st : PS} {x : Rc} {la' : Str → Addr} {H7 : Hp} (hM : Mkr a m dm n) (hx : LawRc i x) (hi : i ≤ 100) (hs : v.sts[numK x.1 a.ps.length]? = some st)
    (tk : Took CD CL CP Ps a.d a.o a.pd a.q v.c v.la v.tl a.ps v.sts n st x H H2 z la') (hsp : SpotAt H2 sp (numK x.1 a.ps.length, st.2.2.length)) (k : But2 m a.se H2 H7) (hm7 : H7 m = some (.ins CM dm (mF n ((v.tl n).length + 1)))) (hs7 : H7 a.se = some (.dT (putK v.kvs [.inr n, .inl (((v.tl n).length : Nat) : Int)] (.ref sp))))
    (hw7 : H7 ow = some (.lst ((v.os ++ [numK x.1 a.ps.length]).map fun n => V.int ((n : Nat) : Int)))) (hw2 : H2 ow = none) : SI CD CL CP CM Ps Pn Pl dc HB (i + 1) a (v.add la' n (numK x.1 a.ps.length, st.2.2.length) (app1 st x) sp ow) H7 := by
  obtain ⟨hm, nm⟩ := hM.at y
  have hm2 := tk.fr.keepI y.dl y.st.ts hm nm
  have hs2 : H2 a.se = some (.dT v.kvs) := tk.fr.keepT y.dl y.st.ts y.se (fun _ z => nomatch z) (fun _ _ _ z => nomatch z) (fun _ z => nomatch z) (fun z => by
    obtain ⟨kvs, hk, _⟩ := y.dl.dr.dc
    have := y.se
    rw [z, hk] at this; cases this)
  obtain ⟨s2, k2⟩ := y.frd ap tk.fr
  have ko : ∀ {b : Addr} {u : HO}, H2 b = some u → (∀ C d fs, u ≠ .ins C d fs) → (∀ ks, u ≠ .dT ks) → H7 b = some u := fun {b u} h x1 x2 => k b u (fun z => by rw [z, hm2] at h; exact x1 _ _ _ (Option.some.inj h).symm) (fun z => by rw [z, hs2] at h; exact x2 _ (Option.some.inj h).symm) h
  have kt7 : KT' H2 H7 := fun b xs h => ko h (fun _ _ _ z => nomatch z) (fun _ z => nomatch z)
  have md : m ≠ a.d ∧ m ≠ a.o ∧ HB m = none := by
    rcases hM with ⟨rfl, _, _⟩ | ⟨rfl, _, _⟩
    · exact ⟨y.p3.2.2.1.1, y.p3.2.2.1.2, y.fb.2.2.2.1.1⟩
    · exact ⟨y.p3.2.2.2.1, y.p3.2.2.2.2, y.fb.2.2.2.1.2⟩
  have hw : ∀ {b : Addr} {u : HO}, H2 b = some u → b ≠ ow := fun {b u} h z => by rw [z, hw2] at h; cases h
  have nla : ∀ m', addT v.tl n (numK x.1 a.ps.length, st.2.2.length) m' ≠ [] → ∃ ts, H2 (la' m') = some (.lst ts) := fun m' h => by
    obtain ⟨ts, g1, _⟩ := tk.dl.dr.ls m' h
    exact ⟨_, g1⟩
  have lam : ∀ (b : Addr), (∀ m', v.tl m' ≠ [] → v.la m' ≠ b) → (∃ u, H b = some u) → ∀ m', addT v.tl n (numK x.1 a.ps.length, st.2.2.length) m' ≠ [] → la' m' ≠ b := fun b h0 ⟨u, hu⟩ m' h z => by
    rcases tk.nw m' h with ⟨c1, c2⟩ | c2
    · exact h0 m' c1 (by rw [← c2, z])
    · rw [z, hu] at c2; cases c2
  obtain ⟨d1, d2, d3, hd⟩ := y.st.dice
  have hx25 := hx.okR hi
  exact {
    st := s2.two k hm2 hs2
    dl := tk.dl.two k hm2 hs2 md.1 md.2.1 nm
    ow := hw7
    se := hs7
    ml := ko (tk.fr.keepL y.dl y.st.ts y.ml y.p1.2.1 fun m' h z => (y.p2 m' h).2.1 z.symm) (fun _ _ _ z => nomatch z) (fun _ z => nomatch z)
    a1 := by
      show H7 a.m1 = some (.ins CM a.dm1 (mF "p" (addT v.tl n _ "p").length))
      rw [addT_len]
      rcases hM with ⟨rfl, rfl, rfl⟩ | ⟨rfl, rfl, rfl⟩
      · rw [if_pos rfl]; exact hm7
      · rw [if_neg (by decide)]
        exact k _ _ y.p3.2.1 (fun z => by have := y.a1; rw [z, y.se] at this; cases this) (tk.fr.keepI y.dl y.st.ts y.a1 y.p3.1.1)
    a2 := by
      show H7 a.m2 = some (.ins CM a.dm2 (mF "q" (addT v.tl n _ "q").length))
      rw [addT_len]
      rcases hM with ⟨rfl, rfl, rfl⟩ | ⟨rfl, rfl, rfl⟩
      · rw [if_neg (by decide)]
        exact k _ _ y.p3.2.1.symm (fun z => by have := y.a2; rw [z, y.se] at this; cases this) (tk.fr.keepI y.dl y.st.ts y.a2 y.p3.1.2)
      · rw [if_pos rfl]; exact hm7
    sn := fun n' j s' h => by
      show ∃ t, valV (putK v.kvs _ (.ref sp)) _ = some (.ref t) ∧ _
      have h : (addT v.tl n (numK x.1 a.ps.length, st.2.2.length) n')[j]? = some s' := h
      rw [valV_put]
      unfold addT at h
      by_cases c : n' = n
      · rw [if_pos c] at h
        subst c
        by_cases cj : j < (v.tl n').length
        · rw [List.getElem?_append_left cj] at h
          obtain ⟨t, h1, h2⟩ := y.sn n' j s' h
          rw [if_neg (fun z => by
            simp only [List.cons.injEq, Sum.inl.injEq, and_true, true_and] at z
            omega)]
          exact ⟨t, h1, kt7 _ _ (tk.fr.kt y.dl y.st.ts _ _ h2)⟩
        · rw [List.getElem?_append_right (by omega)] at h
          have ej : j = (v.tl n').length := by
            have := (List.getElem?_eq_some_iff.mp h).1
            rw [List.length_singleton] at this
            omega
          subst ej
          rw [Nat.sub_self] at h
          cases h
          rw [if_pos rfl]
          exact ⟨sp, rfl, kt7 _ _ hsp⟩
      · rw [if_neg c] at h
        obtain ⟨t, h1, h2⟩ := y.sn n' j s' h
        rw [if_neg (fun z => by
          simp only [List.cons.injEq, Sum.inr.injEq] at z
          exact c z.1)]
        exact ⟨t, h1, kt7 _ _ (tk.fr.kt y.dl y.st.ts _ _ h2)⟩
    cn := fun kk s' h => by
      show s'.2.2.length = cnt (v.os ++ [numK x.1 a.ps.length]) kk
      have h : (v.sts.set (numK x.1 a.ps.length) (app1 st x))[kk]? = some s' := h
      rw [cnt_snoc]
      by_cases c : numK x.1 a.ps.length = kk
      · subst c
        rw [List.getElem?_set_self ((List.getElem?_eq_some_iff.mp hs).1)] at h
        cases h
        rw [if_pos rfl, ← y.cn _ _ hs]
        show (st.2.2 ++ [x]).length = _
        rw [List.length_append]; rfl
      · rw [List.getElem?_set_ne c] at h
        rw [if_neg c]
        exact y.cn kk s' h
    bd := fun s' h => by
      have h : s' ∈ v.sts.set (numK x.1 a.ps.length) (app1 st x) := h
      rcases List.mem_or_eq_of_mem_set h with h | rfl
      · obtain ⟨g1, g2⟩ := y.bd s' h
        exact ⟨by omega, by omega⟩
      · obtain ⟨g1, g2⟩ := y.bd st (List.mem_of_getElem? hs)
        have := recL_le hx25
        refine ⟨?_, ?_⟩
        · show (st.2.1 ++ recL x).length ≤ _
          rw [List.length_append]; omega
        · show (st.2.2 ++ [x]).length ≤ _
          rw [List.length_append]
          show _ + 1 ≤ _
          omega
    bl := fun m' => by
      show (addT v.tl n _ m').length ≤ _
      rw [addT_len]
      have := y.bl m'
      split <;> omega
    bc := by
      obtain ⟨b1, b2, b3⟩ := y.bc
      refine ⟨?_, ?_, ?_⟩
      · show v.c + 1 ≤ i + 1
        omega
      · have := length_putK v.kvs [.inr n, .inl (((v.tl n).length : Nat) : Int)] (.ref sp)
        show (putK v.kvs _ _).length ≤ i + 1
        omega
      · show (v.os ++ [_]).length ≤ i + 1
        rw [List.length_append]
        show _ + 1 ≤ _
        omega
    hn := y.hn
    p1 := ⟨fun hm' => (by
      obtain ⟨_, e⟩ := tk.dl.lg.lists hm'
      exact hw e rfl), y.p1.2.1, y.p1.2.2⟩
    p2 := fun m' h => ⟨fun z => (by
      obtain ⟨_, e⟩ := nla m' h
      exact hw e z), lam a.ml (fun m'' h' => (y.p2 m'' h').2.1) ⟨_, y.ml⟩ m' h, lam dc (fun m'' h' => (y.p2 m'' h').2.2) ⟨_, hd⟩ m' h⟩
    p3 := y.p3
    p4 := ⟨y.p4.1, fun z => (by
      obtain ⟨_, _, _, e⟩ := s2.dice
      exact hw e z.symm), y.p4.2.2⟩
    kb := fun b u nb h nt => k b u (fun z => by rw [z, md.2.2] at h; cases h) (fun z => by rw [z, y.fb.2.2.1] at h; cases h) (k2 b u nb h nt)
    fb := ⟨y.fb.1, y.fb.2.1, y.fb.2.2.1, y.fb.2.2.2.1, fun m' h u hu => (by
      have hu : HB (la' m') = some u := hu
      rcases tk.nw m' h with ⟨c1, c2⟩ | c2
      · exact y.fb.2.2.2.2 m' c1 u (by rw [← c2]; exact hu)
      · refine Classical.byContradiction fun nt => ?_
        have := y.kb (la' m') u (fun z => by rw [z, hd] at c2; cases c2) hu (fun tb z => nt ⟨tb, z⟩)
        rw [c2] at this; cases this)⟩ }
end
end KL6
set_option Elab.async false
set_option linter.all false
set_option maxRecDepth 100000
set_option maxHeartbeats 4000000
namespace KL6
open PySem PySem.Spec PyProof.Rows L2 KB KC KS KN1 LamX K7
theorem smp_i (l : List Int) : Smp 1 (iD l) := .tup fun x hx => by
  obtain ⟨n, _, rfl⟩ := List.mem_map.mp hx
  exact .int n
theorem dp_spot {K : PySem.W.Frag} {H : Hp} {t : Addr} {s : Spot} (h : SpotAt H t s) : Dp K H (.ref t) (iD [((s.1 : Nat) : Int), ((s.2 : Nat) : Int)]) := dp_i (l := [((s.1 : Nat) : Int), ((s.2 : Nat) : Int)]) h
section
variable {P : Program} {w : World} {K : PySem.W.Frag} {mg : Str → Option Value} {base : Heap} {CP CL CD CM CG CR Ps Pn Pl cN cL fTo fS : Addr} {fdTo : FuncData} {A : Around} {outer : List PySem.Env} {s : Shared} {H0 : Hp} {E0' : XK}
theorem g_send (ve : LawE P w K mg base CP CL CD CM CG CR Ps Pn Pl cN cL fTo fdTo) (hr : Room 14 (xS P w K mg base fS cN A outer s H0 E0').A) :
    ∃ t1 t2 t3, L2.PS (xS P w K mg base fS cN A outer s H0 E0') (sTh.getD 1 pS) t1 ∧ L2.PS (xS P w K mg base fS cN A outer s H0 E0') (sTh.getD 2 pS) t2 ∧ L2.PS (xS P w K mg base fS cN A outer s H0 E0') (sTh.getD 3 pS) t3 ∧ ∀ (D : Ends) (HB H : Hp) (dc : Addr) (i : Nat) (a : SA) (v : SV) (m dm ka ra sp : Addr) (n : Str) (x : Rc) (a13 a14 a15 a16 : Option V), SI CD CL CP CM Ps Pn Pl dc HB i a v H → Mkr a m dm n → KeyRow i ka ra x H → i ≤ 20 → SpotAt H sp (numK x.1 a.ps.length, cnt v.os (numK x.1 a.ps.length)) →
      (∀ (H' : Hp) (v' : SV), SI CD CL CP CM Ps Pn Pl dc HB (i + 1) a v' H' →
        D.nx [some (.ref dc), some (.ref a.o), some (.ref v'.ow), some (.ref a.se), some (.ref a.d), some (.ref a.ml), some (.int (i : Nat)), some (.ref m), some (.ref ka), some (.ref ra), some (.int (x.2.2 : Nat)), some (.int ((v.tl n).length : Nat)), some (.ref sp), a13, a14, a15, a16] H') →
      tSeq t1 (tSeq t2 t3) D [some (.ref dc), some (.ref a.o), some (.ref v.ow), some (.ref a.se), some (.ref a.d), some (.ref a.ml), some (.int (i : Nat)), some (.ref m), some (.ref ka), some (.ref ra), some (.int (x.2.2 : Nat)), some (.int ((v.tl n).length : Nat)), some (.ref sp), a13, a14, a15, a16] H := by
  obtain ⟨fM, fdM, GM, mM, bM⟩ := ve.msend
  have hz0 : sizeLine = 16777216 := rfl
  have hu := hr.units
  have hu1 := Nat.lt_trans (Nat.add_lt_add_left (by decide : 1 < 64) _) hu
  refine ⟨_, _, _, ps_if (PW.pt (pw_or (pt_cmpR (op_neD hu) (pe_meth (pv 7) ve.TM.cl mM GM (hr.mono (by decide)) bM .nil pass0 (pa_cons (pv 4) (pa_cons (pv 8) (pa_cons (pv 9) (pa_cons (pv 10) pa_nil))))) (pv 12) (nomark _)) (pw_or1 (pt_cmpR op_ne (pf 7) (pe_op op_add (pv 11) pe_int) (nomark _))))) (pss_one (ps_ret pe_bl)) pss_nil,
    ps_set (i := 2) scSt.nd rfl (Or.inr rfl) (pe_op op_cat (pv 2) (pe_lst (pa_cons (pe_ix ix_tupD (pv 12) pe_int (fun _ _ => rfl)) pa_nil))),
    ps_dput hu1 (pv 3) (pe_tup (pa_cons (pf 7) (pa_cons (pv 11) pa_nil))) (pv 12) rfl, ?_⟩
  intro D HB H dc i a v m dm ka ra sp n x a13 a14 a15 a16 y hM kr hi hsp fin
  have okB := kr.1.okB (by omega : i ≤ 100)
  obtain ⟨hm, nm⟩ := hM.at y
  have hlt : numK x.1 a.ps.length < v.sts.length := by rw [← y.dl.lg.len]; exact (numK_eq y.hn.1).2
  have hs := List.getElem?_eq_getElem hlt
  generalize v.sts[numK x.1 a.ps.length] = st at hs
  obtain ⟨b1, b2⟩ := y.bd st (List.mem_of_getElem? hs)
  have hcn := y.cn _ _ hs
  obtain ⟨bc1, bc2, bc3⟩ := y.bc
  have bl := y.bl n
  refine ⟨_, rfl, m, dm, _, rfl, hm, rfl, _, rfl, _, rfl, _, rfl, _, rfl, ms_step hm nm y.dl (by omega) (by omega) y.hn.1 hs (by omega) (by omega) kr.2.1 kr.2.2 okB y.st.ts fun H2 z la' tk hm2 => ?_⟩
  obtain ⟨s2, k2⟩ := y.frd ve.ap tk.fr
  have hse2 : H2 a.se = some (.dT v.kvs) := tk.fr.keepT y.dl y.st.ts y.se (fun _ z => nomatch z) (fun _ _ _ z => nomatch z) (fun _ z => nomatch z) (fun z => by
    obtain ⟨kvs, hk, _⟩ := y.dl.dr.dc
    have := y.se
    rw [z, hk] at this; cases this)
  have hsp2 := tk.fr.kt y.dl y.st.ts _ _ hsp
  have how2 := tk.fr.keepL y.dl y.st.ts y.ow y.p1.1 fun m' h z => (y.p2 m' h).1 z.symm
  have hz2 := tk.sp
  rw [← hcn] at hsp2
  have ne1 : ∀ {b : Addr} {u : HO}, H2 b = some u → (∀ C d fs, u ≠ .ins C d fs) → b ≠ m := fun {b u} h nn z => by rw [z, hm2] at h; exact nn _ _ _ (Option.some.inj h).symm
  have m3 : (upd H2 m (.ins CM dm (mF n ((v.tl n).length + 1)))) m = some (.ins CM dm (mF n ((v.tl n).length + 1))) := upd_same
  have f3 : ∀ b u, b ≠ m → H2 b = some u → (upd H2 m (.ins CM dm (mF n ((v.tl n).length + 1)))) b = some u := fun b u nb h => by rw [L2.upd_ne nb]; exact h
  have g3 : ∀ b, (upd H2 m (.ins CM dm (mF n ((v.tl n).length + 1)))) b = none → H2 b = none := fun b h => by
    by_cases c : b = m
    · rw [c, upd_same] at h; cases h
    · rw [L2.upd_ne c] at h; exact h
  generalize upd H2 m (.ins CM dm (mF n ((v.tl n).length + 1))) = H3 at m3 f3 g3
  have hsp3 := f3 _ _ (ne1 hsp2 (fun _ _ _ z => nomatch z)) hsp2
  have hz3 := f3 _ _ (ne1 hz2 (fun _ _ _ z => nomatch z)) hz2
  have hse3 := f3 _ _ (ne1 hse2 (fun _ _ _ z => nomatch z)) hse2
  have how3 := f3 _ _ (ne1 how2 (fun _ _ _ z => nomatch z)) how2
  refine ⟨_, rfl, ne_same (dp_spot hz3) (dp_spot hsp3) (smp_i _) (by decide) ⟨_, rfl, ifF (by decide) ?_⟩⟩
  refine ⟨_, rfl, m, CM, dm, _, _, rfl, m3, ve.TM.cl, ve.TM.x, rfl, _, rfl, _, _, rfl, rfl, rfl, _, rfl, ?_⟩
  rw [eqI]
  refine ifF (by simp) ?_
  refine ⟨_, rfl, _, rfl, sp, _, _, V.int ((numK x.1 a.ps.length : Nat) : Int), rfl, rfl, hsp3, rfl, (by show 1 ≤ sizeLine; decide), fun l1 hl1 => ⟨v.ow, l1, _, _, rfl, rfl, Ex.upd hl1 _ _ how3, upd_same, ?_, fun ow' how' => ?_⟩⟩
  · rw [List.length_map]
    show _ + 1 ≤ _
    omega
  have e5 : KS.Ex H3 (upd (upd H3 l1 (.lst [V.int ((numK x.1 a.ps.length : Nat) : Int)])) ow' (.lst ((v.os.map fun n => V.int ((n : Nat) : Int)) ++ [V.int ((numK x.1 a.ps.length : Nat) : Int)]))) := (Ex.upd hl1).trans (Ex.upd how')
  have hw5 : (upd (upd H3 l1 (.lst [V.int ((numK x.1 a.ps.length : Nat) : Int)])) ow' (.lst ((v.os.map fun n => V.int ((n : Nat) : Int)) ++ [V.int ((numK x.1 a.ps.length : Nat) : Int)]))) ow' = some (.lst ((v.os ++ [numK x.1 a.ps.length]).map fun n => V.int ((n : Nat) : Int))) := by rw [upd_same, List.map_append]; rfl
  have hw2 : H2 ow' = none := g3 _ (none_ex (Ex.upd hl1) how')
  show sDPut (tVar 3) (tTup (tCons (tFld K (tVar 7) "name") (tCons (tVar 11) tNil))) (tVar 12) D [some (.ref dc), some (.ref a.o), some (.ref ow'), some (.ref a.se), some (.ref a.d), some (.ref a.ml), some (.int (i : Nat)), some (.ref m), some (.ref ka), some (.ref ra), some (.int (x.2.2 : Nat)), some (.int ((v.tl n).length : Nat)), some (.ref sp), a13, a14, a15, a16] (upd (upd H3 l1 (.lst [V.int ((numK x.1 a.ps.length : Nat) : Int)])) ow' (.lst ((v.os.map fun n => V.int ((n : Nat) : Int)) ++ [V.int ((numK x.1 a.ps.length : Nat) : Int)])))
  generalize upd (upd H3 l1 (.lst [V.int ((numK x.1 a.ps.length : Nat) : Int)])) ow' (.lst ((v.os.map fun n => V.int ((n : Nat) : Int)) ++ [V.int ((numK x.1 a.ps.length : Nat) : Int)])) = H5 at e5 hw5
  refine ⟨_, rfl, _, rfl, _, rfl, m, CM, dm, _, _, rfl, e5 _ _ m3, ve.TM.cl, ve.TM.n, rfl, _, rfl, (by show 2 ≤ sizeLine; decide), fun kt hkt => ?_⟩
  have e6 : KS.Ex H5 (upd H5 kt (.tup [.str n, .int ((v.tl n).length : Nat)])) := Ex.upd hkt
  have hk6 : (upd H5 kt (.tup [.str n, .int ((v.tl n).length : Nat)])) kt = some (.tup (([.inr n, .inl (((v.tl n).length : Nat) : Int)] : List Key).map kV)) := upd_same
  show ∃ _ _, _ ∧ DPut (upd H5 kt (.tup [.str n, .int ((v.tl n).length : Nat)])) _ _ _ _ ∧ _
  generalize upd H5 kt (.tup [.str n, .int ((v.tl n).length : Nat)]) = H6 at e6 hk6
  have hse6 := e6 _ _ (e5 _ _ hse3)
  refine ⟨a.se, _, rfl, DPut.t hse6 hk6 (by omega), ?_⟩
  have nms : m ≠ a.se := fun z => by rw [z, hse2] at hm2; cases hm2
  have nws : ow' ≠ a.se := fun z => by rw [z, hse2] at hw2; cases hw2
  refine fin _ _ (y.add (i := i) ve.ap hM kr.1 (by omega) hs tk hsp2 (fun b u n1 n2 h => by rw [L2.upd_ne n2]; exact e6 _ _ (e5 _ _ (f3 b u n1 h))) (by rw [L2.upd_ne nms]; exact e6 _ _ (e5 _ _ m3)) upd_same (by rw [L2.upd_ne nws]; exact e6 _ _ hw5) hw2)
end
end KL6
set_option Elab.async false
set_option linter.all false
set_option maxRecDepth 100000
set_option maxHeartbeats 4000000
namespace KL6
open PySem PySem.Spec PyProof.Rows L2 KB KC KS KN1 LamX K7
theorem qNe : (Str.ofString "_law_sent" ++ Str.ofString ".<locals>.") ++ Str.ofString "<lambda>" = qN := by decide +kernel
section
variable {P : Program} {w : World} {K : PySem.W.Frag} {mg : Str → Option Value} {base : Heap} {CP CL CD CM CG CR Ps Pn Pl cN cL fTo fS : Addr} {fdTo : FuncData} {A : Around} {outer : List PySem.Env} {s : Shared} {H0 : Hp} {E0' : XK}
theorem g_again (ve : LawE P w K mg base CP CL CD CM CG CR Ps Pn Pl cN cL fTo fdTo) (hr : Room 14 (xS P w K mg base fS cN A outer s H0 E0').A) :
    ∃ t0 t1, L2.PS (xS P w K mg base fS cN A outer s H0 E0') (sEl.getD 0 pS) t0 ∧ L2.PS (xS P w K mg base fS cN A outer s H0 E0') (sEl.getD 1 pS) t1 ∧ ∀ (D : Ends) (HB H : Hp) (dc : Addr) (i : Nat) (a : SA) (v : SV) (m dm ka ra : Addr) (n : Str) (x : Rc) (a12 a13 a14 a15 a16 : Option V), SI CD CL CP CM Ps Pn Pl dc HB i a v H → Mkr a m dm n → KeyRow i ka ra x H → i ≤ 20 → 0 < (v.tl n).length →
      (∀ (H' : Hp) (b13 : Option V), SI CD CL CP CM Ps Pn Pl dc HB i a v H' →
        D.nx [some (.ref dc), some (.ref a.o), some (.ref v.ow), some (.ref a.se), some (.ref a.d), some (.ref a.ml), some (.int (i : Nat)), some (.ref m), some (.ref ka), some (.ref ra), some (.int (x.2.2 : Nat)), some (.int ((v.tl n).length : Nat)), a12, b13, a14, a15, a16] H') →
      tSeq t0 t1 D [some (.ref dc), some (.ref a.o), some (.ref v.ow), some (.ref a.se), some (.ref a.d), some (.ref a.ml), some (.int (i : Nat)), some (.ref m), some (.ref ka), some (.ref ra), some (.int (x.2.2 : Nat)), some (.int ((v.tl n).length : Nat)), a12, a13, a14, a15, a16] H := by
  obtain ⟨fR, fdR, GR, gR, kR, bR⟩ := ve.roll
  obtain ⟨fT, fdT, GT, mT, bT⟩ := ve.dtake
  obtain ⟨oc, od, dV, kVs, doc, pm, an, cdv, ct, osl, rfl, lk, hcd, _, _⟩ := ve.told.ex
  have bTo := ve.told.bindsN (ps := ["what"]) fun _ _ _ _ _ _ us hl => match us, hl with | [_], _ => rfl
  have hz0 : sizeLine = 16777216 := rfl
  have hu := hr.units
  have hu1 := Nat.lt_trans (Nat.add_lt_add_left (by decide : 1 < 64) _) hu
  refine ⟨_, _, ps_set (i := 13) scSt.nd rfl (Or.inl rfl) (pe_call GR (hr.mono (by decide)) (by rfl) gR kR bR .nil pass0 (pa_cons (pv 0) (pa_cons (pv 11) pa_nil))),
    ps_if (PW.pt (pw_or (pt_cmpR (op_neD hu) (pe_meth (pv 4) ve.TD.cl mT GT (hr.mono (by decide)) bT (E := fun _ _ _ => False) .nil (passes_call L2.takes0 (fun _ _ _ _ h => h)) (pa_cons (pf 7) (pa_cons (pv 13) (pa_cons (pe_tup (pa_cons pe_str pa_nil)) (pa_cons (pe_tup (pa_cons pe_int pa_nil)) (pa_cons pe_int pa_nil))))))
        (pe_dget hu1 (pv 3) (pe_tup (pa_cons (pf 7) (pa_cons (pv 13) pa_nil))) (fun _ _ => rfl)) (nomark _))
      (pw_or1 (pt_cmpR op_ne (pe_lamcall (T := TT Ps Pn Pl) (P := Pn) (c := cN) (k := 12) (t := fun E => tMeth CD "take" (spDT CD CL CP CG Ps) [] E (tVar 4) (tCons (tFld K (tVar 7) "name") (tCons (tOp (rI0 fun i j => V.int (i + j)) (tVar 11) (tC (.int 1))) (tCons (tVar 8) (tCons (tVar 9) (tCons (tVar 10) tNil)))))) (by rfl) ve.gTold ve.told.kp lk hcd bTo (Ng := ["what"]) (sg := defScope sTold) ⟨rfl, rfl, rfl, by decide +kernel, rfl, by decide +kernel, by decide +kernel⟩ rfl (Or.inl rfl)
        (told_gives (by rfl) ve.G.g (by decide +kernel) (fun f => rfl)) ve.TBn rfl
        (show (Pn, (Str.ofString "_law_sent" ++ Str.ofString ".<locals>.") ++ Str.ofString "<lambda>") ∈ TT Ps Pn Pl by rw [qNe]; exact List.mem_cons_of_mem _ (List.mem_cons_self ..))
        (show ∀ p ∈ TT Ps Pn Pl, p.1 = Pn → p.2 = (Str.ofString "_law_sent" ++ Str.ofString ".<locals>.") ++ Str.ofString "<lambda>" by
          rw [qNe]
          intro p hp e
          rcases List.mem_cons.mp hp with z | hp
          · rw [z] at e; exact absurd e ve.ap.sn
          rcases List.mem_cons.mp hp with z | hp
          · rw [z]
          rcases List.mem_cons.mp hp with z | hp
          · rw [z] at e; exact absurd e.symm ve.ap.nl
          cases hp)
        hr (lamS_by (by show lamSB (defScope sSent) _ = true; decide +kernel)) rfl (fun _ _ _ _ _ => rfl)
        (fun A outer s H E f c' hr' => pe_meth (pv 4) ve.TD.cl mT GT (hr'.mono (by decide)) bT .nil (passes_call (takes_of rfl rfl rfl rfl) (fun _ _ _ _ h => h)) (pa_cons (pf 7) (pa_cons (pe_op op_add (pv 11) pe_int) (pa_cons (pv 8) (pa_cons (pv 9) (pa_cons (pv 10) pa_nil))))))) pe_str (nomark _))))) (pss_one (ps_ret pe_bl)) pss_nil, ?_⟩
  intro D HB H dc i a v m dm ka ra n x a12 a13 a14 a15 a16 y hM kr hi hpos fin
  have bl := y.bl n
  obtain ⟨bc1, bc2, bc3⟩ := y.bc
  refine ⟨_, rfl, _, rfl, roll_step y.st.dice (by omega) (by omega) fun r H1 r0 r1 e1 i1 => ?_⟩
  have y1 := y.exD e1 i1
  obtain ⟨j, rfl⟩ : ∃ j : Nat, r = (j : Int) := ⟨r.toNat, by omega⟩
  have hlt : j < (v.tl n).length := by omega
  have hj := List.getElem?_eq_getElem hlt
  generalize (v.tl n)[j] = sj at hj
  obtain ⟨hm, nm⟩ := hM.at y1
  obtain ⟨dxd, ob⟩ := y1.dl.dr.ob
  refine ⟨_, rfl, a.d, dxd, _, rfl, ob, rfl, _, rfl, m, CM, dm, _, _, rfl, hm, ve.TM.cl, ve.TM.n, rfl, _, rfl, (by show 1 ≤ sizeLine; decide), fun t1 ht1 => ⟨(by show 1 ≤ sizeLine; decide), fun t2 ht2 => ?_⟩⟩
  have e3 : KS.Ex H1 (upd (upd H1 t1 (.tup [.str "other"])) t2 (.tup [.int 0])) := (Ex.upd ht1).trans (Ex.upd ht2)
  show spDT CD CL CP CG Ps [.ref a.d, .str n, .int (j : Nat), .ref t1, .ref t2, .int 0] (upd (upd H1 t1 (.tup [.str "other"])) t2 (.tup [.int 0])) _ _
  generalize upd (upd H1 t1 (.tup [.str "other"])) t2 (.tup [.int 0]) = H3 at e3
  have y3 := y1.ex e3
  refine dt_step y3.dl (by omega) (by omega) (.inr (.inl ⟨j, sj, rfl, hj, fun H4 z e4 hz => ?_⟩))
  have y4 := y3.ex e4
  obtain ⟨hm4, _⟩ := hM.at y4
  refine ⟨_, rfl, _, rfl, m, CM, dm, _, _, rfl, hm4, ve.TM.cl, ve.TM.n, rfl, _, rfl, (by show 2 ≤ sizeLine; decide), fun kt hkt => ?_⟩
  have e5 : KS.Ex H4 (upd H4 kt (.tup [.str n, .int (j : Nat)])) := Ex.upd hkt
  have hk5 : (upd H4 kt (.tup [.str n, .int (j : Nat)])) kt = some (.tup (([.inr n, .inl ((j : Nat) : Int)] : List Key).map kV)) := upd_same
  show ∃ _ _, _ ∧ DGet (upd H4 kt (.tup [.str n, .int (j : Nat)])) _ _ _ ∧ _
  generalize upd H4 kt (.tup [.str n, .int (j : Nat)]) = H5 at e5 hk5
  have y5 := y4.ex e5
  obtain ⟨t, ht, hsp⟩ := y5.sn n j sj hj
  refine ⟨a.se, .ref t, rfl, by rw [← ht]; exact DGet.t y5.se hk5, ?_⟩
  refine ne_same (dp_spot (e5 _ _ hz)) (dp_spot hsp) (smp_i _) (by decide) ⟨_, rfl, ifF (by decide) ?_⟩
  refine ⟨y5.st.tabs, fun H6 e6 t6 => ?_⟩
  have y6 := y5.exN e6 t6
  obtain ⟨hm6, _⟩ := hM.at y6
  obtain ⟨dxd6, ob6⟩ := y6.dl.dr.ob
  refine ⟨_, rfl, a.d, dxd6, _, rfl, ob6, rfl, _, rfl, m, CM, dm, _, _, rfl, hm6, ve.TM.cl, ve.TM.n, rfl, _, rfl, _, _, rfl, rfl, _, rfl, _, rfl, _, rfl, dt_step y6.dl (by omega) (by omega) (.inl ⟨by omega, fun H7 e7 => ⟨true, ve.G.e, fun _ => ⟨rfl, _, rfl, ?_⟩, fun z => nomatch z⟩⟩)⟩
  exact ifF (by decide) (fin H7 _ (y6.ex e7))
end
end KL6
set_option Elab.async false
set_option linter.all false
set_option maxRecDepth 100000
set_option maxHeartbeats 4000000
namespace KL6
open PySem PySem.Spec PyProof.Rows L2 KB KC KS KN1 LamX K7
abbrev cmpSc : Scope := { kind := .function, names := [(".0", .local), ("k", .cell), ("len", .globalImplicit), ("own", .cell)], isGenerator := false, isCoroutine := false }
theorem dp_il {K : PySem.W.Frag} {H : Hp} {q : Addr} {l : List Int} (h : H q = some (.lst (l.map V.int))) : Dp K H (.ref q) (.list (l.map PyData.int)) := by
  refine .lst (SqL.of h) ?_
  clear h
  induction l with
  | nil => exact .nil
  | cons n l ih => exact .cons (.int n) ih
theorem smp_il (l : List Int) : Smp 1 (.list (l.map PyData.int)) := .lst fun x hx => by
  obtain ⟨n, _, rfl⟩ := List.mem_map.mp hx
  exact .int n
def cntL (os : List Nat) (j : Nat) : List Int := (List.range j).map fun k => ((cnt os k : Nat) : Int)
theorem cntL_snoc (os : List Nat) (j : Nat) : (cntL os j).map V.int ++ [V.int ((cnt os j : Nat) : Int)] = (cntL os (j + 1)).map V.int := by
  unfold cntL
  rw [List.range_succ, List.map_append, List.map_append]
  rfl
section
variable {P : Program} {w : World} {K : PySem.W.Frag} {mg : Str → Option Value} {base : Heap} {CP CL CD CM CG CR Ps Pn Pl cN cL fTo fS : Addr} {fdTo : FuncData} {A : Around} {outer : List PySem.Env} {s : Shared} {H0 : Hp} {E0' : XK}
theorem g_cmp (ve : LawE P w K mg base CP CL CD CM CG CR Ps Pn Pl cN cL fTo fdTo) (hr : Room 14 (xS P w K mg base fS cN A outer s H0 E0').A) :
    ∃ t0, L2.PS (xS P w K mg base fS cN A outer s H0 E0') (sSf 4) t0 ∧ ∀ (D : Ends) (HB H : Hp) (dc : Addr) (i : Nat) (a : SA) (v : SV) (a6 a7 a8 a9 a10 a11 a12 a13 a14 a15 a16 : Option V), SI CD CL CP CM Ps Pn Pl dc HB i a v H → i ≤ 21 →
      (∀ (H' : Hp), SI CD CL CP CM Ps Pn Pl dc HB i a v H' →
        D.nx [some (.ref dc), some (.ref a.o), some (.ref v.ow), some (.ref a.se), some (.ref a.d), some (.ref a.ml), a6, a7, a8, a9, a10, a11, a12, a13, a14, a15, a16] H') →
      t0 D [some (.ref dc), some (.ref a.o), some (.ref v.ow), some (.ref a.se), some (.ref a.d), some (.ref a.ml), a6, a7, a8, a9, a10, a11, a12, a13, a14, a15, a16] H := by
  obtain ⟨fE, fdE, GE, mE, bE⟩ := ve.pend
  have hz0 : sizeLine = 16777216 := rfl
  have hu := hr.units
  refine ⟨_, ps_if (pt_cmpR (op_neD hu)
      (pe_lc (own := [("part", 15)]) (g := gName 15) (tt := tYes) (te := tMeth CP "end" (spPE CP) [] (fun _ _ _ => False) (tVar 15) tNil) rfl scSt.nd (pi_list (pf 1)) (blkOk_by (N := nSt) (sc := defScope sSent) (by decide +kernel)) (fun _ _ _ _ _ => pg_name (i := 15) scSt.nd rfl (Or.inl rfl)) (fun _ _ _ _ _ => pts_nil) (fun _ _ _ _ _ => pe_meth0 (pv 15) ve.TP.cl mE GE (hr.mono (by decide)) bE .nil pass0))
      (pe_lc (own := [("k", 16)]) (g := gName 16) (tt := tYes) (te := tCB (rLen2 K) (tCons (tLc (iList K (tVar 2)) (gName 14) (tTest (tOp rEq (tVar 14) (tVar 16))) (tC (.int 1)) [14]) tNil)) rfl scSt.nd (pi_range1 (by rfl) ve.T.range (pa_cons (pe_callB call_len_seq (by rfl) ve.T.len (by decide +kernel) (pa_cons (pf 1) pa_nil)) pa_nil)) (blkOk_by (N := nSt) (sc := defScope sSent) (by decide +kernel)) (fun _ _ _ _ _ => pg_name (i := 16) scSt.nd rfl (Or.inr rfl)) (fun _ _ _ _ _ => pts_nil)
        (fun _ _ _ _ _ => pe_callB call_len_seq (by rfl) ve.T.len PySem.boot_len (pa_cons (pe_lc (own := [("one", 14)]) (g := gName 14) (tt := tTest (tOp rEq (tVar 14) (tVar 16))) (te := tC (.int 1)) rfl scSt.nd (pi_list (pv 2)) (blkOk_by (N := nSt) (sc := cmpSc) (by decide +kernel)) (fun _ _ _ _ _ => pg_name (i := 14) scSt.nd rfl (Or.inl rfl)) (fun _ _ _ _ _ => pts_one (pt_cmpR op_eq (pv 14) (pv 16) (nomark _))) (fun _ _ _ _ _ => pe_int)) pa_nil))) (nomark _))
    (pss_one (ps_ret pe_bl)) pss_nil, ?_⟩
  intro D HB H dc i a v a6 a7 a8 a9 a10 a11 a12 a13 a14 a15 a16 y hi fin
  obtain ⟨dxo, obo⟩ := y.dl.lg.ob
  have hlen := y.dl.lg.len
  obtain ⟨hn0, hn4⟩ := y.hn
  refine ⟨_, rfl, a.o, CL, dxo, _, _, rfl, obo, ve.TO.cl, ve.TO.p, rfl, a.q, rfl, ⟨_, SqL.of y.dl.lg.ql⟩, fun D1 hD1 => ?_⟩
  refine lc_list (xs := a.ps.map fun pl => V.ref pl.1) (fun j H' => KS.Ex H H' ∧ H' D1 = some (.lst ((cntL v.os j).map V.int))) ⟨Ex.upd hD1, upd_same⟩ ?_ ?_ ?_
  · rintro j H' _ ⟨e, _⟩
    exact SqL.of (e _ _ y.dl.lg.ql)
  · rintro j z H' hz ⟨e, hD⟩
    rw [List.getElem?_map] at hz
    obtain ⟨⟨p, l⟩, hj, rfl⟩ := Option.map_eq_some_iff.mp hz
    have hlt : j < v.sts.length := by
      rw [← hlen]
      exact (List.getElem?_eq_some_iff.mp hj).1
    have hs := List.getElem?_eq_getElem hlt
    obtain ⟨p1, l1, ee, pt⟩ := (y.ex e).dl.lg.get hs
    rw [hj] at ee
    cases ee
    obtain ⟨dp, k, v', ts, h1, _⟩ := id pt
    refine ⟨rfl, _, rfl, p, dp, _, rfl, h1, rfl, pe_step pt ⟨_, hD, ?_, ?_, ?_⟩⟩
    · unfold cntL
      rw [List.length_map, List.length_map, List.length_range]
      omega
    · exact Ex.on e hD1
    · rw [upd_same, Nat.zero_add, y.cn _ _ hs, cntL_snoc]
  · rintro H1 ⟨e1, hD⟩
    rw [List.length_map] at hD
    have y1 := y.ex e1
    obtain ⟨dxo1, obo1⟩ := y1.dl.lg.ob
    refine ⟨_, rfl, a.o, CL, dxo1, _, _, rfl, obo1, ve.TO.cl, ve.TO.p, rfl, a.q, _, rfl, .inl (SqL.of y1.dl.lg.ql), _, rfl, by omega, by rw [List.length_map]; omega, fun D2 hD2 => ?_⟩
    rw [List.length_map, Int.toNat_natCast]
    refine lc_range (fun k H' => KS.Ex H1 H' ∧ H' D2 = some (.lst ((cntL v.os k).map V.int))) ⟨Ex.upd hD2, upd_same⟩ ?_ ?_
    · rintro k H' hk ⟨e2, hDk⟩
      have y2 := y1.ex e2
      refine ⟨rfl, _, rfl, v.ow, rfl, ⟨_, SqL.of y2.ow⟩, fun D3 hD3 => ?_⟩
      refine lc_list (xs := v.os.map fun n => V.int ((n : Nat) : Int)) (fun j H3 => KS.Ex H' H3 ∧ H3 D3 = some (.lst (ones (cnt (v.os.take j) k)))) ⟨Ex.upd hD3, upd_same⟩ ?_ ?_ ?_
      · rintro j H3 _ ⟨e3, _⟩
        exact SqL.of (e3 _ _ y2.ow)
      · rintro j z H3 hz ⟨e3, hd3⟩
        rw [List.getElem?_map] at hz
        obtain ⟨b, hb, rfl⟩ := Option.map_eq_some_iff.mp hz
        refine ⟨rfl, _, rfl, _, rfl, rfl, _, rfl, ?_⟩
        rw [eqI]
        have ct := cnt_take hb k
        by_cases c : b = k
        · refine ifT (by simp [c]) ⟨_, hd3, ?_, Ex.on e3 hD3, ?_⟩
          · unfold ones
            rw [List.length_replicate]
            have g1 : cnt (v.os.take j) k ≤ (v.os.take j).length := List.length_filter_le _ _
            rw [List.length_take] at g1
            have := y.bc.2.2
            omega
          · rw [upd_same, ones_snoc, ct, if_pos c]
        · refine ifF (by simp; omega) ⟨e3, ?_⟩
          rw [hd3, ct, if_neg c]
          rfl
      · rintro H3 ⟨e3, hd3⟩
        rw [List.length_map, List.take_length] at hd3
        refine ⟨D3, _, rfl, .inl (SqL.of hd3), _, e3 _ _ hDk, ?_, Ex.on (e2.trans e3) hD2, ?_⟩
        · unfold cntL
          rw [List.length_map, List.length_map, List.length_range]
          omega
        · rw [upd_same]
          have e : (ones (cnt v.os k)).length = cnt v.os k := by unfold ones; rw [List.length_replicate]
          rw [e, cntL_snoc]
    · rintro H2 ⟨e2, hd2⟩
      refine ne_same (dp_il (e2 _ _ hD)) (dp_il hd2) (smp_il _) (by decide) ⟨_, rfl, ifF (by decide) (fin H2 (y1.ex e2))⟩
end
end KL6
set_option Elab.async false
set_option linter.all false
set_option maxRecDepth 100000
set_option maxHeartbeats 4000000
namespace KL6
open PySem PySem.Spec PyProof.Rows L2 KB KC KS KN1 LamX K7
theorem SI.mono {CD CL CP CM Ps Pn Pl dc : Addr} {HB : Hp} {i : Nat} {a : SA} {v : SV} {H : Hp} (x : SI CD CL CP CM Ps Pn Pl dc HB i a v H) : SI CD CL CP CM Ps Pn Pl dc HB (i + 1) a v H := by
  obtain ⟨c1, c2, c3⟩ := x.bc
  exact { st := x.st, dl := x.dl, ow := x.ow, se := x.se, ml := x.ml, a1 := x.a1, a2 := x.a2, sn := x.sn, cn := x.cn, bd := fun s' h => ⟨Nat.le_trans (x.bd s' h).1 (by omega), Nat.le_succ_of_le (x.bd s' h).2⟩, bl := fun n => Nat.le_succ_of_le (x.bl n), bc := ⟨by omega, by omega, by omega⟩, hn := x.hn, p1 := x.p1, p2 := x.p2, p3 := x.p3, p4 := x.p4, kb := x.kb, fb := x.fb }
@[irreducible] def spSent (Ps Pn Pl : Addr) : Sp := fun vs H Q _ => ∃ (dc : Addr), vs = [.ref dc] ∧ St Ps Pn Pl dc H ∧ ∀ H', St Ps Pn Pl dc H' → Kp dc H H' → Q (.bl true) H'
theorem sent_step {Ps Pn Pl dc : Addr} {H : Hp} {Q : VK} {E : XK} (s : St Ps Pn Pl dc H) (fin : ∀ H', St Ps Pn Pl dc H' → Kp dc H H' → Q (.bl true) H') : spSent Ps Pn Pl [.ref dc] H Q E := by
  unfold spSent
  exact ⟨dc, rfl, s, fin⟩
section
variable {P : Program} {w : World} {K : PySem.W.Frag} {mg : Str → Option Value} {base : Heap} {CP CL CD CM CG CR Ps Pn Pl cN cL fTo fS : Addr} {fd fdTo : FuncData}
theorem ok_sent (F : FnP K "_law_sent" "_law_sent" sSent [] fS fd) (hc : fd.code = .ref cN) (ve : LawE P w K mg base CP CL CD CM CG CR Ps Pn Pl cN cL fTo fdTo) : FnOk P w K mg base CX0 15 fS fd ["dice"] (spSent Ps Pn Pl) := by
  refine okC F hc scSt (fun vs H Q E h => ?_) (fun A outer s H vs Q E hr h => ?_)
  · unfold spSent at h
    obtain ⟨_, rfl, _⟩ := h; rfl
  · unfold spSent at h
    obtain ⟨dc, rfl, st, fin⟩ := h
    have hu := hr.units
    have hz0 : sizeLine = 16777216 := rfl
    obtain ⟨fR, fdR, GR, gR, kR, bR⟩ := ve.roll
    obtain ⟨b0, b1, B0, B1, hB⟩ := g_begin (fS := fS) (A := A) (outer := outer) (s := s) (H0 := H) (E0' := E) ve hr
    obtain ⟨d0, d1, d2, D0, D1, D2, hD⟩ := g_draw (fS := fS) (A := A) (outer := outer) (s := s) (H0 := H) (E0' := E) ve hr
    obtain ⟨p0, P0, hP⟩ := g_spot (fS := fS) (A := A) (outer := outer) (s := s) (H0 := H) (E0' := E) ve hr
    obtain ⟨s1, s2, s3, S1, S2, S3, hS⟩ := g_send (fS := fS) (A := A) (outer := outer) (s := s) (H0 := H) (E0' := E) ve hr
    obtain ⟨e0, e1, E0, E1, hE⟩ := g_again (fS := fS) (A := A) (outer := outer) (s := s) (H0 := H) (E0' := E) ve hr
    obtain ⟨c0, C0, hC⟩ := g_cmp (fS := fS) (A := A) (outer := outer) (s := s) (H0 := H) (E0' := E) ve hr
    refine ⟨_, PSs.nox <| (pss_cons B0 (pss_cons B1 (pss_cons (ps_for PassesOwn.never rfl (pi_range1 (by rfl) ve.T.range (pa_cons (pe_call GR (hr.mono (by decide)) (by rfl) gR kR bR .nil pass0 (pa_cons (pv 0) (pa_cons pe_int pa_nil))) pa_nil)) (pg_name (i := 6) scSt.nd rfl (Or.inl rfl))
        (pss_cons D0 (pss_cons D1 (pss_cons D2 (pss_cons (ps_if (PW.pt (pw_or (pt_cmpR op_gt (pe_call GR (hr.mono (by decide)) (by rfl) gR kR bR .nil pass0 (pa_cons (pv 0) (pa_cons pe_int pa_nil))) pe_int (nomark _)) (pw_or1 (pt_cmpR op_eq (pv 11) pe_int (nomark _))))) (pss_cons P0 (pss_cons S1 (pss_cons S2 (pss_one S3)))) (pss_cons E0 (pss_one E1))) (pss_one C0))))))
      (pss_one (ps_ret pe_bl)))) : PSs (xS P w K mg base fS cN A outer s H E) (defBody sSent) _), ?_⟩
    refine hB _ H dc _ st fun H1 a v y => ?_
    refine ⟨_, rfl, roll_step y.st.dice (by decide) (by decide) fun r H2 r0 r20 f1 i1 => ⟨_, rfl, by omega, by omega, ?_⟩⟩
    have y2 := y.exD f1 i1
    refine for_range (n := r.toNat) (fun i σ H' => ∃ (v : SV) (a6 a7 a8 a9 a10 a11 a12 a13 a14 a15 a16 : Option V), σ = [some (.ref dc), some (.ref a.o), some (.ref v.ow), some (.ref a.se), some (.ref a.d), some (.ref a.ml), a6, a7, a8, a9, a10, a11, a12, a13, a14, a15, a16] ∧ SI CD CL CP CM Ps Pn Pl dc H i a v H') ⟨v, _, _, _, _, _, _, _, _, _, _, _, rfl, y2⟩ ?_ ?_
    · rintro i σ H3 hi ⟨v, a6, a7, a8, a9, a10, a11, a12, a13, a14, a15, a16, rfl, y3⟩
      show tSeq _ _ _ [some (.ref dc), some (.ref a.o), some (.ref v.ow), some (.ref a.se), some (.ref a.d), some (.ref a.ml), some (.int (0 + (i : Nat))), a7, a8, a9, a10, a11, a12, a13, a14, a15, a16] H3
      rw [Int.zero_add]
      refine hD _ H H3 dc i a v a7 a8 a9 a10 a11 a12 a13 a14 a15 a16 _ y3 fun H4 m dm ka ra n x y4 hM kr => ?_
      have ends : ∀ {H' : Hp} {v' : SV} {b6 b7 b8 b9 b10 b11 b12 b13 b14 b15 b16 : Option V}, SI CD CL CP CM Ps Pn Pl dc H (i + 1) a v' H' → ∃ (v : SV) (a6 a7 a8 a9 a10 a11 a12 a13 a14 a15 a16 : Option V), [some (.ref dc), some (.ref a.o), some (.ref v'.ow), some (.ref a.se), some (.ref a.d), some (.ref a.ml), b6, b7, b8, b9, b10, b11, b12, b13, b14, b15, b16] = [some (V.ref dc), some (.ref a.o), some (.ref v.ow), some (.ref a.se), some (.ref a.d), some (.ref a.ml), a6, a7, a8, a9, a10, a11, a12, a13, a14, a15, a16] ∧ SI CD CL CP CM Ps Pn Pl dc H (i + 1) a v H' := fun y' => ⟨_, _, _, _, _, _, _, _, _, _, _, _, rfl, y'⟩
      refine ⟨_, rfl, roll_step y4.st.dice (by decide) (by decide) fun r' H5 q0 q3 f5 i5 => ⟨_, _, rfl, rfl, _, rfl, ?_⟩⟩
      have y5 := y4.exD f5 i5
      have kr5 := kr.kt ((Kp.exD f5).kt y4.st.dice)
      by_cases c : r' > 0
      · refine ifT (by simpa using c) (ifT rfl ?_)
        exact hP _ H H5 dc i a v m dm ka ra n x a12 a13 a14 a15 a16 _ y5 kr5 (by omega) fun H6 sp y6 kr6 hsp => hS _ H H6 dc i a v m dm ka ra sp n x a13 a14 a15 a16 y6 hM kr6 (by omega) hsp fun H7 v' y7 => hC _ H H7 dc (i + 1) a v' _ _ _ _ _ _ _ _ _ _ _ y7 (by omega) fun H8 y8 => ends y8
      · refine ifF (by simpa using c) ⟨_, rfl, rfl, _, rfl, ?_⟩
        rw [eqI]
        by_cases c2 : (v.tl n).length = 0
        · refine ifT (by simp [c2]) ?_
          exact hP _ H H5 dc i a v m dm ka ra n x a12 a13 a14 a15 a16 _ y5 kr5 (by omega) fun H6 sp y6 kr6 hsp => hS _ H H6 dc i a v m dm ka ra sp n x a13 a14 a15 a16 y6 hM kr6 (by omega) hsp fun H7 v' y7 => hC _ H H7 dc (i + 1) a v' _ _ _ _ _ _ _ _ _ _ _ y7 (by omega) fun H8 y8 => ends y8
        · refine ifF (by rw [decide_eq_false (by omega)]; decide) ?_
          exact hE _ H H5 dc i a v m dm ka ra n x a12 a13 a14 a15 a16 y5 hM kr5 (by omega) (by omega) fun H6 b13 y6 => hC _ H H6 dc (i + 1) a v _ _ _ _ _ _ _ _ _ _ _ y6.mono (by omega) fun H7 y7 => ends y7
    · rintro σ H3 ⟨v, a6, a7, a8, a9, a10, a11, a12, a13, a14, a15, a16, rfl, y3⟩
      exact fin H3 y3.st y3.kb
end
end KL6
set_option Elab.async false
set_option linter.all false
set_option maxRecDepth 100000
set_option maxHeartbeats 2000000
namespace KL6
open PySem PySem.Spec PyProof.Rows L2 KB KC KS KN1 LamX K7
def lens (xs : List Rc) : List Int := xs.map fun x => (((recL x).length : Nat) : Int)
theorem recsL_len (xs : List Rc) : (((recsL xs).length : Nat) : Int) = (lens xs).sum := by
  induction xs with
  | nil => rfl
  | cons x r ih =>
    rw [recsL_cons, List.length_append]
    show _ = (((recL x).length : Nat) : Int) + (lens r).sum
    rw [← ih]; omega
theorem lens_take (xs : List Rc) (n : Nat) : (lens xs).take n = lens (xs.take n) := by
  unfold lens
  rw [List.map_take]
theorem whole_fit : ∀ (xs : List Rc) (n : Nat), (recsL (xs.take (whole xs n))).length ≤ n
  | [], n => by unfold whole; exact Nat.zero_le _
  | x :: r, n => by
    unfold whole
    split
    · rename_i h
      rw [List.take_succ_cons, recsL_cons, List.length_append]
      have := whole_fit r (n - (recL x).length)
      omega
    · exact Nat.zero_le _
theorem whole_most : ∀ (xs : List Rc) (n j : Nat), j ≤ xs.length → (recsL (xs.take j)).length ≤ n → j ≤ whole xs n
  | [], n, j, h, _ => by
    have : j = 0 := by simpa using h
    omega
  | x :: r, n, 0, _, _ => Nat.zero_le _
  | x :: r, n, j + 1, h, hb => by
    rw [List.take_succ_cons, recsL_cons, List.length_append] at hb
    unfold whole
    rw [if_pos (by omega)]
    have := whole_most r (n - (recL x).length) j (by simpa using h) (by omega)
    omega
theorem whole_is {xs : List Rc} {n j : Nat} (h1 : j ≤ xs.length) (h2 : (lens (xs.take j)).sum ≤ (n : Int)) (h3 : ¬ (j < xs.length ∧ (lens (xs.take (j + 1))).sum ≤ (n : Int))) : j = whole xs n := by
  rw [← recsL_len] at h2
  have a := whole_most xs n j h1 (by omega)
  by_cases c : j = whole xs n
  · exact c
  · exfalso
    have hl := whole_le xs n
    have hf := whole_fit xs n
    refine h3 ⟨by omega, ?_⟩
    rw [← recsL_len]
    have e : recsL (xs.take (whole xs n)) = recsL (xs.take (j + 1)) ++ recsL ((xs.take (whole xs n)).drop (j + 1)) := by
      have := recsL_app ((xs.take (whole xs n)).take (j + 1)) ((xs.take (whole xs n)).drop (j + 1))
      rw [List.take_append_drop, List.take_take, Nat.min_eq_left (by omega)] at this
      exact this
    rw [e, List.length_append] at hf
    omega
theorem crash_left {xs : List Rc} (ok : ∀ x ∈ xs, OkR x) {k : Nat} (hk : k ≤ xs.length) (n : Nat) :
    (pRecs (leftL (recsL (xs.take k)) (recsL (xs.drop k)) (n : Int))).1 = xs.take (k + whole (xs.drop k) n) ∧ keptL (leftL (recsL (xs.take k)) (recsL (xs.drop k)) (n : Int)) = recsL (xs.take (k + whole (xs.drop k) n)) := by
  have okd : ∀ x ∈ xs.drop k, OkR x := fun x hx => ok x (List.mem_of_mem_drop hx)
  obtain ⟨rest, e, hr⟩ := pRecs_cut okd n
  have e1 : leftL (recsL (xs.take k)) (recsL (xs.drop k)) (n : Int) = recsL (xs.take (k + whole (xs.drop k) n)) ++ rest := by
    unfold leftL
    rw [Int.toNat_natCast, e, ← List.append_assoc, ← recsL_app, List.take_add]
  have e2 := pRecs_enc hr (xs := xs.take (k + whole (xs.drop k) n)) fun x hx => ok x (List.mem_of_mem_take hx)
  unfold keptL
  rw [e1, e2]
  refine ⟨rfl, ?_⟩
  show (recsL _ ++ rest).take ((recsL _ ++ rest).length - rest.length) = _
  rw [List.length_append, Nat.add_sub_cancel]
  exact List.take_left
theorem left_bytes {xs : List Rc} (ok : ∀ x ∈ xs, OkR x) {k : Nat} (n : Nat) : Bytes (leftL (recsL (xs.take k)) (recsL (xs.drop k)) (n : Int)) := fun y hy => by
  rcases List.mem_append.mp hy with h | h
  · exact recsL_bytes (fun x hx => ok x (List.mem_of_mem_take hx)) y h
  · exact recsL_bytes (fun x hx => ok x (List.mem_of_mem_drop hx)) y (List.mem_of_mem_take h)
theorem recs_le : ∀ {xs : List Rc}, (∀ x ∈ xs, OkR x) → (recsL xs).length ≤ 25 * xs.length
  | [], _ => Nat.le_refl _
  | x :: r, h => by
    rw [recsL_cons, List.length_append, List.length_cons]
    have := recL_le (h x List.mem_cons_self)
    have := recs_le (xs := r) fun y hy => h y (List.mem_cons_of_mem _ hy)
    omega
theorem left_le {xs : List Rc} (ok : ∀ x ∈ xs, OkR x) {k : Nat} (n : Nat) : (leftL (recsL (xs.take k)) (recsL (xs.drop k)) (n : Int)).length ≤ 25 * xs.length := by
  unfold leftL
  rw [List.length_append, List.length_take]
  have e := congrArg List.length (recsL_app (xs.take k) (xs.drop k))
  rw [List.take_append_drop, List.length_append] at e
  have := recs_le ok
  omega
end KL6
set_option Elab.async false
set_option linter.all false
set_option maxRecDepth 100000
set_option maxHeartbeats 4000000
namespace KL6
open PySem PySem.Spec PyProof.Rows L2 KB KC KS KN1 LamX K7
abbrev nLaw : List Str := ["script", "dice", "own", "kept", "first", "step", "sort", "key", "row", "time", "many", "left", "record", "waits", "gone", "due", "whole", "spot", "bent", "found", "log", "table", "number", "bad", "most", "part", "place", "one", "k", "f"]
theorem scLaw : FnScope nLaw ["script"] (defScope sLaw) := ⟨rfl, rfl, rfl, by decide +kernel, rfl, by decide +kernel, by decide +kernel⟩
abbrev law0 : List Stmt := forBody ((defBody sLaw).getD 0 pS)
abbrev lS (i : Nat) : Stmt := law0.getD i pS
abbrev dBody : List Stmt := forBody (lS 1)
abbrev dS (i : Nat) : Stmt := dBody.getD i pS
abbrev xLaw (P : Program) (w : World) (K : PySem.W.Frag) (mg : Str → Option Value) (base : Heap) (fL cL : Addr) (A : Around) (outer : List PySem.Env) (s : Shared) (H0 : Hp) (E0' : XK) : Cx := (cxOf CX0 P w K mg base nLaw "law" (defScope sLaw) fL (.ref cL) A outer s H0 E0').nox
def Sd (d ow k fi st p : V) (σ : L2.St) : Prop := ∃ a0 a6 a7 a8 a9 a10 a11 a12 a13 a14 a15 a16 a17 a18 a19 a20 a21 a22 a23 a24 a26 a27 a28 a29 : Option V,
  σ = [a0, some d, some ow, some k, some fi, some st, a6, a7, a8, a9, a10, a11, a12, a13, a14, a15, a16, a17, a18, a19, a20, a21, a22, a23, a24, some p, a26, a27, a28, a29]
theorem Sd.mk {d ow k fi st p : V} {a0 a6 a7 a8 a9 a10 a11 a12 a13 a14 a15 a16 a17 a18 a19 a20 a21 a22 a23 a24 a26 a27 a28 a29 : Option V} : Sd d ow k fi st p [a0, some d, some ow, some k, some fi, some st, a6, a7, a8, a9, a10, a11, a12, a13, a14, a15, a16, a17, a18, a19, a20, a21, a22, a23, a24, some p, a26, a27, a28, a29] := ⟨_, _, _, _, _, _, _, _, _, _, _, _, _, _, _, _, _, _, _, _, _, _, _, _, rfl⟩
structure DI (CP Ps Pn Pl dc : Addr) (HB : Hp) (i : Nat) (p l ow : Addr) (xs : List Rc) (k fi : Nat) (H : Hp) : Prop where
  st : St Ps Pn Pl dc H
  pt : PtA CP p l (recsL (xs.take k)) (recsL (xs.drop k)) xs fi H
  hw : ∃ ts, H ow = some (.lst (ts.map V.ref)) ∧ Recs H ts xs
  kl : k ≤ xs.length
  ok : ∀ x ∈ xs, ∃ step, step ≤ 40 ∧ LawRc step x
  nl : fi + xs.length ≤ i
  ap : ow ≠ l ∧ ow ≠ dc ∧ l ≠ dc
  kb : Kp dc HB H
  fb : HB p = none ∧ (∀ u, HB l = some u → ∃ tb, u = .tbl tb) ∧ ∀ u, HB ow = some u → ∃ tb, u = .tbl tb
section
variable {CP Ps Pn Pl dc : Addr} {HB : Hp} {i : Nat} {p l ow : Addr} {xs : List Rc} {k fi : Nat} {H H' : Hp}
theorem DI.okR (x : DI CP Ps Pn Pl dc HB i p l ow xs k fi H) : ∀ y ∈ xs, OkR y := fun y hy => by
  obtain ⟨s, h1, h2⟩ := x.ok y hy
  exact h2.okR (by omega)
theorem DI.okB (x : DI CP Ps Pn Pl dc HB i p l ow xs k fi H) : ∀ y ∈ xs, OkB y := fun y hy => by
  obtain ⟨s, h1, h2⟩ := x.ok y hy
  exact h2.okB (by omega)
theorem DI.kp (x : DI CP Ps Pn Pl dc HB i p l ow xs k fi H) (s : St Ps Pn Pl dc H') (e : Kp dc H H') : DI CP Ps Pn Pl dc HB i p l ow xs k fi H' := by
  obtain ⟨ts, h1, h2⟩ := x.hw
  exact ⟨s, x.pt.kp x.st.dice e x.ap.2.2, ⟨ts, e _ _ x.ap.2.1 h1 (fun _ z => nomatch z), h2.kt (e.kt x.st.dice)⟩, x.kl, x.ok, x.nl, x.ap, x.kb.trans e, x.fb⟩
theorem DI.ex (x : DI CP Ps Pn Pl dc HB i p l ow xs k fi H) (e : KS.Ex H H') : DI CP Ps Pn Pl dc HB i p l ow xs k fi H' := x.kp (x.st.ex e) (Kp.of e)
theorem DI.exD (x : DI CP Ps Pn Pl dc HB i p l ow xs k fi H) (e : ExD dc H H') (d : IsDice H' dc) : DI CP Ps Pn Pl dc HB i p l ow xs k fi H' := x.kp (x.st.exD e d) (Kp.exD e)
theorem DI.tb (x : DI CP Ps Pn Pl dc HB i p l ow xs k fi H) (ap : Apt Ps Pn Pl) (e : Tb Ps H H') : DI CP Ps Pn Pl dc HB i p l ow xs k fi H' := x.kp (x.st.tb ap e) (Kp.tb x.st.ts e)
theorem DI.exN (x : DI CP Ps Pn Pl dc HB i p l ow xs k fi H) (e : ExtN H H') (t : Tabs (TT Ps Pn Pl) H') : DI CP Ps Pn Pl dc HB i p l ow xs k fi H' := x.kp (x.st.exN e t) (Kp.exN e)
theorem DI.mono (x : DI CP Ps Pn Pl dc HB i p l ow xs k fi H) : DI CP Ps Pn Pl dc HB (i + 1) p l ow xs k fi H := ⟨x.st, x.pt, x.hw, x.kl, x.ok, Nat.le_succ_of_le x.nl, x.ap, x.kb, x.fb⟩
theorem DI.fr (x : DI CP Ps Pn Pl dc HB i p l ow xs k fi H) (ap : Apt Ps Pn Pl) (f : FrP Ps p l H H') : St Ps Pn Pl dc H' ∧ Kp dc HB H' ∧ (∃ ts, H' ow = some (.lst (ts.map V.ref)) ∧ Recs H' ts xs) ∧ KT' H H' := by
  obtain ⟨dx, kk, v, ts, h1, h2, h3, h4, h5⟩ := id x.pt
  obtain ⟨tb, hP, _⟩ := id x.st.ts
  have other : ∀ {b : Addr} {u : HO}, b ≠ Ps → H b = some u → (∀ C d fs, u ≠ .ins C d fs) → (∀ xs, u ≠ .lst xs) → H' b = some u := fun {b u} n h x1 x2 => f.2 b u n (fun z => by rw [z, h1] at h; exact x1 _ _ _ (Option.some.inj h).symm) (fun z => by rw [z, h4] at h; exact x2 _ (Option.some.inj h).symm) h
  have go : ∀ {P : Addr} {q : Str}, P ≠ Ps → TabS H P q → TabS H' P q := fun n t => tabS_two t (fun _ h => other n h (fun _ _ _ z => nomatch z) (fun _ z => nomatch z)) (fun _ _ h => other (fun z => by rw [z, hP] at h; cases h) h (fun _ _ _ z => nomatch z) (fun _ z => nomatch z))
  have lst : ∀ {b : Addr} {ys : List V}, b ≠ l → H b = some (.lst ys) → H' b = some (.lst ys) := fun {b ys} n h => f.2 b _ (fun z => by rw [z, hP] at h; cases h) (fun z => by rw [z, h1] at h; cases h) n h
  have kt : KT' H H' := fun b ys h => other (fun z => by rw [z, hP] at h; cases h) h (fun _ _ _ z => nomatch z) (fun _ z => nomatch z)
  obtain ⟨a1, a2, a3, hd⟩ := x.st.dice
  obtain ⟨us, g1, g2⟩ := x.hw
  refine ⟨⟨f.1, go ap.sn.symm x.st.tn, go ap.sl.symm x.st.tl, ⟨a1, a2, a3, lst x.ap.2.2.symm hd⟩⟩, fun b u n h nt => ?_, ⟨us, lst x.ap.1 g1, g2.kt kt⟩, kt⟩
  have hb := x.kb b u n h nt
  refine f.2 b u (fun z => by rw [z, hP] at hb; exact nt _ (Option.some.inj hb).symm) (fun z => by rw [z, x.fb.1] at h; cases h) (fun z => ?_) hb
  obtain ⟨tb', e⟩ := x.fb.2.1 u (by rw [← z]; exact h)
  exact nt tb' e
theorem DI.new (x : DI CP Ps Pn Pl dc HB i p l ow xs k fi H) {b : Addr} (h : H b = none) : ∀ u, HB b = some u → ∃ tb, u = .tbl tb := fun u hu => Classical.byContradiction fun nt => by
  obtain ⟨a1, a2, a3, hd⟩ := x.st.dice
  have := x.kb b u (fun z => by rw [z, hd] at h; cases h) hu (fun tb z => nt ⟨tb, z⟩)
  rw [h] at this; cases this
end
end KL6
set_option Elab.async false
set_option linter.all false
set_option maxRecDepth 100000
set_option maxHeartbeats 4000000
namespace KL6
open PySem PySem.Spec PyProof.Rows L2 KB KC KS KN1 LamX K7
abbrev addB : List Stmt := ifBody (dS 1)
abbrev rest1 : Stmt := (ifElse (dS 1)).getD 0 pS
abbrev syncB : List Stmt := ifBody rest1
abbrev rest2 : Stmt := (ifElse rest1).getD 0 pS
abbrev crashB : List Stmt := ifBody rest2
abbrev rest3 : Stmt := (ifElse rest2).getD 0 pS
abbrev trimB : List Stmt := ifBody rest3
theorem drop_snoc {xs : List Rc} {k : Nat} (h : k ≤ xs.length) (x : Rc) : recsL ((xs ++ [x]).drop k) = recsL (xs.drop k) ++ recL x ∧ recsL ((xs ++ [x]).take k) = recsL (xs.take k) := by
  rw [List.drop_append_of_le_length h, List.take_append_of_le_length h, recsL_app]
  exact ⟨by show recsL (xs.drop k) ++ (recL x ++ []) = _; rw [List.append_nil], rfl⟩
section
variable {P : Program} {w : World} {K : PySem.W.Frag} {mg : Str → Option Value} {base : Heap} {CP CL CD CM CG CR Ps Pn Pl cN cL fTo fL : Addr} {fdTo : FuncData} {A : Around} {outer : List PySem.Env} {s : Shared} {H0 : Hp} {E0' : XK}
theorem g_add (ve : LawE P w K mg base CP CL CD CM CG CR Ps Pn Pl cN cL fTo fdTo) (hr : Room 16 (xLaw P w K mg base fL cL A outer s H0 E0').A) :
    ∃ t0 t1 t2, L2.PS (xLaw P w K mg base fL cL A outer s H0 E0') (addB.getD 0 pS) t0 ∧ L2.PS (xLaw P w K mg base fL cL A outer s H0 E0') (addB.getD 1 pS) t1 ∧ L2.PS (xLaw P w K mg base fL cL A outer s H0 E0') (addB.getD 2 pS) t2 ∧ ∀ (D : Ends) (HB H : Hp) (dc : Addr) (i : Nat) (p l ow : Addr) (xs : List Rc) (k fi : Nat) (σ : L2.St), Sd (.ref dc) (.ref ow) (.int (k : Nat)) (.int (fi : Nat)) (.int (i : Nat)) (.ref p) σ → DI CP Ps Pn Pl dc HB i p l ow xs k fi H → i ≤ 40 →
      (∀ (σ' : L2.St) (H' : Hp) (x : Rc), Sd (.ref dc) (.ref ow) (.int (k : Nat)) (.int (fi : Nat)) (.int (i : Nat)) (.ref p) σ' → DI CP Ps Pn Pl dc HB (i + 1) p l ow (xs ++ [x]) k fi H' → D.nx σ' H') → tSeq t0 (tSeq t1 t2) D σ H := by
  obtain ⟨fX, fdX, GX, gX, kX, bX⟩ := ve.lrec
  obtain ⟨fA, fdA, GA, mA, bA⟩ := ve.papp
  have hz0 : sizeLine = 16777216 := rfl
  refine ⟨_, _, _, ps_asg (pe_call GX (hr.mono (by decide)) (by rfl) gX kX bX .nil pass0 (pa_cons (pv 1) (pa_cons (pv 5) pa_nil))) (pg_tup rfl (pgs_cons (pg_name (i := 7) scLaw.nd rfl (Or.inl rfl)) (pgs_cons (pg_name (i := 8) scLaw.nd rfl (Or.inl rfl)) (pgs_cons (pg_name (i := 9) scLaw.nd rfl (Or.inl rfl)) pgs_nil)))),
    ps_if (pt_cmpR op_ne (pe_meth (pv 25) ve.TP.cl mA GA (hr.mono (by decide)) bA (E := fun _ _ _ => False) .nil (passes_call L2.takes0 (fun _ _ _ _ h => h)) (pa_cons (pv 7) (pa_cons (pv 8) (pa_cons (pv 9) pa_nil)))) (pe_op op_add (pv 4) (pe_callB call_len_seq (by rfl) ve.T.len (by decide +kernel) (pa_cons (pv 2) pa_nil))) (nomark _)) (pss_one (ps_ret pe_bl)) pss_nil,
    ps_expr (pe_bm PySem.F.plainAttrs_list PySem.F.slot_list_append PySem.F.type_list_append mt_append (pv 2) (pa_cons (pe_tup (pa_cons (pv 7) (pa_cons (pv 8) (pa_cons (pv 9) pa_nil)))) pa_nil)), ?_⟩
  rintro D HB H dc i p l ow xs k fi σ ⟨a0, a6, a7, a8, a9, a10, a11, a12, a13, a14, a15, a16, a17, a18, a19, a20, a21, a22, a23, a24, a26, a27, a28, a29, rfl⟩ y hi fin
  refine ⟨_, rfl, _, rfl, lr_step y.st.dice fun H1 z x e1 i1 hx ra => ?_⟩
  have y1 := y.exD e1 i1
  obtain ⟨ka, rb, h1, h2, h3⟩ := ra
  refine ⟨z, _, rfl, SqT.of h1, rfl, _, _, rfl, _, _, rfl, _, _, rfl, rfl, ?_⟩
  obtain ⟨dx, kk, v, ts, g1, _⟩ := id y1.pt
  have nl := y.nl
  have lb := recs_le (xs := xs.drop k) fun x hx => y.okR x (List.mem_of_mem_drop hx)
  rw [List.length_drop] at lb
  refine ⟨_, rfl, p, dx, _, rfl, g1, rfl, _, rfl, _, rfl, _, rfl, app_step y1.pt (by omega) (by omega) h2 h3 (hx.okB (by omega)) y1.st.ts fun H2 f2 pt2 => ?_⟩
  obtain ⟨s2, k2, ⟨us, w1, w2⟩, kt2⟩ := y1.fr ve.ap f2
  have lus := paired_len w2
  refine ⟨_, rfl, _, rfl, ow, _, rfl, .inl (SqL.of w1), _, _, rfl, rfl, rfl, _, rfl, ?_⟩
  rw [eqI, List.length_map, lus]
  refine ifF (by simp) ?_
  refine ⟨_, rfl, .inl ⟨rfl, _, SqL.of w1⟩, _, rfl, _, rfl, _, rfl, (by show 3 ≤ sizeLine; decide), fun q hq => ⟨ow, _, _, rfl, rfl, Ex.upd hq _ _ w1, by rw [List.length_map]; omega, ?_⟩⟩
  have e3 : KS.Ex H2 (upd H2 q (.tup [.ref ka, .ref rb, .int (x.2.2 : Nat)])) := Ex.upd hq
  have hq3 : (upd H2 q (.tup [.ref ka, .ref rb, .int (x.2.2 : Nat)])) q = some (.tup [.ref ka, .ref rb, .int (x.2.2 : Nat)]) := upd_same
  generalize upd H2 q (.tup [.ref ka, .ref rb, .int (x.2.2 : Nat)]) = H3 at e3 hq3
  rw [show us.map V.ref ++ [V.ref q] = (us ++ [q]).map V.ref by rw [List.map_append]; rfl]
  have w3 := e3 _ _ w1
  have ra3 : RecAt H3 q x := ⟨ka, rb, hq3, e3 _ _ (kt2 _ _ h2), e3 _ _ (kt2 _ _ h3)⟩
  have k4 : KT' H3 (upd H3 ow (.lst ((us ++ [q]).map V.ref))) := fun b ys h => by rw [L2.upd_ne (fun z => by rw [z, w3] at h; cases h)]; exact h
  obtain ⟨d1, d2⟩ := drop_snoc y.kl x
  obtain ⟨dx2, kk2, v2, ts2, p1, p2, p3, p4, p5⟩ := pt2.ex e3
  refine fin _ _ x Sd.mk ⟨(s2.ex e3).wr w3 (fun _ z => nomatch z) (fun _ z => nomatch z) y.ap.2.1, ?_, ⟨us ++ [q], upd_same, paired_snoc' ((w2.kt (kt_of e3)).kt k4) (ra3.kt k4)⟩, by rw [List.length_append]; exact Nat.le_add_right_of_le y.kl, fun x' hx' => ?_, by rw [List.length_append]; show fi + (xs.length + 1) ≤ _; omega, y.ap, fun b u n h nt => ?_, y.fb⟩
  · rw [d1, d2]
    exact ⟨dx2, kk2, v2, ts2, by rw [L2.upd_ne (fun z => by rw [z, w3] at p1; cases p1)]; exact p1, k4 _ _ p2, k4 _ _ p3, by rw [L2.upd_ne y.ap.1.symm]; exact p4, p5.kt k4⟩
  · rcases List.mem_append.mp hx' with h | h
    · exact y.ok x' h
    · rw [List.mem_singleton.mp h]; exact ⟨i, hi, hx⟩
  · rw [L2.upd_ne (fun z => by
      obtain ⟨tb, e⟩ := y.fb.2.2 u (by rw [← z]; exact h)
      exact nt tb e)]
    exact e3 _ _ (k2 b u n h nt)
theorem g_keep (ve : LawE P w K mg base CP CL CD CM CG CR Ps Pn Pl cN cL fTo fdTo) (hr : Room 16 (xLaw P w K mg base fL cL A outer s H0 E0').A) :
    ∃ t0 t1, L2.PS (xLaw P w K mg base fL cL A outer s H0 E0') (syncB.getD 0 pS) t0 ∧ L2.PS (xLaw P w K mg base fL cL A outer s H0 E0') (syncB.getD 1 pS) t1 ∧ ∀ (D : Ends) (HB H : Hp) (dc : Addr) (i : Nat) (p l ow : Addr) (xs : List Rc) (k fi : Nat) (σ : L2.St), Sd (.ref dc) (.ref ow) (.int (k : Nat)) (.int (fi : Nat)) (.int (i : Nat)) (.ref p) σ → DI CP Ps Pn Pl dc HB i p l ow xs k fi H → i ≤ 40 →
      (∀ (σ' : L2.St) (H' : Hp), Sd (.ref dc) (.ref ow) (.int (xs.length : Nat)) (.int (fi : Nat)) (.int (i : Nat)) (.ref p) σ' → DI CP Ps Pn Pl dc HB i p l ow xs xs.length fi H' → D.nx σ' H') → tSeq t0 t1 D σ H := by
  obtain ⟨fS, fdS, GS, mS, bS⟩ := ve.psync
  refine ⟨_, _, ps_expr (pe_meth0 (pv 25) ve.TP.cl mS GS (hr.mono (by decide)) bS .nil pass0), ps_set (i := 3) scLaw.nd rfl (Or.inl rfl) (pe_callB call_len_seq (by rfl) ve.T.len (by decide +kernel) (pa_cons (pv 2) pa_nil)), ?_⟩
  rintro D HB H dc i p l ow xs k fi σ ⟨a0, a6, a7, a8, a9, a10, a11, a12, a13, a14, a15, a16, a17, a18, a19, a20, a21, a22, a23, a24, a26, a27, a28, a29, rfl⟩ y hi fin
  obtain ⟨dx, kk, v, ts, g1, _⟩ := id y.pt
  have e := congrArg List.length (recsL_app (xs.take k) (xs.drop k))
  rw [List.take_append_drop, List.length_append] at e
  have := recs_le y.okR
  have nl := y.nl
  refine ⟨_, rfl, p, dx, _, rfl, g1, rfl, ps_step y.pt (by omega) y.st.ts fun H2 f2 pt2 => ?_⟩
  obtain ⟨s2, k2, ⟨us, w1, w2⟩, kt2⟩ := y.fr ve.ap f2
  have lus := paired_len w2
  refine ⟨_, rfl, ow, _, rfl, .inl (SqL.of w1), ?_⟩
  rw [List.length_map, lus]
  refine fin _ _ Sd.mk ⟨s2, ?_, ⟨us, w1, w2⟩, Nat.le_refl _, y.ok, y.nl, y.ap, k2, y.fb⟩
  rw [List.take_length, List.drop_length]
  rw [← recsL_app, List.take_append_drop] at pt2
  exact pt2
end
end KL6
set_option Elab.async false
set_option linter.all false
set_option maxRecDepth 100000
set_option maxHeartbeats 4000000
namespace KL6
open PySem PySem.Spec PyProof.Rows L2 KB KC KS KN1 LamX K7
theorem new_of {HB H : Hp} {dc : Addr} (k : Kp dc HB H) (i : IsDice H dc) {b : Addr} (h : H b = none) : ∀ u, HB b = some u → ∃ tb, u = .tbl tb := fun u hu => Classical.byContradiction fun nt => by
  obtain ⟨a1, a2, a3, hd⟩ := i
  have := k b u (fun z => by rw [z, hd] at h; cases h) hu (fun tb z => nt ⟨tb, z⟩)
  rw [h] at this; cases this
theorem gone_is (d fi : Int) (n : Nat) : (if (if fi + (n : Int) < d then fi + (n : Int) else d) - fi > 0 then (if fi + (n : Int) < d then fi + (n : Int) else d) - fi else 0) = ((min (d - fi).toNat n : Nat) : Int) := by
  split <;> split <;> omega
section
variable {P : Program} {w : World} {K : PySem.W.Frag} {mg : Str → Option Value} {base : Heap} {CP CL CD CM CG CR Ps Pn Pl cN cL fTo fL : Addr} {fdTo : FuncData} {A : Around} {outer : List PySem.Env} {s : Shared} {H0 : Hp} {E0' : XK}
theorem g_trim (ve : LawE P w K mg base CP CL CD CM CG CR Ps Pn Pl cN cL fTo fdTo) (hr : Room 16 (xLaw P w K mg base fL cL A outer s H0 E0').A) :
    ∃ t0 t1 t2 t3 t4, L2.PS (xLaw P w K mg base fL cL A outer s H0 E0') (trimB.getD 0 pS) t0 ∧ L2.PS (xLaw P w K mg base fL cL A outer s H0 E0') (trimB.getD 1 pS) t1 ∧ L2.PS (xLaw P w K mg base fL cL A outer s H0 E0') (trimB.getD 2 pS) t2 ∧ L2.PS (xLaw P w K mg base fL cL A outer s H0 E0') (trimB.getD 3 pS) t3 ∧ L2.PS (xLaw P w K mg base fL cL A outer s H0 E0') (trimB.getD 4 pS) t4 ∧ ∀ (D : Ends) (HB H : Hp) (dc : Addr) (i : Nat) (p l ow : Addr) (xs : List Rc) (k fi : Nat) (σ : L2.St), Sd (.ref dc) (.ref ow) (.int (k : Nat)) (.int (fi : Nat)) (.int (i : Nat)) (.ref p) σ → DI CP Ps Pn Pl dc HB i p l ow xs k fi H → i ≤ 40 →
      (∀ (σ' : L2.St) (H' : Hp) (l' ow' : Addr) (m : Nat), Sd (.ref dc) (.ref ow') (.int ((xs.drop m).length : Nat)) (.int ((fi + m : Nat) : Int)) (.int (i : Nat)) (.ref p) σ' → DI CP Ps Pn Pl dc HB i p l' ow' (xs.drop m) (xs.drop m).length (fi + m) H' → D.nx σ' H') → tSeq t0 (tSeq t1 (tSeq t2 (tSeq t3 t4))) D σ H := by
  obtain ⟨fR, fdR, GR, gR, kR, bR⟩ := ve.roll
  obtain ⟨fT, fdT, GT, mT, bT⟩ := ve.ptrim
  have hz0 : sizeLine = 16777216 := rfl
  refine ⟨_, _, _, _, _, ps_set (i := 26) scLaw.nd rfl (Or.inr rfl) (pe_op op_sub (pe_op op_add (pv 4) (pe_call GR (hr.mono (by decide)) (by rfl) gR kR bR .nil pass0 (pa_cons (pv 1) (pa_cons (pe_op op_add (pe_callB call_len_seq (by rfl) ve.T.len (by decide +kernel) (pa_cons (pv 2) pa_nil)) pe_int) pa_nil)))) pe_int),
    ps_set (i := 14) scLaw.nd rfl (Or.inl rfl) (pe_callB (call_max2 rfl) (by rfl) ve.M.max (by decide +kernel) (pa_cons pe_int (pa_cons (pe_op op_sub (pe_callB (call_min2 rfl) (by rfl) ve.M.min (by decide +kernel) (pa_cons (pv 26) (pa_cons (pe_op op_add (pv 4) (pe_callB call_len_seq (by rfl) ve.T.len (by decide +kernel) (pa_cons (pv 2) pa_nil))) pa_nil))) (pv 4)) pa_nil))),
    ps_if (pt_cmpR op_ne (pe_meth (pv 25) ve.TP.cl mT GT (hr.mono (by decide)) bT .nil pass0 (pa_cons (pv 26) pa_nil)) (pv 14) (nomark _)) (pss_one (ps_ret pe_bl)) pss_nil,
    ps_asg (pe_tup (pa_cons (pe_slice sl_list (pv 2) (po_some (pv 14)) po_none) (pa_cons (pe_op op_add (pv 4) (pv 14)) pa_nil))) (pg_tup rfl (pgs_cons (pg_name (i := 2) scLaw.nd rfl (Or.inr rfl)) (pgs_cons (pg_name (i := 4) scLaw.nd rfl (Or.inr rfl)) pgs_nil))),
    ps_set (i := 3) scLaw.nd rfl (Or.inl rfl) (pe_callB call_len_seq (by rfl) ve.T.len (by decide +kernel) (pa_cons (pv 2) pa_nil)), ?_⟩
  rintro D HB H dc i p l ow xs k fi σ ⟨a0, a6, a7, a8, a9, a10, a11, a12, a13, a14, a15, a16, a17, a18, a19, a20, a21, a22, a23, a24, a26, a27, a28, a29, rfl⟩ y hi fin
  obtain ⟨us, w1, w2⟩ := y.hw
  have lus := paired_len w2
  have nl := y.nl
  refine ⟨_, rfl, _, rfl, _, rfl, ow, _, rfl, .inl (SqL.of w1), _, _, rfl, rfl, ?_⟩
  rw [List.length_map, lus]
  refine roll_step y.st.dice (by omega) (by omega) fun r H1 r0 r1 e1 i1 => ?_
  have y1 := y.exD e1 i1
  obtain ⟨us1, v1, v2⟩ := y1.hw
  have lus1 := paired_len v2
  refine ⟨_, _, rfl, rfl, _, _, rfl, rfl, ?_⟩
  refine ⟨_, rfl, _, rfl, _, rfl, ow, _, rfl, .inl (SqL.of v1), _, _, rfl, rfl, _, _, rfl, _, rfl, _, _, rfl, rfl, _, _, rfl, ?_⟩
  rw [List.length_map, lus1, gone_is]
  obtain ⟨dx, kk, v, ts, g1, _⟩ := id y1.pt
  have lb := recs_le y1.okR
  refine ⟨_, rfl, p, dx, _, rfl, g1, rfl, _, rfl, pt_step y1.pt y1.okB (by omega) y1.st.ts fun H2 l' hl' f2 pt2 => ?_⟩
  generalize hm : min (((fi : Nat) : Int) + r - 1 - ((fi : Nat) : Int)).toNat xs.length = m at pt2
  have hmx : m ≤ xs.length := by omega
  obtain ⟨s2, k2, ⟨us2, u1, u2⟩, kt2⟩ := y1.fr ve.ap f2
  refine ⟨_, rfl, rfl, _, rfl, ?_⟩
  rw [eqI]
  refine ifF (by simp) ?_
  refine ⟨_, rfl, _, rfl, _, rfl, ?_⟩
  dsimp only [tNoPart]
  refine lst_from (lo := m) rfl u1 fun H3 ow' e3 hw3 hw0 => ?_
  refine ⟨_, rfl, _, rfl, _, _, rfl, rfl, (by show 2 ≤ sizeLine; decide), fun z hz => ⟨z, _, rfl, SqT.of upd_same, rfl, _, _, rfl, _, _, rfl, rfl, ?_⟩⟩
  have e4 : KS.Ex H3 (upd H3 z (.tup [.ref ow', .int (((fi : Nat) : Int) + ((m : Nat) : Int))])) := Ex.upd hz
  generalize upd H3 z (.tup [.ref ow', .int (((fi : Nat) : Int) + ((m : Nat) : Int))]) = H4 at e4
  have w4 := e4 _ _ hw3
  refine ⟨_, rfl, ow', _, rfl, .inl (SqL.of w4), ?_⟩
  have rs : Recs H4 (us2.drop m) (xs.drop m) := Recs.kt (paired_drop m u2) (kt_of (e3.trans e4))
  rw [List.length_map, paired_len rs]
  have e34 := e3.trans e4
  obtain ⟨d1, d2, d3, hd⟩ := y1.st.dice
  obtain ⟨c1, c2, c3, hd2⟩ := s2.dice
  obtain ⟨_, _, _, _, _, _, _, q4, _⟩ := id pt2
  refine fin _ H4 l' ow' m ?_ ⟨s2.ex e34, ?_, ⟨_, w4, rs⟩, Nat.le_refl _, fun x hx => y.ok x (List.mem_of_mem_drop hx), ?_, ⟨fun z => (by rw [z, q4] at hw0; cases hw0), fun z => (by rw [z, hd2] at hw0; cases hw0), fun z => (by rw [z, hd] at hl'; cases hl')⟩, k2.trans (Kp.of e34), y.fb.1, y1.new hl', new_of k2 s2.dice hw0⟩
  · rw [Int.natCast_add]
    exact Sd.mk
  · rw [List.take_length, List.drop_length]
    exact pt2.ex e34
  · rw [List.length_drop]; omega
end
end KL6
set_option Elab.async false
set_option linter.all false
set_option maxRecDepth 100000
set_option maxHeartbeats 4000000
namespace KL6
open PySem PySem.Spec PyProof.Rows L2 KB KC KS KN1 LamX K7
section
variable {P : Program} {w : World} {K : PySem.W.Frag} {mg : Str → Option Value} {base : Heap} {CP CL CD CM CG CR Ps Pn Pl cN cL fTo fL : Addr} {fdTo : FuncData} {A : Around} {outer : List PySem.Env} {s : Shared} {H0 : Hp} {E0' : XK}
theorem g_crash (ve : LawE P w K mg base CP CL CD CM CG CR Ps Pn Pl cN cL fTo fdTo) (hr : Room 16 (xLaw P w K mg base fL cL A outer s H0 E0').A) :
    ∃ t0 t1 t2 t3 t4, L2.PS (xLaw P w K mg base fL cL A outer s H0 E0') (crashB.getD 0 pS) t0 ∧ L2.PS (xLaw P w K mg base fL cL A outer s H0 E0') (crashB.getD 1 pS) t1 ∧ L2.PS (xLaw P w K mg base fL cL A outer s H0 E0') (crashB.getD 2 pS) t2 ∧ L2.PS (xLaw P w K mg base fL cL A outer s H0 E0') (crashB.getD 3 pS) t3 ∧ L2.PS (xLaw P w K mg base fL cL A outer s H0 E0') (crashB.getD 4 pS) t4 ∧ ∀ (D : Ends) (HB H : Hp) (dc : Addr) (i : Nat) (p l ow : Addr) (xs : List Rc) (k fi : Nat) (σ : L2.St), Sd (.ref dc) (.ref ow) (.int (k : Nat)) (.int (fi : Nat)) (.int (i : Nat)) (.ref p) σ → DI CP Ps Pn Pl dc HB i p l ow xs k fi H → i ≤ 40 →
      (∀ (σ' : L2.St) (H' : Hp) (l' ow' : Addr) (m : Nat), Sd (.ref dc) (.ref ow') (.int (m : Nat)) (.int (fi : Nat)) (.int (i : Nat)) (.ref p) σ' → DI CP Ps Pn Pl dc HB i p l' ow' (xs.take m) m fi H' → D.nx σ' H') → tSeq t0 (tSeq t1 (tSeq t2 (tSeq t3 t4))) D σ H := by
  obtain ⟨fR, fdR, GR, gR, kR, bR⟩ := ve.roll
  obtain ⟨fB, fdB, GB, gB, kB, bB⟩ := ve.lbytes
  obtain ⟨fC, fdC, GC, mC, bC⟩ := ve.pcrash
  have hz0 : sizeLine = 16777216 := rfl
  refine ⟨_, _, _, _, _, ps_par (i := 10) (j := 11) rfl scLaw.nd rfl rfl (by decide) rfl rfl (pa_cons (pe_call GR (hr.mono (by decide)) (by rfl) gR kR bR .nil pass0 (pa_cons (pv 1) (pa_cons pe_int pa_nil))) (pa_cons (pv 3) pa_nil)) rfl,
    ps_setLc (i := 13) (own := [("record", 12)]) (g := gName 12) (tt := tYes) (te := tCB (rLen2 K) (tCons (tCall (spLRec Ps) [] (fun _ _ _ => False) (tCons (tVar 12) tNil)) tNil)) rfl scLaw.nd rfl rfl (sw_true rfl rfl rfl (by decide +kernel)) (pi_list (pe_slice sl_list (pv 2) (po_some (pv 3)) po_none)) (blkOk_by (N := nLaw) (sc := defScope sLaw) (by decide +kernel)) (fun _ _ _ _ _ => pg_name (i := 12) scLaw.nd rfl (Or.inl rfl)) (fun _ _ _ _ _ => pts_nil)
      (fun _ _ _ _ _ => pe_callB call_len_seq (by rfl) ve.T.len PySem.boot_len (pa_cons (pe_call GB (hr.mono (by decide)) (by rfl) gB kB bB .nil pass0 (pa_cons (pv 12) pa_nil)) pa_nil)),
    ps_while PassesOwn.never (PW.pt (pw_and (pt_cmpR op_lt (pe_op op_sub (pv 11) (pv 3)) (pe_callB call_len_seq (by rfl) ve.T.len (by decide +kernel) (pa_cons (pv 13) pa_nil)) (nomark _)) (pw_and1 (pt_cmpR op_le (pe_callB (cr_sum rfl) (by rfl) ve.M.sum (by decide +kernel) (pa_cons (pe_slice sl_list (pv 13) po_none (po_some (pe_op op_add (pe_op op_sub (pv 11) (pv 3)) pe_int))) pa_nil)) (pv 10) (nomark _))))) (pss_one (ps_set (i := 11) scLaw.nd rfl (Or.inl rfl) (pe_op op_add (pv 11) pe_int))),
    ps_expr (pe_meth (pv 25) ve.TP.cl mC GC (hr.mono (by decide)) bC .nil pass0 (pa_cons (pv 10) pa_nil)),
    ps_asg (pe_tup (pa_cons (pe_slice sl_list (pv 2) po_none (po_some (pv 11))) (pa_cons (pv 11) pa_nil))) (pg_tup rfl (pgs_cons (pg_name (i := 2) scLaw.nd rfl (Or.inr rfl)) (pgs_cons (pg_name (i := 3) scLaw.nd rfl (Or.inl rfl)) pgs_nil))), ?_⟩
  rintro D HB H dc i p l ow xs k fi σ ⟨a0, a6, a7, a8, a9, a10, a11, a12, a13, a14, a15, a16, a17, a18, a19, a20, a21, a22, a23, a24, a26, a27, a28, a29, rfl⟩ y hi fin
  have nl := y.nl
  refine ⟨_, rfl, roll_step y.st.dice (by decide) (by decide) fun r H1 r0 r1 e1 i1 => ?_⟩
  obtain ⟨n, rfl⟩ : ∃ n : Nat, r = (n : Int) := ⟨r.toNat, by omega⟩
  have y1 := y.exD e1 i1
  refine ⟨_, rfl, _, _, rfl, ?_⟩
  have y2 := y1
  show tSeq _ _ _ [a0, some (.ref dc), some (.ref ow), some (.int (k : Nat)), some (.int (fi : Nat)), some (.int (i : Nat)), a6, a7, a8, a9, some (.int (n : Nat)), some (.int (k : Nat)), a12, a13, a14, a15, a16, a17, a18, a19, a20, a21, a22, a23, a24, some (.ref p), a26, a27, a28, a29] H1
  obtain ⟨us, w1, w2⟩ := y2.hw
  refine ⟨_, rfl, _, rfl, _, rfl, ?_⟩
  dsimp only [tNoPart]
  refine lst_from (lo := k) rfl w1 fun H3 sl e3 hs3 _ => ?_
  have y3 := y2.ex e3
  have rs3 : Recs H3 (us.drop k) (xs.drop k) := Recs.kt (paired_drop k w2) (kt_of e3)
  have okB : ∀ x ∈ xs.drop k, OkB x := fun x hx => y.okB x (List.mem_of_mem_drop hx)
  refine ⟨sl, rfl, ⟨_, SqL.of hs3⟩, fun L hL => ?_⟩
  have keep : ∀ {H' : Hp}, FrC Ps L H3 H' → ∀ {b : Addr} {u : HO}, H3 b = some u → (∀ tb, u ≠ .tbl tb) → H' b = some u := fun {H'} f {b u} h n => by
    obtain ⟨tb, hP, _⟩ := y3.st.ts
    exact f.2 b u (fun z => by rw [z, hP] at h; exact n _ (Option.some.inj h).symm) (ne_of_none h hL) h
  refine lc_list (xs := (us.drop k).map V.ref) (fun j H' => FrC Ps L H3 H' ∧ H' L = some (.lst ((lens ((xs.drop k).take j)).map V.int))) ⟨⟨y3.st.ts.ext (Ex.upd hL), fun b u _ nb h => by rw [L2.upd_ne nb]; exact h⟩, upd_same⟩ ?_ ?_ ?_
  · rintro j H' _ ⟨f, _⟩
    exact SqL.of (keep f hs3 (fun _ z => nomatch z))
  · rintro j z H' hz ⟨f, hD⟩
    rw [List.getElem?_map] at hz
    obtain ⟨t, ht, rfl⟩ := Option.map_eq_some_iff.mp hz
    obtain ⟨x, hx, ra⟩ := paired_get rs3 ht
    have ra' : RecAt H' t x := ra.kt fun b ys h => keep f h (fun _ z => nomatch z)
    refine ⟨rfl, _, rfl, lrec_step ra' (okB x (List.mem_of_getElem? hx)) f.1 fun H4 q t4 hq => ?_⟩
    have nL : L ≠ Ps := fun z => by
      obtain ⟨tb, hP, _⟩ := f.1
      rw [z, hP] at hD; cases hD
    have hD4 := t4.2 _ _ nL hD
    refine ⟨q, _, rfl, .inr (SqT.of hq), _, hD4, ?_, ⟨tab_upd t4.1 hD4 (fun _ z => nomatch z) (fun _ z => nomatch z), fun b u n1 n2 h => by rw [L2.upd_ne n2]; exact t4.2 _ _ n1 (f.2 b u n1 n2 h)⟩, ?_⟩
    · unfold lens
      rw [List.length_map, List.length_map, List.length_take, List.length_drop]
      omega
    · rw [upd_same, List.take_add_one, hx]
      unfold lens
      rw [List.map_append, List.map_append, List.length_map]
      rfl
  · rintro H4 ⟨f4, hD4⟩
    rw [List.length_map, paired_len rs3, List.take_length] at hD4
    have t4 : Tb Ps H3 H4 := ⟨f4.1, fun b u n h => f4.2 b u n (ne_of_none h hL) h⟩
    have y4 := y3.tb ve.ap t4
    have hlen : (lens (xs.drop k)).length = xs.length - k := by unfold lens; rw [List.length_map, List.length_drop]
    refine ⟨fun m σ H' => ∃ j, σ = [a0, some (.ref dc), some (.ref ow), some (.int (k : Nat)), some (.int (fi : Nat)), some (.int (i : Nat)), a6, a7, a8, a9, some (.int (n : Nat)), some (.int ((k + j : Nat) : Int)), a12, some (.ref L), a14, a15, a16, a17, a18, a19, a20, a21, a22, a23, a24, some (.ref p), a26, a27, a28, a29] ∧ m = xs.length - k - j ∧ j ≤ (xs.drop k).length ∧ (lens ((xs.drop k).take j)).sum ≤ (n : Int) ∧ KS.Ex H4 H', ⟨_, 0, rfl, rfl, Nat.zero_le _, by rw [List.take_zero]; exact Int.natCast_nonneg n, KS.Ex.refl H4⟩, ?_⟩
    rintro m σ H5 ⟨j, rfl, rfl, hj, hs, e5⟩
    rw [List.length_drop] at hj
    have y5 := y4.ex e5
    have hD5 := e5 _ _ hD4
    refine ⟨_, rfl, _, rfl, _, _, rfl, rfl, _, rfl, L, _, rfl, .inl (SqL.of hD5), _, _, rfl, rfl, _, rfl, ?_⟩
    have kl := y.kl
    have hlen2 : ((List.length ((lens (xs.drop k)).map V.int) : Nat) : Int) = ((xs.length - k : Nat) : Int) := by rw [List.length_map, hlen]
    have tail : ∀ (H6 : Hp), KS.Ex H5 H6 → j = whole (xs.drop k) n → tSeq (tDrop (tMeth CP "crash" (spPC CP Ps) [] E0 (tVar 25) (tCons (tVar 10) tNil))) (tAsg (tTup (tCons (tSl (rSlL K) (tVar 2) tNoPart (tPart (tVar 11))) (tCons (tVar 11) tNil))) (gTup K 2 (gCons (gName 2) (gCons (gName 3) gNil)))) D [a0, some (.ref dc), some (.ref ow), some (.int (k : Nat)), some (.int (fi : Nat)), some (.int (i : Nat)), a6, a7, a8, a9, some (.int (n : Nat)), some (.int ((k + j : Nat) : Int)), a12, some (.ref L), a14, a15, a16, a17, a18, a19, a20, a21, a22, a23, a24, some (.ref p), a26, a27, a28, a29] H6 := by
      intro H6 e6 hw
      have y6 := y5.ex e6
      obtain ⟨dx, kk, v, ts, g1, _⟩ := id y6.pt
      have lb := left_le y6.okR (k := k) n
      obtain ⟨c1, c2⟩ := crash_left y6.okR y6.kl n
      refine ⟨_, rfl, p, dx, _, rfl, g1, rfl, _, rfl, pc_step y6.pt (left_bytes y6.okR n) (by omega) y6.st.ts fun H7 l' hl' f7 pt7 => ?_⟩
      rw [c1, c2, ← hw] at pt7
      obtain ⟨s7, k7, ⟨us7, u1, u2⟩, kt7⟩ := y6.fr ve.ap f7
      refine ⟨_, rfl, ?_⟩
      dsimp only [tNoPart]
      refine ⟨_, rfl, _, rfl, lst_to (hi := k + j) rfl u1 fun H8 ow' e8 hw8 hw0 => ?_⟩
      refine ⟨_, rfl, (by show 2 ≤ sizeLine; decide), fun z hz => ⟨z, _, rfl, SqT.of upd_same, rfl, _, _, rfl, _, _, rfl, rfl, ?_⟩⟩
      have e9 : KS.Ex H7 (upd H8 z (.tup [.ref ow', .int ((k + j : Nat) : Int)])) := e8.trans (Ex.upd hz)
      have w9 := Ex.upd hz (o := .tup [.ref ow', .int ((k + j : Nat) : Int)]) _ _ hw8
      obtain ⟨d1, d2, d3, hd⟩ := y6.st.dice
      obtain ⟨b1, b2, b3, hd7⟩ := s7.dice
      obtain ⟨_, _, _, _, _, _, _, q4, _⟩ := id pt7
      have rs : Recs (upd H8 z (.tup [.ref ow', .int ((k + j : Nat) : Int)])) (us7.take (k + j)) (xs.take (k + j)) := Recs.kt (paired_take (k + j) u2) (kt_of e9)
      refine fin _ _ l' ow' (k + j) Sd.mk ⟨s7.ex e9, ?_, ⟨_, w9, rs⟩, by rw [List.length_take]; omega, fun x hx => y.ok x (List.mem_of_mem_take hx), by rw [List.length_take]; omega, ⟨fun z => (by rw [z, q4] at hw0; cases hw0), fun z => (by rw [z, hd7] at hw0; cases hw0), fun z => (by rw [z, hd] at hl'; cases hl')⟩, k7.trans (Kp.of e9), y.fb.1, y6.new hl', new_of k7 s7.dice hw0⟩
      rw [List.take_take, Nat.min_self, List.drop_eq_nil_of_le (by rw [List.length_take]; exact Nat.min_le_left _ _)]
      exact pt7.ex e9
    by_cases c : j < xs.length - k
    · refine ifT (by rw [decide_eq_true_eq, hlen2]; omega) ?_
      refine ⟨_, rfl, ?_⟩
      dsimp only [tNoPart]
      refine ⟨_, rfl, _, rfl, _, _, rfl, rfl, _, _, rfl, rfl, _, rfl, L, _, rfl, SqL.of hD5, fun q hq => ?_⟩
      have ec : cutV ((lens (xs.drop k)).map V.int) none (some (((k + j : Nat) : Int) - ((k : Nat) : Int) + 1)) = (lens ((xs.drop k).take (j + 1))).map V.int := by
        rw [show ((k + j : Nat) : Int) - ((k : Nat) : Int) + 1 = ((j + 1 : Nat) : Int) by omega, cut_to, lens_take]
      rw [ec]
      have e6 : KS.Ex H5 (upd H5 q (.lst ((lens ((xs.drop k).take (j + 1))).map V.int))) := Ex.upd hq
      have hq6 : (upd H5 q (.lst ((lens ((xs.drop k).take (j + 1))).map V.int))) q = some (.lst ((lens ((xs.drop k).take (j + 1))).map V.int)) := upd_same
      generalize upd H5 q (.lst ((lens ((xs.drop k).take (j + 1))).map V.int)) = H6 at e6 hq6
      refine ⟨q, _, rfl, SqL.of hq6, _, rfl, _, _, rfl, rfl, _, rfl, ?_⟩
      by_cases c2 : (lens ((xs.drop k).take (j + 1))).sum ≤ (n : Int)
      · refine ifT (by simpa using c2) ?_
        refine ⟨fun σ' H' => ∃ m', m' < xs.length - k - j ∧ _, fun σ' H' h => h, ?_⟩
        refine ⟨_, rfl, _, _, rfl, rfl, xs.length - k - (j + 1), by omega, j + 1, ?_, rfl, by rw [List.length_drop]; omega, c2, e5.trans e6⟩
        show [a0, some (.ref dc), some (.ref ow), some (.int (k : Nat)), some (.int (fi : Nat)), some (.int (i : Nat)), a6, a7, a8, a9, some (.int (n : Nat)), some (V.int (((k + j : Nat) : Int) + 1)), a12, some (.ref L), a14, a15, a16, a17, a18, a19, a20, a21, a22, a23, a24, some (.ref p), a26, a27, a28, a29] = _
        rw [show ((k + j : Nat) : Int) + 1 = ((k + (j + 1) : Nat) : Int) by omega]
      · refine ifF (by simpa using c2) ?_
        exact tail H6 e6 (whole_is (by rw [List.length_drop]; exact hj) hs fun z => c2 z.2)
    · refine ifF (by rw [decide_eq_true_eq, hlen2]; omega) ?_
      exact tail H5 (KS.Ex.refl H5) (whole_is (by rw [List.length_drop]; exact hj) hs fun z => c (by rw [List.length_drop] at z; exact z.1))
end
end KL6
set_option Elab.async false
set_option linter.all false
set_option maxRecDepth 100000
set_option maxHeartbeats 4000000
namespace KL6
open PySem PySem.Spec PyProof.Rows L2 KB KC KS KN1 LamX K7
def prD (k : Int) (x : Rc) : PyData := .tuple [.int k, rcD x]
def prsL : Int → List Rc → List PyData
  | _, [] => []
  | p, x :: r => prD p x :: prsL (p + 1) r
def prsD (place : Int) (ys : List Rc) : PyData := .tuple (prsL place ys)
theorem prsL_len : ∀ (p : Int) (ys : List Rc), (prsL p ys).length = ys.length
  | _, [] => rfl
  | p, x :: r => congrArg Nat.succ (prsL_len (p + 1) r)
theorem prsL_get : ∀ {p : Int} {ys : List Rc} {j : Nat} {d : PyData}, (prsL p ys)[j]? = some d → ∃ x, ys[j]? = some x ∧ d = prD (p + (j : Int)) x
  | _, [], _, _, h => nomatch h
  | p, x :: r, 0, d, h => ⟨x, rfl, by
      have h : some (prD p x) = some d := h
      rw [← Option.some.inj h]
      show prD p x = prD (p + 0) x
      rw [Int.add_zero]⟩
  | p, x :: r, j + 1, d, h => by
    obtain ⟨y, h1, h2⟩ := prsL_get (p := p + 1) (ys := r) (j := j) (d := d) h
    refine ⟨y, h1, ?_⟩
    rw [h2]
    congr 1
    omega
theorem dpAll_of {K : PySem.W.Frag} {H : Hp} : ∀ {vs : List V} {ds : List PyData}, vs.length = ds.length → (∀ (j : Nat) v d, vs[j]? = some v → ds[j]? = some d → Dp K H v d) → DpAll K H vs ds
  | [], [], _, _ => .nil
  | [], _ :: _, h, _ => by cases h
  | _ :: _, [], h, _ => by cases h
  | v :: vs, d :: ds, h, k => .cons (k 0 v d rfl rfl) (dpAll_of (Nat.succ.inj h) fun j a b e1 e2 => k (j + 1) a b e1 e2)
theorem dp_prs {K : PySem.W.Frag} {H : Hp} {q : Addr} {ts : List Addr} {place : Int} {ys : List Rc} (h : H q = some (.tup (ts.map V.ref))) (hl : ts.length = ys.length) (k : ∀ (j : Nat) (x : Rc), ys[j]? = some x → ∃ t u, ts[j]? = some t ∧ H t = some (.tup [.int (place + (j : Int)), .ref u]) ∧ RecAt H u x) : Dp K H (.ref q) (prsD place ys) := by
  refine .tup (SqT.of h) (dpAll_of (by rw [List.length_map, prsL_len, hl]) fun j v d e1 e2 => ?_)
  obtain ⟨x, hx, rfl⟩ := prsL_get e2
  obtain ⟨t, u, ht, h1, h2⟩ := k j x hx
  rw [List.getElem?_map, ht] at e1
  cases e1
  exact .tup (SqT.of h1) (.cons (.int _) (.cons (dp_rc K h2) .nil))
theorem smp_prs {place : Int} {ys : List Rc} (h : ∀ x ∈ ys, Smp 2 (rcD x)) : Smp 4 (prsD place ys) := .tup fun d hd => by
  obtain ⟨j, hj⟩ := List.getElem?_of_mem hd
  obtain ⟨x, hx, rfl⟩ := prsL_get hj
  refine .tup fun y hy => ?_
  rcases List.mem_cons.mp hy with rfl | hy
  · exact .int _
  · rcases List.mem_cons.mp hy with rfl | hy
    · exact h x (List.mem_of_getElem? hx)
    · cases hy
theorem dp_nums {K : PySem.W.Frag} {H : Hp} {q : Addr} {ts rs : List Addr} {place : Int} {ys : List Rc} (h : H q = some (.tup (ts.map V.ref))) (n : EN.Nums H place (rs.map V.ref) ts) (r : Recs H rs ys) : Dp K H (.ref q) (prsD place ys) := by
  have lr := paired_len r
  refine dp_prs h (by rw [n.1, List.length_map, lr]) fun j x hx => ?_
  have hlt : j < rs.length := by rw [lr]; exact (List.getElem?_eq_some_iff.mp hx).1
  obtain ⟨y, hy, ra⟩ := paired_get r (List.getElem?_eq_getElem hlt)
  rw [hx] at hy
  cases hy
  obtain ⟨t, t1, t2⟩ := n.2 j (V.ref rs[j]) (by rw [List.getElem?_map, List.getElem?_eq_getElem hlt]; rfl)
  exact ⟨t, rs[j], t1, t2, ra⟩
end KL6
set_option Elab.async false
set_option linter.all false
set_option maxRecDepth 100000
set_option maxHeartbeats 4000000
namespace KL6
open PySem PySem.Spec PyProof.Rows L2 KB KC KS KN1 LamX K7
theorem qLe : (Str.ofString "law" ++ Str.ofString ".<locals>.") ++ Str.ofString "<lambda>" = qL := by decide +kernel
section
variable {P : Program} {w : World} {K : PySem.W.Frag} {mg : Str → Option Value} {base : Heap} {CP CL CD CM CG CR Ps Pn Pl cN cL fTo fL : Addr} {fdTo : FuncData} {A : Around} {outer : List PySem.Env} {s : Shared} {H0 : Hp} {E0' : XK}
theorem g_read (ve : LawE P w K mg base CP CL CD CM CG CR Ps Pn Pl cN cL fTo fdTo) (hr : Room 16 (xLaw P w K mg base fL cL A outer s H0 E0').A) :
    ∃ t2 t3 t4, L2.PS (xLaw P w K mg base fL cL A outer s H0 E0') (dS 2) t2 ∧ L2.PS (xLaw P w K mg base fL cL A outer s H0 E0') (dS 3) t3 ∧ L2.PS (xLaw P w K mg base fL cL A outer s H0 E0') (dS 4) t4 ∧ ∀ (D : Ends) (HB H : Hp) (dc : Addr) (i : Nat) (p l ow : Addr) (xs : List Rc) (k fi : Nat) (st : V) (σ : L2.St), Sd (.ref dc) (.ref ow) (.int (k : Nat)) (.int (fi : Nat)) st (.ref p) σ → DI CP Ps Pn Pl dc HB i p l ow xs k fi H → i ≤ 41 →
      (∀ (σ' : L2.St) (H' : Hp), Sd (.ref dc) (.ref ow) (.int (k : Nat)) (.int (fi : Nat)) st (.ref p) σ' → DI CP Ps Pn Pl dc HB i p l ow xs k fi H' → D.nx σ' H') → tSeq t2 (tSeq t3 t4) D σ H := by
  obtain ⟨fR, fdR, GR, gR, kR, bR⟩ := ve.roll
  obtain ⟨fE, fdE, GE, mE, bE⟩ := ve.pend
  obtain ⟨fD, fdD, GD, mD, bD⟩ := ve.pread
  obtain ⟨oc, od, dV, kVs, doc, pm, an, cdv, ct, osl, rfl, lk, hcd, _, _⟩ := ve.told.ex
  have bTo := ve.told.bindsN (ps := ["what"]) fun _ _ _ _ _ _ us hl => match us, hl with | [_], _ => rfl
  have hz0 : sizeLine = 16777216 := rfl
  have hu := hr.units
  refine ⟨_, _, _, ps_asg (pe_tup (pa_cons (pe_op op_sub (pe_op op_add (pv 4) (pe_call GR (hr.mono (by decide)) (by rfl) gR kR bR .nil pass0 (pa_cons (pv 1) (pa_cons (pe_op op_add (pe_callB call_len_seq (by rfl) ve.T.len (by decide +kernel) (pa_cons (pv 2) pa_nil)) pe_int) pa_nil)))) pe_int) (pa_cons (pe_call GR (hr.mono (by decide)) (by rfl) gR kR bR .nil pass0 (pa_cons (pv 1) (pa_cons pe_int pa_nil))) pa_nil)))
      (pg_tup rfl (pgs_cons (pg_name (i := 26) scLaw.nd rfl (Or.inr rfl)) (pgs_cons (pg_name (i := 24) scLaw.nd rfl (Or.inr rfl)) pgs_nil))),
    ps_set (i := 15) scLaw.nd rfl (Or.inl rfl) (pe_ifExp (pt_chain op_le op_le (pv 4) (pv 26) (pe_op op_add (pv 4) (pe_callB call_len_seq (by rfl) ve.T.len (by decide +kernel) (pa_cons (pv 2) pa_nil))))
      (pe_tupleOf (by rfl) ve.T.tuple (pe_lc (own := [("k", 28)]) (g := gName 28) (tt := tYes) (te := tTup (tCons (tVar 28) (tCons (tOp rIxD (tVar 2) (tOp (rI0 fun i j => V.int (i - j)) (tVar 28) (tVar 4))) tNil))) rfl scLaw.nd (pi_range2 (by rfl) ve.T.range (pa_cons (pv 26) (pa_cons (pe_callB (call_min2 rfl) (by rfl) ve.M.min (by decide +kernel) (pa_cons (pe_op op_add (pv 26) (pv 24)) (pa_cons (pe_op op_add (pv 4) (pe_callB call_len_seq (by rfl) ve.T.len (by decide +kernel) (pa_cons (pv 2) pa_nil))) pa_nil))) pa_nil))) (blkOk_by (N := nLaw) (sc := defScope sLaw) (by decide +kernel))
        (fun _ _ _ _ _ => pg_name (i := 28) scLaw.nd rfl (Or.inl rfl)) (fun _ _ _ _ _ => pts_nil) (fun _ _ _ _ _ => pe_tup (pa_cons (pv 28) (pa_cons (pe_ix ix_listD (pv 2) (pe_op op_sub (pv 28) (pv 4)) (fun _ _ => rfl)) pa_nil))))) pe_str),
    ps_if (PW.pt (pw_or (pt_cmpR (op_neD hu) (pe_lamcall (T := TT Ps Pn Pl) (P := Pl) (c := cL) (k := 14) (t := fun E => tMeth CP "read" (spPR CP CG) [] E (tVar 25) (tCons (tVar 26) (tCons (tVar 24) tNil))) (by rfl) ve.gTold ve.told.kp lk hcd bTo (Ng := ["what"]) (sg := defScope sTold) ⟨rfl, rfl, rfl, by decide +kernel, rfl, by decide +kernel, by decide +kernel⟩ rfl (Or.inl rfl)
        (told_gives (by rfl) ve.G.g (by decide +kernel) (fun f => rfl)) ve.TBl rfl
        (show (Pl, (Str.ofString "law" ++ Str.ofString ".<locals>.") ++ Str.ofString "<lambda>") ∈ TT Ps Pn Pl by rw [qLe]; exact List.mem_cons_of_mem _ (List.mem_cons_of_mem _ (List.mem_cons_self ..)))
        (show ∀ p ∈ TT Ps Pn Pl, p.1 = Pl → p.2 = (Str.ofString "law" ++ Str.ofString ".<locals>.") ++ Str.ofString "<lambda>" by
          rw [qLe]
          intro p hp e
          rcases List.mem_cons.mp hp with z | hp
          · rw [z] at e; exact absurd e ve.ap.sl
          rcases List.mem_cons.mp hp with z | hp
          · rw [z] at e; exact absurd e ve.ap.nl
          rcases List.mem_cons.mp hp with z | hp
          · rw [z]
          cases hp)
        hr (lamS_by (by show lamSB (defScope sLaw) _ = true; decide +kernel)) rfl (fun _ _ _ _ _ => rfl)
        (fun A outer s H E f c' hr' => pe_meth (pv 25) ve.TP.cl mD GD (hr'.mono (by decide)) bD .nil (passes_call (takes_of rfl rfl rfl rfl) (fun _ _ _ _ h => h)) (pa_cons (pv 26) (pa_cons (pv 24) pa_nil)))) (pv 15) (nomark _))
      (pw_or1 (pt_cmpR (op_neD hu) (pe_tup (pa_cons (pf 25) (pa_cons (pe_meth0 (pv 25) ve.TP.cl mE GE (hr.mono (by decide)) bE .nil pass0) pa_nil))) (pe_tup (pa_cons (pv 4) (pa_cons (pe_op op_add (pv 4) (pe_callB call_len_seq (by rfl) ve.T.len (by decide +kernel) (pa_cons (pv 2) pa_nil))) pa_nil))) (nomark _))))) (pss_one (ps_ret pe_bl)) pss_nil, ?_⟩
  rintro D HB H dc i p l ow xs k fi st σ ⟨a0, a6, a7, a8, a9, a10, a11, a12, a13, a14, a15, a16, a17, a18, a19, a20, a21, a22, a23, a24, a26, a27, a28, a29, rfl⟩ y hi fin
  obtain ⟨us, w1, w2⟩ := y.hw
  have lus := paired_len w2
  have nl := y.nl
  refine ⟨_, rfl, _, rfl, _, rfl, ow, _, rfl, .inl (SqL.of w1), _, _, rfl, rfl, ?_⟩
  rw [List.length_map, lus]
  refine roll_step y.st.dice (by omega) (by omega) fun r H1 r0 r1 e1 i1 => ?_
  have y1 := y.exD e1 i1
  refine ⟨_, _, rfl, rfl, _, _, rfl, rfl, _, rfl, roll_step y1.st.dice (by decide) (by decide) fun mo H2 m0 m1 e2 i2 => ?_⟩
  have y2 := y1.exD e2 i2
  refine ⟨(by show 2 ≤ sizeLine; decide), fun z hz => ⟨z, _, rfl, SqT.of upd_same, rfl, _, _, rfl, _, _, rfl, rfl, ?_⟩⟩
  have y3 := y2.ex (Ex.upd hz (o := .tup [.int (((fi : Nat) : Int) + r - 1), .int mo]))
  show tSeq _ _ _ [a0, some (.ref dc), some (.ref ow), some (.int (k : Nat)), some (.int (fi : Nat)), some st, a6, a7, a8, a9, a10, a11, a12, a13, a14, a15, a16, a17, a18, a19, a20, a21, a22, a23, some (.int mo), some (.ref p), some (.int (((fi : Nat) : Int) + r - 1)), a27, a28, a29] (upd H2 z (.tup [.int (((fi : Nat) : Int) + r - 1), .int mo]))
  generalize upd H2 z (.tup [.int (((fi : Nat) : Int) + r - 1), .int mo]) = H3 at y3
  generalize hpl : ((fi : Nat) : Int) + r - 1 = pl
  obtain ⟨us3, v1, v2⟩ := y3.hw
  have lus3 := paired_len v2
  have smps : ∀ x ∈ xs, Smp 2 (rcD x) := fun x hx => by
    obtain ⟨s', _, h⟩ := y.ok x hx
    exact h.smp.1
  have last : ∀ (H4 : Hp) (a15 : Option V) (R : Bool → Hp → Prop), DI CP Ps Pn Pl dc HB i p l ow xs k fi H4 → (∀ H5, DI CP Ps Pn Pl dc HB i p l ow xs k fi H5 → R false H5) → tTest (tOp (rNeD K) (tTup (tCons (tFld K (tVar 25) "first") (tCons (tMeth CP "end" (spPE CP) [] E0 (tVar 25) tNil) tNil))) (tTup (tCons (tVar 4) (tCons (tOp (rI0 fun i j => V.int (i + j)) (tVar 4) (tCB (rLen2 K) (tCons (tVar 2) tNil))) tNil)))) [a0, some (.ref dc), some (.ref ow), some (.int (k : Nat)), some (.int (fi : Nat)), some st, a6, a7, a8, a9, a10, a11, a12, a13, a14, a15, a16, a17, a18, a19, a20, a21, a22, a23, some (.int mo), some (.ref p), some (.int pl), a27, a28, a29] H4 R := by
    intro H4 a15 R y4 q
    obtain ⟨dx, kk, v, ts, g1, _⟩ := id y4.pt
    obtain ⟨us4, x1, x2⟩ := y4.hw
    have lus4 := paired_len x2
    refine ⟨_, rfl, p, CP, dx, _, _, rfl, g1, ve.TP.cl, ve.TP.f, rfl, _, rfl, p, dx, _, rfl, g1, rfl, pe_step y4.pt ⟨(by show 2 ≤ sizeLine; decide), fun t1 ht1 => ?_⟩⟩
    have e5 : KS.Ex H4 (upd H4 t1 (.tup [.int (fi : Nat), .int ((fi + xs.length : Nat) : Int)])) := Ex.upd ht1
    have h5 : (upd H4 t1 (.tup [.int (fi : Nat), .int ((fi + xs.length : Nat) : Int)])) t1 = some (.tup (([((fi : Nat) : Int), ((fi + xs.length : Nat) : Int)] : List Int).map V.int)) := upd_same
    generalize upd H4 t1 (.tup [.int (fi : Nat), .int ((fi + xs.length : Nat) : Int)]) = H5 at e5 h5
    refine ⟨_, rfl, _, rfl, _, rfl, ow, _, rfl, .inl (SqL.of (e5 _ _ x1)), _, _, rfl, rfl, (by show 2 ≤ sizeLine; decide), fun t2 ht2 => ?_⟩
    rw [List.length_map, lus4]
    have e6 : KS.Ex H5 (upd H5 t2 (.tup [.int (fi : Nat), .int (((fi : Nat) : Int) + ((xs.length : Nat) : Int))])) := Ex.upd ht2
    have h6 : (upd H5 t2 (.tup [.int (fi : Nat), .int (((fi : Nat) : Int) + ((xs.length : Nat) : Int))])) t2 = some (.tup (([((fi : Nat) : Int), ((fi + xs.length : Nat) : Int)] : List Int).map V.int)) := by rw [upd_same, Int.natCast_add]; rfl
    generalize upd H5 t2 (.tup [.int (fi : Nat), .int (((fi : Nat) : Int) + ((xs.length : Nat) : Int))]) = H6 at e6 h6
    exact ne_same (dp_i (e6 _ _ h5)) (dp_i h6) (smp_i _) (by decide) ⟨_, rfl, q H6 (y4.ex (e5.trans e6))⟩
  have hmid : (((fi : Nat) : Int) + ((List.length (us3.map V.ref) : Nat) : Int)) = ((fi + xs.length : Nat) : Int) := by rw [List.length_map, lus3]; omega
  refine ⟨_, rfl, _, rfl, _, _, rfl, rfl, _, rfl, ?_⟩
  by_cases cc : ((fi : Nat) : Int) ≤ pl ∧ pl ≤ ((fi + xs.length : Nat) : Int)
  · refine ifT (by rw [decide_eq_true_eq]; exact cc.1) ⟨_, rfl, _, rfl, ow, _, rfl, .inl (SqL.of v1), _, _, rfl, rfl, _, _, rfl, rfl, _, rfl, ifT (by rw [decide_eq_true_eq, hmid]; exact cc.2) ?_⟩
    refine ⟨_, rfl, _, rfl, _, rfl, _, _, rfl, rfl, _, rfl, _, rfl, ow, _, rfl, .inl (SqL.of v1), _, _, rfl, rfl, _, _, rfl, ?_⟩
    rw [hmid]
    refine ⟨_, _, rfl, ⟨by omega, by omega, by split <;> omega, by split <;> omega⟩, fun L hL => ?_⟩
    obtain ⟨b, rfl⟩ : ∃ b : Nat, pl = ((fi : Nat) : Int) + (b : Nat) := ⟨(pl - fi).toNat, by omega⟩
    have hb : (((fi : Nat) : Int) + (b : Nat) - ((fi : Nat) : Int)).toNat = b := by omega
    have hn : ((if ((fi + xs.length : Nat) : Int) < ((fi : Nat) : Int) + (b : Nat) + mo then ((fi + xs.length : Nat) : Int) else ((fi : Nat) : Int) + (b : Nat) + mo) - (((fi : Nat) : Int) + (b : Nat))).toNat = ((xs.drop b).take mo.toNat).length := by
      rw [List.length_take, List.length_drop]
      split <;> omega
    rw [hn]
    have hys : ∀ {j : Nat} {x : Rc}, ((xs.drop b).take mo.toNat)[j]? = some x → xs[b + j]? = some x := fun {j x} h => by
      have hlt := (List.getElem?_eq_some_iff.mp h).1
      rw [List.length_take] at hlt
      rw [List.getElem?_take_of_lt (by omega), List.getElem?_drop] at h
      exact h
    have smpy : ∀ x ∈ (xs.drop b).take mo.toNat, Smp 2 (rcD x) := fun x hx => smps x (List.mem_of_mem_drop (List.mem_of_mem_take hx))
    generalize hyy : (xs.drop b).take mo.toNat = ys at hys smpy
    have hyl : ys.length ≤ 45 := by rw [← hyy, List.length_take, List.length_drop]; omega
    refine lc_range (fun j H' => KS.Ex H3 H' ∧ ∃ ts : List Addr, H' L = some (.lst (ts.map V.ref)) ∧ ts.length = j ∧ ∀ j' x, j' < j → ys[j']? = some x → ∃ t u, ts[j']? = some t ∧ H' t = some (.tup [.int (((fi : Nat) : Int) + (b : Nat) + (j' : Nat)), .ref u]) ∧ RecAt H' u x) ⟨Ex.upd hL, [], upd_same, rfl, fun j' x h => absurd h (Nat.not_lt_zero _)⟩ ?_ ?_
    · rintro j H' hj ⟨e, ts, hD, hl, ht⟩
      have hy := List.getElem?_eq_getElem hj
      have hx := hys hy
      have hlt : b + j < us3.length := by rw [lus3]; exact (List.getElem?_eq_some_iff.mp hx).1
      obtain ⟨x, hx', ra⟩ := paired_get v2 (List.getElem?_eq_getElem hlt)
      rw [hx] at hx'
      cases hx'
      refine ⟨rfl, _, rfl, _, rfl, _, rfl, _, rfl, _, _, rfl, rfl, ow, _, _, V.ref us3[b + j], rfl, rfl, e _ _ v1, ?_, (by show 2 ≤ sizeLine; decide), fun t ht' => ⟨_, Ex.upd ht' _ _ hD, by rw [List.length_map]; omega, Ex.on (e.trans (Ex.upd ht')) hL, ts ++ [t], by rw [upd_same, List.map_append]; rfl, by rw [List.length_append, hl]; rfl, fun j' x' h1 h2 => ?_⟩⟩
      · rw [show ((fi : Nat) : Int) + (b : Nat) + (j : Nat) - ((fi : Nat) : Int) = ((b + j : Nat) : Int) by omega]
        exact atI_nat (by rw [List.getElem?_map, List.getElem?_eq_getElem hlt]; rfl)
      · have kt : KT' H' (upd (upd H' t (.tup [.int (((fi : Nat) : Int) + (b : Nat) + (j : Nat)), .ref us3[b + j]])) L (.lst (ts.map V.ref ++ [V.ref t]))) := fun c zs h => by
          rw [L2.upd_ne (fun z => by rw [z, hD] at h; cases h)]; exact Ex.upd ht' _ _ h
        have ntL : t ≠ L := fun z => by rw [z, hD] at ht'; cases ht'
        by_cases cj : j' < j
        · obtain ⟨t', u, q1, q2, q3⟩ := ht j' x' cj h2
          exact ⟨t', u, by rw [List.getElem?_append_left (by omega)]; exact q1, kt _ _ q2, q3.kt kt⟩
        · obtain rfl : j' = j := by omega
          rw [hy] at h2
          cases h2
          exact ⟨t, us3[b + j'], by rw [List.getElem?_append_right (by omega), hl, Nat.sub_self]; rfl, by rw [L2.upd_ne ntL]; exact upd_same, (ra.kt (kt_of e)).kt kt⟩
    · rintro H4 ⟨e4, ts, hD, hl, ht⟩
      refine .inl ⟨L, _, rfl, SqL.of hD, fun q hq => ?_⟩
      have e5 : KS.Ex H4 (upd H4 q (.tup (ts.map V.ref))) := Ex.upd hq
      have hq5 : (upd H4 q (.tup (ts.map V.ref))) q = some (.tup (ts.map V.ref)) := upd_same
      show _
      generalize upd H4 q (.tup (ts.map V.ref)) = H5 at e5 hq5
      have y5 := y3.ex (e4.trans e5)
      refine ⟨y5.st.tabs, fun H6 e6 t6 => ?_⟩
      have y6 := y5.exN e6 t6
      obtain ⟨dx, kk, v, tsp, g1, _⟩ := id y6.pt
      refine ⟨_, rfl, p, dx, _, rfl, g1, rfl, _, rfl, _, rfl, pr_step y6.pt (by omega) (by omega) (fun bad => absurd cc bad) fun _ H7 q' ts' rs' e7 hq' nums rc => ?_⟩
      rw [hb, hyy] at rc
      have due : Dp K H7 (.ref q) (prsD (((fi : Nat) : Int) + (b : Nat)) ys) := by
        refine dp_prs (e7 _ _ (e6 _ _ hq5 (fun _ z => nomatch z))) hl fun j x hx => ?_
        obtain ⟨t, u, q1, q2, q3⟩ := ht j x (List.getElem?_eq_some_iff.mp hx).1 hx
        exact ⟨t, u, q1, e7 _ _ (e6 _ _ (e5 _ _ q2) (fun _ z => nomatch z)), ((q3.kt (kt_of e5)).kt fun c zs h => e6 _ _ h (fun _ z => nomatch z)).kt (kt_of e7)⟩
      refine ⟨_, rfl, ne_same (dp_nums hq' nums rc) due (smp_prs smpy) (by decide) ⟨_, rfl, ifF (by decide) ?_⟩⟩
      exact last H7 _ _ (y6.ex e7) fun H8 y8 => ifF (by decide) (fin _ H8 Sd.mk y8)
  · by_cases c1 : ((fi : Nat) : Int) ≤ pl
    · have c2 : ¬ pl ≤ ((fi + xs.length : Nat) : Int) := fun z => cc ⟨c1, z⟩
      refine ifT (by rw [decide_eq_true_eq]; exact c1) ⟨_, rfl, _, rfl, ow, _, rfl, .inl (SqL.of v1), _, _, rfl, rfl, _, _, rfl, rfl, _, rfl, ifF (by rw [decide_eq_true_eq, hmid]; exact c2) ?_⟩
      refine ⟨y3.st.tabs, fun H6 e6 t6 => ?_⟩
      have y6 := y3.exN e6 t6
      obtain ⟨dx, kk, v, tsp, g1, _⟩ := id y6.pt
      refine ⟨_, rfl, p, dx, _, rfl, g1, rfl, _, rfl, _, rfl, pr_step y6.pt (by omega) (by omega) (fun _ => ⟨true, ve.G.e, fun _ => ?_, fun z => nomatch z⟩) fun good => absurd good cc⟩
      refine ⟨_, rfl, ne_same (.str _) (.str _) (Smp.str (n := 0) (by decide +kernel)) (by decide) ⟨_, rfl, ifF (by decide) ?_⟩⟩
      exact last H6 _ _ y6 fun H8 y8 => ifF (by decide) (fin _ H8 Sd.mk y8)
    · refine ifF (by rw [decide_eq_true_eq]; exact c1) ⟨_, rfl, ifF (by decide) ?_⟩
      refine ⟨y3.st.tabs, fun H6 e6 t6 => ?_⟩
      have y6 := y3.exN e6 t6
      obtain ⟨dx, kk, v, tsp, g1, _⟩ := id y6.pt
      refine ⟨_, rfl, p, dx, _, rfl, g1, rfl, _, rfl, _, rfl, pr_step y6.pt (by omega) (by omega) (fun _ => ⟨true, ve.G.e, fun _ => ?_, fun z => nomatch z⟩) fun good => absurd good cc⟩
      refine ⟨_, rfl, ne_same (.str _) (.str _) (Smp.str (n := 0) (by decide +kernel)) (by decide) ⟨_, rfl, ifF (by decide) ?_⟩⟩
      exact last H6 _ _ y6 fun H8 y8 => ifF (by decide) (fin _ H8 Sd.mk y8)
end
end KL6
set_option Elab.async false
set_option linter.all false
set_option maxRecDepth 100000
set_option maxHeartbeats 4000000
namespace KL6
open PySem PySem.Spec PyProof.Rows L2 KB KC KS KN1 LamX K7
section
variable {P : Program} {w : World} {K : PySem.W.Frag} {mg : Str → Option Value} {base : Heap} {CP CL CD CM CG CR Ps Pn Pl cN cL fTo fL : Addr} {fdTo : FuncData} {A : Around} {outer : List PySem.Env} {s : Shared} {H0 : Hp} {E0' : XK}
theorem g_deeds (ve : LawE P w K mg base CP CL CD CM CG CR Ps Pn Pl cN cL fTo fdTo) (hr : Room 16 (xLaw P w K mg base fL cL A outer s H0 E0').A) :
    ∃ t, L2.PS (xLaw P w K mg base fL cL A outer s H0 E0') (lS 1) t ∧ ∀ (D : Ends) (HB H : Hp) (dc : Addr) (p l ow : Addr) (xs : List Rc) (k fi : Nat) (st : Option V) (a0 a6 a7 a8 a9 a10 a11 a12 a13 a14 a15 a16 a17 a18 a19 a20 a21 a22 a23 a24 a26 a27 a28 a29 : Option V), DI CP Ps Pn Pl dc HB 0 p l ow xs k fi H →
      (∀ (σ' : L2.St) (H' : Hp) (i' : Nat) (l' ow' : Addr) (xs' : List Rc) (k' fi' : Nat), i' ≤ 40 → (∃ st' a0 a6 a7 a8 a9 a10 a11 a12 a13 a14 a15 a16 a17 a18 a19 a20 a21 a22 a23 a24 a26 a27 a28 a29, σ' = [a0, some (V.ref dc), some (.ref ow'), some (.int (k' : Nat)), some (.int (fi' : Nat)), st', a6, a7, a8, a9, a10, a11, a12, a13, a14, a15, a16, a17, a18, a19, a20, a21, a22, a23, a24, some (.ref p), a26, a27, a28, a29]) → DI CP Ps Pn Pl dc HB i' p l' ow' xs' k' fi' H' → D.nx σ' H') →
      t D [a0, some (.ref dc), some (.ref ow), some (.int (k : Nat)), some (.int (fi : Nat)), st, a6, a7, a8, a9, a10, a11, a12, a13, a14, a15, a16, a17, a18, a19, a20, a21, a22, a23, a24, some (.ref p), a26, a27, a28, a29] H := by
  obtain ⟨fR, fdR, GR, gR, kR, bR⟩ := ve.roll
  obtain ⟨x0, x1, x2, X0, X1, X2, hA⟩ := g_add (fL := fL) (A := A) (outer := outer) (s := s) (H0 := H0) (E0' := E0') ve hr
  obtain ⟨s0, s1, S0, S1, hS⟩ := g_keep (fL := fL) (A := A) (outer := outer) (s := s) (H0 := H0) (E0' := E0') ve hr
  obtain ⟨c0, c1, c2, c3, c4, C0, C1, C2, C3, C4, hC⟩ := g_crash (fL := fL) (A := A) (outer := outer) (s := s) (H0 := H0) (E0' := E0') ve hr
  obtain ⟨m0, m1, m2, m3, m4, M0, M1, M2, M3, M4, hM⟩ := g_trim (fL := fL) (A := A) (outer := outer) (s := s) (H0 := H0) (E0' := E0') ve hr
  obtain ⟨r2, r3, r4, R2, R3, R4, hR⟩ := g_read (fL := fL) (A := A) (outer := outer) (s := s) (H0 := H0) (E0' := E0') ve hr
  refine ⟨_, ps_for PassesOwn.never rfl (pi_range1 (by rfl) ve.T.range (pa_cons (pe_call GR (hr.mono (by decide)) (by rfl) gR kR bR .nil pass0 (pa_cons (pv 1) (pa_cons pe_int pa_nil))) pa_nil)) (pg_name (i := 5) scLaw.nd rfl (Or.inl rfl))
    (pss_cons (ps_set (i := 6) scLaw.nd rfl (Or.inl rfl) (pe_call GR (hr.mono (by decide)) (by rfl) gR kR bR .nil pass0 (pa_cons (pv 1) (pa_cons pe_int pa_nil))))
    (pss_cons (ps_if (pt_cmpR op_lt (pv 6) pe_int (nomark _)) (pss_cons X0 (pss_cons X1 (pss_one X2)))
      (pss_one (ps_if (pt_cmpR op_eq (pv 6) pe_int (nomark _)) (pss_cons S0 (pss_one S1))
      (pss_one (ps_if (pt_cmpR op_eq (pv 6) pe_int (nomark _)) (pss_cons C0 (pss_cons C1 (pss_cons C2 (pss_cons C3 (pss_one C4)))))
      (pss_one (ps_if (pt_cmpR op_eq (pv 6) pe_int (nomark _)) (pss_cons M0 (pss_cons M1 (pss_cons M2 (pss_cons M3 (pss_one M4))))) pss_nil)))))))
    (pss_cons R2 (pss_cons R3 (pss_one R4))))), ?_⟩
  intro D HB H dc p l ow xs k fi st a0 a6 a7 a8 a9 a10 a11 a12 a13 a14 a15 a16 a17 a18 a19 a20 a21 a22 a23 a24 a26 a27 a28 a29 y fin
  refine ⟨_, rfl, roll_step y.st.dice (by decide) (by decide) fun r H1 q0 q1 e1 i1 => ⟨_, rfl, by omega, by omega, ?_⟩⟩
  have y1 := y.exD e1 i1
  refine for_range (n := r.toNat) (fun i σ H' => ∃ (l ow : Addr) (xs : List Rc) (k fi : Nat) (st : Option V) (a0 a6 a7 a8 a9 a10 a11 a12 a13 a14 a15 a16 a17 a18 a19 a20 a21 a22 a23 a24 a26 a27 a28 a29 : Option V), σ = [a0, some (V.ref dc), some (.ref ow), some (.int (k : Nat)), some (.int (fi : Nat)), st, a6, a7, a8, a9, a10, a11, a12, a13, a14, a15, a16, a17, a18, a19, a20, a21, a22, a23, a24, some (.ref p), a26, a27, a28, a29] ∧ DI CP Ps Pn Pl dc HB i p l ow xs k fi H') ⟨_, _, _, _, _, _, _, _, _, _, _, _, _, _, _, _, _, _, _, _, _, _, _, _, _, _, _, _, _, _, rfl, y1⟩ ?_ ?_
  · rintro i σ H2 hi ⟨l, ow, xs, k, fi, st, a0, a6, a7, a8, a9, a10, a11, a12, a13, a14, a15, a16, a17, a18, a19, a20, a21, a22, a23, a24, a26, a27, a28, a29, rfl, y2⟩
    have ends : ∀ {σ' : L2.St} {H' : Hp} {l ow : Addr} {xs : List Rc} {k fi : Nat}, Sd (.ref dc) (.ref ow) (.int (k : Nat)) (.int (fi : Nat)) (.int (i : Nat)) (.ref p) σ' → DI CP Ps Pn Pl dc HB (i + 1) p l ow xs k fi H' → ∃ (l ow : Addr) (xs : List Rc) (k fi : Nat) (st : Option V) (a0 a6 a7 a8 a9 a10 a11 a12 a13 a14 a15 a16 a17 a18 a19 a20 a21 a22 a23 a24 a26 a27 a28 a29 : Option V), σ' = [a0, some (V.ref dc), some (.ref ow), some (.int (k : Nat)), some (.int (fi : Nat)), st, a6, a7, a8, a9, a10, a11, a12, a13, a14, a15, a16, a17, a18, a19, a20, a21, a22, a23, a24, some (.ref p), a26, a27, a28, a29] ∧ DI CP Ps Pn Pl dc HB (i + 1) p l ow xs k fi H' := by
      rintro σ' H' l ow xs k fi ⟨b0, b6, b7, b8, b9, b10, b11, b12, b13, b14, b15, b16, b17, b18, b19, b20, b21, b22, b23, b24, b26, b27, b28, b29, rfl⟩ y'
      exact ⟨_, _, _, _, _, _, _, _, _, _, _, _, _, _, _, _, _, _, _, _, _, _, _, _, _, _, _, _, _, _, rfl, y'⟩
    show tSeq _ _ _ [a0, some (.ref dc), some (.ref ow), some (.int (k : Nat)), some (.int (fi : Nat)), some (.int (0 + (i : Nat))), a6, a7, a8, a9, a10, a11, a12, a13, a14, a15, a16, a17, a18, a19, a20, a21, a22, a23, a24, some (.ref p), a26, a27, a28, a29] H2
    rw [Int.zero_add]
    refine ⟨_, rfl, roll_step y2.st.dice (by decide) (by decide) fun so H3 u0 u1 e3 i3 => ?_⟩
    have y3 := y2.exD e3 i3
    refine ⟨_, rfl, _, _, rfl, rfl, _, rfl, ?_⟩
    by_cases b1 : so < 5
    · refine ifT (by simpa using b1) ?_
      exact hA _ HB H3 dc i p l ow xs k fi _ Sd.mk y3 (by omega) fun σ4 H4 x sd4 y4 => hR _ HB H4 dc (i + 1) p l ow _ k fi (.int (i : Nat)) σ4 sd4 y4 (by omega) fun σ5 H5 sd5 y5 => ends sd5 y5
    refine ifF (by simpa using b1) ⟨_, rfl, rfl, _, rfl, ?_⟩
    rw [eqI]
    by_cases b2 : so = 5
    · refine ifT (by simpa using b2) ?_
      exact hS _ HB H3 dc i p l ow xs k fi _ Sd.mk y3 (by omega) fun σ4 H4 sd4 y4 => hR _ HB H4 dc (i + 1) p l ow _ _ fi (.int (i : Nat)) σ4 sd4 y4.mono (by omega) fun σ5 H5 sd5 y5 => ends sd5 y5
    refine ifF (by simpa using b2) ⟨_, rfl, rfl, _, rfl, ?_⟩
    rw [eqI]
    by_cases b3 : so = 6
    · refine ifT (by simpa using b3) ?_
      exact hC _ HB H3 dc i p l ow xs k fi _ Sd.mk y3 (by omega) fun σ4 H4 l4 ow4 m sd4 y4 => hR _ HB H4 dc (i + 1) p l4 ow4 _ m fi (.int (i : Nat)) σ4 sd4 y4.mono (by omega) fun σ5 H5 sd5 y5 => ends sd5 y5
    refine ifF (by simpa using b3) ⟨_, rfl, rfl, _, rfl, ?_⟩
    rw [eqI]
    by_cases b4 : so = 7
    · refine ifT (by simpa using b4) ?_
      exact hM _ HB H3 dc i p l ow xs k fi _ Sd.mk y3 (by omega) fun σ4 H4 l4 ow4 m sd4 y4 => hR _ HB H4 dc (i + 1) p l4 ow4 _ _ (fi + m) (.int (i : Nat)) σ4 sd4 y4.mono (by omega) fun σ5 H5 sd5 y5 => ends sd5 y5
    refine ifF (by simpa using b4) ?_
    exact hR _ HB H3 dc (i + 1) p l ow xs k fi (.int (i : Nat)) _ Sd.mk y3.mono (by omega) fun σ5 H5 sd5 y5 => ends sd5 y5
  · rintro σ H2 ⟨l, ow, xs, k, fi, st, a0, a6, a7, a8, a9, a10, a11, a12, a13, a14, a15, a16, a17, a18, a19, a20, a21, a22, a23, a24, a26, a27, a28, a29, rfl, y2⟩
    exact fin _ H2 r.toNat l ow xs k fi (by omega) ⟨_, _, _, _, _, _, _, _, _, _, _, _, _, _, _, _, _, _, _, _, _, _, _, _, _, rfl⟩ y2
end
end KL6
set_option Elab.async false
set_option linter.all false
set_option maxRecDepth 100000
set_option maxHeartbeats 2000000
namespace KL6
open PySem PySem.Spec PyProof.Rows L2 KB KC KS KN1 LamX K7
theorem LawRc.dr {step : Nat} {x : Rc} (hs : step ≤ 100) (h : LawRc step x) : Dr x := by
  refine ⟨h.okR hs, ?_⟩
  obtain ⟨a, b, d, t, ha, hb, hd, ht, rfl⟩ := h
  refine ⟨a, kT b, (step : Int) :: 2 :: (natL (xT d).cps.toList.length ++ (xT d).cps.toList.map (fun c => ((idx tabL c : Nat) : Int)) ++ natL t), ha, ?_, ?_, (step : Int), _, rfl, by omega, by omega⟩
  · have : b = 0 ∨ b = 1 := by omega
    rcases this with rfl | rfl
    · exact .inl rfl
    · exact .inr rfl
  · have k2 := (kT_ok b hb).2.1
    show rowL tabL [.inl (a : Int), .inr (kT b)] ++ (rowL tabL [.inl (step : Int), .inr (xT d)] ++ natL t) = _
    have e : ∀ (n : Nat) (z : Str), n < 128 → rowL tabL [.inl (n : Int), .inr z] = 2 :: 0 :: (n : Int) :: 2 :: (natL z.cps.toList.length ++ z.cps.toList.map (fun c => ((idx tabL c : Nat) : Int))) := fun n z hn => by
      show natL 2 ++ (valL tabL (.inl (n : Int)) ++ (valL tabL (.inr z) ++ [])) = _
      rw [natL_small (by omega), valL_int hn, List.append_nil]
      rfl
    rw [e a _ (by omega), e step _ (by omega), natL_small (n := (kT b).cps.toList.length) (by omega)]
    simp
theorem bent_recs : ∀ {xs : List Rc}, (∀ x ∈ xs, Dr x) → ∀ {i : Nat} (hi : i < (recsL xs).length) {b : Int}, 0 ≤ b ∧ b < 256 → (recsL xs)[i] ≠ b →
    ∃ j, j ≤ xs.length ∧ (pRecs ((recsL xs).take i ++ b :: (recsL xs).drop (i + 1))).1 = xs.take j ∧ (recsL (xs.take j)).length ≤ i ∧ ((recsL xs).take i ++ b :: (recsL xs).drop (i + 1)).length - (pRecs ((recsL xs).take i ++ b :: (recsL xs).drop (i + 1))).2.length ≤ i
  | [], _, i, hi, _, _, _ => absurd hi (Nat.not_lt_zero _)
  | x :: r, h, i, hi, b, hb, hne => by
    have dx := h x List.mem_cons_self
    by_cases c : i < (recL x).length
    · have e1 : (recsL (x :: r)).take i ++ b :: (recsL (x :: r)).drop (i + 1) = (recL x).take i ++ b :: ((recL x).drop (i + 1) ++ recsL r) := by
        rw [recsL_cons, List.take_append_of_le_length (by omega), List.drop_append_of_le_length (by omega)]
      have hx : (recL x)[i] ≠ b := fun z => hne (by
        rw [← z]
        have : (recsL (x :: r))[i]? = (recL x)[i]? := by rw [recsL_cons, List.getElem?_append_left c]
        rw [List.getElem?_eq_getElem hi, List.getElem?_eq_getElem c] at this
        exact Option.some.inj this)
      rw [e1, pRecs_none (bent_rec dx c hb hx (recsL r))]
      exact ⟨0, Nat.zero_le _, rfl, Nat.zero_le _, by rw [Nat.sub_self]; exact Nat.zero_le _⟩
    · have hl : (recsL (x :: r)).length = (recL x).length + (recsL r).length := by rw [recsL_cons, List.length_append]
      have hi2 : i - (recL x).length < (recsL r).length := by omega
      have hr : (recsL r)[i - (recL x).length] ≠ b := fun z => hne (by
        rw [← z]
        have : (recsL (x :: r))[i]? = (recsL r)[i - (recL x).length]? := by rw [recsL_cons, List.getElem?_append_right (by omega)]
        rw [List.getElem?_eq_getElem hi, List.getElem?_eq_getElem hi2] at this
        exact Option.some.inj this)
      obtain ⟨j, j1, j2, j3, j4⟩ := bent_recs (fun y hy => h y (List.mem_cons_of_mem _ hy)) hi2 hb hr
      have e1 : (recsL (x :: r)).take i ++ b :: (recsL (x :: r)).drop (i + 1) = recL x ++ ((recsL r).take (i - (recL x).length) ++ b :: (recsL r).drop (i - (recL x).length + 1)) := by
        rw [recsL_cons, List.take_append, List.drop_append, List.take_of_length_le (by omega), List.drop_eq_nil_of_le (by omega), List.append_assoc, List.nil_append, show i + 1 - (recL x).length = i - (recL x).length + 1 by omega]
      rw [e1, pRecs_some (pRec_enc dx.ok _)]
      generalize (recsL r).take (i - (recL x).length) ++ b :: (recsL r).drop (i - (recL x).length + 1) = dat at j2 j4
      refine ⟨j + 1, by rw [List.length_cons]; omega, by rw [List.take_succ_cons]; show x :: (pRecs dat).1 = _; rw [j2], by rw [List.take_succ_cons, recsL_cons, List.length_append]; omega, ?_⟩
      show (recL x ++ dat).length - (pRecs dat).2.length ≤ i
      have := pRecs_len (l := dat) (xs := (pRecs dat).1) (rest := (pRecs dat).2) rfl
      rw [List.length_append]
      omega
end KL6
set_option Elab.async false
set_option linter.all false
set_option maxRecDepth 100000
set_option maxHeartbeats 4000000
namespace KL6
open PySem PySem.Spec PyProof.Rows L2 KB KC KS KN1 LamX K7
def Sw (d ow p wh : V) (σ : L2.St) : Prop := ∃ a0 a3 a4 a5 a6 a7 a8 a9 a10 a11 a12 a13 a14 a15 a17 a18 a19 a20 a21 a22 a23 a24 a26 a27 a28 a29 : Option V,
  σ = [a0, some d, some ow, a3, a4, a5, a6, a7, a8, a9, a10, a11, a12, a13, a14, a15, some wh, a17, a18, a19, a20, a21, a22, a23, a24, some p, a26, a27, a28, a29]
theorem Sw.mk {d ow p wh : V} {a0 a3 a4 a5 a6 a7 a8 a9 a10 a11 a12 a13 a14 a15 a17 a18 a19 a20 a21 a22 a23 a24 a26 a27 a28 a29 : Option V} : Sw d ow p wh [a0, some d, some ow, a3, a4, a5, a6, a7, a8, a9, a10, a11, a12, a13, a14, a15, some wh, a17, a18, a19, a20, a21, a22, a23, a24, some p, a26, a27, a28, a29] := ⟨_, _, _, _, _, _, _, _, _, _, _, _, _, _, _, _, _, _, _, _, _, _, _, _, _, _, rfl⟩
theorem dp_rl (K : PySem.W.Frag) {H : Hp} {q l : Addr} {n : Int} {ts : List Addr} {ys : List Rc} (h : H q = some (.tup [.ref l, .int n])) (hl : H l = some (.lst (ts.map V.ref))) (r : Recs H ts ys) : Dp K H (.ref q) (.tuple [.list (ys.map rcD), .int n]) := .tup (SqT.of h) (.cons (.lst (SqL.of hl) (dp_recs K r)) (.cons (.int _) .nil))
theorem smp_rs {ys : List Rc} (h : ∀ y ∈ ys, Smp 2 (rcD y)) : Smp 3 (.list (ys.map rcD)) := .lst fun x hx => by
  obtain ⟨y, hy, rfl⟩ := List.mem_map.mp hx
  exact h y hy
theorem smp_rl {ys : List Rc} {n : Int} (h : ∀ y ∈ ys, Smp 2 (rcD y)) : Smp 4 (.tuple [.list (ys.map rcD), .int n]) := .tup fun x hx => by
  rcases List.mem_cons.mp hx with rfl | hx
  · exact smp_rs h
  · rcases List.mem_cons.mp hx with rfl | hx
    · exact .int _
    · cases hx
section
variable {P : Program} {w : World} {K : PySem.W.Frag} {mg : Str → Option Value} {base : Heap} {CP CL CD CM CG CR Ps Pn Pl cN cL fTo fL : Addr} {fdTo : FuncData} {A : Around} {outer : List PySem.Env} {s : Shared} {H0 : Hp} {E0' : XK}
theorem DI.smps {dc : Addr} {HB : Hp} {i : Nat} {p l ow : Addr} {xs : List Rc} {k fi : Nat} {H : Hp} (y : DI CP Ps Pn Pl dc HB i p l ow xs k fi H) : ∀ x ∈ xs, Smp 2 (rcD x) := fun x hx => by
  obtain ⟨s', _, h⟩ := y.ok x hx
  exact h.smp.1
theorem g_zero (ve : LawE P w K mg base CP CL CD CM CG CR Ps Pn Pl cN cL fTo fdTo) (hr : Room 16 (xLaw P w K mg base fL cL A outer s H0 E0').A) :
    ∃ t, L2.PS (xLaw P w K mg base fL cL A outer s H0 E0') (lS 0) t ∧ ∀ (D : Ends) (HB : Hp) (dc : Addr) (a0 a2 a3 a4 a5 a6 a7 a8 a9 a10 a11 a12 a13 a14 a15 a16 a17 a18 a19 a20 a21 a22 a23 a24 a25 a26 a27 a28 a29 : Option V), St Ps Pn Pl dc HB →
      (∀ (H : Hp) (p l ow : Addr), DI CP Ps Pn Pl dc HB 0 p l ow [] 0 0 H → D.nx [a0, some (.ref dc), some (.ref ow), some (.int ((0 : Nat) : Int)), some (.int ((0 : Nat) : Int)), a5, a6, a7, a8, a9, a10, a11, a12, a13, a14, a15, a16, a17, a18, a19, a20, a21, a22, a23, a24, some (.ref p), a26, a27, a28, a29] H) →
      t D [a0, some (.ref dc), a2, a3, a4, a5, a6, a7, a8, a9, a10, a11, a12, a13, a14, a15, a16, a17, a18, a19, a20, a21, a22, a23, a24, a25, a26, a27, a28, a29] HB := by
  obtain ⟨fI, fdI, GI, MI, bI⟩ := ve.pinit
  have hz0 : sizeLine = 16777216 := rfl
  refine ⟨_, ps_asg (pe_tup (pa_cons (pe_make0 MI GI (hr.mono (by decide)) (by rfl) ve.TP.g bI .nil pass0) (pa_cons (pe_lst pa_nil) (pa_cons pe_int (pa_cons pe_int pa_nil)))))
    (pg_tup rfl (pgs_cons (pg_name (i := 25) scLaw.nd rfl (Or.inr rfl)) (pgs_cons (pg_name (i := 2) scLaw.nd rfl (Or.inr rfl)) (pgs_cons (pg_name (i := 3) scLaw.nd rfl (Or.inl rfl)) (pgs_cons (pg_name (i := 4) scLaw.nd rfl (Or.inr rfl)) pgs_nil))))), ?_⟩
  intro D HB dc a0 a2 a3 a4 a5 a6 a7 a8 a9 a10 a11 a12 a13 a14 a15 a16 a17 a18 a19 a20 a21 a22 a23 a24 a25 a26 a27 a28 a29 st fin
  refine fun p dx hp hd nd => ?_
  have e1 : KS.Ex HB (upd (upd HB dx (.own p)) p (.ins CP dx [])) := (Ex.upd hd).trans (Ex.upd (by rw [L2.upd_ne nd.symm]; exact hp))
  have p1 : (upd (upd HB dx (.own p)) p (.ins CP dx [])) p = some (.ins CP dx []) := upd_same
  show spPI CP [.ref p] _ _ _
  generalize upd (upd HB dx (.own p)) p (.ins CP dx []) = H1 at e1 p1
  refine pi_step p1 fun H2 l hl0 e2 pt => ⟨rfl, (by show 0 ≤ sizeLine; decide), fun ow how => ?_⟩
  have ex2 : KS.Ex HB H2 := fun b u h => e2 b u (ne_of_none h hp) (e1 b u h)
  have e3 : KS.Ex H2 (upd H2 ow (.lst [])) := Ex.upd how
  have ow3 : (upd H2 ow (.lst [])) ow = some (.lst (([] : List Addr).map V.ref)) := upd_same
  show 4 ≤ sizeLine ∧ _
  generalize upd H2 ow (.lst []) = H3 at e3 ow3
  refine ⟨by decide, fun z hz => ⟨z, _, rfl, SqT.of upd_same, rfl, _, _, rfl, _, _, rfl, _, _, rfl, _, _, rfl, rfl, ?_⟩⟩
  have e4 : KS.Ex H3 (upd H3 z (.tup [.ref p, .ref ow, .int 0, .int 0])) := Ex.upd hz
  have ex : KS.Ex HB (upd H3 z (.tup [.ref p, .ref ow, .int 0, .int 0])) := (ex2.trans e3).trans e4
  have lB : HB l = none := by
    cases q : HB l with
    | none => rfl
    | some o => rw [e1 _ _ q] at hl0; cases hl0
  have wB : HB ow = none := by
    cases q : HB ow with
    | none => rfl
    | some o => rw [ex2 _ _ q] at how; cases how
  obtain ⟨_, _, _, hdc⟩ := id st.dice
  obtain ⟨_, _, _, _, _, _, _, q4, _⟩ := id pt
  refine fin _ p l ow ⟨st.ex ex, pt.ex (e3.trans e4), ⟨[], e4 _ _ ow3, .nil⟩, Nat.le_refl _, (fun _ h => nomatch h), Nat.le_refl _, ⟨fun z => (by rw [z, q4] at how; cases how), fun z => (by rw [z, hdc] at wB; cases wB), fun z => (by rw [z, hdc] at lB; cases lB)⟩, Kp.of ex, hp, fun u h => (by rw [lB] at h; cases h), fun u h => (by rw [wB] at h; cases h)⟩
theorem g_whole (ve : LawE P w K mg base CP CL CD CM CG CR Ps Pn Pl cN cL fTo fdTo) (hr : Room 16 (xLaw P w K mg base fL cL A outer s H0 E0').A) :
    ∃ t2 t3 t4, L2.PS (xLaw P w K mg base fL cL A outer s H0 E0') (lS 2) t2 ∧ L2.PS (xLaw P w K mg base fL cL A outer s H0 E0') (lS 3) t3 ∧ L2.PS (xLaw P w K mg base fL cL A outer s H0 E0') (lS 4) t4 ∧ ∀ (D : Ends) (HB H : Hp) (dc : Addr) (i : Nat) (p l ow : Addr) (xs : List Rc) (k fi : Nat) (tr : TS) (a0 a3 a4 a5 a6 a7 a8 a9 a10 a11 a12 a13 a14 a15 a16 a17 a18 a19 a20 a21 a22 a23 a24 a26 a27 a28 a29 : Option V), DI CP Ps Pn Pl dc HB i p l ow xs k fi H → i ≤ 40 →
      (∀ (σ' : L2.St) (H' : Hp) (q : Addr), Sw (.ref dc) (.ref ow) (.ref p) (.ref q) σ' → DI CP Ps Pn Pl dc HB i p l ow xs k fi H' → H' q = some (.tup ((recsL xs).map V.int)) → tr D σ' H') →
      tSeq t2 (tSeq t3 (tSeq t4 tr)) D [a0, some (.ref dc), some (.ref ow), a3, a4, a5, a6, a7, a8, a9, a10, a11, a12, a13, a14, a15, a16, a17, a18, a19, a20, a21, a22, a23, a24, some (.ref p), a26, a27, a28, a29] H := by
  obtain ⟨fB, fdB, GB, gB, kB, bB⟩ := ve.lbytes
  obtain ⟨fD, fdD, GD, gD, kD, bD⟩ := ve.reads
  have hz0 : sizeLine = 16777216 := rfl
  have hu := hr.units
  refine ⟨_, _, _, ps_set (i := 16) scLaw.nd rfl (Or.inl rfl) (pe_tup pa_nil),
    ps_for PassesOwn.never rfl (pi_list (pv 2)) (pg_name (i := 12) scLaw.nd rfl (Or.inl rfl)) (pss_one (ps_set (i := 16) scLaw.nd rfl (Or.inl rfl) (pe_op op_catA (pv 16) (pe_call GB (hr.mono (by decide)) (by rfl) gB kB bB .nil pass0 (pa_cons (pv 12) pa_nil))))),
    ps_if (PW.pt (pw_or (pt_cmpR (op_neD hu) (pe_op op_catA (pf 25) (pf 25)) (pv 16) (nomark _)) (pw_or1 (pt_cmpR (op_neD hu) (pe_call GD (hr.mono (by decide)) (by rfl) gD kD bD .nil pass0 (pa_cons (pv 16) pa_nil)) (pe_tup (pa_cons (pv 2) (pa_cons (pe_callB call_len_seq (by rfl) ve.T.len (by decide +kernel) (pa_cons (pv 16) pa_nil)) pa_nil))) (nomark _))))) (pss_one (ps_ret pe_bl)) pss_nil, ?_⟩
  intro D HB H dc i p l ow xs k fi tr a0 a3 a4 a5 a6 a7 a8 a9 a10 a11 a12 a13 a14 a15 a16 a17 a18 a19 a20 a21 a22 a23 a24 a26 a27 a28 a29 y hi fin
  have nl := y.nl
  refine ⟨by decide, fun q0 hq0 => ?_⟩
  have y1 := y.ex (Ex.upd hq0 (o := .tup []))
  have hq1 : (upd H q0 (.tup [])) q0 = some (.tup ((recsL (xs.take 0)).map V.int)) := upd_same
  show tSeq _ _ _ [a0, some (.ref dc), some (.ref ow), a3, a4, a5, a6, a7, a8, a9, a10, a11, a12, a13, a14, a15, some (.ref q0), a17, a18, a19, a20, a21, a22, a23, a24, some (.ref p), a26, a27, a28, a29] (upd H q0 (.tup []))
  generalize upd H q0 (.tup []) = H1 at y1 hq1
  obtain ⟨us, w1, w2⟩ := y1.hw
  have lus := paired_len w2
  have lbT : ∀ j, (recsL (xs.take j)).length ≤ 1000 := fun j => by
    have := recs_le (xs := xs.take j) fun x hx => y.okR x (List.mem_of_mem_take hx)
    rw [List.length_take] at this
    omega
  refine ⟨_, rfl, ow, rfl, ⟨_, SqL.of w1⟩, for_list (xs := us.map V.ref) (fun j σ H' => (∃ u q, σ = [a0, some (.ref dc), some (.ref ow), a3, a4, a5, a6, a7, a8, a9, a10, a11, u, a13, a14, a15, some (.ref q), a17, a18, a19, a20, a21, a22, a23, a24, some (.ref p), a26, a27, a28, a29] ∧ H' q = some (.tup ((recsL (xs.take j)).map V.int))) ∧ DI CP Ps Pn Pl dc HB i p l ow xs k fi H' ∧ H' ow = some (.lst (us.map V.ref)) ∧ Recs H' us xs) ⟨⟨_, q0, rfl, hq1⟩, y1, w1, w2⟩ ?_ ?_ ?_⟩
  · rintro j σ H' _ ⟨_, _, h, _⟩
    exact SqL.of h
  · rintro j v σ H' hv ⟨⟨u, q, rfl, hq⟩, y2, v1, v2⟩
    rw [List.getElem?_map] at hv
    obtain ⟨t, ht, rfl⟩ := Option.map_eq_some_iff.mp hv
    obtain ⟨x, hx, ra⟩ := paired_get v2 ht
    have hm := List.mem_of_getElem? hx
    have lx := recL_le (y.okR x hm)
    have := lbT j
    refine ⟨_, rfl, _, rfl, lrec_step ra (y.okB x hm) y2.st.ts fun H2 q2 t2 h2 => ?_⟩
    refine cat_two (kt_tb y2.st.ts t2 _ _ hq) h2 (by omega) fun H3 q3 e3 h3 => ?_
    have k2 : KT' H' H3 := fun b zs h => e3 _ _ (kt_tb y2.st.ts t2 _ _ h)
    refine ⟨⟨_, q3, rfl, ?_⟩, (y2.tb ve.ap t2).ex e3, e3 _ _ (keepTb y2.st.ts t2 v1 (fun _ z => nomatch z)), v2.kt k2⟩
    rw [h3, List.take_add_one, hx, recsL_app]
    show _ = some (HO.tup (List.map V.int (_ ++ (recL x ++ []))))
    rw [List.append_nil]
  · rintro σ H2 ⟨⟨u, q, rfl, hq⟩, y2, v1, v2⟩
    rw [List.length_map, lus, List.take_length] at hq
    obtain ⟨dx, kk, v, ts, g1, g2, g3, g4, g5⟩ := id y2.pt
    have hlen := recs_le y.okR
    have hcat : recsL (xs.take k) ++ recsL (xs.drop k) = recsL xs := by rw [← recsL_app, List.take_append_drop]
    have hcl := congrArg List.length hcat
    rw [List.length_append] at hcl
    refine ⟨_, rfl, p, CP, dx, _, _, rfl, g1, ve.TP.cl, ve.TP.k, rfl, _, rfl, p, CP, dx, _, _, rfl, g1, ve.TP.cl, ve.TP.w, rfl, cat_two g2 g3 (by omega) fun H3 c e3 hc => ?_⟩
    rw [hcat] at hc
    refine ⟨_, rfl, ne_same (dp_i hc) (dp_i (e3 _ _ hq)) (smp_i _) (by decide) ⟨_, rfl, ifF (by decide) ?_⟩⟩
    refine ⟨_, rfl, reads_step (e3 _ _ hq) (recsL_bytes y.okR) (by omega) fun H4 z l4 ts4 e4 hz hl4 _ rs4 => ?_⟩
    rw [pRecs_all y.okR] at hz rs4
    have hq4 := e4 _ _ (e3 _ _ hq)
    refine ⟨_, rfl, _, rfl, q, _, rfl, .inr (SqT.of hq4), (by show 2 ≤ sizeLine; decide), fun z2 hz2 => ?_⟩
    rw [List.length_map]
    have e5 : KS.Ex H4 (upd H4 z2 (.tup [.ref ow, .int ((recsL xs).length : Nat)])) := Ex.upd hz2
    have h5 : (upd H4 z2 (.tup [.ref ow, .int ((recsL xs).length : Nat)])) z2 = some (.tup [.ref ow, .int ((recsL xs).length : Nat)]) := upd_same
    generalize upd H4 z2 (.tup [.ref ow, .int ((recsL xs).length : Nat)]) = H5 at e5 h5
    have e25 := (e3.trans e4).trans e5
    refine ne_same (dp_rl K (e5 _ _ hz) (e5 _ _ hl4) (rs4.kt (kt_of e5))) (dp_rl K h5 (e25 _ _ v1) (v2.kt (kt_of e25))) (smp_rl y.smps) (by decide) ⟨_, rfl, ifF (by decide) ?_⟩
    exact fin _ H5 q Sw.mk (y2.ex e25) (e5 _ _ hq4)
end
end KL6
set_option Elab.async false
set_option linter.all false
set_option maxRecDepth 100000
set_option maxHeartbeats 4000000
namespace KL6
open PySem PySem.Spec PyProof.Rows L2 KB KC KS KN1 LamX K7
abbrev bentB : List Stmt := ifBody (lS 5)
theorem bytes_app {a b : List Int} (ha : Bytes a) (hb : Bytes b) : Bytes (a ++ b) := fun y hy => by
  rcases List.mem_append.mp hy with h | h
  · exact ha y h
  · exact hb y h
section
variable {P : Program} {w : World} {K : PySem.W.Frag} {mg : Str → Option Value} {base : Heap} {CP CL CD CM CG CR Ps Pn Pl cN cL fTo fL : Addr} {fdTo : FuncData} {A : Around} {outer : List PySem.Env} {s : Shared} {H0 : Hp} {E0' : XK}
theorem g_bent (ve : LawE P w K mg base CP CL CD CM CG CR Ps Pn Pl cN cL fTo fdTo) (hr : Room 16 (xLaw P w K mg base fL cL A outer s H0 E0').A) :
    ∃ t, L2.PS (xLaw P w K mg base fL cL A outer s H0 E0') (lS 5) t ∧ ∀ (D : Ends) (HB H : Hp) (dc : Addr) (i : Nat) (p l ow q : Addr) (xs : List Rc) (k fi : Nat) (σ : L2.St), Sw (.ref dc) (.ref ow) (.ref p) (.ref q) σ → DI CP Ps Pn Pl dc HB i p l ow xs k fi H → i ≤ 40 → H q = some (.tup ((recsL xs).map V.int)) →
      (∀ (σ' : L2.St) (H' : Hp), Sw (.ref dc) (.ref ow) (.ref p) (.ref q) σ' → DI CP Ps Pn Pl dc HB i p l ow xs k fi H' → D.nx σ' H') → t D σ H := by
  obtain ⟨fR, fdR, GR, gR, kR, bR⟩ := ve.roll
  obtain ⟨fD, fdD, GD, gD, kD, bD⟩ := ve.reads
  have hz0 : sizeLine = 16777216 := rfl
  have hu := hr.units
  refine ⟨_, ps_if (pt_cmpR (op_neD hu) (pv 16) (pe_tup pa_nil) (nomark _))
    (pss_cons (ps_set (i := 17) scLaw.nd rfl (Or.inl rfl) (pe_call GR (hr.mono (by decide)) (by rfl) gR kR bR .nil pass0 (pa_cons (pv 1) (pa_cons (pe_callB call_len_seq (by rfl) ve.T.len (by decide +kernel) (pa_cons (pv 16) pa_nil)) pa_nil))))
    (pss_cons (ps_set (i := 18) scLaw.nd rfl (Or.inl rfl) (pe_op op_catA (pe_op op_catA (pe_slice sl_tupA (pv 16) po_none (po_some (pv 17)))
        (pe_tup (pa_cons (pe_op op_mod (pe_op op_add (pe_op op_add (pe_ix ix_tupD (pv 16) (pv 17) (fun _ _ => rfl)) pe_int) (pe_call GR (hr.mono (by decide)) (by rfl) gR kR bR .nil pass0 (pa_cons (pv 1) (pa_cons pe_int pa_nil)))) pe_int) pa_nil)))
        (pe_slice sl_tupA (pv 16) (po_some (pe_op op_add (pv 17) pe_int)) po_none)))
    (pss_cons (ps_asg (pe_call GD (hr.mono (by decide)) (by rfl) gD kD bD .nil pass0 (pa_cons (pv 18) pa_nil)) (pg_tup rfl (pgs_cons (pg_name (i := 19) scLaw.nd rfl (Or.inl rfl)) (pgs_cons (pg_name (i := 10) scLaw.nd rfl (Or.inl rfl)) pgs_nil))))
    (pss_one (ps_if (PW.pt (pw_or (pt_cmpR (op_neD hu) (pv 19) (pe_slice sl_list (pv 2) po_none (po_some (pe_callB call_len_seq (by rfl) ve.T.len (by decide +kernel) (pa_cons (pv 19) pa_nil)))) (nomark _))
      (pw_or (pt_cmpR op_gt (pv 10) (pv 17) (nomark _))
      (pw_or1 (pt_cmpR (op_neD hu) (pe_ix ix_tupD (pe_call GD (hr.mono (by decide)) (by rfl) gD kD bD .nil pass0 (pa_cons (pe_slice sl_tupA (pv 16) po_none (po_some (pv 17))) pa_nil)) pe_int (fun _ _ => rfl))
        (pe_slice sl_list (pv 2) po_none (po_some (pe_callB call_len_seq (by rfl) ve.T.len (by decide +kernel) (pa_cons (pe_ix ix_tupD (pe_call GD (hr.mono (by decide)) (by rfl) gD kD bD .nil pass0 (pa_cons (pe_slice sl_tupA (pv 16) po_none (po_some (pv 17))) pa_nil)) pe_int (fun _ _ => rfl)) pa_nil)))) (nomark _)))))) (pss_one (ps_ret pe_bl)) pss_nil))))) pss_nil, ?_⟩
  rintro D HB H dc i p l ow q xs k fi σ ⟨a0, a3, a4, a5, a6, a7, a8, a9, a10, a11, a12, a13, a14, a15, a17, a18, a19, a20, a21, a22, a23, a24, a26, a27, a28, a29, rfl⟩ y hi hq fin
  have nl := y.nl
  have hlen := recs_le y.okR
  refine ⟨_, rfl, (by show 0 ≤ sizeLine; decide), fun z0 hz0' => ?_⟩
  have y1 := y.ex (Ex.upd hz0' (o := .tup []))
  have hq1 := Ex.upd hz0' (o := .tup []) _ _ hq
  have hz1 : (upd H z0 (.tup [])) z0 = some (.tup (([] : List Int).map V.int)) := upd_same
  show rNeD K _ _ (upd H z0 (.tup [])) _
  generalize upd H z0 (.tup []) = H1 at y1 hq1 hz1
  refine ⟨_, _, dp_i hq1, dp_i hz1, shaped_i _, shaped_i _, _, rfl, ?_⟩
  rw [eqv_i]
  by_cases ce : recsL xs = []
  · exact ifF (by simp [ce]) (fin _ H1 Sw.mk y1)
  refine ifT (by simp [ce]) ?_
  have hpos : 0 < (recsL xs).length := List.length_pos_iff.mpr ce
  have nqd : ∀ {H' : Hp}, DI CP Ps Pn Pl dc HB i p l ow xs k fi H' → ∀ {b : Addr} {vs : List V}, H' b = some (.tup vs) → b ≠ dc := fun {H'} y' {b vs} h => y'.st.dne h (fun _ z => nomatch z)
  refine ⟨_, rfl, _, rfl, q, _, rfl, .inr (SqT.of hq1), ?_⟩
  rw [List.length_map]
  refine roll_step y1.st.dice (by omega) (by omega) fun r H2 r0 r1 e2 i2 => ?_
  obtain ⟨sp, rfl⟩ : ∃ sp : Nat, r = (sp : Int) := ⟨r.toNat, by omega⟩
  have hsp : sp < (recsL xs).length := by omega
  have y2 := y1.exD e2 i2
  have hq2 := e2 _ _ (nqd y1 hq1) hq1
  have hb := recsL_bytes y.okR
  obtain ⟨wv, hw⟩ : ∃ wv, (recsL xs)[sp] = wv := ⟨_, rfl⟩
  have hwv : 0 ≤ wv ∧ wv < 256 := by rw [← hw]; exact hb _ (List.getElem_mem hsp)
  show tSeq _ _ _ [a0, some (.ref dc), some (.ref ow), a3, a4, a5, a6, a7, a8, a9, a10, a11, a12, a13, a14, a15, some (.ref q), some (.int (sp : Nat)), a18, a19, a20, a21, a22, a23, a24, some (.ref p), a26, a27, a28, a29] H2
  refine ⟨_, rfl, ?_⟩
  dsimp only [tNoPart]
  refine ⟨_, rfl, _, rfl, sl_to hq2 fun H3 p3 e3 h3 => ?_⟩
  have y3 := y2.ex e3
  have hq3 := e3 _ _ hq2
  refine ⟨_, rfl, _, rfl, q, _, _, .int wv, rfl, rfl, hq3, atI_nat (by rw [List.getElem?_map, List.getElem?_eq_getElem hsp, hw]; rfl), ?_⟩
  refine ⟨_, _, rfl, rfl, _, rfl, roll_step y3.st.dice (by decide) (by decide) fun r2 H4 r20 r21 e4 i4 => ⟨_, _, rfl, rfl, _, _, rfl, rfl, (by show (0 : Int) < 256; decide), (by show 1 ≤ sizeLine; decide), fun z4 hz4 => ?_⟩⟩
  have y4 := y3.exD e4 i4
  have hq4 := e4 _ _ (nqd y3 hq3) hq3
  have h34 := e4 _ _ (nqd y3 h3) h3
  have hbv : 0 ≤ (wv + 1 + r2) % 256 ∧ (wv + 1 + r2) % 256 < 256 := ⟨by omega, by omega⟩
  have hbn : wv ≠ (wv + 1 + r2) % 256 := by omega
  have e5 : KS.Ex H4 (upd H4 z4 (.tup [.int ((wv + 1 + r2) % 256)])) := Ex.upd hz4
  have h5 : (upd H4 z4 (.tup [.int ((wv + 1 + r2) % 256)])) z4 = some (.tup (([(wv + 1 + r2) % 256] : List Int).map V.int)) := upd_same
  show rCatA K _ _ (upd H4 z4 (.tup [.int ((wv + 1 + r2) % 256)])) _
  generalize upd H4 z4 (.tup [.int ((wv + 1 + r2) % 256)]) = H5 at e5 h5
  generalize (wv + 1 + r2) % 256 = bv at hbv hbn h5
  have y5 := y4.ex e5
  have hq5 := e5 _ _ hq4
  have lt := List.length_take_le sp (recsL xs)
  refine cat_two (e5 _ _ h34) h5 (by simp only [List.length_singleton]; omega) fun H6 p6 e6 h6 => ?_
  have y6 := y5.ex e6
  have hq6 := e6 _ _ hq5
  refine ⟨_, rfl, _, rfl, _, _, rfl, rfl, _, rfl, ?_⟩
  dsimp only [tNoPart]
  refine sl_from (lo := sp + 1) hq6 fun H7 p7 e7 h7 => ?_
  have hld : ((recsL xs).drop (sp + 1)).length ≤ 1000 := by rw [List.length_drop]; omega
  refine cat_two (e7 _ _ h6) h7 (by rw [List.length_append]; simp only [List.length_singleton]; omega) fun H8 p8 e8 h8 => ?_
  have y8 := y6.ex (e7.trans e8)
  have hq8 := e8 _ _ (e7 _ _ hq6)
  rw [List.append_assoc, List.singleton_append] at h8
  show tSeq _ _ _ [a0, some (.ref dc), some (.ref ow), a3, a4, a5, a6, a7, a8, a9, a10, a11, a12, a13, a14, a15, some (.ref q), some (.int (sp : Nat)), some (.ref p8), a19, a20, a21, a22, a23, a24, some (.ref p), a26, a27, a28, a29] H8
  obtain ⟨j, j1, j2, j3, j4⟩ := bent_recs (xs := xs) (fun x hx => by
    obtain ⟨s', h1, h2⟩ := y.ok x hx
    exact h2.dr (by omega)) hsp hbv (by rw [hw]; exact hbn)
  have hbb : Bytes ((recsL xs).take sp ++ bv :: (recsL xs).drop (sp + 1)) := bytes_app (fun z hz => hb z (List.mem_of_mem_take hz)) fun z hz => by
    rcases List.mem_cons.mp hz with rfl | hz
    · exact hbv
    · exact hb z (List.mem_of_mem_drop hz)
  have hbl : ((recsL xs).take sp ++ bv :: (recsL xs).drop (sp + 1)).length ≤ 1000 := by
    rw [List.length_append, List.length_cons, List.length_take, List.length_drop]
    omega
  generalize (recsL xs).take sp ++ bv :: (recsL xs).drop (sp + 1) = bent at h8 j2 j4 hbb hbl
  refine ⟨_, rfl, reads_step h8 hbb hbl fun H9 z9 l9 ts9 e9 hz9 hl9 _ rs9 => ⟨z9, _, rfl, SqT.of hz9, rfl, _, _, rfl, _, _, rfl, rfl, ?_⟩⟩
  rw [j2] at rs9
  have y9 := y8.ex e9
  have hq9 := e9 _ _ hq8
  have l9' := paired_len rs9
  generalize hmn : bent.length - (pRecs bent).2.length = mn at j4 hz9 ⊢
  obtain ⟨us, w1, w2⟩ := y9.hw
  refine ⟨_, rfl, _, rfl, ?_⟩
  dsimp only [tNoPart]
  refine ⟨_, rfl, l9, _, rfl, .inl (SqL.of hl9), _, rfl, ?_⟩
  rw [List.length_map, l9', List.length_take, Nat.min_eq_left j1]
  refine lst_to (hi := j) rfl w1 fun H10 o10 e10 h10 _ => ?_
  refine ne_same (d := .list ((xs.take j).map rcD)) (.lst (SqL.of (e10 _ _ hl9)) (dp_recs K (rs9.kt (kt_of e10)))) (.lst (SqL.of h10) (dp_recs K (Recs.kt (paired_take j w2) (kt_of e10)))) (smp_rs fun x hx => y.smps x (List.mem_of_mem_take hx)) (by decide) ⟨_, rfl, ifF (by decide) ?_⟩
  refine ⟨_, rfl, _, rfl, _, _, rfl, rfl, _, rfl, ifF (by rw [decide_eq_true_eq]; omega) ?_⟩
  have y10 := y9.ex e10
  obtain ⟨rest, c1, c2⟩ := pRecs_cut y.okR sp
  have c3 : (pRecs ((recsL xs).take sp)).1 = xs.take (whole xs sp) := by
    rw [c1, pRecs_enc c2 fun x hx => y.okR x (List.mem_of_mem_take hx)]
  have cb : Bytes ((recsL xs).take sp) := fun z hz => hb z (List.mem_of_mem_take hz)
  have cl : ((recsL xs).take sp).length ≤ 1000 := by omega
  have wl := whole_le xs sp
  refine ⟨_, rfl, ?_⟩
  dsimp only [tNoPart]
  refine ⟨_, rfl, _, rfl, sl_to (e10 _ _ hq9) fun H11 p11 e11 h11 => ?_⟩
  refine reads_step h11 cb cl fun H12 z12 l12 ts12 e12 hz12 hl12 _ rs12 => ?_
  rw [c3] at rs12
  refine ⟨z12, _, _, _, rfl, rfl, hz12, rfl, ?_⟩
  refine ⟨_, rfl, ?_⟩
  dsimp only [tNoPart]
  refine ⟨_, rfl, ?_⟩
  dsimp only [tNoPart]
  refine ⟨_, rfl, _, rfl, sl_to (e12 _ _ (e11 _ _ (e10 _ _ hq9))) fun H13 p13 e13 h13 => ?_⟩
  refine reads_step h13 cb cl fun H14 z14 l14 ts14 e14 hz14 hl14 _ rs14 => ?_
  rw [c3] at rs14
  refine ⟨z14, _, _, _, rfl, rfl, hz14, rfl, l14, _, rfl, .inl (SqL.of hl14), _, rfl, ?_⟩
  rw [List.length_map, paired_len rs14, List.length_take, Nat.min_eq_left wl]
  have e1014 := (e11.trans e12).trans (e13.trans e14)
  refine lst_to (hi := whole xs sp) rfl (e1014 _ _ (e10 _ _ w1)) fun H15 o15 e15 h15 _ => ?_
  refine ne_same (d := .list ((xs.take (whole xs sp)).map rcD)) (.lst (SqL.of (e15 _ _ (e14 _ _ (e13 _ _ hl12)))) (dp_recs K (rs12.kt (kt_of ((e13.trans e14).trans e15))))) (.lst (SqL.of h15) (dp_recs K (Recs.kt (paired_take (whole xs sp) w2) (kt_of (e10.trans (e1014.trans e15)))))) (smp_rs fun x hx => y.smps x (List.mem_of_mem_take hx)) (by decide) ⟨_, rfl, ifF (by decide) ?_⟩
  exact fin _ H15 Sw.mk (y10.ex (e1014.trans e15))
end
end KL6
set_option Elab.async false
set_option linter.all false
set_option maxRecDepth 100000
set_option maxHeartbeats 4000000
namespace KL6
open PySem PySem.Spec PyProof.Rows L2 KB KC KS KN1 LamX K7
theorem St.frl {CL CP Ps Pn Pl dc o q : Addr} {ps : List (Addr × Addr)} {sts : List PS} {H H' : Hp} (s : St Ps Pn Pl dc H) (ap : Apt Ps Pn Pl) (x : LogA CL CP o q ps sts H) (f : FrL Ps ps H H') (nd : dc ∉ ps.map (·.2)) : St Ps Pn Pl dc H' := by
  have go : ∀ {P : Addr} {q : Str}, P ≠ Ps → TabS H P q → TabS H' P q := fun n t => tabS_two t (fun tb h => f.2 _ _ n (fun z => by
    obtain ⟨_, _, _, e⟩ := x.insts z
    rw [e] at h; cases h) (fun z => by
    obtain ⟨_, e⟩ := x.lists z
    rw [e] at h; cases h) h) (fun b φ h => f.keepO x s.ts h (fun _ z => nomatch z) (fun _ _ _ z => nomatch z) (fun _ z => nomatch z))
  obtain ⟨a, b, c, hd⟩ := s.dice
  exact ⟨f.1, go ap.sn.symm s.tn, go ap.sl.symm s.tl, ⟨a, b, c, f.keepL x s.ts hd nd⟩⟩
structure KR (n : Nat) (sts : List PS) (all : List Rc) : Prop where
  own : ∀ i st, sts[i]? = some st → ∀ y ∈ st.2.2, numK y.1 n = i
  same : ∀ k : List Key, (sts.flatMap (·.2.2)).filter (fun y => decide (y.1 = k)) = all.filter (fun y => decide (y.1 = k))
theorem lastO_filter (xs : List Rc) (k : List Key) : lastO xs k = lastO (xs.filter fun y => decide (y.1 = k)) k := by
  unfold lastO
  congr 1
  rw [← List.filter_reverse]
  induction xs.reverse with
  | nil => rfl
  | cons x r ih =>
    by_cases c : x.1 = k
    · rw [List.find?_cons_of_pos (by simpa using c), List.filter_cons_of_pos (by simpa using c), List.find?_cons_of_pos (by simpa using c)]
    · rw [List.find?_cons_of_neg (by simpa using c), List.filter_cons_of_neg (by simpa using c)]
      exact ih
theorem KR.last {n : Nat} {sts : List PS} {all : List Rc} (h : KR n sts all) : lastO (sts.flatMap (·.2.2)) = lastO all := by
  funext k
  rw [lastO_filter, h.same k, ← lastO_filter]
theorem KR.add {n j : Nat} {sts : List PS} {all : List Rc} {st : PS} {x : Rc} (h : KR n sts all) (hj : sts[j]? = some st) (hn : numK x.1 n = j) : KR n (sts.set j (app1 st x)) (all ++ [x]) := by
  have hlt : j < sts.length := (List.getElem?_eq_some_iff.mp hj).1
  refine ⟨fun i s1 hi y hy => ?_, fun k => ?_⟩
  · by_cases c : i = j
    · subst c
      rw [List.getElem?_set_self hlt] at hi
      cases hi
      rcases List.mem_append.mp hy with z | z
      · exact h.own _ _ hj y z
      · rw [List.mem_singleton.mp z]; exact hn
    · rw [List.getElem?_set_ne (fun z => c z.symm)] at hi
      exact h.own _ _ hi y hy
  · have e1 : sts = sts.take j ++ st :: sts.drop (j + 1) := by
      have : sts.drop j = st :: sts.drop (j + 1) := by rw [List.drop_eq_getElem_cons hlt, (List.getElem?_eq_some_iff.mp hj).2]
      rw [← this, List.take_append_drop]
    have e2 : sts.set j (app1 st x) = sts.take j ++ app1 st x :: sts.drop (j + 1) := List.set_eq_take_append_cons_drop .. |>.trans (by rw [if_pos hlt])
    have same := h.same k
    rw [e1, List.flatMap_append, List.flatMap_cons, List.filter_append, List.filter_append] at same
    rw [e2, List.flatMap_append, List.flatMap_cons, List.filter_append, List.filter_append, List.filter_append, ← same]
    show _ ++ ((st.2.2 ++ [x]).filter _ ++ _) = _
    rw [List.filter_append]
    by_cases c : x.1 = k
    · have none : ((sts.drop (j + 1)).flatMap (·.2.2)).filter (fun y => decide (y.1 = k)) = [] := by
        rw [List.filter_eq_nil_iff]
        intro y hy
        obtain ⟨s1, hs, hm⟩ := List.mem_flatMap.mp hy
        obtain ⟨m, hm2⟩ := List.getElem?_of_mem hs
        rw [List.getElem?_drop] at hm2
        have := h.own _ _ hm2 y hm
        rw [decide_eq_true_eq]
        intro z
        rw [z, ← c, hn] at this
        omega
      rw [none, List.append_nil, List.append_nil, List.append_assoc]
    · have : [x].filter (fun y => decide (y.1 = k)) = [] := by simp [c]
      rw [this, List.append_nil, List.append_nil]
structure GI (CL CP Ps Pn Pl dc : Addr) (HB : Hp) (o q tb : Addr) (ps : List (Addr × Addr)) (i : Nat) (sts : List PS) (all : List Rc) (H : Hp) : Prop where
  st : St Ps Pn Pl dc H
  lg : LogA CL CP o q ps sts H
  ta : ∃ kvs, H tb = some (.dT kvs) ∧ kvs.length ≤ i ∧ IsTab H kvs (lastO all)
  kr : KR ps.length sts all
  bd : ∀ st ∈ sts, st.1 = [] ∧ st.2.1.length ≤ 25 * i ∧ st.2.2.length ≤ i
  hn : 0 < ps.length ∧ ps.length ≤ 16
  ok : ∀ x ∈ all, ∃ step, step ≤ 40 ∧ LawRc step x
  nd : q ≠ dc ∧ dc ∉ ps.map (·.2)
  kb : Kp dc HB H
  fb : (∀ pl ∈ ps, HB pl.1 = none ∧ HB pl.2 = none) ∧ HB tb = none
section
variable {CL CP Ps Pn Pl dc : Addr} {HB : Hp} {o q tb : Addr} {ps : List (Addr × Addr)} {i : Nat} {sts : List PS} {all : List Rc} {H H' : Hp}
theorem GI.kp (x : GI CL CP Ps Pn Pl dc HB o q tb ps i sts all H) (s : St Ps Pn Pl dc H') (e : Kp dc H H') : GI CL CP Ps Pn Pl dc HB o q tb ps i sts all H' := by
  obtain ⟨kvs, h1, h2, h3⟩ := x.ta
  exact ⟨s, x.lg.kp x.st.dice e x.nd.1 x.nd.2, ⟨kvs, e _ _ (x.st.dne h1 (fun _ z => nomatch z)) h1 (fun _ z => nomatch z), h2, h3.kt (e.kt x.st.dice)⟩, x.kr, x.bd, x.hn, x.ok, x.nd, x.kb.trans e, x.fb⟩
theorem GI.ex (x : GI CL CP Ps Pn Pl dc HB o q tb ps i sts all H) (e : KS.Ex H H') : GI CL CP Ps Pn Pl dc HB o q tb ps i sts all H' := x.kp (x.st.ex e) (Kp.of e)
theorem GI.exD (x : GI CL CP Ps Pn Pl dc HB o q tb ps i sts all H) (e : ExD dc H H') (d : IsDice H' dc) : GI CL CP Ps Pn Pl dc HB o q tb ps i sts all H' := x.kp (x.st.exD e d) (Kp.exD e)
theorem GI.tbl (x : GI CL CP Ps Pn Pl dc HB o q tb ps i sts all H) (ap : Apt Ps Pn Pl) (e : Tb Ps H H') : GI CL CP Ps Pn Pl dc HB o q tb ps i sts all H' := x.kp (x.st.tb ap e) (Kp.tb x.st.ts e)
theorem GI.fr (x : GI CL CP Ps Pn Pl dc HB o q tb ps i sts all H) (ap : Apt Ps Pn Pl) (f : FrL Ps ps H H') : St Ps Pn Pl dc H' ∧ Kp dc HB H' ∧ (∃ kvs, H' tb = some (.dT kvs) ∧ kvs.length ≤ i ∧ IsTab H' kvs (lastO all)) ∧ KT' H H' := by
  obtain ⟨tbP, hP, _⟩ := id x.st.ts
  obtain ⟨kvs, h1, h2, h3⟩ := x.ta
  have kt := f.kt x.lg x.st.ts
  refine ⟨x.st.frl ap x.lg f x.nd.2, fun b u n h nt => ?_, ⟨kvs, f.keepO x.lg x.st.ts h1 (fun _ z => nomatch z) (fun _ _ _ z => nomatch z) (fun _ z => nomatch z), h2, h3.kt kt⟩, kt⟩
  have hb := x.kb b u n h nt
  refine f.2 b u (fun z => by rw [z, hP] at hb; exact nt _ (Option.some.inj hb).symm) (fun z => ?_) (fun z => ?_) hb
  · obtain ⟨pl, hpl, e⟩ := List.mem_map.mp z
    have := (x.fb.1 pl hpl).1
    rw [e, h] at this; cases this
  · obtain ⟨pl, hpl, e⟩ := List.mem_map.mp z
    have := (x.fb.1 pl hpl).2
    rw [e, h] at this; cases this
theorem GI.shape (x : GI CL CP Ps Pn Pl dc HB o q tb ps i sts all H) : ∀ k r, lastO all k = some r → Smp 1 (rD r) := fun k r h => by
  unfold lastO at h
  obtain ⟨y, hy, rfl⟩ := Option.map_eq_some_iff.mp h
  have hm := List.mem_of_find?_eq_some hy
  obtain ⟨s', _, h2⟩ := x.ok y (List.mem_reverse.mp hm)
  exact h2.smp.2.2
end
end KL6
set_option Elab.async false
set_option linter.all false
set_option maxRecDepth 100000
set_option maxHeartbeats 4000000
namespace KL6
open PySem PySem.Spec PyProof.Rows L2 KB KC KS KN1 LamX K7
abbrev gB : List Stmt := forBody (lS 8)
def Sg (d lg tb : V) (σ : L2.St) : Prop := ∃ a0 a2 a3 a4 a5 a6 a7 a8 a9 a10 a11 a12 a13 a14 a15 a16 a17 a18 a19 a22 a23 a24 a25 a26 a27 a28 a29 : Option V,
  σ = [a0, some d, a2, a3, a4, a5, a6, a7, a8, a9, a10, a11, a12, a13, a14, a15, a16, a17, a18, a19, some lg, some tb, a22, a23, a24, a25, a26, a27, a28, a29]
theorem Sg.mk {d lg tb : V} {a0 a2 a3 a4 a5 a6 a7 a8 a9 a10 a11 a12 a13 a14 a15 a16 a17 a18 a19 a22 a23 a24 a25 a26 a27 a28 a29 : Option V} : Sg d lg tb [a0, some d, a2, a3, a4, a5, a6, a7, a8, a9, a10, a11, a12, a13, a14, a15, a16, a17, a18, a19, some lg, some tb, a22, a23, a24, a25, a26, a27, a28, a29] := ⟨_, _, _, _, _, _, _, _, _, _, _, _, _, _, _, _, _, _, _, _, _, _, _, _, _, _, _, rfl⟩
theorem len30 {σ : L2.St} (h : σ.length = 30) : ∃ a0 a1 a2 a3 a4 a5 a6 a7 a8 a9 a10 a11 a12 a13 a14 a15 a16 a17 a18 a19 a20 a21 a22 a23 a24 a25 a26 a27 a28 a29 : Option V, σ = [a0, a1, a2, a3, a4, a5, a6, a7, a8, a9, a10, a11, a12, a13, a14, a15, a16, a17, a18, a19, a20, a21, a22, a23, a24, a25, a26, a27, a28, a29] := by
  obtain _ | ⟨a0, σ⟩ := σ; · cases h
  obtain _ | ⟨a1, σ⟩ := σ; · cases h
  obtain _ | ⟨a2, σ⟩ := σ; · cases h
  obtain _ | ⟨a3, σ⟩ := σ; · cases h
  obtain _ | ⟨a4, σ⟩ := σ; · cases h
  obtain _ | ⟨a5, σ⟩ := σ; · cases h
  obtain _ | ⟨a6, σ⟩ := σ; · cases h
  obtain _ | ⟨a7, σ⟩ := σ; · cases h
  obtain _ | ⟨a8, σ⟩ := σ; · cases h
  obtain _ | ⟨a9, σ⟩ := σ; · cases h
  obtain _ | ⟨a10, σ⟩ := σ; · cases h
  obtain _ | ⟨a11, σ⟩ := σ; · cases h
  obtain _ | ⟨a12, σ⟩ := σ; · cases h
  obtain _ | ⟨a13, σ⟩ := σ; · cases h
  obtain _ | ⟨a14, σ⟩ := σ; · cases h
  obtain _ | ⟨a15, σ⟩ := σ; · cases h
  obtain _ | ⟨a16, σ⟩ := σ; · cases h
  obtain _ | ⟨a17, σ⟩ := σ; · cases h
  obtain _ | ⟨a18, σ⟩ := σ; · cases h
  obtain _ | ⟨a19, σ⟩ := σ; · cases h
  obtain _ | ⟨a20, σ⟩ := σ; · cases h
  obtain _ | ⟨a21, σ⟩ := σ; · cases h
  obtain _ | ⟨a22, σ⟩ := σ; · cases h
  obtain _ | ⟨a23, σ⟩ := σ; · cases h
  obtain _ | ⟨a24, σ⟩ := σ; · cases h
  obtain _ | ⟨a25, σ⟩ := σ; · cases h
  obtain _ | ⟨a26, σ⟩ := σ; · cases h
  obtain _ | ⟨a27, σ⟩ := σ; · cases h
  obtain _ | ⟨a28, σ⟩ := σ; · cases h
  obtain _ | ⟨a29, σ⟩ := σ; · cases h
  obtain _ | ⟨a30, σ⟩ := σ
  · exact ⟨_, _, _, _, _, _, _, _, _, _, _, _, _, _, _, _, _, _, _, _, _, _, _, _, _, _, _, _, _, _, rfl⟩
  · have : σ.length + 31 = 30 := h
    omega
section
variable {P : Program} {w : World} {K : PySem.W.Frag} {mg : Str → Option Value} {base : Heap} {CP CL CD CM CG CR Ps Pn Pl cN cL fTo fL : Addr} {fdTo : FuncData} {A : Around} {outer : List PySem.Env} {s : Shared} {H0 : Hp} {E0' : XK}
theorem g_log (ve : LawE P w K mg base CP CL CD CM CG CR Ps Pn Pl cN cL fTo fdTo) (hr : Room 16 (xLaw P w K mg base fL cL A outer s H0 E0').A) :
    ∃ t6 t7, L2.PS (xLaw P w K mg base fL cL A outer s H0 E0') (lS 6) t6 ∧ L2.PS (xLaw P w K mg base fL cL A outer s H0 E0') (lS 7) t7 ∧ ∀ (D : Ends) (HB : Hp) (dc : Addr) (tr : TS) (ow p q0 : V) (σ : L2.St), Sw (.ref dc) ow p q0 σ → St Ps Pn Pl dc HB →
      (∀ (σ' : L2.St) (H' : Hp) (o q tb : Addr) (ps : List (Addr × Addr)) (sts : List PS), Sg (.ref dc) (.ref o) (.ref tb) σ' → GI CL CP Ps Pn Pl dc HB o q tb ps 0 sts [] H' → tr D σ' H') →
      tSeq t6 (tSeq t7 tr) D σ HB := by
  obtain ⟨fR, fdR, GR, gR, kR, bR⟩ := ve.roll
  obtain ⟨fL', fdL, GL, ML, bL⟩ := ve.linit
  refine ⟨_, _, ps_set (i := 20) scLaw.nd rfl (Or.inl rfl) (pe_make (CX := L2.CX P w) ML GL (hr.mono (by decide)) (by rfl) ve.TO.g bL (E := fun _ _ _ => False) .nil (passes_call L2.takes0 (fun _ _ _ _ h => h)) (pa_cons (pe_op op_add pe_int (pe_call GR (hr.mono (by decide)) (by rfl) gR kR bR .nil pass0 (pa_cons (pv 1) (pa_cons pe_int pa_nil)))) pa_nil)),
    ps_set (i := 21) scLaw.nd rfl (Or.inl rfl) pe_dnewT, ?_⟩
  rintro D HB dc tr ow p q0 σ ⟨a0, a3, a4, a5, a6, a7, a8, a9, a10, a11, a12, a13, a14, a15, a17, a18, a19, a20, a21, a22, a23, a24, a26, a27, a28, a29, rfl⟩ st fin
  refine ⟨_, rfl, roll_step st.dice (by decide) (by decide) fun r H1 r0 r4 e1 i1 => ⟨_, _, rfl, rfl, fun o dxo ho hdo nd => ?_⟩⟩
  have s1 := st.exD e1 i1
  obtain ⟨n, hn⟩ : ∃ n : Nat, 1 + r = (n : Int) := ⟨(1 + r).toNat, by omega⟩
  have e2 : KS.Ex H1 (upd (upd H1 dxo (.own o)) o (.ins CL dxo [])) := (Ex.upd hdo).trans (Ex.upd (by rw [L2.upd_ne nd.symm]; exact ho))
  have o2 : (upd (upd H1 dxo (.own o)) o (.ins CL dxo [])) o = some (.ins CL dxo []) := upd_same
  show spLI CL CP CG [.ref o, .int (1 + r)] _ _ _
  rw [hn]
  generalize upd (upd H1 dxo (.own o)) o (.ins CL dxo []) = H2 at e2 o2
  refine li_step o2 (by omega) (by omega) (fun c => absurd ⟨by omega, by omega⟩ c) fun _ H3 q ps e3 lg hq hps => ⟨rfl, ?_⟩
  have ex3 : KS.Ex H1 H3 := fun b u h => e3 b u (ne_of_none h ho) (e2 b u h)
  have s3 := s1.ex ex3
  refine fun tb htb => ?_
  have e5 : KS.Ex H3 (upd H3 tb (.dT [])) := Ex.upd htb
  have tb5 : (upd H3 tb (.dT [])) tb = some (.dT []) := upd_same
  show tr D [a0, some (.ref dc), some ow, a3, a4, a5, a6, a7, a8, a9, a10, a11, a12, a13, a14, a15, some q0, a17, a18, a19, some (.ref o), some (.ref tb), a22, a23, a24, some p, a26, a27, a28, a29] (upd H3 tb (.dT []))
  generalize upd H3 tb (.dT []) = H5 at e5 tb5
  have nb : ∀ b, H1 b = none → HB b = none := fun b hb => by
    cases y : HB b with
    | none => rfl
    | some u =>
      by_cases c : b = dc
      · obtain ⟨x1, x2, x3, x4⟩ := i1
        rw [c, x4] at hb; cases hb
      · rw [e1 b u c y] at hb; cases hb
  obtain ⟨x1, x2, x3, dcv⟩ := i1
  have dc2 := e2 _ _ dcv
  have e := Int.toNat_natCast n
  rw [e] at lg
  have hl := lg.len
  rw [List.length_replicate] at hl
  refine fin _ H5 o q tb ps (List.replicate n ps0) Sg.mk
    { st := s3.ex e5, lg := lg.ex e5, ta := ⟨[], tb5, Nat.le_refl _, .nil, fun k => rfl⟩, kr := ⟨fun i st' h y hy => ?_, fun k => ?_⟩, bd := fun st' h => ?_, hn := by omega, ok := (fun _ h => nomatch h), nd := ⟨fun z => ?_, fun hm => ?_⟩, kb := (Kp.exD e1).trans (Kp.of (ex3.trans e5)), fb := ⟨fun pl hpl => ?_, nb _ (none_ex ex3 htb)⟩ }
  · have := List.eq_of_mem_replicate (List.mem_of_getElem? h)
    rw [this] at hy; cases hy
  · have : (List.replicate n ps0).flatMap (·.2.2) = [] := by
      rw [List.flatMap_eq_nil_iff]
      intro x hx
      rw [List.eq_of_mem_replicate hx]
    rw [this]
  · have := List.eq_of_mem_replicate h
    rw [this]; exact ⟨rfl, Nat.le_refl _, Nat.le_refl _⟩
  · rw [z, dc2] at hq; cases hq
  · obtain ⟨pl, hpl, e⟩ := List.mem_map.mp hm
    have := (hps pl hpl).2
    rw [e, dc2] at this; cases this
  · obtain ⟨h1, h2⟩ := hps pl hpl
    exact ⟨nb _ (none_ex e2 h1), nb _ (none_ex e2 h2)⟩
theorem g_fill (ve : LawE P w K mg base CP CL CD CM CG CR Ps Pn Pl cN cL fTo fdTo) (hr : Room 16 (xLaw P w K mg base fL cL A outer s H0 E0').A) :
    ∃ t8, L2.PS (xLaw P w K mg base fL cL A outer s H0 E0') (lS 8) t8 ∧ ∀ (D : Ends) (HB H : Hp) (dc o q tb : Addr) (ps : List (Addr × Addr)) (sts : List PS) (σ : L2.St), Sg (.ref dc) (.ref o) (.ref tb) σ → GI CL CP Ps Pn Pl dc HB o q tb ps 0 sts [] H →
      (∀ (σ' : L2.St) (H' : Hp) (i : Nat) (sts' : List PS) (all : List Rc), i ≤ 9 → Sg (.ref dc) (.ref o) (.ref tb) σ' → GI CL CP Ps Pn Pl dc HB o q tb ps i sts' all H' → D.nx σ' H') → t8 D σ H := by
  obtain ⟨fR, fdR, GR, gR, kR, bR⟩ := ve.roll
  obtain ⟨fX, fdX, GX, gX, kX, bX⟩ := ve.lrec
  obtain ⟨fA, fdA, GA, mA, bA⟩ := ve.lapp
  obtain ⟨fO, fdO, GO, mO, bO⟩ := ve.lpart
  obtain ⟨fH, fdH, GH, gH, kH, bH⟩ := ve.hash
  have hz0 : sizeLine = 16777216 := rfl
  have hu := hr.units
  have hu1 := Nat.lt_trans (Nat.add_lt_add_left (by decide : 1 < 64) _) hu
  refine ⟨_, ps_for PassesOwn.never rfl (pi_range1 (by rfl) ve.T.range (pa_cons (pe_call GR (hr.mono (by decide)) (by rfl) gR kR bR .nil pass0 (pa_cons (pv 1) (pa_cons pe_int pa_nil))) pa_nil)) (pg_name (i := 5) scLaw.nd rfl (Or.inl rfl))
    (pss_cons (ps_asg (pe_call GX (hr.mono (by decide)) (by rfl) gX kX bX .nil pass0 (pa_cons (pv 1) (pa_cons (pv 5) pa_nil))) (pg_tup rfl (pgs_cons (pg_name (i := 7) scLaw.nd rfl (Or.inl rfl)) (pgs_cons (pg_name (i := 8) scLaw.nd rfl (Or.inl rfl)) (pgs_cons (pg_name (i := 9) scLaw.nd rfl (Or.inl rfl)) pgs_nil)))))
    (pss_cons (ps_asg (pe_meth (pv 20) ve.TO.cl mA GA (hr.mono (by decide)) bA .nil pass0 (pa_cons (pv 7) (pa_cons (pv 8) (pa_cons (pv 9) pa_nil)))) (pg_tup rfl (pgs_cons (pg_name (i := 22) scLaw.nd rfl (Or.inl rfl)) (pgs_cons (pg_name (i := 26) scLaw.nd rfl (Or.inr rfl)) pgs_nil))))
    (pss_cons (ps_if (PW.pt (pw_or (pt_cmpR op_ne (pv 22) (pe_op op_mod (pe_call GH (hr.mono (by decide)) (by rfl) gH kH bH (E := fun _ _ _ => False) .nil (passes_call L2.takes0 (fun _ _ _ _ h => h)) (pa_cons (pv 7) pa_nil)) (pe_callB call_len_seq (by rfl) ve.T.len (by decide +kernel) (pa_cons (pf 20) pa_nil))) (nomark _))
      (pw_or (pt_cmpR op_ne (pe_meth (pv 20) ve.TO.cl mO GO (hr.mono (by decide)) bO .nil pass0 (pa_cons (pv 7) pa_nil)) (pv 22) (nomark _))
      (pw_or1 (pt_cmpR (op_neD hu) (pe_ix ix_listD (pe_fld (pe_ix ix_listD (pf 20) (pv 22) (fun _ _ => rfl)) rfl) (pv 26) (fun _ _ => rfl)) (pe_tup (pa_cons (pv 7) (pa_cons (pv 8) (pa_cons (pv 9) pa_nil)))) (nomark _)))))) (pss_one (ps_ret pe_bl)) pss_nil)
    (pss_one (ps_dput hu1 (pv 21) (pv 7) (pv 8) rfl))))), ?_⟩
  rintro D HB H dc o q tb ps sts σ ⟨a0, a2, a3, a4, a5, a6, a7, a8, a9, a10, a11, a12, a13, a14, a15, a16, a17, a18, a19, a22, a23, a24, a25, a26, a27, a28, a29, rfl⟩ y fin
  refine ⟨_, rfl, roll_step y.st.dice (by decide) (by decide) fun r H1 r0 r20 f1 i1 => ⟨_, rfl, by omega, by omega, ?_⟩⟩
  have y1 := y.exD f1 i1
  refine for_range (n := r.toNat) (fun i σ H' => ∃ (sts : List PS) (all : List Rc) (a0 a2 a3 a4 a5 a6 a7 a8 a9 a10 a11 a12 a13 a14 a15 a16 a17 a18 a19 a22 a23 a24 a25 a26 a27 a28 a29 : Option V), σ = [a0, some (V.ref dc), a2, a3, a4, a5, a6, a7, a8, a9, a10, a11, a12, a13, a14, a15, a16, a17, a18, a19, some (.ref o), some (.ref tb), a22, a23, a24, a25, a26, a27, a28, a29] ∧ GI CL CP Ps Pn Pl dc HB o q tb ps i sts all H') ⟨_, _, _, _, _, _, _, _, _, _, _, _, _, _, _, _, _, _, _, _, _, _, _, _, _, _, _, _, _, rfl, y1⟩ ?_ ?_
  · rintro i σ H2 hi ⟨sts, all, a0, a2, a3, a4, a5, a6, a7, a8, a9, a10, a11, a12, a13, a14, a15, a16, a17, a18, a19, a22, a23, a24, a25, a26, a27, a28, a29, rfl, y2⟩
    show tSeq _ _ _ [a0, some (.ref dc), a2, a3, a4, some (.int (0 + (i : Nat))), a6, a7, a8, a9, a10, a11, a12, a13, a14, a15, a16, a17, a18, a19, some (.ref o), some (.ref tb), a22, a23, a24, a25, a26, a27, a28, a29] H2
    rw [Int.zero_add]
    refine ⟨_, rfl, _, rfl, lr_step y2.st.dice fun H3 z x e3 i3 hx ra => ?_⟩
    have y3 := y2.exD e3 i3
    obtain ⟨ka, rb, h1, h2, h3⟩ := ra
    refine ⟨z, _, rfl, SqT.of h1, rfl, _, _, rfl, _, _, rfl, _, _, rfl, rfl, ?_⟩
    obtain ⟨dxo, obo⟩ := y3.lg.ob
    have hlen := y3.lg.len
    have hn := y3.hn
    have hlt : numK x.1 ps.length < sts.length := by
      rw [← hlen]
      exact (numK_eq (k := x.1) hn.1).2
    obtain ⟨st, hs⟩ : ∃ st, sts[numK x.1 ps.length]? = some st := ⟨_, List.getElem?_eq_getElem hlt⟩
    obtain ⟨b0, b1, b2⟩ := y3.bd _ (List.mem_of_getElem? hs)
    have okB := hx.okB (by omega)
    refine ⟨_, rfl, o, dxo, _, rfl, obo, rfl, _, rfl, _, rfl, _, rfl, la_step y3.lg hn.1 hs (by omega) (by omega) h2 h3 okB y3.st.ts fun H4 z4 f4 lg4 hz4 => ?_⟩
    obtain ⟨s4, k4, ⟨kvs, t1, t2, t3⟩, kt4⟩ := y3.fr ve.ap f4
    refine ⟨z4, _, rfl, SqT.of hz4, rfl, _, _, rfl, _, _, rfl, rfl, ?_⟩
    have h24 := kt4 _ _ h2
    have h34 := kt4 _ _ h3
    have okK : x.1.length ≤ 25 := by have := okB.kl; omega
    have hn4 := numK_eq (k := x.1) hn.1
    generalize hnum : numK x.1 ps.length = num at lg4 hs hlt hz4 hn4
    refine ⟨_, rfl, _, rfl, hash_step h24 okB.kv okK s4.ts fun H5 tb5 => ?_⟩
    have lg5 := lg4.tb s4.ts tb5
    have s5 := s4.tb ve.ap tb5
    obtain ⟨dx5, ob5⟩ := lg5.ob
    have kt5 := kt_tb s4.ts tb5
    refine ⟨_, rfl, o, CL, dx5, _, _, rfl, ob5, ve.TO.cl, ve.TO.p, rfl, q, _, rfl, .inl (SqL.of lg5.ql), ?_⟩
    rw [List.length_map]
    refine ⟨_, _, rfl, rfl, (by show (0 : Int) < _; omega), ?_⟩
    show rNe (.int ((num : Nat) : Int)) (.int (hashL (rowL tabL x.1) % ((ps.length : Nat) : Int))) H5 _
    rw [hn4.1]
    refine ⟨rfl, _, rfl, ?_⟩
    rw [eqI]
    refine ifF (by simp) ?_
    refine ⟨_, rfl, o, dx5, _, rfl, ob5, rfl, _, rfl, po_step lg5 hn.1 (kt5 _ _ h24) okB.kv okK s5.ts fun H6 tb6 => ?_⟩
    have lg6 := lg5.tb s5.ts tb6
    have s6 := s5.tb ve.ap tb6
    obtain ⟨dx6, ob6⟩ := lg6.ob
    have kt6 := kt_tb s5.ts tb6
    rw [hnum]
    refine ⟨_, rfl, rfl, _, rfl, ?_⟩
    rw [eqI]
    refine ifF (by simp) ?_
    have hset : (sts.set num (app1 st x))[num]? = some (app1 st x) := List.getElem?_set_self hlt
    obtain ⟨p, l, hj, pt⟩ := lg6.get hset
    obtain ⟨dp, k, v', ts, g1, g2, g3, g4, g5⟩ := id pt
    have lts := paired_len g5
    have lap : (app1 st x).2.2.length = st.2.2.length + 1 := by show (st.2.2 ++ [x]).length = _; rw [List.length_append]; rfl
    have hlt2 : st.2.2.length < ts.length := by rw [lts, lap]; omega
    obtain ⟨x', hx', ra'⟩ := paired_get g5 (List.getElem?_eq_getElem hlt2)
    have : x' = x := by
      have e : (st.2.2 ++ [x])[st.2.2.length]? = some x' := hx'
      rw [List.getElem?_append_right (Nat.le_refl _), Nat.sub_self] at e
      exact (Option.some.inj e).symm
    subst this
    refine ⟨_, rfl, o, CL, dx6, _, _, rfl, ob6, ve.TO.cl, ve.TO.p, rfl, _, rfl, q, _, _, V.ref p, rfl, rfl, lg6.ql, atI_nat (by rw [List.getElem?_map, hj]; rfl), p, CP, dp, _, _, rfl, g1, ve.TP.cl, ve.TP.r, rfl, _, rfl, l, _, _, V.ref ts[st.2.2.length], rfl, rfl, g4, atI_nat (by rw [List.getElem?_map, List.getElem?_eq_getElem hlt2]; rfl), ?_⟩
    refine ⟨_, rfl, _, rfl, _, rfl, (by show 3 ≤ sizeLine; decide), fun z7 hz7 => ?_⟩
    have e7 : KS.Ex H6 (upd H6 z7 (.tup [.ref ka, .ref rb, .int (x'.2.2 : Nat)])) := Ex.upd hz7
    have h7 : (upd H6 z7 (.tup [.ref ka, .ref rb, .int (x'.2.2 : Nat)])) z7 = some (.tup [.ref ka, .ref rb, .int (x'.2.2 : Nat)]) := upd_same
    generalize upd H6 z7 (.tup [.ref ka, .ref rb, .int (x'.2.2 : Nat)]) = H7 at e7 h7
    have h27 := e7 _ _ (kt6 _ _ (kt5 _ _ h24))
    have h37 := e7 _ _ (kt6 _ _ (kt5 _ _ h34))
    refine ne_same (dp_rc K (ra'.kt (kt_of e7))) (dp_rc K ⟨ka, rb, h7, h27, h37⟩) hx.smp.1 (by decide) ⟨_, rfl, ifF (by decide) ?_⟩
    have s7 := s6.ex e7
    have lg7 := lg6.ex e7
    have k7 : Kp dc HB H7 := ((k4.trans (Kp.tb s4.ts tb5)).trans (Kp.tb s5.ts tb6)).trans (Kp.of e7)
    have t17 : H7 tb = some (.dT kvs) := e7 _ _ (keepTb s5.ts tb6 (keepTb s4.ts tb5 t1 (fun _ z => nomatch z)) (fun _ z => nomatch z))
    have kt7 : KT' H4 H7 := fun b zs h => e7 _ _ (kt6 _ _ (kt5 _ _ h))
    have t37 := t3.kt kt7
    refine ⟨_, rfl, _, rfl, _, rfl, tb, _, rfl, DPut.t t17 h27 (by omega), ?_⟩
    have kt8 : KT' H7 (upd H7 tb (.dT (putK kvs x'.1 (.ref rb)))) := fun b zs h => by rw [L2.upd_ne (fun z => by rw [z, t17] at h; cases h)]; exact h
    have nrb : rb ≠ tb := fun z => by rw [z, t17] at h37; cases h37
    refine ⟨sts.set num (app1 st x'), all ++ [x'], _, _, _, _, _, _, _, _, _, _, _, _, _, _, _, _, _, _, _, _, _, _, _, _, _, _, _, rfl,
      { st := s7.wr t17 (fun _ z => nomatch z) (fun _ z => nomatch z) (s7.dne t17 (fun _ z => nomatch z)), lg := ?_, ta := ⟨_, upd_same, ?_, ?_⟩, kr := y3.kr.add hs hnum, bd := fun st' h => ?_, hn := hn, ok := fun x2 h => ?_, nd := y3.nd, kb := fun b u n h nt => ?_, fb := y3.fb }⟩
    · have tnd : ∀ {b : Addr} {u : HO}, H7 b = some u → (∀ kvs, u ≠ .dT kvs) → (upd H7 tb (.dT (putK kvs x'.1 (.ref rb)))) b = some u := fun {b u} h n => by rw [L2.upd_ne (fun z => by rw [z, t17] at h; exact n _ (Option.some.inj h).symm)]; exact h
      exact lg7.keep (fun b C dx fs h => tnd h (fun _ z => nomatch z)) kt8 fun b ys _ h => tnd h (fun _ z => nomatch z)
    · have := length_putK kvs x'.1 (V.ref rb)
      omega
    · exact t37.put kt8 (by rw [L2.upd_ne nrb]; exact h37) fun j' => lastO_snoc _ _ _
    · rcases List.mem_or_eq_of_mem_set h with h | h
      · obtain ⟨c0, c1, c2⟩ := y3.bd _ h
        exact ⟨c0, by omega, by omega⟩
      · rw [h]
        have := recL_le (hx.okR (by omega))
        refine ⟨b0, ?_, ?_⟩
        · show (st.2.1 ++ recL x').length ≤ _
          rw [List.length_append]; omega
        · rw [lap]; omega
    · rcases List.mem_append.mp h with h | h
      · exact y3.ok x2 h
      · rw [List.mem_singleton.mp h]; exact ⟨i, by omega, hx⟩
    · rw [L2.upd_ne (fun z => by rw [z, y3.fb.2] at h; cases h)]
      exact k7 b u n h nt
  · rintro σ H2 ⟨sts, all, a0, a2, a3, a4, a5, a6, a7, a8, a9, a10, a11, a12, a13, a14, a15, a16, a17, a18, a19, a22, a23, a24, a25, a26, a27, a28, a29, rfl, y2⟩
    exact fin _ H2 r.toNat sts all (by omega) Sg.mk y2
end
end KL6
set_option Elab.async false
set_option linter.all false
set_option maxRecDepth 100000
set_option maxHeartbeats 4000000
namespace KL6
open PySem PySem.Spec PyProof.Rows L2 KB KC KS KN1 LamX K7
theorem sync_recs (sts : List PS) : (sts.map sync1).flatMap (·.2.2) = sts.flatMap (·.2.2) := by
  rw [List.flatMap_map]
  rfl
section
variable {P : Program} {w : World} {K : PySem.W.Frag} {mg : Str → Option Value} {base : Heap} {CP CL CD CM CG CR Ps Pn Pl cN cL fTo fL fS : Addr} {fdTo fdS : FuncData} {A : Around} {outer : List PySem.Env} {s : Shared} {H0 : Hp} {E0' : XK}
theorem g_end (ve : LawE P w K mg base CP CL CD CM CG CR Ps Pn Pl cN cL fTo fdTo) (hr : Room 16 (xLaw P w K mg base fL cL A outer s H0 E0').A)
    (GS : FnOk P w K mg base CX0 15 fS fdS ["dice"] (spSent Ps Pn Pl)) (gS : mg "_law_sent" = some (.ref fS)) (kS : PySem.W.keepIn K (.ref fS) = true) (bS : Binds K fdS ["dice"] []) :
    ∃ t9 t10, L2.PS (xLaw P w K mg base fL cL A outer s H0 E0') (lS 9) t9 ∧ L2.PS (xLaw P w K mg base fL cL A outer s H0 E0') (lS 10) t10 ∧ ∀ (D : Ends) (HB H : Hp) (dc o q tb : Addr) (ps : List (Addr × Addr)) (i : Nat) (sts : List PS) (all : List Rc) (σ : L2.St), i ≤ 9 → Sg (.ref dc) (.ref o) (.ref tb) σ → GI CL CP Ps Pn Pl dc HB o q tb ps i sts all H →
      (∀ (σ' : L2.St) (H' : Hp), Sg (.ref dc) (.ref o) (.ref tb) σ' → St Ps Pn Pl dc H' → Kp dc HB H' → D.nx σ' H') → tSeq t9 t10 D σ H := by
  obtain ⟨fY, fdY, GY, mY, bY⟩ := ve.lsync
  obtain ⟨fT, fdT, GT, mT, bT⟩ := ve.llat
  have hz0 : sizeLine = 16777216 := rfl
  have hu := hr.units
  have hu6 : (xLaw P w K mg base fL cL A outer s H0 E0').A.units + 66 < cLine := by have := hr.un; omega
  refine ⟨_, _, ps_expr (pe_meth0 (pv 20) ve.TO.cl mY GY (hr.mono (by decide)) bY .nil pass0),
    ps_if (PW.pt (pw_or (pt_cmpR (op_neT hu6) (pe_meth0 (pv 20) ve.TO.cl mT GT (hr.mono (by decide)) bT .nil pass0) (pv 21) (nomark _))
      (pw_or (pt_cmpR (op_neD hu) (pe_lc (own := [("one", 27)]) (g := gName 27) (tt := tTest (tOp (rNeD K) (tFld K (tVar 27) "waiting") (tTup tNil))) (te := tVar 27) rfl scLaw.nd (pi_list (pf 20)) (blkOk_by (N := nLaw) (sc := defScope sLaw) (by decide +kernel)) (fun _ _ _ _ _ => pg_name (i := 27) scLaw.nd rfl (Or.inl rfl)) (fun _ _ _ _ _ => pts_one (pt_cmpR (op_neD hu) (pf 27) (pe_tup pa_nil) (nomark _))) (fun _ _ _ _ _ => pv 27)) (pe_lst pa_nil) (nomark _))
      (pw_or1 (pt_not (pt_val (pe_call GS (hr.mono (by decide)) (by rfl) gS kS bS .nil pass0 (pa_cons (pv 1) pa_nil)))))))) (pss_one (ps_ret pe_bl)) pss_nil, ?_⟩
  rintro D HB H dc o q tb ps i sts all σ hi ⟨a0, a2, a3, a4, a5, a6, a7, a8, a9, a10, a11, a12, a13, a14, a15, a16, a17, a18, a19, a22, a23, a24, a25, a26, a27, a28, a29, rfl⟩ y fin
  obtain ⟨dxo, obo⟩ := y.lg.ob
  refine ⟨_, rfl, o, dxo, _, rfl, obo, rfl, ls_step y.lg (fun st h => by
    obtain ⟨c0, c1, c2⟩ := y.bd st h
    rw [c0]
    show 0 + _ ≤ _
    omega) y.st.ts fun H1 f1 lg1 => ?_⟩
  obtain ⟨s1, k1, ⟨kvs, t1, t2, t3⟩, kt1⟩ := y.fr ve.ap f1
  obtain ⟨dx1, ob1⟩ := lg1.ob
  have hlen := y.lg.len
  have tot : (sts.flatMap (·.2.2)).length ≤ 10000 := by
    have go : ∀ (l : List PS), (∀ st ∈ l, st.2.2.length ≤ 9) → (l.flatMap (·.2.2)).length ≤ 9 * l.length := fun l h => by
      induction l with
      | nil => exact Nat.le_refl _
      | cons x r ih =>
        rw [List.flatMap_cons, List.length_append, List.length_cons]
        have := h x List.mem_cons_self
        have := ih fun z hz => h z (List.mem_cons_of_mem _ hz)
        omega
    have := go sts fun st h => by
      obtain ⟨c0, c1, c2⟩ := y.bd st h
      omega
    have := y.hn
    omega
  refine ⟨_, rfl, o, dx1, _, rfl, ob1, rfl, ll_step lg1 (by rw [sync_recs]; exact tot) fun H2 d kvs2 e2 hd2 tb2 => ?_⟩
  rw [sync_recs, y.kr.last] at tb2
  refine ⟨_, rfl, d, tb, _, _, rfl, rfl, hd2, e2 _ _ t1, tb2.same rD (fun h => dp_r K h) (fun k r h => ⟨(y.shape k r h).shaped (by decide), (y.shape k r h).refl⟩) (t3.kt (kt_of e2)), _, rfl, ifF (by decide) ?_⟩
  have lg2 := lg1.ex e2
  obtain ⟨dx2, ob2⟩ := lg2.ob
  refine ⟨_, rfl, o, CL, dx2, _, _, rfl, ob2, ve.TO.cl, ve.TO.p, rfl, q, rfl, ⟨_, SqL.of lg2.ql⟩, fun D1 hD1 => ?_⟩
  refine lc_list (xs := ps.map fun pl => V.ref pl.1) (fun j H' => KS.Ex H2 H' ∧ H' D1 = some (.lst [])) ⟨Ex.upd hD1, upd_same⟩ ?_ ?_ ?_
  · rintro j H' _ ⟨e, _⟩
    exact SqL.of (e _ _ lg2.ql)
  · rintro j z H' hz ⟨e, hD⟩
    rw [List.getElem?_map] at hz
    obtain ⟨⟨p, l⟩, hj, rfl⟩ := Option.map_eq_some_iff.mp hz
    have hlt : j < (sts.map sync1).length := by
      rw [← lg2.len]
      exact (List.getElem?_eq_some_iff.mp hj).1
    have hs := List.getElem?_eq_getElem hlt
    obtain ⟨p1, l1, ee, pt⟩ := (lg2.ex e).get hs
    rw [hj] at ee
    cases ee
    obtain ⟨dp, k, v', ts, g1, g2, g3, g4, g5⟩ := id pt
    have hw : ((sts.map sync1)[j]).2.1 = [] := by rw [List.getElem_map]; rfl
    rw [hw] at g3
    refine ⟨rfl, _, rfl, p, CP, dp, _, _, rfl, g1, ve.TP.cl, ve.TP.w, rfl, (by show 0 ≤ sizeLine; decide), fun z hz => ?_⟩
    refine ne_same (dp_i (l := []) (Ex.upd hz _ _ g3)) (dp_i (l := []) upd_same) (smp_i _) (by decide) ⟨_, rfl, ifF (by decide) ⟨e.trans (Ex.upd hz), Ex.upd hz _ _ hD⟩⟩
  · rintro H3 ⟨e3, hD3⟩
    refine ⟨(by show 0 ≤ sizeLine; decide), fun l4 hl4 => ?_⟩
    have e4 : KS.Ex H3 (upd H3 l4 (.lst [])) := Ex.upd hl4
    refine ne_same (d := .list (([] : List Int).map PyData.int)) (dp_il (l := []) (e4 _ _ hD3)) (dp_il (l := []) upd_same) (smp_il _) (by decide) ⟨_, rfl, ifF (by decide) ?_⟩
    generalize upd H3 l4 (.lst []) = H4 at e4
    have e24 := e3.trans e4
    have s4 := (s1.ex e2).ex e24
    refine ⟨_, rfl, sent_step s4 fun H5 s5 k5 => ⟨true, rfl, ifF (by decide) ?_⟩⟩
    exact fin _ H5 Sg.mk s5 ((k1.trans (Kp.of (e2.trans e24))).trans k5)
end
end KL6
set_option Elab.async false
set_option linter.all false
set_option maxRecDepth 100000
set_option maxHeartbeats 4000000
namespace KL6
open PySem PySem.Spec PyProof.Rows L2 KB KC KD KS KN1 LamX K7 TL
theorem qLaw : (Str.ofString "law" ++ Str.ofString ".<locals>.") ++ Str.ofString "<lambda>" = qL := qLe
theorem tabLo {Ps Pn Pl : Addr} : (Pl, (Str.ofString "law" ++ Str.ofString ".<locals>.") ++ Str.ofString "<lambda>") ∈ TT Ps Pn Pl := by rw [qLaw]; exact List.mem_cons_of_mem _ (List.mem_cons_of_mem _ (List.mem_cons_self ..))
theorem tabLu {Ps Pn Pl : Addr} (ap : Apt Ps Pn Pl) : ∀ p ∈ TT Ps Pn Pl, p.1 = Pl → p.2 = (Str.ofString "law" ++ Str.ofString ".<locals>.") ++ Str.ofString "<lambda>" := by
  rw [qLaw]
  intro p hp e
  rcases List.mem_cons.mp hp with z | hp
  · rw [z] at e; exact absurd e ap.sl
  rcases List.mem_cons.mp hp with z | hp
  · rw [z] at e; exact absurd e ap.nl
  rcases List.mem_cons.mp hp with z | hp
  · rw [z]
  cases hp
theorem scTold : FnScope ["what"] ["what"] (defScope sTold) := ⟨rfl, rfl, rfl, by decide +kernel, rfl, by decide +kernel, by decide +kernel⟩
def lamsOf : Stmt → List Expr
  | .Assign _ (.List es _) _ => es
  | _ => []
abbrev noE : Expr := .Constant (.int 0) 0 ⟨0, 0, 0, 0⟩
abbrev lamE (i : Nat) : Expr := (lamsOf ((defBody sLaw).getD 1 pS)).getD i noE
def lamP : Expr → Arguments
  | .Lambda a _ _ _ => a
  | _ => { posonlyargs := [], args := [], vararg := none, kwonlyargs := [], kw_defaults := [], kwarg := none, defaults := [] }
def lamB : Expr → Expr
  | .Lambda _ b _ _ => b
  | e => e
def lamSc : Expr → Scope
  | .Lambda _ _ sc _ => sc
  | _ => defScope sLaw
section
variable {P : Program} {w : World} {K : PySem.W.Frag} {mg : Str → Option Value} {base : Heap} {CP CL CD CM CG CR Ps Pn Pl cN cL fTo fL : Addr} {fdTo : FuncData} {A : Around} {outer : List PySem.Env} {s : Shared} {H0 : Hp} {E0' : XK}
abbrev EJ (K : PySem.W.Frag) (CG : Addr) (Q : VK) : XK := fun cls _ H' => ∃ b, PySem.W.exmOne K cls (.ref CG) = some b ∧ (b = true → Q (.str "LogError") H') ∧ (b = false → False)
def BadL (P : Program) (w : World) (K : PySem.W.Frag) (mg : Str → Option Value) (base : Heap) (CG Ps Pn Pl f : Addr) (H : Hp) : Prop :=
  ∀ (H' : Hp) (Q : VK), ExtN H H' → Tabs (TT Ps Pn Pl) H' → (∀ H'', ExtN H' H'' → Tabs (TT Ps Pn Pl) H'' → Q (.str "LogError") H'') → LamAt P w K mg base 10 f H' Q (EJ K CG Q)
theorem BadL.exN {f : Addr} {H H1 : Hp} (b : BadL P w K mg base CG Ps Pn Pl f H) (e : ExtN H H1) : BadL P w K mg base CG Ps Pn Pl f H1 := fun H' Q e' t h => b H' Q (e.trans e') t h
theorem ne_tblL {f c' : Addr} {q : Str} {pa : Arguments} {bd : Expr} {sc : Scope} : ∀ ps, LamO f q pa bd sc c' ≠ .tbl ps := fun ps z => by
  unfold LamO at z
  cases z
theorem ne_tblC {q : Str} {c' : Addr} : ∀ ps, CodeO c' q ≠ .tbl ps := fun ps z => codeO_ne ps z
abbrev Beh1 (P : Program) (w : World) (K : PySem.W.Frag) (mg : Str → Option Value) (base : Heap) (CG Ps Pn Pl f c' : Addr) (i : Nat) : Prop :=
  ∀ (H' : Hp) (Q : VK) (E : XK), Tabs (TT Ps Pn Pl) H' → (∀ H'', ExtN H' H'' → Tabs (TT Ps Pn Pl) H'' → E (.ref CG) none H'') → ∀ (A : Around) (outer : List Env) (s : Shared), Room 10 (A.deeper (envOfC qL (lamSc (lamE i)) s.heap.objs.size f (.ref c'))) →
      ∃ t, PE (cxOf (L2.CX P w) P w K mg base [] qL (lamSc (lamE i)) f (.ref c') A outer s H' E) (lamB (lamE i)) t ∧ t (start [] []) H' Q
theorem bad_of {i : Nat} {f c' : Addr} {H : Hp} (hf : H f = some (LamO f qL (lamP (lamE i)) (lamB (lamE i)) (lamSc (lamE i)) c')) (hc : H c' = some (CodeO c' qL)) (S : FnScope [] [] (lamSc (lamE i)))
    (hb : ∀ pm ctv, bindArgs (PySem.W.kla_fn "<lambda>" qL (lamP (lamE i)) (lamB (lamE i)) (lamSc (lamE i)) [] pm (.ref c') ctv) ⟨[], []⟩ = pure [])
    (beh : Beh1 P w K mg base CG Ps Pn Pl f c' i) (G : TxtG K mg CG) : BadL P w K mg base CG Ps Pn Pl f H := by
  intro H' Q e tb h
  refine ⟨c', qL, _, _, _, [], e _ _ hf ne_tblL, e _ _ hc ne_tblC, S, hb, fun E hE A outer s hr => beh H' Q E tb (fun H'' ex t2 => hE _ _ _ ⟨true, G.e, fun _ => h H'' ex t2, fun z => nomatch z⟩) A outer s hr⟩
theorem ins_new {H : Hp} {C o dx : Addr} (ho : H o = none) (hdo : H dx = none) (nd : dx ≠ o) : KS.Ex H (upd (upd H dx (.own o)) o (.ins C dx [])) := (Ex.upd hdo).trans (Ex.upd (by rw [L2.upd_ne nd.symm]; exact ho))
theorem part_new {H : Hp} {N : V → Hp → Prop} {p dx : Addr} (hp : H p = none) (hd : H dx = none) (nd : dx ≠ p) (fin : ∀ H' l, KS.Ex H H' → PtA CP p l [] [] [] 0 H' → N .non H') : spPI CP [.ref p] (upd (upd H dx (.own p)) p (.ins CP dx [])) N E0 := by
  have e4 := ins_new (C := CP) hp hd nd
  have hv4 : (upd (upd H dx (.own p)) p (.ins CP dx [])) p = some (.ins CP dx []) := upd_same
  generalize upd (upd H dx (.own p)) p (.ins CP dx []) = H4 at e4 hv4
  exact pi_step hv4 fun H5 l _ k5 x5 => fin H5 l (fun b o h => k5 b o (ne_of_none h hp) (e4 b o h)) x5
theorem log_bad {H : Hp} {Q : VK} {E : XK} {o dx : Addr} {n : Int} (h1 : -1 ≤ n) (h2 : n < 100000) (hn : ¬ (0 < n ∧ n ≤ 16)) (ho : H o = none) (hdo : H dx = none) (nd : dx ≠ o) (tb : Tabs (TT Ps Pn Pl) H) (hE : ∀ H'', ExtN H H'' → Tabs (TT Ps Pn Pl) H'' → E (.ref CG) none H'') : spLI CL CP CG [.ref o, .int n] (upd (upd H dx (.own o)) o (.ins CL dx [])) Q E := by
  have e2 := ins_new (C := CL) ho hdo nd
  exact li_step upd_same h1 h2 (fun _ => hE _ (ExtN.of e2) (tb.ext e2)) fun c => absurd c hn
theorem beh_0 (ve : LawE P w K mg base CP CL CD CM CG CR Ps Pn Pl cN cL fTo fdTo) {f c' : Addr} : Beh1 P w K mg base CG Ps Pn Pl f c' 0 := fun H' Q E tb hE A outer s hr => by
  obtain ⟨fL', fdL, GL, ML, bL⟩ := ve.linit
  refine ⟨_, pe_make (CX := L2.CX P w) ML GL (hr.mono (by decide)) (by rfl) ve.TO.g bL .nil (passes_call (takes_of rfl rfl rfl rfl) (fun _ _ _ _ h => h)) (pa_cons pe_int pa_nil), ?_⟩
  exact fun o dxo ho hdo nd => log_bad (by decide) (by decide) (by decide) ho hdo nd tb hE
theorem beh_1 (ve : LawE P w K mg base CP CL CD CM CG CR Ps Pn Pl cN cL fTo fdTo) {f c' : Addr} : Beh1 P w K mg base CG Ps Pn Pl f c' 1 := fun H' Q E tb hE A outer s hr => by
  obtain ⟨fL', fdL, GL, ML, bL⟩ := ve.linit
  refine ⟨_, pe_make (CX := L2.CX P w) ML GL (hr.mono (by decide)) (by rfl) ve.TO.g bL .nil (passes_call (takes_of rfl rfl rfl rfl) (fun _ _ _ _ h => h)) (pa_cons pe_int pa_nil), ?_⟩
  exact fun o dxo ho hdo nd => log_bad (by decide) (by decide) (by decide) ho hdo nd tb hE
theorem beh_2 (ve : LawE P w K mg base CP CL CD CM CG CR Ps Pn Pl cN cL fTo fdTo) {f c' : Addr} : Beh1 P w K mg base CG Ps Pn Pl f c' 2 := fun H' Q E tb hE A outer s hr => by
  obtain ⟨f1, fd1, G1, M1, b1⟩ := ve.pinit
  obtain ⟨fD, fdD, GD, mD, bD⟩ := ve.pread
  refine ⟨_, pe_meth (pe_make0 M1 G1 (hr.mono (by decide)) (by rfl) ve.TP.g b1 .nil pass0) ve.TP.cl mD GD (hr.mono (by decide)) bD .nil (passes_call (takes_of rfl rfl rfl rfl) (fun _ _ _ _ h => h)) (pa_cons pe_int (pa_cons pe_int pa_nil)), ?_⟩
  refine fun p dx hp hd nd => part_new hp hd nd fun H5 l e5 x5 => ⟨rfl, ?_⟩
  obtain ⟨dy, k, v, ts, g1, _⟩ := id x5
  exact ⟨p, dy, _, rfl, g1, rfl, pr_step x5 (by decide) (by decide) (fun _ => hE _ (ExtN.of e5) (tb.ext e5)) fun good => absurd good (by decide)⟩
theorem beh_3 (ve : LawE P w K mg base CP CL CD CM CG CR Ps Pn Pl cN cL fTo fdTo) {f c' : Addr} : Beh1 P w K mg base CG Ps Pn Pl f c' 3 := fun H' Q E tb hE A outer s hr => by
  obtain ⟨f1, fd1, G1, M1, b1⟩ := ve.pinit
  obtain ⟨fA, fdA, GA, mA, bA⟩ := ve.papp
  refine ⟨_, pe_meth (pe_make0 M1 G1 (hr.mono (by decide)) (by rfl) ve.TP.g b1 .nil pass0) ve.TP.cl mA GA (hr.mono (by decide)) bA .nil (passes_call (takes_of rfl rfl rfl rfl) (fun _ _ _ _ h => h)) (pa_cons (pe_tup (pa_cons pe_int pa_nil)) (pa_cons (pe_tup (pa_cons pe_int pa_nil)) (pa_cons (pe_un un_neg pe_int) pa_nil))), ?_⟩
  refine fun p dx hp hd nd => part_new hp hd nd fun H5 l e5 x5 => ⟨rfl, ?_⟩
  obtain ⟨dy, k, v, ts, g1, _⟩ := id x5
  refine ⟨p, dy, _, rfl, g1, rfl, (by show 1 ≤ sizeLine; decide), fun qa hqa => ⟨(by show 1 ≤ sizeLine; decide), fun qb hqb => ⟨_, rfl, ?_⟩⟩⟩
  have e6 : KS.Ex H5 (upd (upd H5 qa (.tup [.int 1])) qb (.tup [.int 1])) := (Ex.upd hqa).trans (Ex.upd hqb)
  exact app_bad (by decide) (hE _ (ExtN.of (e5.trans e6)) ((tb.ext e5).ext e6))
theorem toldV_step {f : Addr} {H : Hp} {Q : VK} {E : XK} (b : BadL P w K mg base CG Ps Pn Pl f H) (t : Tabs (TT Ps Pn Pl) H) (q : ∀ H', ExtN H H' → Tabs (TT Ps Pn Pl) H' → Q (.str "LogError") H') : spToldV P w K mg base 10 CG "LogError" [.ref f] H Q E := by
  unfold spToldV
  exact ⟨f, rfl, b H Q (ExtN.refl H) t q⟩
theorem g_bad (ve : LawE P w K mg base CP CL CD CM CG CR Ps Pn Pl cN cL fTo fdTo) (hr : Room 16 (xLaw P w K mg base fL cL A outer s H0 E0').A) :
    ∃ tA tB, L2.PS (xLaw P w K mg base fL cL A outer s H0 E0') ((defBody sLaw).getD 1 pS) tA ∧ L2.PS (xLaw P w K mg base fL cL A outer s H0 E0') ((defBody sLaw).getD 2 pS) tB ∧ ∀ (D : Ends) (σ : L2.St) (H : Hp), σ.length = 30 → Tabs (TT Ps Pn Pl) H → (∀ H', D.rt (.bl true) H') → tSeq tA tB D σ H := by
  have GT : FnOk P w K mg base CX0 12 fTo fdTo ["what"] (spToldV P w K mg base 10 CG "LogError") := ok_toldV ve.told scTold rfl (Or.inl rfl) (fun f => rfl) (by rfl) ve.G.g (by decide +kernel) (by decide +kernel) (by decide +kernel)
  have bT : L2.Binds K fdTo ["what"] [] := ve.told.bindsN (ps := ["what"]) fun _ _ _ _ _ _ us hl => match us, hl with | [_], _ => rfl
  have hu := hr.units
  have U := tabLu (Ps := Ps) (Pn := Pn) ve.ap
  obtain ⟨f1, fd1, G1, g1, k1, b1⟩ := ve.sum
  obtain ⟨f2, fd2, G2, g2, k2, b2⟩ := ve.lsum
  obtain ⟨f3, fd3, G3, g3, k3, b3⟩ := ve.recb
  obtain ⟨f4, fd4, G4, g4, k4, b4⟩ := ve.lbytes
  refine ⟨_, _, ps_set (i := 23) scLaw.nd rfl (Or.inl rfl) (pe_lst (pa_cons (pe_lamV (T := TT Ps Pn Pl) ve.TBl rfl tabLo U rfl (by decide +kernel) rfl) (pa_cons (pe_lamV (T := TT Ps Pn Pl) ve.TBl rfl tabLo U rfl (by decide +kernel) rfl) (pa_cons (pe_lamV (T := TT Ps Pn Pl) ve.TBl rfl tabLo U rfl (by decide +kernel) rfl) (pa_cons (pe_lamV (T := TT Ps Pn Pl) ve.TBl rfl tabLo U rfl (by decide +kernel) rfl) pa_nil))))),
    ps_ret (pe_and (pe_cmpR (op_eqD hu) (pe_lc (own := [("f", 29)]) (g := gName 29) (tt := tTest (tOp rNe (tCall (spToldV P w K mg base 10 CG "LogError") [] E0 (tCons (tVar 29) tNil)) (tC (.str "LogError")))) (te := tC (.int 1)) rfl scLaw.nd
          (pi_list (pv 23)) (blkOk_by (N := nLaw) (sc := defScope sLaw) (by decide +kernel)) (fun _ _ _ _ _ => pg_name (i := 29) scLaw.nd rfl (Or.inl rfl)) (fun _ _ _ _ _ => pts_one (pt_cmpR op_ne (pe_call GT (hr.mono (by decide)) (by rfl) ve.gTold ve.told.kp bT .nil pass0 (pa_cons (pv 29) pa_nil)) pe_str (nomark _))) (fun _ _ _ _ _ => pe_int)) (pe_lst pa_nil) (nomark _))
      (pe_and (pe_cmpR (op_eqD hu) (pe_call G1 (hr.mono (by decide)) (by rfl) g1 k1 b1 .nil pass0 (pa_cons (pe_tup (pa_cons pe_int (pa_cons pe_int pa_nil))) pa_nil)) (pe_call G2 (hr.mono (by decide)) (by rfl) g2 k2 b2 .nil pass0 (pa_cons (pe_tup (pa_cons pe_int (pa_cons pe_int pa_nil))) pa_nil)) (nomark _))
      (pe_one (pe_cmpR (op_eqD hu) (pe_call G3 (hr.mono (by decide)) (by rfl) g3 k3 b3 .nil pass0 (pa_cons (pe_tup (pa_cons pe_int pa_nil)) (pa_cons (pe_tup (pa_cons pe_str pa_nil)) (pa_cons pe_int pa_nil))))
        (pe_call G4 (hr.mono (by decide)) (by rfl) g4 k4 b4 .nil pass0 (pa_cons (pe_tup (pa_cons (pe_tup (pa_cons pe_int pa_nil)) (pa_cons (pe_tup (pa_cons pe_str pa_nil)) (pa_cons pe_int pa_nil)))) pa_nil)) (nomark _))))), ?_⟩
  rintro D σ H hl ht fin
  obtain ⟨a0, a1, a2, a3, a4, a5, a6, a7, a8, a9, a10, a11, a12, a13, a14, a15, a16, a17, a18, a19, a20, a21, a22, a23, a24, a25, a26, a27, a28, a29, rfl⟩ := len30 hl
  have q : (Str.ofString "law" ++ Str.ofString ".<locals>.") ++ Str.ofString "<lambda>" = qL := qLaw
  refine ⟨ht, fun f0 c0 H1 e0 t0 hf0 hc0 n0 => ⟨t0, fun f1 c1 H2 e1 t1 hf1 hc1 n1 => ⟨t1, fun f2 c2 H3 e2 t2 hf2 hc2 n2 => ⟨t2, fun f3 c3 H4 e3 t3 hf3 hc3 n3 => ⟨(by show 4 ≤ sizeLine; decide), fun l hl => ?_⟩⟩⟩⟩⟩
  have b0 : BadL P w K mg base CG Ps Pn Pl f0 H1 := bad_of (i := 0) (by rw [← q]; exact hf0) (by rw [← q]; exact hc0) ⟨rfl, rfl, rfl, by decide +kernel, rfl, by decide +kernel, by decide +kernel⟩ (fun _ _ => rfl) (beh_0 ve) ve.G
  have b1 : BadL P w K mg base CG Ps Pn Pl f1 H2 := bad_of (i := 1) (by rw [← q]; exact hf1) (by rw [← q]; exact hc1) ⟨rfl, rfl, rfl, by decide +kernel, rfl, by decide +kernel, by decide +kernel⟩ (fun _ _ => rfl) (beh_1 ve) ve.G
  have b2 : BadL P w K mg base CG Ps Pn Pl f2 H3 := bad_of (i := 2) (by rw [← q]; exact hf2) (by rw [← q]; exact hc2) ⟨rfl, rfl, rfl, by decide +kernel, rfl, by decide +kernel, by decide +kernel⟩ (fun _ _ => rfl) (beh_2 ve) ve.G
  have b3 : BadL P w K mg base CG Ps Pn Pl f3 H4 := bad_of (i := 3) (by rw [← q]; exact hf3) (by rw [← q]; exact hc3) ⟨rfl, rfl, rfl, by decide +kernel, rfl, by decide +kernel, by decide +kernel⟩ (fun _ _ => rfl) (beh_3 ve) ve.G
  have el : ExtN H4 (upd H4 l (.lst [.ref f0, .ref f1, .ref f2, .ref f3])) := ExtN.of (Ex.upd hl)
  have hl4 : (upd H4 l (.lst [.ref f0, .ref f1, .ref f2, .ref f3])) l = some (.lst ([f0, f1, f2, f3].map V.ref)) := upd_same
  have t4 := t3.ext (Ex.upd (o := .lst [.ref f0, .ref f1, .ref f2, .ref f3]) hl)
  have hb : ∀ f ∈ [f0, f1, f2, f3], BadL P w K mg base CG Ps Pn Pl f (upd H4 l (.lst [.ref f0, .ref f1, .ref f2, .ref f3])) := fun f hf => by
    simp only [List.mem_cons, List.not_mem_nil, or_false] at hf
    rcases hf with rfl | rfl | rfl | rfl
    · exact b0.exN (((e1.trans e2).trans e3).trans el)
    · exact b1.exN ((e2.trans e3).trans el)
    · exact b2.exN (e3.trans el)
    · exact b3.exN el
  generalize upd H4 l (.lst [.ref f0, .ref f1, .ref f2, .ref f3]) = H5 at hl4 t4 hb
  refine ⟨_, rfl, l, rfl, ⟨_, SqL.of hl4⟩, fun D1 hD1 => ?_⟩
  have eD : ExtN H5 (upd H5 D1 (.lst [])) := ExtN.of (Ex.upd hD1)
  refine lc_it walk_list (fun j H' => ExtN H5 H' ∧ Tabs (TT Ps Pn Pl) H' ∧ H' D1 = some (.lst [])) ⟨eD, t4.ext (Ex.upd hD1), upd_same⟩ (fun j H' _ h => SqL.of (h.1 _ _ hl4 (fun _ z => nomatch z))) ?_ ?_
  · rintro j v H6 H7 hj ⟨e5, t5, h5⟩ ⟨rfl, hx⟩
    rw [List.getElem?_map] at hx
    obtain ⟨f, hf, rfl⟩ := Option.map_eq_some_iff.mp hx
    refine ⟨rfl, _, rfl, toldV_step ((hb f (List.mem_of_getElem? hf)).exN e5) t5 fun H8 e7 t7 => ⟨rfl, _, rfl, ?_⟩⟩
    exact ifF (by decide) ⟨e5.trans e7, t7, e7 _ _ h5 (fun _ z => nomatch z)⟩
  · rintro H6 ⟨e5, t5, h5⟩
    refine ⟨(by show 0 ≤ sizeLine; decide), fun l2 hl2 => ?_⟩
    have e6 : KS.Ex H6 (upd H6 l2 (.lst [])) := Ex.upd hl2
    refine ⟨.list [], .list [], .lst (SqL.of (e6 _ _ h5)) .nil, .lst (SqL.of upd_same) .nil, by decide +kernel, by decide +kernel, _, rfl, ifT rfl ?_⟩
    have t6 := t5.ext e6
    generalize upd H6 l2 (.lst []) = H7 at t6
    have ts7 : TabS H7 Ps qK := t6 _ (List.mem_cons_self ..)
    refine ⟨(by show 2 ≤ sizeLine; decide), fun q1 hq1 => sum_step (l := [1, 2]) upd_same fun H8 p8 e8 h8 => ?_⟩
    refine ⟨(by show 2 ≤ sizeLine; decide), fun q2 hq2 => sum_step (l := [1, 2]) upd_same fun H9 p9 e9 h9 => ?_⟩
    have e89 : KS.Ex H8 H9 := (Ex.upd hq2).trans e9
    have ts9 := (ts7.ext ((Ex.upd hq1).trans e8)).ext e89
    refine ⟨_, _, dp_i (e89 _ _ h8), dp_i h9, shaped_i _, shaped_i _, _, rfl, ?_⟩
    rw [eqv_i]
    refine ifT (by simp) ?_
    refine ⟨(by show 1 ≤ sizeLine; decide), fun qa hqa => ⟨(by show 1 ≤ sizeLine; decide), fun qb hqb => ?_⟩⟩
    have ea : KS.Ex H9 (upd H9 qa (.tup [.int 1])) := Ex.upd hqa
    have ha : (upd H9 qa (.tup [.int 1])) qa = some (.tup [.int 1]) := upd_same
    generalize upd H9 qa (.tup [.int 1]) = H10 at ea ha hqb
    have eb : KS.Ex H10 (upd H10 qb (.tup [.str "a"])) := Ex.upd hqb
    have hb' : (upd H10 qb (.tup [.str "a"])) qb = some (.tup [.str "a"]) := upd_same
    show spRec CR Ps [.ref qa, .ref qb, .int 5] (upd H10 qb (.tup [.str "a"])) _ _
    generalize upd H10 qb (.tup [.str "a"]) = H11 at eb hb'
    have okB : OkB ([.inl 1], [.inr "a"], 5) := ⟨fun x hx => by
      rw [List.mem_singleton.mp hx]; exact ⟨by decide +kernel, by decide +kernel⟩, fun x hx => by
      rw [List.mem_singleton.mp hx]; exact ⟨by decide +kernel, by decide +kernel⟩, by show 1 ≤ 20; decide, by show 1 ≤ 20; decide, by decide +kernel⟩
    have ts11 := ts9.ext (ea.trans eb)
    refine rec_step (x := ([.inl 1], [.inr "a"], 5)) (eb _ _ ha) hb' okB ts11 fun H12 p12 t12 h12 => ?_
    refine ⟨(by show 1 ≤ sizeLine; decide), fun qc hqc => ⟨(by show 1 ≤ sizeLine; decide), fun qd hqd => ⟨(by show 3 ≤ sizeLine; decide), fun qe hqe => ?_⟩⟩⟩
    have ec : KS.Ex H12 (upd H12 qc (.tup [.int 1])) := Ex.upd hqc
    have hc : (upd H12 qc (.tup [.int 1])) qc = some (.tup [.int 1]) := upd_same
    generalize upd H12 qc (.tup [.int 1]) = H13 at ec hc hqd hqe
    have ed : KS.Ex H13 (upd H13 qd (.tup [.str "a"])) := Ex.upd hqd
    have hd : (upd H13 qd (.tup [.str "a"])) qd = some (.tup [.str "a"]) := upd_same
    generalize upd H13 qd (.tup [.str "a"]) = H14 at ed hd hqe
    have ee : KS.Ex H14 (upd H14 qe (.tup [.ref qc, .ref qd, .int 5])) := Ex.upd hqe
    have he : (upd H14 qe (.tup [.ref qc, .ref qd, .int 5])) qe = some (.tup [.ref qc, .ref qd, .int 5]) := upd_same
    show spLRec Ps [.ref qe] (upd H14 qe (.tup [.ref qc, .ref qd, .int 5])) _ _
    generalize upd H14 qe (.tup [.ref qc, .ref qd, .int 5]) = H15 at ee he
    have e15 := (ec.trans ed).trans ee
    have ts15 := t12.1.ext e15
    refine lrec_step (x := ([.inl 1], [.inr "a"], 5)) ⟨qc, qd, he, ee _ _ (ed _ _ hc), ee _ _ hd⟩ okB ts15 fun H16 p16 t16 h16 => ?_
    refine ⟨_, _, dp_i (kt_tb ts15 t16 _ _ (e15 _ _ h12)), dp_i h16, shaped_i _, shaped_i _, ?_⟩
    rw [eqv_i, decide_eq_true rfl]
    exact fin _
end
end KL6
set_option Elab.async false
set_option linter.all false
set_option maxRecDepth 100000
set_option maxHeartbeats 4000000
namespace KL6
open PySem PySem.Spec PyProof.Rows L2 KB KC KD KS KN1 LamX K7 TL
def spLaw (K : PySem.W.Frag) (Ps Pn Pl : Addr) : Sp := fun vs H Q _ => ∃ (a : Addr) (ns : List Int), vs = [.ref a] ∧ SqL K H a (ns.map V.int) ∧ TabS H Ps qK ∧ TabS H Pn qN ∧ TabS H Pl qL ∧ ∀ H', Q (.bl true) H'
section
variable {P : Program} {w : World} {K : PySem.W.Frag} {mg : Str → Option Value} {base : Heap} {CP CL CD CM CG CR Ps Pn Pl cN cL fTo fL fS : Addr} {fdTo fdL fdS : FuncData}
theorem Sg.len {d lg tb : V} {σ : L2.St} (h : Sg d lg tb σ) : σ.length = 30 := by
  obtain ⟨_, _, _, _, _, _, _, _, _, _, _, _, _, _, _, _, _, _, _, _, _, _, _, _, _, _, _, rfl⟩ := h
  rfl
theorem ok_law (F : FnP K "law" "law" sLaw [] fL fdL) (hc : fdL.code = .ref cL) (ve : LawE P w K mg base CP CL CD CM CG CR Ps Pn Pl cN cL fTo fdTo)
    (FS : FnP K "_law_sent" "_law_sent" sSent [] fS fdS) (hcS : fdS.code = .ref cN) (gS : mg "_law_sent" = some (.ref fS)) : FnOk P w K mg base CX0 17 fL fdL ["script"] (spLaw K Ps Pn Pl) := by
  have GS : FnOk P w K mg base CX0 15 fS fdS ["dice"] (spSent Ps Pn Pl) := ok_sent FS hcS ve
  have bS : Binds K fdS ["dice"] [] := FS.bindsN fun _ _ _ _ _ _ us hl => match us, hl with | [_], _ => rfl
  refine okC F hc scLaw (fun vs H Q E h => ?_) (fun A outer s H vs Q E hr h => ?_)
  · obtain ⟨_, _, rfl, _⟩ := h; rfl
  · obtain ⟨a, ns, rfl, hS, hts, htn, htl, fin⟩ := h
    obtain ⟨fR, fdR, GR, gR, kR, bR⟩ := ve.rounds
    obtain ⟨z0, Z0, hZ⟩ := g_zero (fL := fL) (A := A) (outer := outer) (s := s) (H0 := H) (E0' := E) ve hr
    obtain ⟨d0, D0, hD⟩ := g_deeds (fL := fL) (A := A) (outer := outer) (s := s) (H0 := H) (E0' := E) ve hr
    obtain ⟨w2, w3, w4, W2, W3, W4, hW⟩ := g_whole (fL := fL) (A := A) (outer := outer) (s := s) (H0 := H) (E0' := E) ve hr
    obtain ⟨b0, B0, hB⟩ := g_bent (fL := fL) (A := A) (outer := outer) (s := s) (H0 := H) (E0' := E) ve hr
    obtain ⟨l6, l7, L6, L7, hL⟩ := g_log (fL := fL) (A := A) (outer := outer) (s := s) (H0 := H) (E0' := E) ve hr
    obtain ⟨l8, L8, hF⟩ := g_fill (fL := fL) (A := A) (outer := outer) (s := s) (H0 := H) (E0' := E) ve hr
    obtain ⟨l9, l10, L9, L10, hE⟩ := g_end (fL := fL) (A := A) (outer := outer) (s := s) (H0 := H) (E0' := E) ve hr GS gS FS.kp bS
    obtain ⟨tA, tB, TA, TB, hQ⟩ := g_bad (fL := fL) (A := A) (outer := outer) (s := s) (H0 := H) (E0' := E) ve hr
    refine ⟨_, PSs.nox <| (pss_cons (ps_for PassesOwn.never rfl (pi_list (pe_call GR (hr.mono (by decide)) (by rfl) gR kR bR .nil pass0 (pa_cons (pv 0) (pa_cons pe_int pa_nil)))) (pg_name (i := 1) scLaw.nd rfl (Or.inl rfl))
        (pss_cons Z0 (pss_cons D0 (pss_cons W2 (pss_cons W3 (pss_cons W4 (pss_cons B0 (pss_cons L6 (pss_cons L7 (pss_cons L8 (pss_cons L9 (pss_one L10))))))))))))
      (pss_cons TA (pss_one TB)) : PSs (xLaw P w K mg base fL cL A outer s H E) (defBody sLaw) _), ?_⟩
    refine ⟨_, rfl, rounds_step hS fun H1 rp d e1 hp hd => ⟨rp, rfl, ⟨_, SqL.of hp⟩, for_list (xs := [V.ref d]) (fun i σ H2 => St Ps Pn Pl d H2 ∧ H2 rp = some (.lst [.ref d]) ∧ σ.length = 30 ∧ (i = 0 → σ = L2.start nLaw [.ref a])) ⟨⟨hts.ext e1, htn.ext e1, htl.ext e1, hd⟩, hp, rfl, fun _ => rfl⟩ (fun i σ H2 _ h => SqL.of h.2.1) ?_ ?_⟩⟩
    · rintro i x σ H2 hx ⟨st, hp2, _, hi⟩
      cases i with
      | succ i => cases hx
      | zero =>
        obtain rfl := hi rfl
        cases hx
        have nrd : rp ≠ d := fun z => by
          obtain ⟨_, _, _, h⟩ := st.dice
          rw [z, h] at hp2; cases hp2
        show tSeq _ _ _ [some (.ref a), some (.ref d), none, none, none, none, none, none, none, none, none, none, none, none, none, none, none, none, none, none, none, none, none, none, none, none, none, none, none, none] H2
        refine hZ _ H2 d _ _ _ _ _ _ _ _ _ _ _ _ _ _ _ _ _ _ _ _ _ _ _ _ _ _ _ _ _ st fun H3 p l ow y3 => ?_
        refine hD _ H2 H3 d p l ow [] 0 0 _ _ _ _ _ _ _ _ _ _ _ _ _ _ _ _ _ _ _ _ _ _ _ _ _ y3 fun σ4 H4 i' l' ow' xs k fi hi' sl y4 => ?_
        obtain ⟨_, _, _, _, _, _, _, _, _, _, _, _, _, _, _, _, _, _, _, _, _, _, _, _, _, rfl⟩ := sl
        refine hW _ H2 H4 d i' p l' ow' xs k fi _ _ _ _ _ _ _ _ _ _ _ _ _ _ _ _ _ _ _ _ _ _ _ _ _ _ _ _ y4 hi' fun σ5 H5 q sw y5 hq => ?_
        refine hB _ H2 H5 d i' p l' ow' q xs k fi σ5 sw y5 hi' hq fun σ6 H6 sw6 y6 => ?_
        refine hL _ H6 d _ _ _ _ σ6 sw6 y6.st fun σ7 H7 o q7 tb ps sts sg gi => ?_
        refine hF _ H6 H7 d o q7 tb ps sts σ7 sg gi fun σ8 H8 i8 sts8 all hi8 sg8 gi8 => ?_
        refine hE _ H6 H8 d o q7 tb ps i8 sts8 all σ8 hi8 sg8 gi8 fun σ9 H9 sg9 st9 kp9 => ?_
        exact ⟨st9, (y6.kb.trans kp9) _ _ nrd hp2 (fun _ z => nomatch z), sg9.len, fun z => nomatch z⟩
    · rintro σ H2 ⟨st, _, hl, _⟩
      exact hQ _ σ H2 hl st.tabs fin
end
end KL6
set_option Elab.async false
set_option linter.all false
set_option maxRecDepth 100000
set_option maxHeartbeats 0
namespace KL6
open PySem PySem.Spec PyProof.Rows L2
def dD (x : Str) (st : Stmt) : He.DefD := ⟨(x, none), x, x, defArgs st, defBody st, defScope st, [], []⟩
def dM (c m q : Str) (st : Stmt) : He.DefD := ⟨(c, some m), m, q, defArgs st, defBody st, defScope st, [], []⟩
def fnL : List He.DefD := [dD "kind_of" sKind, dD "natural_bytes" sNat, dD "value_bytes" sVal, dD "row_bytes" sRow, dD "hash_of" sHash, dD "_law_dice" sDice, dD "_law_roll" sRoll, dD "_law_rounds" sRounds, dD "_law_told" sTold, dD "law" sLaw, dM "ByteReader" "__init__" "ByteReader.__init__" (sBM 0), dM "ByteReader" "byte" "ByteReader.byte" (sBM 1), dM "ByteReader" "row" "ByteReader.row" (sBM 2), dM "ByteReader" "whole_row" "ByteReader.whole_row" (sBM 3), dM "ByteReader" "natural" "ByteReader.natural" (sBM 4), dM "ByteReader" "value" "ByteReader.value" (sBM 5), dM "ByteReader" "text" "ByteReader.text" (sBM 6), dM "ByteReader" "letter" "ByteReader.letter" (sBM 7), dM "Part" "__init__" "Part.__init__" (sPM 0), dM "Part" "append" "Part.append" (sPM 1), dM "Part" "sync" "Part.sync" (sPM 2), dM "Part" "end" "Part.end" (sPM 3), dM "Part" "crash" "Part.crash" (sPM 4), dM "Part" "read" "Part.read" (sPM 5), dM "Part" "trim" "Part.trim" (sPM 6), dM "Log" "__init__" "Log.__init__" (sOM 0), dM "Log" "part_of" "Log.part_of" (sOM 1), dM "Log" "append" "Log.append" (sOM 2), dM "Log" "sync" "Log.sync" (sOM 3), dM "Log" "latest" "Log.latest" (sOM 4), dM "Producer" "__init__" "Producer.__init__" (sMM 0), dM "Producer" "send" "Producer.send" (sMM 1), dM "Door" "__init__" "Door.__init__" (sDM 0), dM "Door" "take" "Door.take" (sDM 1), dD "sum_of_bytes" sSum, dD "record_bytes" sRec, dD "read_records" sReads, dD "read_record" sRd1, dD "_law_sum" sLSum, dD "_law_record" sLRec, dD "_law_bytes" sLBytes, dD "_law_sent" sSent]
def faL : List He.Fa := [.glo "kind_of", .glo "natural_bytes", .glo "value_bytes", .glo "row_bytes", .glo "hash_of", .glo "_law_dice", .glo "_law_roll", .glo "_law_rounds", .glo "_law_told", .glo "law", .glo "sum_of_bytes", .glo "record_bytes", .glo "read_records", .glo "read_record", .glo "_law_sum", .glo "_law_record", .glo "_law_bytes", .glo "_law_sent", .glo "ByteReader", .glo "Part", .glo "Log", .glo "Producer", .glo "Door", .glo "RowError", .glo "LogError", .free "abs", .free "int", .free "range", .free "dict", .free "list", .free "tuple", .free "len", .free "zip", .free "isinstance", .free "str", .free "sorted", .free "all", .free "bool", .free "any", .free "max", .free "min", .free "sum", .free "enumerate", .int "MOST_COLUMNS" 20, .int "CHECK_BASE" 65521, .int "CHECK_BYTES" 4, .int "MOST_PARTS" 16, .str "LETTERS" ltrs, .cls "ByteReader", .noat "ByteReader" "data", .noat "ByteReader" "place", .mkr "ByteReader", .meth "ByteReader" "byte", .meth "ByteReader" "row", .meth "ByteReader" "whole_row", .meth "ByteReader" "natural", .meth "ByteReader" "value", .meth "ByteReader" "text", .meth "ByteReader" "letter", .cls "Part", .noat "Part" "kept", .noat "Part" "waiting", .noat "Part" "records", .noat "Part" "first", .mkr "Part", .meth "Part" "append", .meth "Part" "sync", .meth "Part" "end", .meth "Part" "crash", .meth "Part" "read", .meth "Part" "trim", .cls "Log", .noat "Log" "parts", .mkr "Log", .meth "Log" "part_of", .meth "Log" "append", .meth "Log" "sync", .meth "Log" "latest", .cls "Producer", .noat "Producer" "name", .noat "Producer" "next_number", .mkr "Producer", .meth "Producer" "send", .cls "Door", .noat "Door" "log", .noat "Door" "places", .mkr "Door", .meth "Door" "take", .exc "RowError", .exm "RowError" "RowError" true, .exc "LogError", .exm "LogError" "LogError" true]
def tK : He.Defn := ("kind_of", none)
def tN : He.Defn := ("_law_sent", none)
def tL : He.Defn := ("law", none)
def tfL : List He.Defn := [tK, tN, tL]
def exL (K : PySem.W.Frag) : Bool := ((He.cT K tK).2 != (He.cT K tN).2) && ((He.cT K tK).2 != (He.cT K tL).2) && ((He.cT K tN).2 != (He.cT K tL).2)
abbrev RL : PySem.W.OpenRow := PySem.W.OpenLaw.row PySem.Challenge.rw_streamstack_k06_logs_that_go_down
abbrev hkL : PySem.W.Hook := He.hookX 6 faL fnL [] tfL exL
def obL (s : PySem.W.SharedT) : He.AlX := He.obsX 6 faL fnL [] tfL exL (HandSHeadRun.getT s)
theorem obL_eq (s : PySem.W.SharedT) : obL s = hkL.obs s.abs := He.obsX_eq (HandSHeadRun.getT_eq s)
def looseL : List Str := ["StreamError", "RowError", "LogError", "LETTERS", "MOST_COLUMNS", "kind_of", "natural_bytes", "value_bytes", "row_bytes", "ByteReader", "hash_of", "MOST_PARTS", "CHECK_BYTES", "CHECK_BASE", "sum_of_bytes", "record_bytes", "read_records", "read_record", "Part", "Log", "Producer", "Door", "_law_dice", "_law_roll", "_law_rounds", "_law_told", "_law_sum", "_law_record", "_law_bytes", "_law_sent"]
theorem runL (w : World) : HandSHeadRun.RunEq RL (PySem.W.view RL.prog [34]) hkL obL 3000 looseL w := by
  intro os
  kernel_rfl
end KL6
set_option Elab.async false
set_option linter.all false
set_option maxRecDepth 100000
set_option maxHeartbeats 4000000
namespace KL6
open PySem PySem.Spec PyProof.Rows L2 KB KC KS KN1 LamX K7
theorem code_at {K : PySem.W.Frag} {x q : Str} {st : Stmt} {dvs : List V} {p : He.Defn} {fd : FuncData} (F : FnP K x q st dvs (He.fAd K p) fd) : fd.code = .ref (He.cT K p).1 := by
  obtain ⟨oc, od, dV, kV, doc, pm, an, cdv, ct, osl, rfl, lk, hcd, _, _⟩ := F.ex
  obtain ⟨c, e⟩ := He.codeIn_ref hcd
  subst e
  have z : He.codeOf K p = c := He.codeOf_eq lk rfl
  show Value.ref c = Value.ref (He.codeOf K p)
  rw [z]
def pickL (K : PySem.W.Frag) : List (Addr × Addr) := [He.cT K tK, He.cT K tN, He.cT K tL]
abbrev pr : Program := PySem.Challenge.rw_streamstack_k06_logs_that_go_down.prog
theorem lawAt {w : World} {mg : Str → Option Value} {fa : Addr} {h : Heap} {K : PySem.W.Frag} (X : K.In h) (G : h.Ns mainGlobals mg) (hmg : mg ("law" : Str) = some (.ref fa)) (c : He.SaysX faL fnL [] tfL exL w h K) :
    LawAtS PySem.Challenge.rw_streamstack_k06_logs_that_go_down w K CX0 17 63 "script" mg fa h := by
  have D := c.t.d
  obtain ⟨fd0, F0⟩ := D.def_ 0 (d := dD "kind_of" sKind) rfl
  obtain ⟨fd1, F1⟩ := D.def_ 1 (d := dD "natural_bytes" sNat) rfl
  obtain ⟨fd2, F2⟩ := D.def_ 2 (d := dD "value_bytes" sVal) rfl
  obtain ⟨fd3, F3⟩ := D.def_ 3 (d := dD "row_bytes" sRow) rfl
  obtain ⟨fd4, F4⟩ := D.def_ 4 (d := dD "hash_of" sHash) rfl
  obtain ⟨fd5, F5⟩ := D.def_ 5 (d := dD "_law_dice" sDice) rfl
  obtain ⟨fd6, F6⟩ := D.def_ 6 (d := dD "_law_roll" sRoll) rfl
  obtain ⟨fd7, F7⟩ := D.def_ 7 (d := dD "_law_rounds" sRounds) rfl
  obtain ⟨fd8, F8⟩ := D.def_ 8 (d := dD "_law_told" sTold) rfl
  obtain ⟨fd9, F9⟩ := D.def_ 9 (d := dD "law" sLaw) rfl
  obtain ⟨fd10, F10⟩ := D.def_ 10 (d := dM "ByteReader" "__init__" "ByteReader.__init__" (sBM 0)) rfl
  obtain ⟨fd11, F11⟩ := D.def_ 11 (d := dM "ByteReader" "byte" "ByteReader.byte" (sBM 1)) rfl
  obtain ⟨fd12, F12⟩ := D.def_ 12 (d := dM "ByteReader" "row" "ByteReader.row" (sBM 2)) rfl
  obtain ⟨fd13, F13⟩ := D.def_ 13 (d := dM "ByteReader" "whole_row" "ByteReader.whole_row" (sBM 3)) rfl
  obtain ⟨fd14, F14⟩ := D.def_ 14 (d := dM "ByteReader" "natural" "ByteReader.natural" (sBM 4)) rfl
  obtain ⟨fd15, F15⟩ := D.def_ 15 (d := dM "ByteReader" "value" "ByteReader.value" (sBM 5)) rfl
  obtain ⟨fd16, F16⟩ := D.def_ 16 (d := dM "ByteReader" "text" "ByteReader.text" (sBM 6)) rfl
  obtain ⟨fd17, F17⟩ := D.def_ 17 (d := dM "ByteReader" "letter" "ByteReader.letter" (sBM 7)) rfl
  obtain ⟨fd18, F18⟩ := D.def_ 18 (d := dM "Part" "__init__" "Part.__init__" (sPM 0)) rfl
  obtain ⟨fd19, F19⟩ := D.def_ 19 (d := dM "Part" "append" "Part.append" (sPM 1)) rfl
  obtain ⟨fd20, F20⟩ := D.def_ 20 (d := dM "Part" "sync" "Part.sync" (sPM 2)) rfl
  obtain ⟨fd21, F21⟩ := D.def_ 21 (d := dM "Part" "end" "Part.end" (sPM 3)) rfl
  obtain ⟨fd22, F22⟩ := D.def_ 22 (d := dM "Part" "crash" "Part.crash" (sPM 4)) rfl
  obtain ⟨fd23, F23⟩ := D.def_ 23 (d := dM "Part" "read" "Part.read" (sPM 5)) rfl
  obtain ⟨fd24, F24⟩ := D.def_ 24 (d := dM "Part" "trim" "Part.trim" (sPM 6)) rfl
  obtain ⟨fd25, F25⟩ := D.def_ 25 (d := dM "Log" "__init__" "Log.__init__" (sOM 0)) rfl
  obtain ⟨fd26, F26⟩ := D.def_ 26 (d := dM "Log" "part_of" "Log.part_of" (sOM 1)) rfl
  obtain ⟨fd27, F27⟩ := D.def_ 27 (d := dM "Log" "append" "Log.append" (sOM 2)) rfl
  obtain ⟨fd28, F28⟩ := D.def_ 28 (d := dM "Log" "sync" "Log.sync" (sOM 3)) rfl
  obtain ⟨fd29, F29⟩ := D.def_ 29 (d := dM "Log" "latest" "Log.latest" (sOM 4)) rfl
  obtain ⟨fd30, F30⟩ := D.def_ 30 (d := dM "Producer" "__init__" "Producer.__init__" (sMM 0)) rfl
  obtain ⟨fd31, F31⟩ := D.def_ 31 (d := dM "Producer" "send" "Producer.send" (sMM 1)) rfl
  obtain ⟨fd32, F32⟩ := D.def_ 32 (d := dM "Door" "__init__" "Door.__init__" (sDM 0)) rfl
  obtain ⟨fd33, F33⟩ := D.def_ 33 (d := dM "Door" "take" "Door.take" (sDM 1)) rfl
  obtain ⟨fd34, F34⟩ := D.def_ 34 (d := dD "sum_of_bytes" sSum) rfl
  obtain ⟨fd35, F35⟩ := D.def_ 35 (d := dD "record_bytes" sRec) rfl
  obtain ⟨fd36, F36⟩ := D.def_ 36 (d := dD "read_records" sReads) rfl
  obtain ⟨fd37, F37⟩ := D.def_ 37 (d := dD "read_record" sRd1) rfl
  obtain ⟨fd38, F38⟩ := D.def_ 38 (d := dD "_law_sum" sLSum) rfl
  obtain ⟨fd39, F39⟩ := D.def_ 39 (d := dD "_law_record" sLRec) rfl
  obtain ⟨fd40, F40⟩ := D.def_ 40 (d := dD "_law_bytes" sLBytes) rfl
  obtain ⟨fd41, F41⟩ := D.def_ 41 (d := dD "_law_sent" sSent) rfl
  have gl : ∀ (i : Nat) (x : Str), faL[i]? = some (.glo x) → mg x = some (.ref (He.ga K x)) := fun i x h => He.glo_ok X G (D.fact i h)
  have fr : ∀ (i : Nat) (x : Str), faL[i]? = some (.free x) → mg x = none := fun i x h => He.free_ok X G (D.fact i h)
  have me : ∀ (i : Nat) (C m : Str), faL[i]? = some (.meth C m) → Meth K (He.ga K C) m (He.ma K (He.ga K C) m) := fun i C m h => He.meth_ok (D.fact i h)
  have na : ∀ (i : Nat) (C m : Str), faL[i]? = some (.noat C m) → NoAttr K (He.ga K C) m := fun i C m h => He.noat_ok (D.fact i h)
  have T : TxtL mg := ⟨fr 25 _ rfl, fr 26 _ rfl, fr 27 _ rfl, fr 28 _ rfl, fr 29 _ rfl, fr 30 _ rfl, fr 31 _ rfl, fr 32 _ rfl, fr 33 _ rfl, fr 34 _ rfl, fr 35 _ rfl, fr 36 _ rfl⟩
  have hM : TxtM mg := ⟨fr 39 _ rfl, fr 40 _ rfl, fr 41 _ rfl, fr 42 _ rfl⟩
  have N : TxtN mg := ⟨He.int_ok X G (D.fact 44 (f := .int "CHECK_BASE" 65521) rfl), He.int_ok X G (D.fact 45 (f := .int "CHECK_BYTES" 4) rfl), He.int_ok X G (D.fact 46 (f := .int "MOST_PARTS" 16) rfl), He.int_ok X G (D.fact 43 (f := .int "MOST_COLUMNS" 20) rfl)⟩
  have TK : TxtK mg := ⟨He.str_ok X G (D.fact 47 (f := .str "LETTERS" ltrs) rfl), fr 37 _ rfl, fr 38 _ rfl⟩
  have B : TxtB K mg (He.ga K "ByteReader") := ⟨He.cls_ok (D.fact 48 (f := .cls "ByteReader") rfl), na 49 _ _ rfl, na 50 _ _ rfl, gl 18 _ rfl⟩
  have MB := He.mkr_ok (D.fact 51 (f := .mkr "ByteReader") rfl)
  have TP : TxtP K mg (He.ga K "Part") := ⟨He.cls_ok (D.fact 59 (f := .cls "Part") rfl), na 60 _ _ rfl, na 61 _ _ rfl, na 62 _ _ rfl, na 63 _ _ rfl, gl 19 _ rfl⟩
  have MTP := He.mkr_ok (D.fact 64 (f := .mkr "Part") rfl)
  have TO : TxtO K mg (He.ga K "Log") := ⟨He.cls_ok (D.fact 71 (f := .cls "Log") rfl), na 72 _ _ rfl, gl 20 _ rfl⟩
  have MTO := He.mkr_ok (D.fact 73 (f := .mkr "Log") rfl)
  have TM : TxtK2 K mg (He.ga K "Producer") := ⟨He.cls_ok (D.fact 78 (f := .cls "Producer") rfl), na 79 _ _ rfl, na 80 _ _ rfl, gl 21 _ rfl⟩
  have MTM := He.mkr_ok (D.fact 81 (f := .mkr "Producer") rfl)
  have TD : TxtD K mg (He.ga K "Door") := ⟨He.cls_ok (D.fact 83 (f := .cls "Door") rfl), na 84 _ _ rfl, na 85 _ _ rfl, gl 22 _ rfl⟩
  have MTD := He.mkr_ok (D.fact 86 (f := .mkr "Door") rfl)
  obtain ⟨x1, x2, x3, x4⟩ := He.exc_ok (D.fact 88 (f := .exc "RowError") rfl)
  have J : TxtX K mg (He.ga K "RowError") := ⟨gl 23 _ rfl, x1, x2, x3, x4, He.exm_ok (D.fact 89 (f := .exm "RowError" "RowError" true) rfl)⟩
  obtain ⟨x1, x2, x3, x4⟩ := He.exc_ok (D.fact 90 (f := .exc "LogError") rfl)
  have TG : TxtG K mg (He.ga K "LogError") := ⟨gl 24 _ rfl, x1, x2, x3, x4, He.exm_ok (D.fact 91 (f := .exm "LogError" "LogError" true) rfl)⟩
  have hex := c.more
  unfold exL at hex
  rw [Bool.and_eq_true, Bool.and_eq_true, bne_iff_ne, bne_iff_ne, bne_iff_ne] at hex
  have ap : Apt (He.cT K tK).2 (He.cT K tN).2 (He.cT K tL).2 := ⟨hex.1.1, hex.1.2, hex.2⟩
  have e := hmg.symm.trans (gl 9 _ rfl)
  cases e
  have memL : ∀ p ∈ pickL K, ∃ q ∈ tfL, p = He.cT K q := fun p hp => by
    rcases List.mem_cons.mp hp with rfl | hp
    · exact ⟨tK, List.mem_cons_self .., rfl⟩
    rcases List.mem_cons.mp hp with rfl | hp
    · exact ⟨tN, List.mem_cons_of_mem _ (List.mem_cons_self ..), rfl⟩
    rcases List.mem_cons.mp hp with rfl | hp
    · exact ⟨tL, List.mem_cons_of_mem _ (List.mem_cons_of_mem _ (List.mem_cons_self ..)), rfl⟩
    cases hp
  refine ⟨fd9, pickL K, spLaw K (He.cT K tK).2 (He.cT K tN).2 (He.cT K tL).2, fun p hp => ?_, fun p hp => ?_, fun p hp => ?_, fun s u => ?_, fun H a ns hl hb hT hS => ?_, fun base KB GB TB => ?_⟩
  · obtain ⟨q, hq, rfl⟩ := memL p hp
    exact c.empty q hq
  · obtain ⟨q, hq, rfl⟩ := memL p hp
    exact c.out q hq
  · obtain ⟨q, hq, rfl⟩ := memL p hp
    exact PySem.W.codeHd_of_K X (c.hd q hq)
  · exact F9.bindsA (ps := ["script"]) (fun _ _ _ _ _ _ us hl => match us, hl with | [_], _ => rfl) s [u] rfl
  · exact ⟨a, ns, rfl, hS, TabS.nil (hT (He.cT K tK) (List.mem_cons_self ..)), TabS.nil (hT (He.cT K tN) (List.mem_cons_of_mem _ (List.mem_cons_self ..))), TabS.nil (hT (He.cT K tL) (List.mem_cons_of_mem _ (List.mem_cons_of_mem _ (List.mem_cons_self ..)))), fun _ => rfl⟩
  · have tbK := TB (He.cT K tK) (List.mem_cons_self ..)
    have tbN := TB (He.cT K tN) (List.mem_cons_of_mem _ (List.mem_cons_self ..))
    have tbL := TB (He.cT K tL) (List.mem_cons_of_mem _ (List.mem_cons_of_mem _ (List.mem_cons_self ..)))
    have hcK := code_at (p := tK) (st := sKind) (dvs := []) F0
    have gK := gl 0 _ rfl
    have gN := gl 1 _ rfl
    have gV := gl 2 _ rfl
    have gR := gl 3 _ rfl
    have gS := gl 10 _ rfl
    have gLS := gl 14 _ rfl
    have gQ := gl 11 _ rfl
    have gRs := gl 12 _ rfl
    have gR1 := gl 13 _ rfl
    have gH := gl 4 _ rfl
    have gRo := gl 6 _ rfl
    have tb1 : GxR.TabB base mg (He.cT K tK).1 (He.cT K tK).2 := ⟨tbK.code, tbK.bm, tbK.gP⟩
    have GKi : FnOk pr w K mg base (L2.CX pr w) 1 _ fd0 ["value"] (spKind (He.ga K "RowError") (He.cT K tK).2) := ok_kind F0 hcK tb1 T TK J
    have GNat : FnOk pr w K mg base CX0 1 _ fd1 ["number"] spNat := ok_nat F1 T
    have bNat : L2.Binds K fd1 ["number"] [] := (F1.bindsN fun _ _ _ _ _ _ us hl => match us, hl with | [_], _ => rfl)
    have GRow : FnOk pr w K mg base (L2.CX pr w) 3 _ fd3 ["row"] (spRow (He.ga K "RowError") (He.cT K tK).2) := ok_row F3 F2 gV F0 gK hcK tb1 F1 gN T TK J
    have bRow : L2.Binds K fd3 ["row"] [] := (F3.bindsN fun _ _ _ _ _ _ us hl => match us, hl with | [_], _ => rfl)
    have GHash : FnOk pr w K mg base (L2.CX pr w) 4 _ fd4 ["row"] (spHash (He.cT K tK).2) := ok_hash F4 F3 gR F2 gV F0 gK hcK tb1 F1 gN T TK J
    have bHash : L2.Binds K fd4 ["row"] [] := (F4.bindsN fun _ _ _ _ _ _ us hl => match us, hl with | [_], _ => rfl)
    have GIb : FnOk pr w K mg base CX0 1 _ fd10 ["self", "data"] (spBInit (He.ga K "ByteReader")) := ok_binit F10 B
    have bIb : L2.Binds K fd10 ["self", "data"] [] := (F10.bindsN fun _ _ _ _ _ _ us hl => match us, hl with | [_, _], _ => rfl)
    have GBy : FnOk pr w K mg base (L2.CX pr w) 1 _ fd11 ["self"] (spP (He.ga K "ByteReader") (He.ga K "RowError") pB RI) := ok_byte F11 B T J
    have bBy : L2.Binds K fd11 ["self"] [] := (F11.bindsN fun _ _ _ _ _ _ us hl => match us, hl with | [_], _ => rfl)
    have GNa : FnOk pr w K mg base (L2.CX pr w) 2 _ fd14 ["self"] (spP (He.ga K "ByteReader") (He.ga K "RowError") pN RN) := ok_natural F14 B T J (me 52 _ _ rfl) GBy bBy
    have bNa : L2.Binds K fd14 ["self"] [] := (F14.bindsN fun _ _ _ _ _ _ us hl => match us, hl with | [_], _ => rfl)
    have GLe : FnOk pr w K mg base (L2.CX pr w) 2 _ fd17 ["self"] (spP (He.ga K "ByteReader") (He.ga K "RowError") pL (RV gL)) := ok_letter F17 B T TK J (me 52 _ _ rfl) GBy bBy
    have bLe : L2.Binds K fd17 ["self"] [] := (F17.bindsN fun _ _ _ _ _ _ us hl => match us, hl with | [_], _ => rfl)
    have GTx : FnOk pr w K mg base (L2.CX pr w) 3 _ fd16 ["self"] (spP (He.ga K "ByteReader") (He.ga K "RowError") pTx (RV gT)) := ok_text F16 B T J (me 55 _ _ rfl) GNa bNa (me 58 _ _ rfl) GLe bLe
    have bTx : L2.Binds K fd16 ["self"] [] := (F16.bindsN fun _ _ _ _ _ _ us hl => match us, hl with | [_], _ => rfl)
    have GVa : FnOk pr w K mg base (L2.CX pr w) 4 _ fd15 ["self"] (spP (He.ga K "ByteReader") (He.ga K "RowError") (pV tabL) (RV kV)) := ok_value F15 B T J (me 52 _ _ rfl) GBy bBy (me 55 _ _ rfl) GNa bNa (me 57 _ _ rfl) GTx bTx
    have bVa : L2.Binds K fd15 ["self"] [] := (F15.bindsN fun _ _ _ _ _ _ us hl => match us, hl with | [_], _ => rfl)
    have GWh : FnOk pr w K mg base (L2.CX pr w) 5 _ fd13 ["self"] (spP (He.ga K "ByteReader") (He.ga K "RowError") (pRow tabL) RR) := ok_whole F13 B T J N.cols (me 55 _ _ rfl) GNa bNa (me 56 _ _ rfl) GVa bVa
    have bWh : L2.Binds K fd13 ["self"] [] := (F13.bindsN fun _ _ _ _ _ _ us hl => match us, hl with | [_], _ => rfl)
    have GRR : FnOk pr w K mg base (L2.CX pr w) 6 _ fd12 ["self"] (spRd (He.ga K "ByteReader") (He.ga K "RowError")) := ok_rdrow F12 B J (me 54 _ _ rfl) GWh bWh
    have bRR : L2.Binds K fd12 ["self"] [] := (F12.bindsN fun _ _ _ _ _ _ us hl => match us, hl with | [_], _ => rfl)
    have GSum : FnOk pr w K mg base CX0 1 _ fd34 ["data"] spSum := ok_sum F34 N
    have bSum : L2.Binds K fd34 ["data"] [] := (F34.bindsN fun _ _ _ _ _ _ us hl => match us, hl with | [_], _ => rfl)
    have GLSum : FnOk pr w K mg base CX0 1 _ fd38 ["data"] spSum := ok_lsum F38
    have bLSum : L2.Binds K fd38 ["data"] [] := (F38.bindsN fun _ _ _ _ _ _ us hl => match us, hl with | [_], _ => rfl)
    have GRec : FnOk pr w K mg base CX0 4 _ fd35 ["key", "row", "time"] (spRec (He.ga K "RowError") (He.cT K tK).2) := ok_rec F35 GRow gR F3.kp bRow GNat gN F1.kp bNat GSum gS F34.kp bSum T
    have bRec : L2.Binds K fd35 ["key", "row", "time"] [] := (F35.bindsN fun _ _ _ _ _ _ us hl => match us, hl with | [_, _, _], _ => rfl)
    have GLB : FnOk pr w K mg base CX0 4 _ fd40 ["record"] (spLRec (He.cT K tK).2) := ok_lrec F40 GRow gR F3.kp bRow GNat gN F1.kp bNat GLSum gLS F38.kp bLSum T
    have bLB : L2.Binds K fd40 ["record"] [] := (F40.bindsN fun _ _ _ _ _ _ us hl => match us, hl with | [_], _ => rfl)
    have GR1 : FnOk pr w K mg base CX0 7 _ fd37 ["reader"] (spRd1 (He.ga K "ByteReader") (He.ga K "RowError")) := ok_rd1 F37 B J N (me 55 _ _ rfl) GNa bNa (me 53 _ _ rfl) GRR bRR GSum gS F34.kp bSum
    have bR1 : L2.Binds K fd37 ["reader"] [] := (F37.bindsN fun _ _ _ _ _ _ us hl => match us, hl with | [_], _ => rfl)
    have GRs : FnOk pr w K mg base CX0 8 _ fd36 ["data"] spReads := ok_reads F36 B MB GIb bIb GR1 gR1 F37.kp bR1
    have bRs : L2.Binds K fd36 ["data"] [] := (F36.bindsN fun _ _ _ _ _ _ us hl => match us, hl with | [_], _ => rfl)
    have GPi : FnOk pr w K mg base CX0 1 _ fd18 ["self"] (spPI (He.ga K "Part")) := ok_pinit F18 TP
    have bPi : L2.Binds K fd18 ["self"] [] := (F18.bindsN fun _ _ _ _ _ _ us hl => match us, hl with | [_], _ => rfl)
    have GPe : FnOk pr w K mg base CX0 1 _ fd21 ["self"] (spPE (He.ga K "Part")) := ok_pend F21 TP T
    have bPe : L2.Binds K fd21 ["self"] [] := (F21.bindsN fun _ _ _ _ _ _ us hl => match us, hl with | [_], _ => rfl)
    have GPs : FnOk pr w K mg base CX0 1 _ fd20 ["self"] (spPS (He.ga K "Part") (He.cT K tK).2) := ok_psync F20 TP
    have bPs : L2.Binds K fd20 ["self"] [] := (F20.bindsN fun _ _ _ _ _ _ us hl => match us, hl with | [_], _ => rfl)
    have GPa : FnOk pr w K mg base (L2.CX pr w) 5 _ fd19 ["self", "key", "row", "time"] (spPA (He.ga K "Part") (He.ga K "LogError") (He.ga K "RowError") (He.cT K tK).2) := ok_papp F19 TP TG GRec gQ F35.kp bRec (me 67 _ _ rfl) GPe bPe
    have bPa : L2.Binds K fd19 ["self", "key", "row", "time"] [] := (F19.bindsN fun _ _ _ _ _ _ us hl => match us, hl with | [_, _, _, _], _ => rfl)
    have GPc : FnOk pr w K mg base CX0 9 _ fd22 ["self", "many"] (spPC (He.ga K "Part") (He.cT K tK).2) := ok_pcrash F22 TP hM GRs gRs F36.kp bRs
    have bPc : L2.Binds K fd22 ["self", "many"] [] := (F22.bindsN fun _ _ _ _ _ _ us hl => match us, hl with | [_, _], _ => rfl)
    have GPr : FnOk pr w K mg base (L2.CX pr w) 2 _ fd23 ["self", "place", "most"] (spPR (He.ga K "Part") (He.ga K "LogError")) := ok_pread F23 TP TG T hM (me 67 _ _ rfl) GPe bPe
    have bPr : L2.Binds K fd23 ["self", "place", "most"] [] := (F23.bindsN fun _ _ _ _ _ _ us hl => match us, hl with | [_, _, _], _ => rfl)
    have GPt : FnOk pr w K mg base CX0 5 _ fd24 ["self", "place"] (spPT (He.ga K "Part") (He.cT K tK).2) := ok_ptrim F24 TP T hM GRec gQ F35.kp bRec
    have bPt : L2.Binds K fd24 ["self", "place"] [] := (F24.bindsN fun _ _ _ _ _ _ us hl => match us, hl with | [_, _], _ => rfl)
    have GLi : FnOk pr w K mg base (L2.CX pr w) 3 _ fd25 ["self", "many"] (spLI (He.ga K "Log") (He.ga K "Part") (He.ga K "LogError")) := ok_linit F25 TO TP TG T N MTP GPi bPi
    have bLi : L2.Binds K fd25 ["self", "many"] [] := (F25.bindsN fun _ _ _ _ _ _ us hl => match us, hl with | [_, _], _ => rfl)
    have GLo : FnOk pr w K mg base CX0 5 _ fd26 ["self", "key"] (spPO (He.ga K "Log") (He.ga K "Part") (He.cT K tK).2) := ok_partof F26 TO T GHash gH F4.kp bHash
    have bLo : L2.Binds K fd26 ["self", "key"] [] := (F26.bindsN fun _ _ _ _ _ _ us hl => match us, hl with | [_, _], _ => rfl)
    have GLa : FnOk pr w K mg base CX0 6 _ fd27 ["self", "key", "row", "time"] (spLA (He.ga K "Log") (He.ga K "Part") (He.cT K tK).2) := ok_lapp F27 TO TP (me 74 _ _ rfl) GLo bLo (me 65 _ _ rfl) GPa bPa
    have bLa : L2.Binds K fd27 ["self", "key", "row", "time"] [] := (F27.bindsN fun _ _ _ _ _ _ us hl => match us, hl with | [_, _, _, _], _ => rfl)
    have GLs : FnOk pr w K mg base CX0 2 _ fd28 ["self"] (spLS (He.ga K "Log") (He.ga K "Part") (He.cT K tK).2) := ok_lsync F28 TO TP (me 66 _ _ rfl) GPs bPs
    have bLs : L2.Binds K fd28 ["self"] [] := (F28.bindsN fun _ _ _ _ _ _ us hl => match us, hl with | [_], _ => rfl)
    have GLl : FnOk pr w K mg base CX0 2 _ fd29 ["self"] (spLL (He.ga K "Log") (He.ga K "Part")) := ok_latest F29 TO TP
    have bLl : L2.Binds K fd29 ["self"] [] := (F29.bindsN fun _ _ _ _ _ _ us hl => match us, hl with | [_], _ => rfl)
    have GDi : FnOk pr w K mg base CX0 1 _ fd32 ["self", "log"] (spDI (He.ga K "Door")) := ok_dinit F32 TD
    have bDi : L2.Binds K fd32 ["self", "log"] [] := (F32.bindsN fun _ _ _ _ _ _ us hl => match us, hl with | [_, _], _ => rfl)
    have GDt : FnOk pr w K mg base (L2.CX pr w) 7 _ fd33 ["self", "name", "number", "key", "row", "time"] (spDT (He.ga K "Door") (He.ga K "Log") (He.ga K "Part") (He.ga K "LogError") (He.cT K tK).2) := ok_dtake F33 TD TO TG T (me 75 _ _ rfl) GLa bLa
    have bDt : L2.Binds K fd33 ["self", "name", "number", "key", "row", "time"] [] := (F33.bindsN fun _ _ _ _ _ _ us hl => match us, hl with | [_, _, _, _, _, _], _ => rfl)
    have GMi : FnOk pr w K mg base CX0 1 _ fd30 ["self", "name"] (spMI (He.ga K "Producer")) := ok_minit F30 TM
    have bMi : L2.Binds K fd30 ["self", "name"] [] := (F30.bindsN fun _ _ _ _ _ _ us hl => match us, hl with | [_, _], _ => rfl)
    have GMs : FnOk pr w K mg base CX0 8 _ fd31 ["self", "door", "key", "row", "time"] (spMS (He.ga K "Producer") (He.ga K "Door") (He.ga K "Log") (He.ga K "Part") (He.cT K tK).2) := ok_msend F31 TM TD (me 87 _ _ rfl) GDt bDt
    have bMs : L2.Binds K fd31 ["self", "door", "key", "row", "time"] [] := (F31.bindsN fun _ _ _ _ _ _ us hl => match us, hl with | [_, _, _, _, _], _ => rfl)
    have GRoll : FnOk pr w K mg base CX0 1 _ fd6 ["dice", "many"] spRoll := ok_roll F6 T
    have bRoll : L2.Binds K fd6 ["dice", "many"] [] := (F6.bindsN fun _ _ _ _ _ _ us hl => match us, hl with | [_, _], _ => rfl)
    have ve : LawE pr w K mg base (He.ga K "Part") (He.ga K "Log") (He.ga K "Door") (He.ga K "Producer") (He.ga K "LogError") (He.ga K "RowError") (He.cT K tK).2 (He.cT K tN).2 (He.cT K tL).2 (He.cT K tN).1 (He.cT K tL).1 (He.ga K "_law_told") fd8 :=
      { T := T, M := hM, G := TG, TP := TP, TO := TO, TD := TD, TM := TM, TBn := tbN, TBl := tbL, ap := ap
        rounds := ⟨_, _, ok_rounds F7 T F5 (gl 5 _ rfl), gl 7 _ rfl, F7.kp, (F7.bindsN fun _ _ _ _ _ _ us hl => match us, hl with | [_, _], _ => rfl)⟩
        roll := ⟨_, _, GRoll, gRo, F6.kp, bRoll⟩
        lrec := ⟨_, _, ok_lrec2 F39 GRoll gRo F6.kp bRoll, gl 15 _ rfl, F39.kp, (F39.bindsN fun _ _ _ _ _ _ us hl => match us, hl with | [_, _], _ => rfl)⟩
        lbytes := ⟨_, _, GLB, gl 16 _ rfl, F40.kp, bLB⟩
        lsum := ⟨_, _, GLSum, gLS, F38.kp, bLSum⟩
        sum := ⟨_, _, GSum, gS, F34.kp, bSum⟩
        recb := ⟨_, _, GRec, gQ, F35.kp, bRec⟩
        reads := ⟨_, _, GRs, gRs, F36.kp, bRs⟩
        hash := ⟨_, _, GHash, gH, F4.kp, bHash⟩
        pinit := ⟨_, _, GPi, MTP, bPi⟩
        papp := ⟨_, _, GPa, (me 65 _ _ rfl), bPa⟩
        psync := ⟨_, _, GPs, (me 66 _ _ rfl), bPs⟩
        pend := ⟨_, _, GPe, (me 67 _ _ rfl), bPe⟩
        pcrash := ⟨_, _, GPc, (me 68 _ _ rfl), bPc⟩
        pread := ⟨_, _, GPr, (me 69 _ _ rfl), bPr⟩
        ptrim := ⟨_, _, GPt, (me 70 _ _ rfl), bPt⟩
        linit := ⟨_, _, GLi, MTO, bLi⟩
        lpart := ⟨_, _, GLo, (me 74 _ _ rfl), bLo⟩
        lapp := ⟨_, _, GLa, (me 75 _ _ rfl), bLa⟩
        lsync := ⟨_, _, GLs, (me 76 _ _ rfl), bLs⟩
        llat := ⟨_, _, GLl, (me 77 _ _ rfl), bLl⟩
        dinit := ⟨_, _, GDi, MTD, bDi⟩
        dtake := ⟨_, _, GDt, (me 87 _ _ rfl), bDt⟩
        minit := ⟨_, _, GMi, MTM, bMi⟩
        msend := ⟨_, _, GMs, (me 82 _ _ rfl), bMs⟩
        told := F8
        gTold := gl 8 _ rfl }
    exact ok_law F9 (code_at (p := tL) (st := sLaw) (dvs := []) F9) ve F41 (code_at (p := tN) (st := sSent) (dvs := []) F41) (gl 17 _ rfl)
end KL6
open PySem PySem.W PySem.Calls PyProof.Rows
theorem PySem.Challenge.cw_streamstack_k06_logs_that_go_down_holds : PySem.Challenge.rw_streamstack_k06_logs_that_go_down.Holds := by
  w_on; o_law
  refine HandSHeadRun.head_any (r := OpenLaw.row PySem.Challenge.rw_streamstack_k06_logs_that_go_down) (q := view (OpenLaw.row PySem.Challenge.rw_streamstack_k06_logs_that_go_down).prog [34]) (H := KL6.hkL) (ob := KL6.obL) (M := 3000) (loose := KL6.looseL) (d := HandSHeadRun.topDef (OpenLaw.row PySem.Challenge.rw_streamstack_k06_logs_that_go_down).prog 34) (kwd := []) KL6.obL_eq
    (by kernel_rfl) (fun s => by kernel_rfl) KL6.runL (by kernel_rfl) (by kernel_rfl) (by kernel_rfl) (by rfl) (by first | assumption | decide +kernel) (by decide +kernel) ⟨rfl, rfl, rfl, rfl, rfl, by decide +kernel⟩ ?hw ?hc
  case hw => w_witness2
  case hc =>
    refine LamX.walk_ofTsE (l := PySem.Challenge.rw_streamstack_k06_logs_that_go_down) (n := 63) (k := 17) (x := "script") (CX := fun _ => L2.CX0) rfl (by decide) (by kernel_rfl) ⟨rfl, by decide, by decide⟩ ?F (fun _ _ _ _ _ z => z)
    intro w mg fa h Y G hmg0
    obtain ⟨K, KX, c⟩ := Y
    have hmg : mg ("law" : PySem.Str) = some (.ref fa) := by
      have e : (HandSHeadRun.topDef (OpenLaw.row PySem.Challenge.rw_streamstack_k06_logs_that_go_down).prog 34).name = ("law" : PySem.Str) := by kernel_rfl
      rw [← e]
      exact hmg0
    exact ⟨K, KX, KL6.lawAt KX G hmg c⟩
