import PyProof.Rows.All
import Wide.All
import OpenK.AllK
import Wide.FinOn
import HandS.ForMost
import HandS.Lambda
import HandS.AnyAll
import HandS.EndTab
import HandS.TupAny
import HandS.Zip
import HandS.DictTup
import HandS.Codes
import HandS.ExcOwn
import HandS.TryOnly
import HandS.IsInst
import HandS.Wide
import HandS.DictComp
import HandS.DictEq
import HandS.ListItems
import KE.LtSeq
import KE.KSortTup
import HandS.SortOrd
import HandS.SortKw
import HandS.SortRule
import HandS.Defaults
import HandS.WordsExc
import HandS.Dict
import PySem.Challenge.RW_streamstack_k10_rows_of_other_shapes
import KE.KDictPairs
import KE.KDictWalk
import HandS.Comp
import HandS.Exc
import KE.KAsSuite
import KE.GoesRaise
import HandS.SuiteRaise
import KE.KExcRaise
import HandS.Deep
import HandS.Conv
import PyProof.P3In
import KE.DatumOrd
import KE.SortKeyHeap
import KE.DataMinKey
import HandS.Walk
import HandS.RaiseMore
import HandS.FStr
import HandS.RevRange
import HandS.GenOver
import PyProof.GenQ
import PyProof.WalksS
import PyProof.ConsumeS
import PyProof.CodeObjX
import HandS.More
import HandS.List
import PyProof.GenCompT
import HandS.Iter
import KE.GoesMore
import KE.GoesEnum
import PyProof.Draws
import HandS.ListEq
import HandS.SetKeys
import KE.KDictZip
import KE.KStateDown
import Lean
import HandS.Ends
import HandS.Words
import HandS.Head0
import HandS.Head1
import HandS.Head2
import HandS.HeadEnd
import HandS.HeadHook1
import HandS.HeadHook2
import HandS.HeadHook3
import HandS.HeadHook4
import HandS.HeadWalk
set_option Elab.async false
set_option linter.all false
set_option maxRecDepth 100000
set_option maxHeartbeats 4000000
namespace KB
open PySem PySem.Spec PyProof.Rows L2
section
variable {prog : Program} {w : World} {K : Type} [DecidableEq K] {knd : HeapKind prog w K} {A : Around} {E : Value → Shared → Prop} {s : Shared}
def hitH (ys : List (K × Addr × Value)) (eqb : Value → Value → Bool) (x : K × Addr × Value) : Bool :=
  match atKey ys x.1 with
  | none => false
  | some q => eqb x.2.2 q.2
theorem samePairsH {nm : String} {a b : Addr} {xs ys : List (K × Addr × Value)} {eqb : Value → Value → Bool} {Q : Bool → Shared → Prop} (ha : (a == sysModules) = false) (hb : (b == sysModules) = false)
    (da : s.heap.DictOfH knd a xs) (db : s.heap.DictOfH knd b ys) (hu : knd.room A)
    (heq : ∀ x ∈ xs, ∀ q, atKey ys x.1 = some q → ∀ (R : Bool → Shared → Prop) (F : Value → Shared → Prop), R (eqb x.2.2 q.2) s → wpAny (model prog w) A (eqBool x.2.2 q.2) R F s)
    (h : Q (xs.length == ys.length && xs.all (hitH ys eqb)) s) :
    wpAny (model prog w) A (Builtin.Dict.samePairs nm a b) Q E s := by
  obtain ⟨oa, es, ep, hoa, _, hda, hka, hia, hna⟩ := da
  obtain ⟨ob, es', ep', hob, _, hdb, hkb, hib, hnb⟩ := db
  have hla : xs.length = es.size := (size_of_entries hka).symm
  have hlb : ys.length = es'.size := (size_of_entries hkb).symm
  rw [hla, hlb] at h
  unfold Builtin.Dict.samePairs Builtin.Dict.showsAll
  rw [if_neg (show ¬ (a == sysModules) = true by rw [ha]; exact Bool.false_ne_true), if_neg (show ¬ (b == sysModules) = true by rw [hb]; exact Bool.false_ne_true)]
  refine wpAny_bind (wpAny_pure (wpAny_bind (wpAny_pure ?_)))
  refine wpAny_bind (wpAny_dictEntries hoa hda ?_)
  dsimp only
  refine wpAny_bind (wpAny_dictEntries hob hdb ?_)
  by_cases hsz : es.size = es'.size
  case neg =>
    rw [if_pos (by simpa using hsz)]
    have hbf : (es.size == es'.size) = false := by simpa using hsz
    rw [hbf, Bool.false_and] at h
    exact wpAny_bind (wpAny_rule (wpAny_pure h))
  case pos =>
    have h' : Q (xs.all (hitH ys eqb)) s := by simpa [hsz] using h
    rw [if_neg (by rw [hsz]; simp)]
    refine wpAny_bind (wpAny_dictEpoch hoa hda ?_)
    refine wpAny_bind ?_
    rw [Std.Legacy.Range.forIn_eq_forIn_range']
    simp only [Std.Legacy.Range.size, Nat.sub_zero, Nat.add_sub_cancel, Nat.div_one]
    refine wpAny_forIn_list _
      (fun rest q s' => s' = s ∧ q = (none, ()) ∧ ∃ i, rest = List.range' i (es.size - i) ∧ i ≤ es.size ∧ (xs.drop i).all (hitH ys eqb) = xs.all (hitH ys eqb))
      _ ?_ ?_ _ _ ⟨rfl, rfl, 0, by simp, Nat.zero_le _, by simp⟩
    · rintro x rest q s' ⟨rfl, rfl, i, hr, hi, hpre⟩
      have hlt : i < es.size := by
        rcases Nat.lt_or_ge i es.size with h | h
        · exact h
        · rw [Nat.sub_eq_zero_of_le h] at hr; simp at hr
      obtain ⟨rfl, hrest⟩ : x = i ∧ rest = List.range' (i + 1) (es.size - (i + 1)) := by
        have e : es.size - i = (es.size - (i + 1)) + 1 := by omega
        rw [e, List.range'_succ] at hr
        injection hr with h1 h2
        exact ⟨h1, h2⟩
      refine wpAny_bind (wpAny_dictEntries hoa hda ?_)
      have hlt' : x < xs.length := by rw [hla]; exact hlt
      obtain ⟨k, c, v, hkv⟩ : ∃ k c v, xs[x] = (k, c, v) := ⟨_, _, _, rfl⟩
      have hdrop : xs.drop x = (k, c, v) :: xs.drop (x + 1) := by rw [← hkv]; exact List.drop_eq_getElem_cons hlt'
      have hget : xs[x]? = some (k, c, v) := by rw [List.getElem?_eq_getElem hlt', hkv]
      have hmem : (k, c, v) ∈ xs := List.mem_of_getElem? hget
      have hex : es[x]? = some (entryOfKey knd (k, c, v)) := by rw [entry_at hka x, hget]; rfl
      rw [hex]
      rw [hdrop, List.all_cons] at hpre
      have hkey : knd.is s'.heap k c := hia _ hmem
      show wpAny _ _ (holding [Value.ref c, v] _ >>= _) _ _ _
      refine wpAny_bind (wpAny_holding (wpAny_bind (wpAny_dictFind_heap hu hkey hob hdb hkb hib hnb ?_ ?_)))
      · intro hno
        have hn : atKey ys k = none := atKey_none_of_get hno
        have e1 : hitH ys eqb (k, c, v) = false := by unfold hitH; simp only [hn]
        rw [e1, Bool.false_and] at hpre
        rw [← hpre] at h'
        refine wpAny_pure ?_
        show wpAny _ _ (if (!false) = true then _ else _) _ _ _
        rw [if_pos (by decide)]
        exact wpAny_pure (wpAny_pure h')
      · intro j p hj
        have hp : atKey ys k = some p := atKey_of_get hnb hj
        have e1 : hitH ys eqb (k, c, v) = eqb v p.2 := by unfold hitH; simp only [hp]
        have hey : es'[j]? = some (entryOfKey knd (k, p)) := by rw [entry_at hkb j, hj]; rfl
        refine wpAny_bind (wpAny_dictEntries hob hdb ?_)
        rw [hey]
        refine wpAny_holding (heq _ hmem p hp _ _ ?_)
        show wpAny _ _ (if (!eqb v p.2) = true then _ else _) _ _ _
        cases he : eqb v p.2 with
        | false =>
          rw [e1, he, Bool.false_and] at hpre
          rw [← hpre] at h'
          rw [if_pos (by decide)]
          exact wpAny_pure (wpAny_pure h')
        | true =>
          rw [e1, he, Bool.true_and] at hpre
          rw [if_neg (by decide)]
          refine wpAny_bind (wpAny_dictEpoch hoa hda ?_)
          rw [if_neg (by simp)]
          exact wpAny_pure ⟨rfl, rfl, x + 1, hrest, hlt, hpre⟩
    · rintro q s' ⟨rfl, rfl, i, hr, hi, hpre⟩
      have hin : i = es.size := by
        rcases Nat.lt_or_ge i es.size with h | h
        · have e : es.size - i = (es.size - (i + 1)) + 1 := by omega
          rw [e, List.range'_succ] at hr; exact nomatch hr
        · exact Nat.le_antisymm hi h
      have e2 : xs.all (hitH ys eqb) = true := by
        rw [← hpre, hin, ← hla, List.drop_length]; rfl
      rw [e2] at h'
      exact wpAny_pure h'
end
section
variable {prog : Program} {w : World} {K : Type} [DecidableEq K] {knd : HeapKind prog w K} {A : Around} {E : Value → Shared → Prop} {s : Shared}
theorem eqH {a b : Addr} {xs ys : List (K × Addr × Value)} {eqb : Value → Value → Bool} {Q : Value → Shared → Prop} (ha : (a == sysModules) = false) (hb : (b == sysModules) = false)
    (da : s.heap.DictOfH knd a xs) (db : s.heap.DictOfH knd b ys) (hA : A.units < cLine) (hu : knd.room A.in1)
    (heq : ∀ x ∈ xs, ∀ q, atKey ys x.1 = some q → ∀ (R : Bool → Shared → Prop) (F : Value → Shared → Prop), R (eqb x.2.2 q.2) s → wpAny (model prog w) A.in1 (eqBool x.2.2 q.2) R F s)
    (h : Q (.bool (xs.length == ys.length && xs.all (hitH ys eqb))) s) :
    wpAny (model prog w) A (compareOp .Eq (.ref a) (.ref b)) Q E s := by
  refine wpAny_richCompare_same_room (op := .Eq) da.typeIs db.typeIs PySem.F.slot_dict_eq (wpAny_call_entry PySem.F.slot_dict_eq da.typeIs PySem.F.entry_dict_eq ?_ (PySem.F.args_dict_eq_2 _ _)) hA
  show wpAny _ _ (Builtin.Dict.dictSlotArgs "__eq__" ⟨[.ref a, .ref b], []⟩ >>= _) _ _ s
  refine wpAny_bind ?_
  unfold Builtin.Dict.dictSlotArgs
  refine wpAny_bind (wpAny_notOrdered_dict da.typeIs ?_)
  show wpAny _ _ (pure (Value.ref a, Value.ref b)) _ _ s
  refine wpAny_pure ?_
  refine wpAny_bind (wpAny_isInstance (T := "dict") db.typeIs PySem.F.sub_dict_dict ?_)
  simp only [Bool.not_true, Bool.false_eq_true, if_false]
  refine wpAny_bind (wpAny_pure (wpAny_bind (wpAny_pure ?_)))
  refine wpAny_bind (samePairsH ha hb da db hu heq ?_)
  refine wpAny_pure ⟨_, rfl, ?_, ?_⟩
  · exact fun x => nomatch x
  · simpa using h
theorem neH {a b : Addr} {xs ys : List (K × Addr × Value)} {eqb : Value → Value → Bool} {Q : Value → Shared → Prop} (ha : (a == sysModules) = false) (hb : (b == sysModules) = false)
    (da : s.heap.DictOfH knd a xs) (db : s.heap.DictOfH knd b ys) (hA : A.units < cLine) (hu : knd.room A.in1)
    (heq : ∀ x ∈ xs, ∀ q, atKey ys x.1 = some q → ∀ (R : Bool → Shared → Prop) (F : Value → Shared → Prop), R (eqb x.2.2 q.2) s → wpAny (model prog w) A.in1 (eqBool x.2.2 q.2) R F s)
    (h : Q (.bool (!(xs.length == ys.length && xs.all (hitH ys eqb)))) s) :
    wpAny (model prog w) A (compareOp .NotEq (.ref a) (.ref b)) Q E s := by
  refine wpAny_richCompare_same_room (op := .NotEq) da.typeIs db.typeIs PySem.F.slot_dict_ne (wpAny_call_entry PySem.F.slot_dict_ne da.typeIs PySem.F.entry_dict_ne ?_ (PySem.F.args_dict_ne_2 _ _)) hA
  show wpAny _ _ (Builtin.Dict.dictSlotArgs "__ne__" ⟨[.ref a, .ref b], []⟩ >>= _) _ _ s
  refine wpAny_bind ?_
  unfold Builtin.Dict.dictSlotArgs
  refine wpAny_bind (wpAny_notOrdered_dict da.typeIs ?_)
  show wpAny _ _ (pure (Value.ref a, Value.ref b)) _ _ s
  refine wpAny_pure ?_
  refine wpAny_bind (wpAny_isInstance (T := "dict") db.typeIs PySem.F.sub_dict_dict ?_)
  simp only [Bool.not_true, Bool.false_eq_true, if_false]
  refine wpAny_bind (wpAny_pure (wpAny_bind (wpAny_pure ?_)))
  refine wpAny_bind (samePairsH ha hb da db hu heq ?_)
  refine wpAny_pure ⟨_, rfl, ?_, ?_⟩
  · exact fun x => nomatch x
  · simpa using h
end
def eqT (ks ls : List (List Key × V)) : Bool := (ks.length == ls.length) && ks.all fun p => decide (valV ls p.1 = some p.2)
def intB : Value → Value → Bool
  | .int i _, .int j _ => i == j
  | _, _ => false
def IntVals (ks : List (List Key × V)) : Prop := ∀ p ∈ ks, ∃ i, p.2 = V.int i
theorem mem_r {α β : Type} {R : α → β → Prop} : ∀ {l : List α} {m : List β}, Paired R l m → ∀ y ∈ m, ∃ x ∈ l, R x y
  | _, _, .nil, y, h => nomatch h
  | _, _, .cons (a := a) (b := b) r t, y, h => by
    rcases List.mem_cons.mp h with rfl | h
    · exact ⟨a, List.mem_cons_self, r⟩
    · obtain ⟨x, hx, q⟩ := mem_r t y h
      exact ⟨x, List.mem_cons_of_mem _ hx, q⟩
theorem kt_int {H : Hp} {ks : List (List Key × V)} {xs : List (List Key × Addr × Value)} (r : KT H ks xs) (hi : IntVals ks) : ∀ x ∈ xs, ∃ i t, x.2.2 = Value.int i t := by
  intro x hx
  obtain ⟨p, hp, _, _, rv⟩ := mem_r r x hx
  obtain ⟨i, e⟩ := hi p hp
  rw [e] at rv
  obtain ⟨t, rv⟩ := rv
  exact ⟨i, t, rv⟩
theorem atKey_mem {K : Type} [DecidableEq K] {xs : List (K × Addr × Value)} {k : K} {q : Addr × Value} (h : atKey xs k = some q) : (k, q) ∈ xs := by
  unfold atKey at h
  rw [Option.map_eq_some_iff] at h
  obtain ⟨x, h1, h2⟩ := h
  have h3 := List.find?_some h1
  have h4 := List.mem_of_find?_eq_some h1
  have h5 : x.1 = k := of_decide_eq_true h3
  rw [← h5, ← h2]
  exact h4
theorem all_hits {H : Hp} {ls : List (List Key × V)} {ys : List (List Key × Addr × Value)} (rb : KT H ls ys) : ∀ {ks : List (List Key × V)} {xs : List (List Key × Addr × Value)}, KT H ks xs → IntVals ks → IntVals ls →
    xs.all (hitH ys intB) = ks.all fun p => decide (valV ls p.1 = some p.2)
  | _, _, .nil, _, _ => rfl
  | _, _, .cons (a := p) (b := x) (l₁ := ks) (l₂ := xs) h t, hi, hj => by
    rw [List.all_cons, List.all_cons, all_hits rb t (fun q hq => hi q (List.mem_cons_of_mem _ hq)) hj]
    refine congrArg (fun z => z && _) ?_
    obtain ⟨h1, _, h2⟩ := h
    obtain ⟨i, ei⟩ := hi p List.mem_cons_self
    have rv := rb.val p.1
    unfold hitH
    rw [← h1]
    cases hx : atKey ys p.1 with
    | none =>
      rw [hx] at rv
      cases hv : valV ls p.1 with
      | none => simp
      | some v => rw [hv] at rv; exact rv.elim
    | some q =>
      rw [hx] at rv
      cases hv : valV ls p.1 with
      | none => rw [hv] at rv; exact rv.elim
      | some v =>
        rw [hv] at rv
        have rv : RelV v q.2 := rv
        obtain ⟨j, ej⟩ : ∃ j, v = V.int j := by
          have hm : (p.1, v) ∈ ls := by
            unfold valV at hv
            rw [Option.map_eq_some_iff] at hv
            obtain ⟨y, y1, y2⟩ := hv
            have y3 : y.1 = p.1 := by
              have z := List.find?_some y1
              simpa using z
            have y4 := List.mem_of_find?_eq_some y1
            rw [← y3, ← y2]
            exact y4
          exact hj _ hm
        rw [ei] at h2
        rw [ej] at rv
        obtain ⟨t1, e1⟩ := h2
        obtain ⟨t2, e2⟩ := rv
        show intB x.2.2 q.2 = _
        rw [e1, e2, ei, ej]
        unfold intB
        rw [Bool.eq_iff_iff]
        simp
        exact ⟨fun z => z.symm, fun z => z.symm⟩
def rEqDT : R2 := fun x y H Q => ∃ a b ks ls, x = .ref a ∧ y = .ref b ∧ H a = some (.dT ks) ∧ H b = some (.dT ls) ∧ IntVals ks ∧ IntVals ls ∧ Q (.bl (eqT ks ls)) H
def rNeDT : R2 := fun x y H Q => ∃ a b ks ls, x = .ref a ∧ y = .ref b ∧ H a = some (.dT ks) ∧ H b = some (.dT ls) ∧ IntVals ks ∧ IntVals ls ∧ Q (.bl (!eqT ks ls)) H
section
variable {X : Cx}
theorem eq_ints {A : Around} {s : Shared} {H : Hp} {ks ls : List (List Key × V)} {xs ys : List (List Key × Addr × Value)} (ra : KT H ks xs) (rb : KT H ls ys) (hi : IntVals ks) (hj : IntVals ls) :
    ∀ x ∈ xs, ∀ q, atKey ys x.1 = some q → ∀ (R : Bool → Shared → Prop) (F : Value → Shared → Prop), R (intB x.2.2 q.2) s → wpAny (model X.prog X.w) A (eqBool x.2.2 q.2) R F s := by
  intro x hx q hq R F hR
  obtain ⟨i, t, e1⟩ := kt_int ra hi x hx
  obtain ⟨j, u, e2⟩ := kt_int rb hj (x.1, q) (atKey_mem hq)
  have e2 : q.2 = Value.int j u := e2
  rw [e1, e2] at hR ⊢
  exact SeqAt.EqAt.int_int i t j u _ _ _ _ (by unfold intB at hR; exact hR)
theorem op_eqDT (hu : X.A.units + 1 < cLine) : OpR X (compareOp .Eq) rEqDT := by
  intro pins s σ H x y v u Q I rx ry h
  obtain ⟨a, b, ks, ls, rfl, rfl, ea, eb, hi, hj, q⟩ := h
  obtain rfl : v = Value.ref a := rx
  obtain rfl : u = Value.ref b := ry
  obtain ⟨_, ya, xs, ra, da⟩ := dt_of I.hok ea
  obtain ⟨_, yb, ys, rb, db⟩ := dt_of I.hok eb
  refine eqH (eqb := intB) ya yb da db (by omega) (tupleKind_room_in1 hu) (eq_ints ra rb hi hj) (fin_bl I q ?_)
  unfold eqT
  rw [all_hits rb ra hi hj, Paired.length ra, Paired.length rb]
theorem op_neDT (hu : X.A.units + 1 < cLine) : OpR X (compareOp .NotEq) rNeDT := by
  intro pins s σ H x y v u Q I rx ry h
  obtain ⟨a, b, ks, ls, rfl, rfl, ea, eb, hi, hj, q⟩ := h
  obtain rfl : v = Value.ref a := rx
  obtain rfl : u = Value.ref b := ry
  obtain ⟨_, ya, xs, ra, da⟩ := dt_of I.hok ea
  obtain ⟨_, yb, ys, rb, db⟩ := dt_of I.hok eb
  refine neH (eqb := intB) ya yb da db (by omega) (tupleKind_room_in1 hu) (eq_ints ra rb hi hj) (fin_bl I q ?_)
  unfold eqT
  rw [all_hits rb ra hi hj, Paired.length ra, Paired.length rb]
end
theorem paired_of {α β : Type} {R : α → β → Prop} : ∀ {l : List α} {m : List β}, l.length = m.length → (∀ (j : Nat) a b, l[j]? = some a → m[j]? = some b → R a b) → Paired R l m
  | [], [], _, _ => .nil
  | [], _ :: _, h, _ => by cases h
  | _ :: _, [], h, _ => by cases h
  | a :: l, b :: m, h, k => .cons (k 0 a b rfl rfl) (paired_of (Nat.succ.inj h) fun j x y e1 e2 => k (j + 1) x y e1 e2)
def PairsOf (H : Hp) (ts : List Addr) (kvs : List (List Key × V)) : Prop := Paired (fun (t : Addr) (p : List Key × V) => ∃ q, H t = some (.tup [.ref q, p.2]) ∧ H q = some (.tup (p.1.map kV))) ts kvs
section
variable {X : Cx}
theorem take_all {pins : List (Addr × Obj)} {σ : L2.St} {H0 : Hp} {s : Shared} {h' : Heap} {tk : Nat} {P : Addr → List V → Prop} (I0 : Inv X pins σ H0 s) (L : List Addr) : ∀ H1 : Hp, Inv X pins σ H1 { s with heap := h', toks := tk } → L.Nodup →
    (∀ a ∈ L, s.heap.objs.size ≤ a ∧ H1 a = none ∧ ∃ vs, P a vs ∧ ∀ H2, ObjOk X.prog X.w H2 h' a (.tup vs)) →
    ∃ H2, Inv X pins σ H2 { s with heap := h', toks := tk } ∧ (∀ b o, H1 b = some o → H2 b = some o) ∧ (∀ a ∈ L, ∃ vs, P a vs ∧ H2 a = some (.tup vs)) ∧ ∀ b, b ∉ L → H2 b = H1 b := by
  induction L with
  | nil => exact fun H1 I1 _ _ => ⟨H1, I1, fun _ _ e => e, (fun _ h => nomatch h), fun _ _ => rfl⟩
  | cons a L ih =>
    intro H1 I1 hn h
    obtain ⟨hb, hnone, vs, hP, ok⟩ := h a List.mem_cons_self
    obtain ⟨na, nd⟩ := List.nodup_cons.mp hn
    have J := I1.take (h' := h') (t' := tk) (fun b ob _ e => e) (I0.fpOk hb hnone) (ok _)
    obtain ⟨H2, I3, g, q, off⟩ := ih _ J nd fun c hc => by
      obtain ⟨c1, c2, c3⟩ := h c (List.mem_cons_of_mem _ hc)
      exact ⟨c1, by rw [upd_ne fun z => na (by rw [← z]; exact hc)]; exact c2, c3⟩
    refine ⟨H2, I3, fun b o e => g b o (by rw [upd_ne (ne_of_none e hnone)]; exact e), fun c hc => ?_, fun b hb' => ?_⟩
    · rcases List.mem_cons.mp hc with rfl | hc
      · exact ⟨vs, hP, g _ _ upd_same⟩
      · exact q c hc
    · rw [off b fun z => hb' (List.mem_cons_of_mem _ z), upd_ne fun z => hb' (by rw [z]; exact List.mem_cons_self)]
theorem made_tracked {pins : List (Addr × Obj)} {σ : L2.St} {H H1 : Hp} {s : Shared} {h' : Heap} {tk : Nat} {kvs : List (List Key × V)} {xs : List (List Key × Addr × Value)} {es : Array DictEntry} {as : List Addr} (I : Inv X pins σ H s)
    (rel : KT H kvs xs) (hes : es.toList = xs.map (entryOfKey (tupleKind (mixKind X.prog X.w)))) (hl : as.length = es.size) (hG : DT.Made es s.heap.objs.size h' as)
    (I1 : Inv X pins σ H1 { s with heap := h', toks := tk }) (g1 : ∀ b o, H b = some o → H1 b = some o) (hn : ∀ b ∈ as, H1 b = none) :
    ∃ H2, Inv X pins σ H2 { s with heap := h', toks := tk } ∧ (∀ b o, H1 b = some o → H2 b = some o) ∧ PairsOf H2 as kvs ∧ ∀ b, b ∉ as → H2 b = H1 b := by
  have l1 : kvs.length = xs.length := Paired.length rel
  have l2 : es.size = xs.length := size_of_entries hes
  have nd : as.Nodup := List.Pairwise.imp (fun h => Nat.ne_of_lt h) hG.rise
  have pr : ∀ (j : Nat) (b : Addr), as[j]? = some b → ∃ (p : List Key × V) (q : Addr) (u : Value), kvs[j]? = some p ∧ H q = some (.tup (p.1.map kV)) ∧ RelV p.2 u ∧ h'.get? b = some { cls := .type "tuple", data := .seq #[Value.ref q, u] } := by
    intro j b hj
    obtain ⟨en, he, hg⟩ := hG.pairs j b hj
    rw [entry_at hes j] at he
    cases hxj : xs[j]? with
    | none =>
      rw [hxj] at he
      exact nomatch (show (none : Option DictEntry) = some en from he)
    | some x =>
      rw [hxj] at he
      have een : entryOfKey (tupleKind (mixKind X.prog X.w)) x = en := Option.some.inj he
      obtain ⟨e0, he0, r1, r2, r3⟩ := L2.DX.pget rel hxj
      exact ⟨e0, x.2.1, x.2.2, he0, r2, r3, by rw [hg, ← een]; rfl⟩
  obtain ⟨H2, I2, g, qt, off⟩ := take_all (P := fun b vs => ∃ (j : Nat) (p : List Key × V) (q : Addr), as[j]? = some b ∧ kvs[j]? = some p ∧ vs = [.ref q, p.2] ∧ H q = some (.tup (p.1.map kV))) I as H1 I1 nd fun b hb => by
    obtain ⟨j, hj⟩ := List.mem_iff_getElem?.mp hb
    obtain ⟨p, q, u, hp, hq, ru, hg⟩ := pr j b hj
    exact ⟨Nat.le_of_lt (hG.above b hb), hn b hb, [.ref q, p.2], ⟨j, p, q, hj, hp, rfl, hq⟩, fun H3 => ⟨(by rw [sizeLine_eq]; show 2 ≤ 16777216; omega), [Value.ref q, u], .cons rfl (.cons ru .nil), ⟨_, hg, rfl, 0, rfl⟩⟩⟩
  refine ⟨H2, I2, g, paired_of (by omega) fun j b p hj hp => ?_, off⟩
  obtain ⟨vs, ⟨i, p', q, i1, i2, ev, hq⟩, hH⟩ := qt b (List.mem_of_getElem? hj)
  have eij : j = i := (List.getElem?_inj (List.getElem?_eq_some_iff.mp hj).1 nd).mp (hj.trans i1.symm)
  subst eij
  have ep : p' = p := Option.some.inj (i2.symm.trans hp)
  rw [ev, ep] at hH
  rw [ep] at hq
  exact ⟨q, hH, g _ _ (g1 _ _ hq)⟩
theorem vals_refs : ∀ as : List Addr, Vals (as.map V.ref) (as.map Value.ref)
  | [] => .nil
  | _ :: as => .cons rfl (vals_refs as)
end
section
variable {prog : Program} {w : World} {A : Around} {E : Value → Shared → Prop} {s : Shared} {r d : Addr} {es : Array DictEntry} {ep : Nat}
theorem initI {R : Result → Shared → Prop} (hh : A.handled = none) (hv : s.heap.IsItemsView r d) (hm : DT.Raw s.heap d es ep) (S : Addr) (hSr : S ≠ r) (hSd : d ≠ S) (hS : s.heap.get? S = some { cls := .type "list", data := .seq #[] })
    (hR : ∀ h' tk acc c as, (∀ b o, b ≠ S → s.heap.get? b = some o → h'.get? b = some o) → h'.get? S = some { cls := .type "list", dict := none, data := .seq acc c, slots := #[] } → as.length = es.size → DT.Made es S h' as →
      acc.toList = as.map Value.ref → R (.ok (.ret .none)) { s with heap := h', toks := tk }) (hn : es.size ≤ sizeLine) :
    wpAny (model prog w) A.in1 (Builtin.«list.__init__» ⟨[.ref S, .ref r], []⟩)
      (fun fin s' => match fin with | .done f => R (.ok f) s' | .again c' => c'.quiet = true ∧ codeAny (model prog w) A c' R s') (fun e s' => R (.error e) s') s := by
  show wpAny _ _ (do let old ← Builtin.List.listItems (.ref S); Builtin.List.listUpdate (.ref S) (fun _ => #[]); letGo old.toList.reverse; Builtin.List.listExtendWith (.ref S) (.ref r) .none) _ _ s
  refine wpAny_bind ?_
  unfold Builtin.List.listItems
  refine wpAny_bind (wpAny_seqItems hS rfl (wpAny_pure ?_))
  show wpAny _ _ (updateSeq S (fun _ => #[]) >>= fun _ => letGo (#[] : Array Value).toList.reverse >>= fun _ => Builtin.List.listExtendWith (.ref S) (.ref r) .none) _ _ s
  refine wpAny_bind (wpAny_updateSeq hS rfl ?_)
  have hS₂ := Heap.get?_update_self (Obj.mapSeq (fun _ => (#[] : Array Value))) hS rfl
  have oth : ∀ b o, b ≠ S → s.heap.get? b = some o → (s.heap.update S (Obj.mapSeq (fun _ => (#[] : Array Value)))).get? b = some o :=
    fun b o hb e => (Heap.get?_update_other _ _ (Ne.symm hb)).trans e
  refine wpAny_bind (wpAny_letGo ?_)
  refine DT.extI (es := es) (ep := ep) hh (let ⟨o, ho, x⟩ := hv; ⟨o, oth r o hSr.symm ho, x⟩) (hm.at' fun o e => oth d o hSd e) S hSr hSd .none _ hS₂ (fun h' tk acc c as hk hS' hl hG hacc => ?_) hn
  exact hR h' tk acc c as (fun b o hb e => hk b o hb (oth b o hb e)) hS' hl (hG.low (Nat.le_of_lt (Heap.lt_size hS₂))) hacc
theorem listCallI {Q : Value → Shared → Prop} (hh : A.handled = none) (hv : s.heap.IsItemsView r d) (hm : DT.Raw s.heap d es ep) (hn : es.size ≤ sizeLine)
    (hQ : ∀ h' tk acc c as, (∀ b o, s.heap.get? b = some o → h'.get? b = some o) → h'.get? s.heap.objs.size = some { cls := .type "list", dict := none, data := .seq acc c, slots := #[] } → as.length = es.size → DT.Made es s.heap.objs.size h' as →
      acc.toList = as.map Value.ref → Q (.ref s.heap.objs.size) { s with heap := h', toks := tk }) :
    wpAny (model prog w) A (call (.type "list") [.ref r]) Q E s := by
  refine callType_codes (Q₁ := fun obj s₁ => obj = .ref s.heap.objs.size ∧ s₁ = { s with heap := s.heap.push { cls := .type "list", data := .seq #[] } }) PySem.F.called_list (PySem.F.typeCall_list_1 _) PySem.F.entry_list_init
    (code_list_new _ ⟨rfl, rfl⟩) fun obj s₁ h₁ => ?_
  obtain ⟨rfl, rfl⟩ := h₁
  have hS : (s.heap.push { cls := .type "list", data := .seq #[] }).get? s.heap.objs.size = some { cls := .type "list", data := .seq #[] } := Heap.get?_push_size _ rfl
  have hr : r < s.heap.objs.size := let ⟨_, ho, _⟩ := hv; Heap.lt_size ho
  have hd : d < s.heap.objs.size := hm.lt
  refine ⟨⟨_, hS, rfl⟩, PySem.F.args_list_init_2 _ _, initI (es := es) (ep := ep) (A := A.in1) hh (let ⟨o, ho, x⟩ := hv; ⟨o, Heap.get?_push_of_some _ ho, x⟩) (hm.push _) _ (Nat.ne_of_gt hr) (Nat.ne_of_lt hd) hS (fun h' tk acc c as hk hS' hl hG hacc => ?_) hn⟩
  exact ⟨rfl, hQ h' tk acc c as (fun b o e => hk b o (Nat.ne_of_lt (Heap.lt_size e)) (Heap.get?_push_of_some _ e)) hS' hl hG hacc⟩
end
def rListItT : List V → Hp → VK → Prop := fun vs H Q => ∃ (p a : Addr) (kvs : List (List Key × V)), vs = [.ref p] ∧ H p = some (L2.DX.itemsO p a) ∧ H a = some (.dT kvs) ∧
  ∀ (H' : Hp) (l : Addr) (ts : List Addr), (∀ b o, H b = some o → H' b = some o) → H l = none → H' l = some (.lst (ts.map V.ref)) → PairsOf H' ts kvs → Q (.ref l) H'
section
variable {X : Cx}
theorem cr_listItT (hc : X.calm = true) : CallR X (.type "list") rListItT := by
  intro pins s σ H xs us Q I r h
  obtain ⟨p, a, kvs, rfl, hp, ha, q⟩ := h
  obtain rfl := Vals.ref1 r
  have view : s.heap.IsItemsView p a := (show ObjOk X.prog X.w H s.heap p (L2.DX.itemsO p a) from I.hok p _ hp).1
  obtain ⟨z, hd, xs', rel, o, es, ep, ho, hx, hdat, hes, his, hn⟩ := dt_of I.hok ha
  have l1 : kvs.length = xs'.length := Paired.length rel
  have l2 : es.size = xs'.length := size_of_entries hes
  refine listCallI (es := es) (ep := ep) (I.ok.hd hc) view ⟨o, ho, hx, hdat⟩ (by omega) fun h' tk acc c as hk hS hl hG hacc => ?_
  have newS : H s.heap.objs.size = none := I.hok.fresh (Nat.le_refl _)
  have nS : ∀ b ∈ as, b ≠ s.heap.objs.size := fun b hb => Nat.ne_of_gt (hG.above b hb)
  have I1 : Inv X pins σ (upd H s.heap.objs.size (.lst (as.map V.ref))) { s with heap := h', toks := tk } :=
    I.laid (t' := tk) hk (Nat.le_refl _) ⟨by rw [List.length_map]; omega, acc.toList, c, by rw [hacc]; exact vals_refs as, by rw [Array.toArray_toList]; exact hS⟩
  obtain ⟨H2, I2, g, pp, _⟩ := made_tracked (h' := h') (tk := tk) I rel hes hl hG I1 (fun b o e => by rw [upd_ne (ne_of_none e newS)]; exact e) fun b hb => by
    rw [upd_ne (nS b hb)]
    exact I.hok.fresh (Nat.le_of_lt (hG.above b hb))
  exact ⟨.ref _, H2, I2, rfl, q H2 _ as (fun b o e => g b o (by rw [upd_ne (ne_of_none e newS)]; exact e)) newS (g _ _ upd_same) pp⟩
end
end KB
set_option Elab.async false
set_option linter.all false
set_option maxRecDepth 100000
set_option maxHeartbeats 4000000
namespace PySem.SeqAt
open AutoSeq1 (wpAny_loadPart')
open MeetsSeq MeetsSeq2 MeetsSeq3 SeqRoads2
theorem kc_tuple_lt (l b : Addr) (items items2 : Array Value) (n n2 : Nat) (dd dd2 : Option Addr) (sl sl2 : Array (Option Value)) (e r : Nat → Bool) :
    Meets (Builtin.«tuple.__lt__» ⟨[.ref l, .ref b], []⟩)
      (fun A R s => s.heap.get? l = some { cls := .type "tuple", dict := dd, data := .seq items n, slots := sl } ∧ s.heap.get? b = some { cls := .type "tuple", dict := dd2, data := .seq items2 n2, slots := sl2 } ∧
        (∀ j (h1 : j < items.size) (h2 : j < items2.size), EqAt A.in1 s items[j] items2[j] (e j)) ∧ (∀ j (h1 : j < items.size) (h2 : j < items2.size), (∀ i, i < j → e i = true) → e j = false → RcLt A.in1 s items[j] items2[j] (r j)) ∧
        R (.ok (.ret (.bool (firstLt e r (decide (items.size < items2.size)) (List.range (min items.size items2.size)))))) s) :=
  .of_wp fun prog w A R s h => by
    obtain ⟨hp, g, d, tk, os⟩ := s; obtain ⟨hl, hb, he, hr, h⟩ := h
    have f2 := AutoSeq1.sub_tuple_tuple
    have hZ : (items.toList.zip items2.toList).length = min items.size items2.size := by simp
    wp_walk using wpAny_loadPart' hl, wpAny_loadPart' hb, wpAny_forIn_list _ (fun rest b s' => b.1 = none ∧ s' = ⟨hp, g, d, tk, os⟩ ∧ ∃ i, rest = (items.toList.zip items2.toList).drop i ∧ (∀ m, m < i → e m = true) ∧
      R (.ok (.ret (.bool (firstLt e r (decide (items.size < items2.size)) ((List.range (min items.size items2.size)).drop i))))) ⟨hp, g, d, tk, os⟩) _
    case turn =>
      rintro ⟨y, x⟩ rest b s' ⟨hb', rfl, i, hz, hpre, hR⟩
      have hlt : i < (items.toList.zip items2.toList).length := by
        rcases Nat.lt_or_ge i (items.toList.zip items2.toList).length with h' | h'
        · exact h'
        · rw [List.drop_of_length_le h'] at hz; cases hz
      have hm : i < min items.size items2.size := hZ ▸ hlt
      have h1 : i < items.size := Nat.lt_of_lt_of_le hm (Nat.min_le_left _ _)
      have h2 : i < items2.size := Nat.lt_of_lt_of_le hm (Nat.min_le_right _ _)
      rw [List.drop_eq_getElem_cons hlt] at hz
      injection hz with hyx hrest
      have hy : y = items[i] := by have := congrArg Prod.fst hyx; simpa using this
      have hx : x = items2[i] := by have := congrArg Prod.snd hyx; simpa using this
      subst hy hx
      have hd : (List.range (min items.size items2.size)).drop i = i :: (List.range (min items.size items2.size)).drop (i + 1) := by simp [List.drop_eq_getElem_cons, hm]
      rw [hd] at hR
      refine wpAny_bind (he i h1 h2 prog w _ _ ?_)
      cases hy : e i with
      | true =>
        rw [firstLt_yes hy] at hR
        wp_walk
        refine ⟨rfl, rfl, i + 1, hrest, fun m hm => ?_, hR⟩
        rcases Nat.lt_or_ge m i with z | z
        · exact hpre m z
        · have : m = i := by omega
          rw [this]; exact hy
      | false =>
        rw [firstLt_no hy] at hR
        rw [if_pos (by rfl)]
        show wpAny _ _ (do rule "tuple.compare.by-the-first-pair-that-differs"; let v ← richCompare CmpOp.Lt items[i] items2[i]; let v' ← ret v; pure (ForInStep.done (some v', ()))) _ _ _
        refine wpAny_bind (wpAny_rule ?_)
        refine wpAny_bind (hr i h1 h2 hpre hy prog w _ _ ?_)
        wp_walk
        exact ⟨_, rfl, hR⟩
    case fin =>
      rintro ⟨b1, b2⟩ s' ⟨hb', rfl, i, hz, hpre, hR⟩
      simp only at hb'
      subst hb'
      have hge : min items.size items2.size ≤ i := by
        rcases Nat.lt_or_ge i (items.toList.zip items2.toList).length with h' | h'
        · rw [List.drop_eq_getElem_cons h'] at hz; cases hz
        · exact hZ ▸ h'
      rw [List.drop_of_length_le (by simpa using hge)] at hR
      wp_walk
      exact ⟨_, rfl, by simpa [Builtin.Tuple.tupleCompareSizes, firstLt] using hR⟩
    case h =>
      exact ⟨rfl, rfl, 0, rfl, fun m hm => absurd hm (Nat.not_lt_zero _), by simpa using h⟩
section
variable {A : Around} {s : Shared}
theorem RcLt.tuplesF {l b : Addr} {items items2 : Array Value} {e r : Nat → Bool} (hl : s.heap.IsTuple l items) (hb : s.heap.IsTuple b items2) (hu : A.units < cLine)
    (he : ∀ j (h1 : j < items.size) (h2 : j < items2.size), EqAt A.in1 s items[j] items2[j] (e j)) (hr : ∀ j (h1 : j < items.size) (h2 : j < items2.size), (∀ i, i < j → e i = true) → e j = false → RcLt A.in1 s items[j] items2[j] (r j)) :
    RcLt A s (.ref l) (.ref b) (firstLt e r (decide (items.size < items2.size)) (List.range (min items.size items2.size))) := fun prog w E Q h => by
  obtain ⟨⟨cls, dd, data, sl⟩, ho, hc, n, hd⟩ := id hl
  obtain ⟨⟨cls2, dd2, data2, sl2⟩, ho2, hc2, n2, hd2⟩ := id hb
  simp only at hc hd hc2 hd2
  subst hc hd hc2 hd2
  exact richCompare_meets_room (op := .Lt) ⟨_, ho, rfl⟩ ⟨_, ho2, rfl⟩ F.slot_tuple_lt F.entry_tuple_lt (F.args_tuple_lt_2 _ _) (kc_tuple_lt l b items items2 n n2 dd dd2 sl sl2 e r)
    ⟨ho, ho2, he, hr, show Value.bool (firstLt e r (decide (items.size < items2.size)) (List.range (min items.size items2.size))) ≠ Value.notImplemented ∧ Q (.bool (firstLt e r (decide (items.size < items2.size)) (List.range (min items.size items2.size)))) s from ⟨(fun x => nomatch x), h⟩⟩ hu
end
end PySem.SeqAt
namespace KC
open PySem PySem.Spec PyProof.Rows L2 KB PySem.SeqAt
mutual
def ltD : PyData → PyData → Bool
  | .int i, .int j => decide (i < j)
  | .str x, .str y => decide (x.cps.toList < y.cps.toList)
  | .tuple xs, .tuple ys => ltL xs ys
  | _, _ => false
def ltL : List PyData → List PyData → Bool
  | [], [] => false
  | [], _ :: _ => true
  | _ :: _, [] => false
  | x :: xs, y :: ys => if PyData.eqv x y = true then ltL xs ys else ltD x y
end
mutual
def okD : PyData → PyData → Bool
  | .int _, .int _ => true
  | .str _, .str _ => true
  | .tuple xs, .tuple ys => okL xs ys
  | _, _ => false
def okL : List PyData → List PyData → Bool
  | [], _ => true
  | _ :: _, [] => true
  | x :: xs, y :: ys => if PyData.eqv x y = true then okL xs ys else okD x y
end
theorem firstLt_shift {e r : Nat → Bool} {fin : Bool} : ∀ l : List Nat, firstLt e r fin (l.map (· + 1)) = firstLt (fun j => e (j + 1)) (fun j => r (j + 1)) fin l
  | [] => rfl
  | j :: l => by
    show (if e (j + 1) = true then firstLt e r fin (l.map (· + 1)) else r (j + 1)) = _
    rw [firstLt_shift l]
    rfl
theorem ltL_first : ∀ (xs ys : List PyData) (e r : Nat → Bool), (∀ j x y, xs[j]? = some x → ys[j]? = some y → e j = PyData.eqv x y ∧ r j = ltD x y) →
    firstLt e r (decide (xs.length < ys.length)) (List.range (min xs.length ys.length)) = ltL xs ys
  | [], [], _, _, _ => by unfold ltL; rfl
  | [], _ :: _, _, _, _ => by
    unfold ltL
    simp [firstLt]
  | _ :: _, [], _, _, _ => by
    unfold ltL
    simp [firstLt]
  | x :: xs, y :: ys, e, r, h => by
    have h0 := h 0 x y rfl rfl
    have e1 : min (x :: xs).length (y :: ys).length = min xs.length ys.length + 1 := by simp only [List.length_cons]; omega
    rw [e1, List.range_succ_eq_map]
    have e2 : decide ((x :: xs).length < (y :: ys).length) = decide (xs.length < ys.length) := by simp
    rw [e2]
    unfold ltL
    show (if e 0 = true then firstLt e r _ (List.map Nat.succ _) else r 0) = _
    rw [h0.1, h0.2]
    by_cases q : PyData.eqv x y = true
    · rw [if_pos q, if_pos q]
      rw [show (List.map Nat.succ (List.range (min xs.length ys.length))) = (List.range (min xs.length ys.length)).map (· + 1) from rfl, firstLt_shift]
      exact ltL_first xs ys _ _ fun j a b ha hb => h (j + 1) a b ha hb
    · rw [if_neg q, if_neg q]
end KC
namespace KC
open PySem PySem.Spec PyProof.Rows L2 KB PySem.SeqAt
theorem lt_str_b {prog : Program} {w : World} {A : Around} {E : Value → Shared → Prop} {s : Shared} {x y : Str} {t u : Tok} {Q : Value → Shared → Prop} (h : Q (.bool (decide (x.cps.toList < y.cps.toList))) s) :
    wpAny (model prog w) A (richCompare .Lt (.str x t) (.str y u)) Q E s := DT.rcLt_str A s x t y u prog w E Q h
mutual
theorem rcLt_data : ∀ (da db : PyData) (A : Around) (s : Shared) (a b : Value) (as bs : List Addr), Reads s.heap a da as → Reads s.heap b db bs → da.canLay0 = true → db.canLay0 = true → okD da db = true →
    A.units + min da.depth db.depth < cLine → RcLt A s a b (ltD da db)
  | .int x, .int y, A, s, _, _, _, _, ra, rb, _, _, _, hu => by
    cases ra; cases rb
    intro prog w E Q h
    exact PyProof.Rows.lt_int (by unfold ltD at h; exact h)
  | .str x, .str y, A, s, _, _, _, _, ra, rb, _, _, _, hu => by
    cases ra; cases rb
    intro prog w E Q h
    exact lt_str_b (by unfold ltD at h; exact h)
  | .tuple xs, .tuple ys, A, s, _, _, _, _, ra, rb, ha, hb, hok, hu => by
    cases ra with
    | @tuple l o vs n _ as₁ h1 h2 h3 h4 =>
      cases rb with
      | @tuple l' o' vs' n' _ bs₁ k1 k2 k3 k4 =>
        have hl : s.heap.IsTuple l vs := ⟨_, h1, h2, _, h3⟩
        have hl' : s.heap.IsTuple l' vs' := ⟨_, k1, k2, _, k3⟩
        have n1 : vs.size = xs.length := by simpa using ReadsAll.length _ _ _ h4
        have n2 : vs'.size = ys.length := by simpa using ReadsAll.length _ _ _ k4
        have hok' : okL xs ys = true := by unfold okD at hok; exact hok
        have e : ltD (.tuple xs) (.tuple ys) = firstLt (pairEq xs ys) (fun j => ltD (xs.getD j .none) (ys.getD j .none)) (decide (vs.size < vs'.size)) (List.range (min vs.size vs'.size)) := by
          rw [n1, n2, ltL_first xs ys]
          · unfold ltD; rfl
          · intro j x y hx hy
            simp [pairEq, List.getD, hx, hy]
        rw [e]
        refine RcLt.tuplesF hl hl' (room_here hu) (fun j j1 j2 => ?_) (fun j j1 j2 hp hf => ?_)
        · have := eqAt_readsAll xs ys A.in1 s vs.toList vs'.toList _ _ h4 k4 ha hb (room_in hu) j (by simpa using j1) (by simpa using j2)
          simpa using this
        · have := rcLt_all xs ys A.in1 s vs.toList vs'.toList _ _ h4 k4 ha hb hok' (room_in hu) j (by simpa using j1) (by simpa using j2) hp hf
          simpa using this
  | .none, _, _, _, _, _, _, _, _, _, _, _, hok, _ => by unfold okD at hok; cases hok
  | .bool _, _, _, _, _, _, _, _, _, _, _, _, hok, _ => by unfold okD at hok; cases hok
  | .list _, _, _, _, _, _, _, _, _, _, _, _, hok, _ => by unfold okD at hok; cases hok
  | .dict _, _, _, _, _, _, _, _, _, _, _, _, hok, _ => by unfold okD at hok; cases hok
  | .int _, .none, _, _, _, _, _, _, _, _, _, _, hok, _ => by unfold okD at hok; cases hok
  | .int _, .bool _, _, _, _, _, _, _, _, _, _, _, hok, _ => by unfold okD at hok; cases hok
  | .int _, .str _, _, _, _, _, _, _, _, _, _, _, hok, _ => by unfold okD at hok; cases hok
  | .int _, .list _, _, _, _, _, _, _, _, _, _, _, hok, _ => by unfold okD at hok; cases hok
  | .int _, .tuple _, _, _, _, _, _, _, _, _, _, _, hok, _ => by unfold okD at hok; cases hok
  | .int _, .dict _, _, _, _, _, _, _, _, _, _, _, hok, _ => by unfold okD at hok; cases hok
  | .str _, .none, _, _, _, _, _, _, _, _, _, _, hok, _ => by unfold okD at hok; cases hok
  | .str _, .bool _, _, _, _, _, _, _, _, _, _, _, hok, _ => by unfold okD at hok; cases hok
  | .str _, .int _, _, _, _, _, _, _, _, _, _, _, hok, _ => by unfold okD at hok; cases hok
  | .str _, .list _, _, _, _, _, _, _, _, _, _, _, hok, _ => by unfold okD at hok; cases hok
  | .str _, .tuple _, _, _, _, _, _, _, _, _, _, _, hok, _ => by unfold okD at hok; cases hok
  | .str _, .dict _, _, _, _, _, _, _, _, _, _, _, hok, _ => by unfold okD at hok; cases hok
  | .tuple _, .none, _, _, _, _, _, _, _, _, _, _, hok, _ => by unfold okD at hok; cases hok
  | .tuple _, .bool _, _, _, _, _, _, _, _, _, _, _, hok, _ => by unfold okD at hok; cases hok
  | .tuple _, .int _, _, _, _, _, _, _, _, _, _, _, hok, _ => by unfold okD at hok; cases hok
  | .tuple _, .str _, _, _, _, _, _, _, _, _, _, _, hok, _ => by unfold okD at hok; cases hok
  | .tuple _, .list _, _, _, _, _, _, _, _, _, _, _, hok, _ => by unfold okD at hok; cases hok
  | .tuple _, .dict _, _, _, _, _, _, _, _, _, _, _, hok, _ => by unfold okD at hok; cases hok
theorem rcLt_all : ∀ (xs ys : List PyData) (A : Around) (s : Shared) (vs ws : List Value) (as bs : List Addr), ReadsAll s.heap vs xs as → ReadsAll s.heap ws ys bs → PyData.canLayAll0 xs = true → PyData.canLayAll0 ys = true → okL xs ys = true →
    A.units + min (PyData.depthAll xs) (PyData.depthAll ys) < cLine → ∀ j (h1 : j < vs.length) (h2 : j < ws.length), (∀ i, i < j → pairEq xs ys i = true) → pairEq xs ys j = false → RcLt A s vs[j] ws[j] (ltD (xs.getD j .none) (ys.getD j .none))
  | [], _, _, _, _, _, _, _, ra, _, _, _, _, _, j, h1, _, _, _ => by cases ra; exact absurd h1 (Nat.not_lt_zero _)
  | _ :: _, [], _, _, _, _, _, _, _, rb, _, _, _, _, j, _, h2, _, _ => by cases rb; exact absurd h2 (Nat.not_lt_zero _)
  | x :: xs, y :: ys, A, s, _, _, _, _, ra, rb, ha, hb, hok, hu, j, h1, h2, hp, hf => by
    have ha' : x.canLay0 = true ∧ PyData.canLayAll0 xs = true := by simpa [PyData.canLayAll0] using ha
    have hb' : y.canLay0 = true ∧ PyData.canLayAll0 ys = true := by simpa [PyData.canLayAll0] using hb
    unfold okL at hok
    cases ra with
    | cons r rs =>
      cases rb with
      | cons r' rs' =>
        cases j with
        | zero =>
          have e0 : PyData.eqv x y = false := hf
          rw [if_neg (by rw [e0]; exact Bool.false_ne_true)] at hok
          exact rcLt_data x y A s _ _ _ _ r r' ha'.1 hb'.1 hok (room_head hu)
        | succ j =>
          have e0 : PyData.eqv x y = true := hp 0 (Nat.succ_pos _)
          rw [if_pos e0] at hok
          exact rcLt_all xs ys A s _ _ _ _ rs rs' ha'.2 hb'.2 hok (room_tail hu) j (Nat.lt_of_succ_lt_succ h1) (Nat.lt_of_succ_lt_succ h2) (fun i hi => hp (i + 1) (Nat.succ_lt_succ hi)) hf
end
def rLtD (K : PySem.W.Frag) : R2 := fun x y H Q => ∃ d e, Dp K H x d ∧ Dp K H y e ∧ shaped d = true ∧ shaped e = true ∧ okD d e = true ∧ Q (.bl (ltD d e)) H
theorem op_ltD {X : Cx} (hu : X.A.units + 64 < cLine) : OpR X (compareOp .Lt) (rLtD X.K) := by
  intro pins s σ H x y v u Q I rx ry h
  obtain ⟨d, e, hd, he, sd, se, hok, q⟩ := h
  obtain ⟨as, r1⟩ := Dp.reads I d x v hd rx
  obtain ⟨bs, r2⟩ := Dp.reads I e y u he ry
  exact rcLt_data d e X.A s v u as bs r1 r2 (canLay_of_shaped sd) (canLay_of_shaped se) hok (room_of_shaped sd hu) X.prog X.w X.xe _ ⟨.bl _, H, I, rfl, q⟩
theorem keyLt_data {prog : Program} {w : World} {A : Around} {E : Value → Shared → Prop} {s : Shared} {xs ys : List PyData} {u v : Value} {as bs : List Addr} {Q : Bool → Shared → Prop} (ra : Reads s.heap u (.tuple xs) as) (rb : Reads s.heap v (.tuple ys) bs)
    (ha : (PyData.tuple xs).canLay0 = true) (hb : (PyData.tuple ys).canLay0 = true) (hok : okL xs ys = true) (hu : A.units + min (PyData.tuple xs).depth (PyData.tuple ys).depth < cLine) (h : Q (ltL xs ys) s) :
    wpAny (model prog w) A (keyLt' (tuples' false) u v) Q E s := by
  cases ra with
  | @tuple l o vs n _ as₁ h1 h2 h3 h4 =>
    cases rb with
    | @tuple l' o' vs' n' _ bs₁ k1 k2 k3 k4 =>
      refine PySem.W.kat_lt h1 h3 k1 k3 ?_
      have n1 : vs.size = xs.length := by simpa using ReadsAll.length _ _ _ h4
      have n2 : vs'.size = ys.length := by simpa using ReadsAll.length _ _ _ k4
      rw [n1, n2]
      have hu0 : A.units + min (PyData.depthAll xs) (PyData.depthAll ys) < cLine := by
        have q := room_in hu
        omega
      clear h3 k3 n1 n2 h1 k1
      generalize vs.toList = us at h4
      generalize vs'.toList = ws at k4
      have key : ∀ (xs ys : List PyData) (us ws : List Value) (as bs : List Addr) (i : Nat), ReadsAll s.heap us xs as → ReadsAll s.heap ws ys bs → PyData.canLayAll0 xs = true → PyData.canLayAll0 ys = true → okL xs ys = true →
          A.units + min (PyData.depthAll xs) (PyData.depthAll ys) < cLine → Q (ltL xs ys) s → PySem.W.KatLex prog w A false (decide (xs.length < ys.length)) Q (us.zip ws) i s := by
        intro xs
        induction xs with
        | nil =>
          intro ys us ws as bs i ra rb _ _ _ _ hq
          cases ra
          cases ys with
          | nil =>
            cases rb
            exact PySem.W.kat_nil (by unfold ltL at hq; exact hq)
          | cons y ys =>
            cases rb
            exact PySem.W.kat_nil (by unfold ltL at hq; simpa using hq)
        | cons x xs ih =>
          intro ys us ws as bs i ra rb ha hb hok hu hq
          cases ys with
          | nil =>
            cases rb
            cases ra
            exact PySem.W.kat_nil (by unfold ltL at hq; simpa using hq)
          | cons y ys =>
            have ha' : x.canLay0 = true ∧ PyData.canLayAll0 xs = true := by simpa [PyData.canLayAll0] using ha
            have hb' : y.canLay0 = true ∧ PyData.canLayAll0 ys = true := by simpa [PyData.canLayAll0] using hb
            unfold okL at hok
            unfold ltL at hq
            cases ra with
            | cons r rs =>
              cases rb with
              | cons r' rs' =>
                have e1 : decide ((x :: xs).length < (y :: ys).length) = decide (xs.length < ys.length) := by simp
                rw [e1]
                refine PySem.W.kat_cons (eqAt_reads x y A s _ _ _ _ r r' ha'.1 hb'.1 (room_head hu) prog w _ _ ?_)
                refine PySem.W.kat_go (fun e => ?_) (fun e => ?_)
                · rw [if_pos e] at hok hq
                  exact PySem.W.kat_yes (ih ys _ _ _ _ (i + 1) rs rs' ha'.2 hb'.2 hok (room_tail hu) hq)
                · rw [if_neg (by rw [e]; exact Bool.false_ne_true)] at hok hq
                  refine PySem.W.kat_no ?_
                  rw [Bool.false_and]
                  exact PySem.W.kat_one _ _ (rcLt_data x y A s _ _ _ _ r r' ha'.1 hb'.1 hok (room_head hu) prog w _ _ hq)
      exact key xs ys _ _ _ _ 0 h4 k4 ha hb hok hu0 h
end KC
set_option Elab.async false
set_option linter.all false
set_option maxRecDepth 100000
set_option maxHeartbeats 4000000
namespace KD
open PySem PySem.Spec PyProof.Rows L2 KB KC LamX
def LamO (f : Addr) (q : Str) (params : Arguments) (body : Expr) (scope : Scope) (c' : Addr) : HO := .ext fun h => ∃ pm ctv, h.get? f = some (PySem.W.kla_obj "<lambda>" q params body scope [] pm c' ctv)
theorem lam_run {CX : CXT} {P : Program} {w : World} {K : PySem.W.Frag} {mg : Str → Option Value} {base : Heap} {k : Nat} {f c' : Addr} {q : Str} {params : Arguments} {body : Expr} {scope : Scope} {N ps : List Str} (S : FnScope N ps scope)
    {A : Around} {outer : List Env} {s : Shared} {H : Hp} {args : Args} {us : List Value} {vs : List V} {Q : VK} {E : XK} (hr : Room (k + 1) A) (e0 : Env0 P w K mg base A outer s H)
    (hf : H f = some (LamO f q params body scope c')) (hc : H c' = some (CodeO c' q)) (hb : ∀ pm ctv, BindsTo s (PySem.W.kla_fn "<lambda>" q params body scope [] pm (.ref c') ctv) args (ps.zip us)) (r : Vals vs us) (hl : vs.length = ps.length)
    (hbody : Room k (A.deeper (envOfC q scope s.heap.objs.size f (.ref c'))) → ∃ t, PE (cxOf CX P w K mg base N q scope f (.ref c') A outer s H E) body t ∧ t (start N vs) H Q) :
    codeAny (model P w) A (.call (.ref f) args) (CR CX outer P w H s Q E) s := by
  have lim : s.heap.NoLimit := e0.mod.nolimit.keeps fun b o e => (e0.bs b o e).1
  have hkind : ∀ y ∈ ps.zip us, scope.names.lookup y.1 = some .local ∨ (scope.names.lookup y.1 = some .cell ∧ ((cellsFrom (s.heap.objs.size + 1) scope.names []).lookup y.1).isSome = true) := fun ⟨n, v⟩ hy =>
    (S.par n (List.of_mem_zip hy).1).elim .inl fun q => .inr ⟨q, PySem.W.cellsFrom_some _ _ _ (.inl q)⟩
  obtain ⟨⟨pm, ctv, of1⟩, _, _⟩ := e0.hok f _ hf
  obtain ⟨⟨oc, vsc, t, hoc, hdc, hvc⟩, _, _⟩ := e0.hok c' _ hc
  refine PySem.W.kla_callFunE hr.depth of1 rfl S.co S.gen rfl ⟨c', oc, vsc, t, rfl, hoc, hdc, hvc⟩ ?_
  refine hb pm ctv _ _ _ _ ?_
  refine wpAny_newFunctionEnv_cells S.kind hkind fun env he s1 x => ?_
  subst he
  refine ⟨lim.keeps x.toInCall.keep, ?_⟩
  obtain ⟨t, ht, hq⟩ := hbody (hr.deeper _)
  have I : Inv (cxOf CX P w K mg base N q scope f (.ref c') A outer s H E) [] (start N vs) H s1 := inv_start S hr.hd e0 hl r x
  refine PySem.W.kla_codeExpr (wpAny_mono (ht.run [] s1 (start N vs) H Q I hq) (fun v s' hs => ?_) fun e s' hs => hs)
  obtain ⟨v', H', J, rv, q⟩ := hs
  exact ⟨v', H', J.os, J.bare, J.base, J.hok, rv, q⟩
theorem lamO_ok {P : Program} {w : World} {H : Hp} {h : Heap} {f c' : Addr} {q : Str} {params : Arguments} {body : Expr} {scope : Scope} {pm ctv : Value} (e : h.get? f = some (PySem.W.kla_obj "<lambda>" q params body scope [] pm c' ctv)) :
    ObjOk P w H h f (LamO f q params body scope c') := ⟨⟨pm, ctv, e⟩, ⟨_, e⟩, fun h1 h2 ⟨a, b, z⟩ k => ⟨a, b, k _ z⟩⟩
theorem tabs_upd {T : List (Addr × Str)} {H : Hp} {a : Addr} {o : HO} (t : Tabs T H) (n : H a = none) : Tabs T (upd H a o) := t.ext fun b u e => by rw [upd_ne (ne_of_none e n)]; exact e
theorem extN_upd {H : Hp} {a : Addr} {o : HO} (n : H a = none) : ExtN H (upd H a o) := fun b u e _ => by rw [upd_ne (ne_of_none e n)]; exact e
def tLamV (T : List (Addr × Str)) (q : Str) (params : Arguments) (body : Expr) (scope : Scope) : TE := fun _ H Q => Tabs T H ∧ ∀ f c' H1, ExtN H H1 → Tabs T H1 → H1 f = some (LamO f q params body scope c') → H1 c' = some (CodeO c' q) → H f = none → Q (.ref f) H1
section
variable {X : Cx}
theorem pe_lamV {T : List (Addr × Str)} {c P : Addr} {params : Arguments} {body : Expr} {scope : Scope} {pos : Pos} (TB : TabB X.base X.mg c P) (hcode : X.env.code = .ref c) (hm : (P, X.env.qual ++ "<lambda>") ∈ T) (hu : ∀ p ∈ T, p.1 = P → p.2 = X.env.qual ++ "<lambda>")
    (hdef : defaultsOf params X.env = ([], [])) (hfree : ∀ y ∈ scope.names, y.2 ≠ .free) (hclo : cloFrom X.env.cells scope.names [] = []) : PE X (.Lambda params body scope pos) (tLamV T (X.env.qual ++ "<lambda>") params body scope) := by
  refine ⟨fun pins s σ H Q I h => ?_⟩
  obtain ⟨hT, h⟩ := h
  obtain ⟨ps, hP, ht, ha⟩ := hT _ hm
  refine PySem.W.kla_eval hdef ?_
  have bP : s.heap.BuiltinsAt X.mg P := TB.bm.keeps I.bk
  have hP' : s.heap.get? P = some { cls := .none, data := .fields ps } := I.hok P _ hP
  have hcl : closureFor scope X.env = pure [] := by
    have z := closure_ok (env := X.env) (scope := scope) (fun y hy e => absurd e (hfree y hy))
    rw [hclo] at z
    exact z
  have end_ : ∀ (f c' : Addr) (ctv : Value) (H1 : Hp) (h' : Heap) (tk : Nat), Inv X pins σ H1 { s with heap := h', toks := tk } → s.heap.objs.size ≤ h'.objs.size → ExtN H H1 → Tabs T H1 → H1 h'.objs.size = none → H1 c' = some (CodeO c' (X.env.qual ++ "<lambda>")) →
      EP X pins σ Q (.ref h'.objs.size) { s with heap := h'.push (PySem.W.kla_obj "<lambda>" (X.env.qual ++ "<lambda>") params body scope [] ((X.mg "__name__").getD .none) c' ctv), toks := tk } := by
    intro f c' ctv H1 h' tk I1 hz e1 t1 n1 co
    have J : Inv X pins σ (upd H1 h'.objs.size (LamO h'.objs.size (X.env.qual ++ "<lambda>") params body scope c')) { s with heap := h'.push (PySem.W.kla_obj "<lambda>" (X.env.qual ++ "<lambda>") params body scope [] ((X.mg "__name__").getD .none) c' ctv), toks := tk } :=
      I1.laid (t' := tk) (fun b u e => Heap.get?_push_of_some _ e) (Nat.le_refl _) (lamO_ok (Heap.get?_push_size _ rfl))
    refine ⟨.ref h'.objs.size, _, J, rfl, h h'.objs.size c' _ (e1.trans (extN_upd n1)) (tabs_upd t1 n1) upd_same (by rw [upd_ne (ne_of_none co n1)]; exact co) (I.hok.fresh hz)⟩
  cases hc : codeAmong pos ps.toList with
  | none =>
    refine PySem.W.kla_makeFunction (mg := X.mg) (c := c) (P := P) (ps := ps) hcl I.ok.glob (I.mod.glob.keeps I.bk) hcode (TB.code.keeps I.bk) hP' ht hc TB.gP bP fun c' ctv h' tk hx hge hlt hrec htb => ?_
    obtain ⟨c2, oc, vs, t, e2, hoc, hd, hv⟩ := hrec
    cases e2
    have nC : H c' = none := I.hok.fresh hge
    have nPc : P ≠ c' := ne_of_none hP nC
    have I1 := inv_table (t' := tk) (more := #[rawInt pos.line, rawInt pos.col, .ref c']) (h' := h') I hP hx htb hge ⟨oc, vs, t, hoc, hd, hv⟩
    have hE : ExtN H (upd (upd H P (.tbl (ps ++ #[rawInt pos.line, rawInt pos.col, .ref c']))) c' (CodeO c' (X.env.qual ++ "<lambda>"))) := fun b o e n => by
      rw [upd_ne (ne_of_none e nC), upd_ne (fun z => n ps (Option.some.inj (e.symm.trans (by rw [z]; exact hP))))]
      exact e
    have eL : (ps ++ #[rawInt pos.line, rawInt pos.col, .ref c']).toList = ps.toList ++ [rawInt pos.line, rawInt pos.col, .ref c'] := by simp
    refine end_ h'.objs.size c' ctv _ h' tk I1 (Nat.le_trans hge (Nat.le_of_lt hlt)) hE (fun p hp => ?_) ?_ upd_same
    · by_cases hb : p.1 = P
      · rw [hu p hp hb, hb]
        refine ⟨_, by rw [upd_ne nPc, upd_same], by rw [eL]; exact PySem.TriplesOk_snoc _ _ _ _ ht, fun p' cv hcv => ?_⟩
        rw [eL] at hcv
        rcases among_app _ ht hcv with z | z
        · obtain ⟨c0, e1, e2⟩ := ha p' cv z
          exact ⟨c0, e1, hE _ _ e2 codeO_ne⟩
        · exact ⟨c', z, upd_same⟩
      · obtain ⟨ps', a1, a2, a3⟩ := hT p hp
        refine ⟨ps', by rw [upd_ne (ne_of_none a1 nC), upd_ne hb]; exact a1, a2, fun p' cv hcv => ?_⟩
        obtain ⟨c0, e1, e2⟩ := a3 p' cv hcv
        exact ⟨c0, e1, hE _ _ e2 codeO_ne⟩
    · have n1 : h'.objs.size ≠ c' := Nat.ne_of_gt hlt
      have n2 : h'.objs.size ≠ P := Nat.ne_of_gt (Nat.lt_of_lt_of_le (Heap.lt_size hP') (Nat.le_trans hge (Nat.le_of_lt hlt)))
      rw [upd_ne n1, upd_ne n2]
      exact I.hok.fresh (Nat.le_trans hge (Nat.le_of_lt hlt))
  | some cv =>
    obtain ⟨c', e, hco⟩ := ha pos cv hc
    subst e
    refine PySem.W.kla_makeFunctionHit (mg := X.mg) (c := c) (P := P) (ps := ps) hcl I.ok.glob (I.mod.glob.keeps I.bk) hcode (TB.code.keeps I.bk) hP' ht hc bP fun ctv h' tk hx hsz => ?_
    exact end_ h'.objs.size c' ctv H h' tk (I.kept (t' := tk) hx) hsz (ExtN.refl H) hT (I.hok.fresh hsz) hco
end
end KD
set_option Elab.async false
set_option linter.all false
set_option maxRecDepth 100000
set_option maxHeartbeats 4000000
namespace KS
open PySem PySem.Spec PyProof.Rows L2 KB KC KD LamX PySem.SeqAt SrtO Srt
def Ex (H H' : Hp) : Prop := ∀ b o, H b = some o → H' b = some o
theorem Ex.refl (H : Hp) : Ex H H := fun _ _ h => h
theorem Ex.trans {H H1 H2 : Hp} (a : Ex H H1) (b : Ex H1 H2) : Ex H H2 := fun c o h => b c o (a c o h)
theorem Ex.upd {H : Hp} {a : Addr} {o : HO} (n : H a = none) : Ex H (upd H a o) := fun b u e => by rw [upd_ne (ne_of_none e n)]; exact e
theorem Ex.rd {H H' : Hp} {a : Addr} {u : HO} (e : Ex H H') (h : Rd H a u) : Rd H' a u := h.elim (fun h => .inl (e _ _ h)) fun ⟨o, h⟩ => .inr ⟨o, e _ _ h⟩
mutual
theorem dp_ex {K : PySem.W.Frag} {H H' : Hp} (e : Ex H H') : ∀ {v : V} {d : PyData}, Dp K H v d → Dp K H' v d
  | _, _, .non => .non
  | _, _, .bl b => .bl b
  | _, _, .int i => .int i
  | _, _, .str x => .str x
  | _, _, .lst h t => .lst (h.elim (fun h => .inl (e.rd h)) .inr) (dpAll_ex e t)
  | _, _, .tup h t => .tup (h.elim (fun h => .inl (e.rd h)) .inr) (dpAll_ex e t)
theorem dpAll_ex {K : PySem.W.Frag} {H H' : Hp} (e : Ex H H') : ∀ {vs : List V} {ds : List PyData}, DpAll K H vs ds → DpAll K H' vs ds
  | _, _, .nil => .nil
  | _, _, .cons h t => .cons (dp_ex e h) (dpAll_ex e t)
end
def KeyCall (X : Cx) (f : Addr) (H : Hp) (kvs : List (List Key × V)) (kd : List Key × V → List PyData) : Prop :=
  ∀ x ∈ kvs, ∀ (t q : Addr) (H1 : Hp), Ex H H1 → H1 t = some (.tup [.ref q, x.2]) → H1 q = some (.tup (x.1.map kV)) → ∀ (pins : List (Addr × Obj)) (σ : L2.St) (s1 : Shared) (R : Value → Shared → Prop), Inv X pins σ H1 s1 →
    (∀ y u H2 s2, Inv X pins σ H2 s2 → Ex H1 H2 → RelV y u → Dp X.K H2 y (.tuple (kd x)) → R u s2) → wpAny (model X.prog X.w) X.A.in1.in1 (call (.ref f) [.ref t]) R (fun _ _ => False) s1
section
variable {X : Cx} {pins : List (Addr × Obj)} {σ : L2.St}
theorem lst_raw {H : Hp} {s : Shared} {a : Addr} {ys : List V} (I : Inv X pins σ H s) (h : H a = some (.lst ys)) : ys.length ≤ sizeLine ∧ ∃ (its : List Value) (n : Nat), Vals ys its ∧ s.heap.get? a = some (seqObj "list" its.toArray n) := I.hok a _ h
theorem lst_write {H : Hp} {s : Shared} {a : Addr} {ys zs : List V} {us vs : List Value} {n tk : Nat} (I : Inv X pins σ H s) (h : H a = some (.lst ys)) (hr : s.heap.get? a = some (seqObj "list" us.toArray n)) (hz : zs.length ≤ sizeLine) (rz : Vals zs vs) (g : Array Value → Array Value) (hg : g us.toArray = vs.toArray) :
    Inv X pins σ (upd H a (.lst zs)) { s with heap := s.heap.update a (Obj.mapSeq g), toks := tk } := by
  have e := get?_update_seq hr g
  rw [hg] at e
  exact I.write (t' := tk) (x := a) (e := a) (by rw [h]; exact True.intro) (.inl rfl) (fun b u hb q => (Heap.get?_update_ne _ _ _ _ hb).trans q) ⟨_, e⟩ ⟨hz, vs, _, rz, e⟩
theorem swo_rank {α : Type} (r : α → Int) : Swo fun p q : α => decide (r p < r q) :=
  ⟨fun x y h => by have h := of_decide_eq_true h; exact decide_eq_false (by omega), fun x y z h1 h2 => by have h1 := of_decide_eq_false h1; have h2 := of_decide_eq_false h2; exact decide_eq_false (by omega)⟩
def rankOf (as : List Addr) (kvs : List (List Key × V)) (ρ : List Key × V → Int) (v : Value) : Int :=
  match v with
  | .ref t => match (as.zip kvs).find? (fun z => decide (z.1 = t)) with
    | some z => ρ z.2
    | none => 0
  | _ => 0
theorem find_zip {as : List Addr} {kvs : List (List Key × V)} (nd : as.Nodup) : ∀ {j : Nat} {t : Addr} {x : List Key × V}, as[j]? = some t → kvs[j]? = some x → (as.zip kvs).find? (fun z => decide (z.1 = t)) = some (t, x) := by
  induction as generalizing kvs with
  | nil => intro j t x h; simp at h
  | cons b as ih =>
    intro j t x h1 h2
    rw [List.nodup_cons] at nd
    cases kvs with
    | nil => simp at h2
    | cons y kvs =>
      cases j with
      | zero =>
        simp only [List.getElem?_cons_zero, Option.some.injEq] at h1 h2
        subst h1 h2
        simp
      | succ j =>
        simp only [List.getElem?_cons_succ] at h1 h2
        have hne : ¬ b = t := fun z => nd.1 (by rw [z]; exact List.mem_of_getElem? h1)
        rw [List.zip_cons_cons, List.find?_cons_of_neg (by simpa using hne)]
        exact ih nd.2 h1 h2
theorem rank_at {as : List Addr} {kvs : List (List Key × V)} {ρ : List Key × V → Int} (nd : as.Nodup) {j : Nat} {t : Addr} {x : List Key × V} (h1 : as[j]? = some t) (h2 : kvs[j]? = some x) : rankOf as kvs ρ (.ref t) = ρ x := by
  unfold rankOf
  simp only [find_zip nd h1 h2]
end
mutual
def pureD : PyData → Bool
  | .none => true
  | .bool _ => true
  | .int _ => true
  | .str _ => true
  | .tuple xs => pureL xs
  | _ => false
def pureL : List PyData → Bool
  | [] => true
  | x :: xs => pureD x && pureL xs
end
mutual
theorem dp_tups {K : PySem.W.Frag} {H H' : Hp} (e : ∀ b xs, Rd H b (.tup xs) → Rd H' b (.tup xs)) : ∀ {v : V} {d : PyData}, pureD d = true → Dp K H v d → Dp K H' v d
  | _, _, _, .non => .non
  | _, _, _, .bl b => .bl b
  | _, _, _, .int i => .int i
  | _, _, _, .str x => .str x
  | _, _, h, .lst _ _ => by unfold pureD at h; cases h
  | _, _, h, .tup a t => .tup (a.elim (fun a => .inl (e _ _ a)) .inr) (dpAll_tups e (by unfold pureD at h; exact h) t)
theorem dpAll_tups {K : PySem.W.Frag} {H H' : Hp} (e : ∀ b xs, Rd H b (.tup xs) → Rd H' b (.tup xs)) : ∀ {vs : List V} {ds : List PyData}, pureL ds = true → DpAll K H vs ds → DpAll K H' vs ds
  | _, _, _, .nil => .nil
  | _, _, h, .cons a t => by
    have h2 := h
    unfold pureL at h2
    rw [Bool.and_eq_true] at h2
    exact .cons (dp_tups e h2.1 a) (dpAll_tups e h2.2 t)
end
theorem kat_of {h : Heap} : ∀ its : List Value, (∀ u ∈ its, ∃ l r as, Reads h u (.tuple (.tuple l :: r)) as) → ∃ fs : List Value, PySem.W.KatTups h its fs ∧ fs.length = its.length ∧ ∀ v ∈ fs, ∃ (b : Addr) (o : Obj), v = .ref b ∧ h.get? b = some o ∧ o.cls = .type "tuple"
  | [], _ => ⟨[], PySem.W.KatTups.nil, rfl, fun v hv => by simp at hv⟩
  | u :: its, hr => by
    obtain ⟨fs, k1, k2, k3⟩ := kat_of its fun u' hu' => hr u' (List.mem_cons_of_mem _ hu')
    obtain ⟨l, r, as, q⟩ := hr u List.mem_cons_self
    cases q with
    | @tuple a o vs n _ as₁ h1 h2 h3 h4 =>
      generalize ev : vs.toList = vl at h4
      cases h4 with
      | @cons v0 vr _ _ as1 as2 r0 rr =>
        cases r0 with
        | @tuple b ob vs' n' _ as₂ g1 g2 g3 g4 =>
          refine ⟨.ref b :: fs, PySem.W.KatTups.cons h1 h2 h3 (by rw [← Array.getElem?_toList, ev]; rfl) k1, by rw [List.length_cons, List.length_cons, k2], fun v hv => ?_⟩
          rcases List.mem_cons.mp hv with e | hv
          · exact ⟨b, ob, e, g1, g2⟩
          · exact k3 v hv
section
variable {X : Cx} {pins : List (Addr × Obj)} {σ : L2.St}
theorem sort_body {f D : Addr} {H : Hp} {s : Shared} {h2 : Heap} {tk : Nat} {kvs : List (List Key × V)} {xs : List (List Key × Addr × Value)} {es : Array DictEntry} {as : List Addr} {kd : List Key × V → List PyData} {ρ : List Key × V → Int} {P : PySem.Fin → Shared → Prop} {E : Value → Shared → Prop}
    (I : Inv X pins σ H s) (hk : ∀ b o, s.heap.get? b = some o → h2.get? b = some o) (hD : h2.get? D = some (seqObj "list" (as.map Value.ref).toArray 0)) (hsD : s.heap.objs.size ≤ D)
    (rel : KT H kvs xs) (hes : es.toList = xs.map (entryOfKey (tupleKind (mixKind X.prog X.w)))) (hl : as.length = es.size) (hG : DT.Made es s.heap.objs.size h2 as) (hz : kvs.length ≤ sizeLine)
    (hsh : ∀ x ∈ kvs, shaped (.tuple (kd x)) = true) (hpu : ∀ x ∈ kvs, pureL (kd x) = true) (hft : ∀ x ∈ kvs, ∃ l r, kd x = .tuple l :: r) (hok : ∀ x ∈ kvs, ∀ y ∈ kvs, okL (kd x) (kd y) = true) (hρ : ∀ x ∈ kvs, ∀ y ∈ kvs, ltL (kd x) (kd y) = decide (ρ x < ρ y))
    (hu : X.A.units + 66 < cLine) (hcall : KeyCall X f H kvs kd)
    (q : ∀ (H' : Hp) (s' : Shared) (zs : List (Addr × (List Key × V))), Inv X pins σ H' s' → Ex H H' → H D = none → H' D = some (.lst (zs.map fun z => V.ref z.1)) → (zs.map (·.2)).Perm kvs → (zs.map (·.2)).Pairwise (fun x y => ¬ ρ y < ρ x) →
      (∀ z ∈ zs, ∃ q, H' z.1 = some (.tup [.ref q, z.2.2]) ∧ H' q = some (.tup (z.2.1.map kV))) → P (.done (.ret .none)) s') :
    wpAny (model X.prog X.w) X.A.in1.in1 (ksk_tree D (.ref f) false) P E { s with heap := h2, toks := tk } := by
  have l1 : kvs.length = xs.length := Paired.length rel
  have l2 : es.size = xs.length := size_of_entries hes
  have lak : as.length = kvs.length := by omega
  have nd : as.Nodup := List.Pairwise.imp (fun h => Nat.ne_of_lt h) hG.rise
  have szl : (as.map Value.ref).toArray.size = kvs.length := by rw [List.size_toArray, List.length_map, lak]
  have asz : (as.map Value.ref).length ≤ sizeLine := by rw [List.length_map]; omega
  have nD : H D = none := I.hok.fresh hsD
  have asD : ∀ b ∈ as, b ≠ D ∧ b < h2.objs.size := fun b hb => by
    obtain ⟨j, hj⟩ := List.mem_iff_getElem?.mp hb
    obtain ⟨_, _, e⟩ := hG.pairs j b hj
    refine ⟨fun z => ?_, Heap.lt_size e⟩
    rw [z, hD] at e
    exact absurd (Value.type.inj (congrArg Obj.cls (Option.some.inj e))) (by decide)
  unfold ksk_tree
  refine wpAny_bind (listItems_at hD rfl ?_)
  refine wpAny_bind (listUpdate_at hD rfl ?_ (by rw [szl]; exact hz) (Nat.zero_le _))
  obtain ⟨e1, ho1⟩ : ∃ e1, (h2.update D (Obj.mapSeq fun _ => (#[] : Array Value))).get? D = some (seqObj "list" #[] e1) := ⟨_, get?_update_seq hD fun _ => #[]⟩
  refine wpAny_bind (seqEpoch_at ho1 rfl ?_)
  refine wpAny_bind (wpAny_newTuple ?_ asz)
  refine wpAny_bind (wpAny_newList ?_ (Nat.zero_le _))
  refine wpAny_holding ?_
  generalize hh4 : (h2.update D (Obj.mapSeq fun _ => (#[] : Array Value))).push (seqObj "tuple" (as.map Value.ref).toArray 0) = h4
  have z4 : h4.objs.size = h2.objs.size + 1 := by rw [← hh4, size_push', Heap.size_update]
  have keep4 : ∀ b o, b ≠ D → h2.get? b = some o → h4.get? b = some o := fun b o hb e => by
    rw [← hh4]
    exact Heap.get?_push_of_some _ ((Heap.get?_update_ne _ _ _ _ hb).trans e)
  have hD4 : h4.get? D = some (seqObj "list" #[] e1) := by rw [← hh4]; exact Heap.get?_push_of_some _ ho1
  have I1 : Inv X pins σ (upd H h4.objs.size (.lst [])) { s with heap := h4.push (seqObj "list" #[] 0), toks := tk } :=
    I.laid (t' := tk) (fun b o e => Heap.get?_push_of_some _ (keep4 b o (fun z => by rw [z] at e; exact absurd (Heap.lt_size e) (Nat.not_lt.mpr hsD)) (hk b o e))) (by rw [z4]; exact Nat.le_succ_of_le (Nat.le_trans hsD (Nat.le_of_lt (Heap.lt_size hD))))
      ⟨Nat.zero_le _, [], 0, .nil, Heap.get?_push_size _ rfl⟩
  have hkn : H h4.objs.size = none := I.hok.fresh (by rw [z4]; exact Nat.le_succ_of_le (Nat.le_trans hsD (Nat.le_of_lt (Heap.lt_size hD))))
  have hDk : D ≠ h4.objs.size := by rw [z4]; exact Nat.ne_of_lt (Nat.lt_succ_of_lt (Heap.lt_size hD))
  have hG5 : DT.Made es s.heap.objs.size (h4.push (seqObj "list" #[] 0)) as := ⟨hG.rise, hG.above, fun j b hj => by
    obtain ⟨e, he, hg⟩ := hG.pairs j b hj
    exact ⟨e, he, Heap.get?_push_of_some _ (keep4 b _ (asD b (List.mem_of_getElem? hj)).1 hg)⟩⟩
  obtain ⟨H2, I2, g2, pp, off⟩ := made_tracked (h' := h4.push (seqObj "list" #[] 0)) (tk := tk) I rel hes hl hG5 I1 (Ex.upd hkn) fun b hb => by
    rw [upd_ne (by rw [z4]; exact Nat.ne_of_lt (Nat.lt_succ_of_lt (asD b hb).2))]
    exact I.hok.fresh (Nat.le_of_lt (hG.above b hb))
  have exH2 : Ex H H2 := (Ex.upd hkn).trans g2
  have hkS2 : H2 h4.objs.size = some (.lst []) := g2 _ _ upd_same
  have hD2 : H2 D = none := by rw [off D fun z => (asD D z).1 rfl, upd_ne hDk]; exact nD
  have fD : ∀ H', H' D = none → FpOk X pins H' D := fun H' n => I.fpOk hsD n
  have I3 : Inv X (pins ++ [(D, seqObj "list" #[] e1)]) σ H2 { s with heap := h4.push (seqObj "list" #[] 0), toks := tk } := I2.pins_of fun p hp => by
    rcases List.mem_append.mp hp with hp | hp
    · exact I2.pin p (List.mem_append_right _ hp)
    · rw [List.mem_singleton.mp hp]
      obtain ⟨_, f1, f2, _⟩ := fD H2 hD2
      exact ⟨Heap.get?_push_of_some _ hD4, hD2, f1, f2, fun v z => by cases z⟩
  have pget : ∀ {j : Nat} {t : Addr}, as[j]? = some t → ∃ x q, kvs[j]? = some x ∧ H2 t = some (.tup [.ref q, x.2]) ∧ H2 q = some (.tup (x.1.map kV)) := fun {j t} hj => by
    obtain ⟨x, hx, q, q1, q2⟩ := LiI.paired_get pp hj
    exact ⟨x, q, hx, q1, q2⟩
  unfold ksk_rest
  refine wpAny_bind (wpAny_rule ?_)
  first
    | rw [List.forIn_toArray]
    | (rw [← Array.forIn_toList]; simp only [List.toList_toArray])
  refine wpAny_bind (ksk_fold (fun i s' => ∃ (Hi : Hp) (ys : List V), Inv X (pins ++ [(D, seqObj "list" #[] e1)]) σ Hi s' ∧ (∀ b o, b ≠ h4.objs.size → H2 b = some o → Hi b = some o) ∧ Hi h4.objs.size = some (.lst ys) ∧ ys.length = i ∧
      ∀ (j : Nat) (y : V), ys[j]? = some y → ∃ x, kvs[j]? = some x ∧ Dp X.K Hi y (.tuple (kd x))) (as.map Value.ref) 0 _ ⟨H2, [], I3, fun b o _ e => e, hkS2, rfl, fun j y h => by simp at h⟩ ?step ?done)
  case step =>
    rintro j v s' hv ⟨Hi, ys, Ii, ei, hki, hlen, hdp⟩
    simp only [Nat.zero_add] at hlen ⊢
    rw [List.getElem?_map] at hv
    obtain ⟨t, ht, rfl⟩ := Option.map_eq_some_iff.mp hv
    obtain ⟨x, qa, hx, q1, q2⟩ := pget ht
    have nk : ∀ {b : Addr} {vs : List V}, H2 b = some (.tup vs) → b ≠ h4.objs.size := fun e z => by rw [z, hkS2] at e; cases e
    have hxm : x ∈ kvs := List.mem_of_getElem? hx
    refine wpAny_bind (wpAny_attempt (wpAny_mono (hcall x hxm t qa Hi (fun b o e => ei b o (fun z => by rw [z, hkn] at e; cases e) (exH2 b o e)) (ei _ _ (nk q1) q1) (ei _ _ (nk q2) q2) _ _ s'
      (fun u s'' => ∃ y H3, Inv X (pins ++ [(D, seqObj "list" #[] e1)]) σ H3 s'' ∧ Ex Hi H3 ∧ RelV y u ∧ Dp X.K H3 y (.tuple (kd x))) Ii fun y u H3 s2 J e3 ry dy => ⟨y, H3, J, e3, ry, dy⟩) (fun u s'' he => ?_) fun _ _ hF => hF.elim))
    obtain ⟨y, H3, J, e3, ry, dy⟩ := he
    have hk3 := e3 _ _ hki
    obtain ⟨hzy, its, n, ri, hraw⟩ := lst_raw J hk3
    have jl : j < as.length := (List.getElem?_eq_some_iff.mp ht).1
    have il : its.length = ys.length := ri.length.symm
    try dsimp only
    refine wpAny_bind (listUpdate_at hraw rfl ?_ (by rw [List.size_toArray]; omega) (by rw [Array.size_push, List.size_toArray]; omega))
    refine wpAny_pure ⟨rfl, _, ys ++ [y], lst_write (tk := s''.toks) J hk3 hraw (by rw [List.length_append, List.length_singleton]; omega) (ri.append (.cons ry .nil)) (·.push u) (by simp), fun b o hb e => ?_, upd_same, by rw [List.length_append, List.length_singleton]; omega, fun i z hz' => ?_⟩
    · rw [upd_ne hb]
      exact e3 _ _ (ei b o hb e)
    · have mono : ∀ {v : V} {x : List Key × V}, x ∈ kvs → Dp X.K H3 v (.tuple (kd x)) → Dp X.K (upd H3 h4.objs.size (.lst (ys ++ [y]))) v (.tuple (kd x)) := fun {v x} hm hd =>
        dp_tups (fun b vs r => r.elim (fun r => .inl (by rw [upd_ne (ne_of r hk3 (fun z => by cases z))]; exact r)) fun ⟨o, r⟩ => .inr ⟨o, by rw [upd_ne (ne_of r hk3 (fun z => by cases z))]; exact r⟩) (by unfold pureD; exact hpu x hm) hd
      by_cases hi : i < ys.length
      · rw [List.getElem?_append_left hi] at hz'
        obtain ⟨x', hx', hd'⟩ := hdp i z hz'
        exact ⟨x', hx', mono (List.mem_of_getElem? hx') (dp_ex e3 hd')⟩
      · rw [List.getElem?_append_right (by omega)] at hz'
        have e0 : i - ys.length = 0 := by
          have := (List.getElem?_eq_some_iff.mp hz').1
          simp at this
          omega
        rw [e0] at hz'
        have e4 : y = z := by simpa using hz'
        have e5 : i = j := by omega
        rw [← e4, e5]
        exact ⟨x, hx, mono hxm dy⟩
  case done =>
    rintro s' ⟨Hi, ys, Ii, ei, hki, hlen, hdp⟩
    rw [List.length_map, Nat.zero_add] at hlen
    obtain ⟨_, its, n, ri, hraw⟩ := lst_raw Ii hki
    have il : its.length = ys.length := ri.length.symm
    try dsimp only
    refine wpAny_bind (listItems_at hraw rfl ?_)
    have pairsL : (its.toArray.zip (as.map Value.ref).toArray).toList = its.zip (as.map Value.ref) := by
      first
        | simp
        | rfl
    have mem_at : ∀ p ∈ its.zip (as.map Value.ref), ∃ (j : Nat) (t : Addr) (x : List Key × V), p.2 = .ref t ∧ as[j]? = some t ∧ kvs[j]? = some x ∧ its[j]? = some p.1 := fun p hp => by
      obtain ⟨j, hj⟩ := List.mem_iff_getElem?.mp hp
      obtain ⟨j1, j2⟩ := List.getElem?_zip_eq_some.mp hj
      rw [List.getElem?_map] at j2
      obtain ⟨t, ht, e⟩ := Option.map_eq_some_iff.mp j2
      obtain ⟨x, _, hx, _⟩ := pget ht
      exact ⟨j, t, x, e.symm, ht, hx, j1⟩
    have tail : ∀ st' : SortSt, Srtd (fun p q : Keyed => decide (rankOf as kvs ρ p.2 < rankOf as kvs ρ q.2)) (arrOf st').toList → Stb (fun p q : Keyed => decide (rankOf as kvs ρ p.2 < rankOf as kvs ρ q.2)) (arrOf st').toList (its.zip (as.map Value.ref)) → failedOf st' = none →
        wpAny (model X.prog X.w) X.A.in1.in1 (ksk_tail D false e1 (.ref h4.objs.size) st') P E s' := by
      intro st' hs hb hf
      have out_perm : ((arrOf st').toList.map (·.2)).Perm (as.map Value.ref) := by
        have z := hb.perm.map (·.2)
        rw [List.map_snd_zip (by rw [List.length_map]; omega)] at z
        exact z
      have ezip : (as.zip kvs).map (fun z => Value.ref z.1) = as.map Value.ref := by
        rw [show (fun z : Addr × (List Key × V) => Value.ref z.1) = Value.ref ∘ Prod.fst from rfl, ← List.map_map, List.map_fst_zip (by omega)]
      obtain ⟨zs, pz, ez⟩ := perm_lift (fun z : Addr × (List Key × V) => Value.ref z.1) out_perm (as.zip kvs) ezip
      have zmem : ∀ z ∈ zs, ∃ j : Nat, as[j]? = some z.1 ∧ kvs[j]? = some z.2 := fun z hz => by
        obtain ⟨j, hj⟩ := List.mem_iff_getElem?.mp (pz.mem_iff.mp hz)
        exact ⟨j, List.getElem?_zip_eq_some.mp hj⟩
      have zlen : zs.length = kvs.length := by
        rw [pz.length_eq, List.length_zip]
        omega
      have osz : ((arrOf st').map (·.2)).size = kvs.length := by
        have z := out_perm.length_eq
        rw [List.length_map, Array.length_toList, List.length_map] at z
        rw [Array.size_map]
        omega
      have oeq : ((arrOf st').map (·.2)).toList = zs.map fun z => Value.ref z.1 := by rw [Array.toList_map, ← ez]
      have J1 := lst_write (tk := s'.toks) (zs := []) (vs := []) Ii hki hraw (Nat.zero_le _) .nil (fun _ => (#[] : Array Value)) rfl
      obtain ⟨pD, nD5, _⟩ := J1.pin (D, seqObj "list" #[] e1) (List.mem_append_right _ (List.mem_append_right _ (List.mem_singleton.mpr rfl)))
      unfold ksk_tail
      try dsimp only
      refine wpAny_bind (listUpdate_at hraw rfl ?_ (by rw [List.size_toArray]; omega) (Nat.zero_le _))
      refine wpAny_bind (wpAny_letGo ?_)
      refine wpAny_bind (seqEpoch_at pD rfl ?_)
      refine wpAny_bind (listUpdate_at pD rfl ?_ (Nat.zero_le _) (by simp only [Bool.false_eq_true, if_false]; rw [osz]; omega))
      rw [hf]
      simp only [bne_self_eq_false, Bool.false_eq_true, if_false]
      refine wpAny_pure ?_
      have J2 := J1.pins_of (pins' := pins) fun p hp => J1.pin p (List.mem_append_right _ (List.mem_append_left _ hp))
      have eD := get?_update_seq pD fun _ => (arrOf st').map (·.2)
      have dk : D ≠ h4.objs.size := hDk
      have J3 := J2.take (t' := s'.toks) (o := .lst (zs.map fun z => V.ref z.1)) (h' := (s'.heap.update h4.objs.size (Obj.mapSeq fun _ => (#[] : Array Value))).update D (Obj.mapSeq fun _ => (arrOf st').map (·.2))) (fun b u hb e => (Heap.get?_update_ne _ _ _ _ hb).trans e) (fD _ nD5)
        ⟨by rw [List.length_map]; omega, zs.map (fun z => Value.ref z.1), _, vals_maps (fun z : Addr × (List Key × V) => V.ref z.1) (fun z => Value.ref z.1) zs fun _ _ => rfl, by rw [← oeq, Array.toArray_toList]; exact eD⟩
      refine q _ _ zs J3 (fun b o e => ?_) nD upd_same ?_ ?_ fun z hz' => ?_
      · rw [upd_ne (ne_of_none e nD), upd_ne (ne_of_none e hkn)]
        exact ei b o (ne_of_none e hkn) (exH2 b o e)
      · have z := pz.map (·.2)
        rw [List.map_snd_zip (by omega)] at z
        exact z
      · have s1 : (zs.map fun z => Value.ref z.1).Pairwise (fun v u => decide (rankOf as kvs ρ u < rankOf as kvs ρ v) = false) := by
          rw [ez, List.pairwise_map]
          exact hs
        rw [List.pairwise_map] at s1 ⊢
        refine List.Pairwise.imp_of_mem (fun {x y} hx hy h => ?_) s1
        obtain ⟨j, j1, j2⟩ := zmem x hx
        obtain ⟨i, i1, i2⟩ := zmem y hy
        rw [rank_at nd j1 j2, rank_at nd i1 i2] at h
        exact of_decide_eq_false h
      · obtain ⟨j, j1, j2⟩ := zmem z hz'
        obtain ⟨x, qa, hx, q1, q2⟩ := pget j1
        have e : x = z.2 := Option.some.inj (hx.symm.trans j2)
        rw [e] at q1 q2
        have up : ∀ {b : Addr} {vs : List V}, H2 b = some (.tup vs) → (upd (upd Hi h4.objs.size (.lst [])) D (.lst (zs.map fun z => V.ref z.1))) b = some (.tup vs) := fun {b vs} h => by
          rw [upd_ne (fun z => by rw [z, hD2] at h; cases h), upd_ne (fun z => by rw [z, hkS2] at h; cases h)]
          exact ei _ _ (fun z => by rw [z, hkS2] at h; cases h) h
        exact ⟨qa, up q1, up q2⟩
    unfold ksk_end
    simp only [Bool.false_eq_true, if_false]
    by_cases h2s : (as.map Value.ref).toArray.size < 2
    · rw [if_pos h2s, if_pos h2s]
      refine wpAny_bind (wpAny_pure ?_)
      rw [StateT.run_pure]
      refine wpAny_bind (wpAny_pure ?_)
      try dsimp only
      refine tail (SortSt.mk' general' (its.toArray.zip (as.map Value.ref).toArray) #[] 7 none) ?_ ?_ rfl
      · show List.Pairwise _ (its.toArray.zip (as.map Value.ref).toArray).toList
        rw [pairsL]
        have ll : (its.zip (as.map Value.ref)).length < 2 := by
          rw [List.length_zip, List.length_map]
          rw [szl] at h2s
          omega
        match h : its.zip (as.map Value.ref), ll with
        | [], _ => exact List.Pairwise.nil
        | [v], _ => exact List.pairwise_singleton _ _
        | _ :: _ :: l, h3 => exact absurd h3 (by rw [List.length_cons, List.length_cons]; omega)
      · show Stb _ (its.toArray.zip (as.map Value.ref).toArray).toList _
        rw [pairsL]
        exact Stb.refl _
    · rw [if_neg h2s, if_neg h2s]
      have rd : ∀ {j : Nat} {u : Value}, its[j]? = some u → ∃ x as', kvs[j]? = some x ∧ Reads s'.heap u (.tuple (kd x)) as' := fun {j u} hj => by
        have jl : j < ys.length := by
          have := (List.getElem?_eq_some_iff.mp hj).1
          omega
        obtain ⟨x, hx, hd⟩ := hdp j ys[j] (List.getElem?_eq_getElem jl)
        obtain ⟨u', hu', ru⟩ := ri.get (List.getElem?_eq_getElem jl)
        have e : u' = u := Option.some.inj (hu'.symm.trans hj)
        rw [e] at ru
        obtain ⟨as', r⟩ := Dp.reads Ii _ _ _ hd ru
        exact ⟨x, as', hx, r⟩
      have cmp : Cmp X.prog X.w X.A.in1.in1 s' (tuples' false) (fun p => p ∈ its.zip (as.map Value.ref)) (fun p q : Keyed => decide (rankOf as kvs ρ p.2 < rankOf as kvs ρ q.2)) := by
        intro p q hp hq
        obtain ⟨j, t, x, e1, h1, h2, h3⟩ := mem_at p hp
        obtain ⟨i, t', x', e1', h1', h2', h3'⟩ := mem_at q hq
        obtain ⟨y, bs, hy, r⟩ := rd h3
        obtain ⟨y', bs', hy', r'⟩ := rd h3'
        have ey : y = x := Option.some.inj (hy.symm.trans h2)
        have ey' : y' = x' := Option.some.inj (hy'.symm.trans h2')
        rw [ey] at r
        rw [ey'] at r'
        have m := List.mem_of_getElem? h2
        have m' := List.mem_of_getElem? h2'
        refine keyLt_data r r' (canLay_of_shaped (hsh x m)) (canLay_of_shaped (hsh x' m')) (hok x m x' m') (room_of_shaped (hsh x m) (by show X.A.units + 1 + 1 + 64 < cLine; omega)) ⟨rfl, ?_⟩
        show ltL (kd x) (kd x') = decide (rankOf as kvs ρ p.2 < rankOf as kvs ρ q.2)
        rw [e1, e1', rank_at nd h1 h2, rank_at nd h1' h2', hρ x m x' m']
      have kk : ∀ (R : SortKind → Shared → Prop), R (tuples' false) s' → wpAny (model X.prog X.w) X.A.in1.in1 (keyKind' its.toArray) R E s' := by
        intro R hR
        obtain ⟨fs, k1, k2, k3⟩ := kat_of (h := s'.heap) its fun u hu' => by
          obtain ⟨j, hj⟩ := List.mem_iff_getElem?.mp hu'
          obtain ⟨x, as', hx, r⟩ := rd hj
          obtain ⟨l, r', e⟩ := hft x (List.mem_of_getElem? hx)
          rw [e] at r
          exact ⟨l, r', as', r⟩
        refine PySem.W.kat_kind (T := .type "tuple") k1 (by rw [szl] at h2s; omega) (fun v hv => ?_) (by decide) (by
          have z : (Value.type "tuple" != Value.type "tuple") = false := by decide
          rw [z]
          exact hR)
        obtain ⟨b, o, rfl, ho, hc⟩ := k3 v hv
        rw [← hc]
        exact (PySem.W.Looks.ld ho).andThen .now
      refine wpAny_bind (kk _ ?_)
      refine wpAny_bind (wpAny_mono (wpS_sortO (st0 := SortSt.mk' (tuples' false) (its.toArray.zip (as.map Value.ref).toArray) #[] 7 none)
        (Q := fun _ st' => Srtd (fun p q : Keyed => decide (rankOf as kvs ρ p.2 < rankOf as kvs ρ q.2)) (arrOf st').toList ∧ Stb (fun p q : Keyed => decide (rankOf as kvs ρ p.2 < rankOf as kvs ρ q.2)) (arrOf st').toList (its.zip (as.map Value.ref)) ∧ failedOf st' = none) (swo_rank fun p : Keyed => rankOf as kvs ρ p.2) cmp rfl
        (fun p hp => by
          have hp : p ∈ (its.toArray.zip (as.map Value.ref).toArray).toList := hp
          rw [pairsL] at hp
          exact hp) rfl rfl fun st' a1 a2 a3 => ⟨a1, by
            have a2 : Stb _ (arrOf st').toList (its.toArray.zip (as.map Value.ref).toArray).toList := a2
            rw [pairsL] at a2
            exact a2, a3⟩) ?_ fun _ _ e => e)
      rintro ⟨⟨⟩, st'⟩ s'' ⟨rfl, a1, a2, a3⟩
      try dsimp only
      exact tail st' a1 a2 a3
end
end KS
set_option Elab.async false
set_option linter.all false
set_option maxRecDepth 100000
set_option maxHeartbeats 2000000
namespace TL
open PySem PySem.Spec PyProof.Rows L2 KB KC KD LamX
def Beh (P : Program) (w : World) (K : PySem.W.Frag) (mg : Str → Option Value) (base : Heap) (k : Nat) (f c' : Addr) (q : Str) (body : Expr) (scope : Scope) (N : List Str) (H : Hp) (Q : VK) (E1 : XK) : Prop :=
  ∀ E : XK, (∀ cls d H', E1 cls d H' → E cls d H') → ∀ (A : Around) (outer : List Env) (s : Shared), Room k (A.deeper (envOfC q scope s.heap.objs.size f (.ref c'))) →
    ∃ t, PE (cxOf (L2.CX P w) P w K mg base N q scope f (.ref c') A outer s H E) body t ∧ t (start N []) H Q
def LamAt (P : Program) (w : World) (K : PySem.W.Frag) (mg : Str → Option Value) (base : Heap) (k : Nat) (f : Addr) (H : Hp) (Q : VK) (E1 : XK) : Prop :=
  ∃ (c' : Addr) (q : Str) (params : Arguments) (body : Expr) (scope : Scope) (N : List Str), H f = some (LamO f q params body scope c') ∧ H c' = some (CodeO c' q) ∧ FnScope N [] scope ∧
    (∀ pm ctv, bindArgs (PySem.W.kla_fn "<lambda>" q params body scope [] pm (.ref c') ctv) ⟨[], []⟩ = pure []) ∧ Beh P w K mg base k f c' q body scope N H Q E1
section
variable {X : Cx}
theorem pe_callLam {k i : Nat} {a : Str} {E : L2.St → XK} {p1 p2 : Pos} (hr : Room (k + 1) X.A) (hx : ∀ σ, PassesAt (L2.CX X.prog X.w) X σ (E σ)) (hN : X.N[i]? = some a) (hv : Vis X.env.scope a) (hd : (a == ("__debug__" : Str)) = false := by decide) (hcd : (a == ("__classdict__" : Str)) = false := by decide) :
    PE X (.Call (.Name a p1) [] [] p2) (fun σ H Q => ∃ f, σ[i]? = some (some (.ref f)) ∧ LamAt X.prog X.w X.K X.mg X.base k f H Q (E σ)) := by
  refine ⟨fun pins s σ H Q I hw => ?_⟩
  obtain ⟨f, hs, c', q, params, body, scope, N, hf, hc, S, hb, beh⟩ := hw
  have nm := (pe_var (pos := p1) (i := i) hN hv hd hcd).run pins s σ H (fun v H1 => v = .ref f ∧ H1 = H) I ⟨_, hs, rfl, rfl⟩
  refine wpAny_Call_Name_kw (thn nm fun u s1 hu => ?_)
  obtain ⟨v, H1, I1, rv, ev, eH⟩ := hu
  subst ev
  subst eH
  have eu : u = Value.ref f := rv
  subst eu
  obtain ⟨⟨pm, ctv, of1⟩, _, _⟩ := I1.hok f _ hf
  refine PySem.W.callWith_F0 ⟨_, _, _, _, of1⟩ ?_
  have run := lam_run (CX := L2.CX X.prog X.w) (Q := Q) (E := E σ) (vs := []) (us := []) (args := ⟨[], []⟩) (ps := []) S hr I1.env0 hf hc (fun pm ctv => .of_eq (hb pm ctv)) .nil rfl (fun hr' => beh (E σ) (fun _ _ _ z => z) _ _ _ hr')
  refine wpAny_call (codeAny_mono run fun r s2 hq => ?_)
  match r, hq with
  | .error e, hq => exact hx σ pins H1 s1 e s2 I1 hq
  | .ok (.ret u), hq => exact I1.after hq
  | .ok .next, hq => exact False.elim hq
  | .ok .brk, hq => exact False.elim hq
  | .ok .cont, hq => exact False.elim hq
end
theorem LamAt.mono {P : Program} {w : World} {K : PySem.W.Frag} {mg : Str → Option Value} {base : Heap} {k : Nat} {f : Addr} {H : Hp} {Q : VK} {E1 E2 : XK} (h : LamAt P w K mg base k f H Q E1) (e : ∀ cls d H', E1 cls d H' → E2 cls d H') : LamAt P w K mg base k f H Q E2 := by
  obtain ⟨c', q, params, body, scope, N, hf, hc, S, hb, beh⟩ := h
  exact ⟨c', q, params, body, scope, N, hf, hc, S, hb, fun E he => beh E fun cls d H' z => he cls d H' (e cls d H' z)⟩
@[irreducible] def spToldV (P : Program) (w : World) (K : PySem.W.Frag) (mg : Str → Option Value) (base : Heap) (k : Nat) (CR : Addr) (ret : Str) : Sp := fun vs H Q _ => ∃ f, vs = [.ref f] ∧
  LamAt P w K mg base k f H Q (fun cls _ H' => ∃ b, PySem.W.exmOne K cls (.ref CR) = some b ∧ (b = true → Q (.str ret) H') ∧ (b = false → False))
section
variable {P : Program} {w : World} {K : PySem.W.Frag} {mg : Str → Option Value} {base : Heap}
theorem ok_toldV {x a e ret : Str} {pg : Arguments} {sg : Scope} {Ng : List Str} {f CR : Addr} {fd : FuncData} {j k : Nat} {p1 p2 p3 p4 p5 p6 p7 p8 : Pos}
    (F : FunD K x x pg [.Try [.Return (some (.Call (.Name a p1) [] [] p2)) p3] [.ExceptHandler (some (.Name e p4)) none [.Return (some (.Constant (.str ret) j p5)) p6] p7] [] [] p8] sg [] [] f fd) (S : FnScope Ng [a] sg) (hN : Ng[0]? = some a) (hva : Vis sg a)
    (h0 : ∀ f : Addr, (L2.start Ng [V.ref f])[0]? = some (some (V.ref f))) (hge : sg.names.lookup e = some .globalImplicit) (hme : mg e = some (.ref CR)) (hde : (e == ("__debug__" : Str)) = false) (hd : (a == ("__debug__" : Str)) = false) (hcd : (a == ("__classdict__" : Str)) = false) :
    FnOk P w K mg base CX0 (k + 2) f fd [a] (spToldV P w K mg base k CR ret) := by
  refine F.ok S (fun vs H Q E h => ?_) (fun cdv A outer s H vs Q E hr h => ?_)
  · unfold spToldV at h
    obtain ⟨_, rfl, _⟩ := h; rfl
  · unfold spToldV at h
    obtain ⟨fl, rfl, hl⟩ := h
    have hgl : Gl (cxOf CX0 P w K mg base Ng x sg f cdv A outer s H E).nox e := hge
    refine ⟨_, PSs.nox <| pss_one (ps_try_only (c := .ref CR) (tb := fun W => tRet fun σ H Q => ∃ fz, σ[0]? = some (some (V.ref fz)) ∧ LamAt P w K mg base k fz H Q (WE W σ)) rfl rfl ⟨hgl, hde, .inl hme⟩ L2.takes0
      (fun W pn xe tk _ => pss_one (ps_ret (pe_callLam (k := k) (i := 0) (E := fun σ => WE W σ) hr (fun σ => passAt tk σ) hN hva hd hcd))) (fun a oe cls d pn _ _ => pss_one (ps_ret pe_str))), ?_⟩
    exact ⟨fl, h0 fl, hl.mono fun cls d H' ⟨b, e1, e2, e3⟩ => ⟨b, e1, fun hb a _ => e2 hb, fun hb => e3 hb⟩⟩
end
end TL
set_option Elab.async false
set_option linter.all false
set_option maxRecDepth 100000
namespace KN1
open PySem PySem.Spec L2
def natL (n : Nat) : List Int := if n < 128 then [(n : Int)] else ((n % 128 : Nat) + 128 : Int) :: natL (n / 128)
termination_by n
decreasing_by omega
theorem natL_small {n : Nat} (h : n < 128) : natL n = [(n : Int)] := by rw [natL, if_pos h]
theorem natL_big {n : Nat} (h : ¬ n < 128) : natL n = ((n % 128 : Nat) + 128 : Int) :: natL (n / 128) := by rw [natL, if_neg h]
def pN1 : List Int → Option (Nat × List Int)
  | [] => none
  | b :: r => if 128 ≤ b then (pN1 r).map fun q => ((b - 128).toNat + 128 * q.1, q.2) else if b = 0 then none else some (b.toNat, r)
def pN : List Int → Option (Nat × List Int)
  | [] => none
  | b :: r => if 128 ≤ b then (pN1 r).map fun q => ((b - 128).toNat + 128 * q.1, q.2) else some (b.toNat, r)
theorem pN1_enc : ∀ (n : Nat) (rest : List Int), 0 < n → pN1 (natL n ++ rest) = some (n, rest)
  | n, rest, h0 => by
    by_cases h : n < 128
    · rw [natL_small h]
      show (if 128 ≤ (n : Int) then _ else if (n : Int) = 0 then none else some ((n : Int).toNat, rest)) = _
      rw [if_neg (by omega), if_neg (by omega)]
      rfl
    · rw [natL_big h]
      have ih := pN1_enc (n / 128) rest (by omega)
      show (if 128 ≤ ((n % 128 : Nat) + 128 : Int) then (pN1 (natL (n / 128) ++ rest)).map _ else _) = _
      rw [if_pos (by omega), ih]
      show some ((((n % 128 : Nat) + 128 : Int) - 128).toNat + 128 * (n / 128), rest) = _
      congr 2
      omega
termination_by n => n
decreasing_by omega
theorem pN_enc (n : Nat) (rest : List Int) : pN (natL n ++ rest) = some (n, rest) := by
  by_cases h : n < 128
  · rw [natL_small h]
    show (if 128 ≤ (n : Int) then _ else some ((n : Int).toNat, rest)) = _
    rw [if_neg (by omega)]
    rfl
  · rw [natL_big h]
    show (if 128 ≤ ((n % 128 : Nat) + 128 : Int) then (pN1 (natL (n / 128) ++ rest)).map _ else _) = _
    rw [if_pos (by omega), pN1_enc (n / 128) rest (by omega)]
    show some ((((n % 128 : Nat) + 128 : Int) - 128).toNat + 128 * (n / 128), rest) = _
    congr 2
    omega
def Bytes (l : List Int) : Prop := ∀ b ∈ l, 0 ≤ b ∧ b < 256
theorem Bytes.tail {b : Int} {r : List Int} (h : Bytes (b :: r)) : Bytes r := fun x hx => h x (List.mem_cons_of_mem _ hx)
theorem enc_pN1 : ∀ {l : List Int} {n : Nat} {rest : List Int}, Bytes l → pN1 l = some (n, rest) → 0 < n ∧ l = natL n ++ rest
  | [], n, rest, _, e => by cases e
  | b :: r, n, rest, hb, e => by
    have h := hb b (List.mem_cons_self ..)
    have e' : (if 128 ≤ b then (pN1 r).map (fun q => ((b - 128).toNat + 128 * q.1, q.2)) else if b = 0 then none else some (b.toNat, r)) = some (n, rest) := e
    by_cases c : 128 ≤ b
    · rw [if_pos c] at e'
      obtain ⟨q, hq, eq⟩ := Option.map_eq_some_iff.mp e'
      obtain ⟨m, rs⟩ := q
      obtain ⟨e1, e2⟩ := Prod.mk.inj eq
      obtain ⟨p, ih⟩ := enc_pN1 hb.tail hq
      have e1' : (b - 128).toNat + 128 * m = n := e1
      have e2' : rs = rest := e2
      subst e2'
      refine ⟨by omega, ?_⟩
      rw [natL_big (by omega), ih]
      have a1 : n / 128 = m := by omega
      have a2 : ((n % 128 : Nat) + 128 : Int) = b := by omega
      rw [a1, a2]
      rfl
    · rw [if_neg c] at e'
      by_cases c0 : b = 0
      · rw [if_pos c0] at e'; cases e'
      · rw [if_neg c0] at e'
        obtain ⟨e1, e2⟩ := Prod.mk.inj (Option.some.inj e')
        subst e2
        refine ⟨by omega, ?_⟩
        rw [natL_small (by omega)]
        have : ((n : Nat) : Int) = b := by omega
        rw [this]
        rfl
theorem enc_pN {l : List Int} {n : Nat} {rest : List Int} (hb : Bytes l) (e : pN l = some (n, rest)) : l = natL n ++ rest := by
  cases l with
  | nil => cases e
  | cons b r =>
    have h := hb b (List.mem_cons_self ..)
    have e' : (if 128 ≤ b then (pN1 r).map (fun q => ((b - 128).toNat + 128 * q.1, q.2)) else some (b.toNat, r)) = some (n, rest) := e
    by_cases c : 128 ≤ b
    · rw [if_pos c] at e'
      obtain ⟨q, hq, eq⟩ := Option.map_eq_some_iff.mp e'
      obtain ⟨m, rs⟩ := q
      obtain ⟨e1, e2⟩ := Prod.mk.inj eq
      obtain ⟨p, ih⟩ := enc_pN1 hb.tail hq
      have e1' : (b - 128).toNat + 128 * m = n := e1
      have e2' : rs = rest := e2
      subst e2'
      rw [natL_big (by omega), ih]
      have a1 : n / 128 = m := by omega
      have a2 : ((n % 128 : Nat) + 128 : Int) = b := by omega
      rw [a1, a2]
      rfl
    · rw [if_neg c] at e'
      obtain ⟨e1, e2⟩ := Prod.mk.inj (Option.some.inj e')
      subst e2
      rw [natL_small (by omega)]
      have : ((n : Nat) : Int) = b := by omega
      rw [this]
      rfl
theorem natL_bytes : ∀ n : Nat, Bytes (natL n)
  | n => by
    by_cases h : n < 128
    · rw [natL_small h]
      intro b hb
      rw [List.mem_singleton] at hb
      omega
    · rw [natL_big h]
      intro b hb
      rcases List.mem_cons.mp hb with rfl | hb
      · omega
      · exact natL_bytes (n / 128) b hb
termination_by n => n
decreasing_by omega
section
variable (tab : List Nat)
def idx (c : Nat) : Nat := tab.findIdx fun d => decide (d = c)
def pT : Nat → List Int → Option (List Nat × List Int)
  | 0, l => some ([], l)
  | _ + 1, [] => none
  | n + 1, b :: r => match tab[b.toNat]? with
    | none => none
    | some c => (pT n r).map fun q => (c :: q.1, q.2)
theorem pT_enc : ∀ (cs : List Nat) (rest : List Int), (∀ c ∈ cs, c ∈ tab) → pT tab cs.length (cs.map (fun c => ((idx tab c : Nat) : Int)) ++ rest) = some (cs, rest)
  | [], rest, _ => rfl
  | c :: cs, rest, h => by
    have hc := h c (List.mem_cons_self ..)
    have hl : idx tab c < tab.length := List.findIdx_lt_length_of_exists ⟨c, hc, by simp⟩
    have hg : tab[idx tab c]? = some c := by
      rw [List.getElem?_eq_getElem hl]
      have := List.findIdx_getElem (w := hl)
      have h2 : tab[idx tab c] = c := by
        unfold idx
        simpa using this
      rw [h2]
    show (match tab[(((idx tab c : Nat) : Int)).toNat]? with | none => none | some d => (pT tab cs.length (cs.map (fun c => ((idx tab c : Nat) : Int)) ++ rest)).map fun q : List Nat × List Int => (d :: q.1, q.2)) = some (c :: cs, rest)
    rw [Int.toNat_natCast, hg, pT_enc cs rest fun d hd => h d (List.mem_cons_of_mem _ hd)]
    rfl
theorem enc_pT (nd : tab.Nodup) : ∀ {n : Nat} {l : List Int} {cs : List Nat} {rest : List Int}, Bytes l → pT tab n l = some (cs, rest) → cs.length = n ∧ (∀ c ∈ cs, c ∈ tab) ∧ l = cs.map (fun c => ((idx tab c : Nat) : Int)) ++ rest
  | 0, l, cs, rest, _, e => by
    obtain ⟨rfl, rfl⟩ := Prod.mk.inj (Option.some.inj e)
    exact ⟨rfl, fun c h => (by cases h), rfl⟩
  | n + 1, [], cs, rest, _, e => by cases e
  | n + 1, b :: r, cs, rest, hb, e => by
    have hb0 := hb b (List.mem_cons_self ..)
    have e' : (match tab[b.toNat]? with | none => none | some c => (pT tab n r).map fun q => (c :: q.1, q.2)) = some (cs, rest) := e
    cases ht : tab[b.toNat]? with
    | none => rw [ht] at e'; cases e'
    | some c =>
      rw [ht] at e'
      obtain ⟨q, hq, eq⟩ := Option.map_eq_some_iff.mp e'
      obtain ⟨cs', rs⟩ := q
      obtain ⟨e1, e2⟩ := Prod.mk.inj eq
      have e1' : c :: cs' = cs := e1
      have e2' : rs = rest := e2
      subst e1' e2'
      obtain ⟨h1, h2, h3⟩ := enc_pT nd hb.tail hq
      obtain ⟨hlt, hget⟩ := List.getElem?_eq_some_iff.mp ht
      have hi : idx tab c = b.toNat := by
        have hc : c ∈ tab := List.mem_of_getElem? ht
        have hl : idx tab c < tab.length := List.findIdx_lt_length_of_exists ⟨c, hc, by simp⟩
        have hv : tab[idx tab c] = c := by
          have := List.findIdx_getElem (w := hl)
          unfold idx
          simpa using this
        exact (List.getElem_inj nd).mp (hv.trans hget.symm)
      refine ⟨by rw [List.length_cons, h1], fun d hd => (List.mem_cons.mp hd).elim (fun z => by rw [z]; exact List.mem_of_getElem? ht) (h2 d), ?_⟩
      rw [h3]
      show b :: _ = ((idx tab c : Nat) : Int) :: _
      rw [hi]
      congr 1
      omega
end
end KN1
set_option Elab.async false
set_option linter.all false
set_option maxRecDepth 100000
namespace KN1
open PySem PySem.Spec L2
section
variable (tab : List Nat)
def valL : Key → List Int
  | .inl v => if v < 0 then 1 :: natL (-v - 1).toNat else 0 :: natL v.toNat
  | .inr s => 2 :: (natL s.cps.toList.length ++ s.cps.toList.map fun c => ((idx tab c : Nat) : Int))
theorem valL_neg {v : Int} (c : v < 0) : valL tab (.inl v) = 1 :: natL (-v - 1).toNat := if_pos c
theorem valL_pos {v : Int} (c : ¬ v < 0) : valL tab (.inl v) = 0 :: natL v.toNat := if_neg c
def rowL (k : List Key) : List Int := natL k.length ++ k.flatMap (valL tab)
def pV : List Int → Option (Key × List Int)
  | [] => none
  | m :: r => if m = 0 then (pN r).map fun q => (.inl (q.1 : Int), q.2) else if m = 1 then (pN r).map fun q => (.inl (-(q.1 : Int) - 1), q.2) else if m = 2 then
      (match pN r with
      | none => none
      | some q => if q.2.length < q.1 then none else (pT tab q.1 q.2).map fun z => (.inr ⟨z.1.toArray⟩, z.2)) else none
def pVs : Nat → List Int → Option (List Key × List Int)
  | 0, l => some ([], l)
  | n + 1, l => match pV tab l with
    | none => none
    | some q => (pVs n q.2).map fun z => (q.1 :: z.1, z.2)
def pRow (l : List Int) : Option (List Key × List Int) := match pN l with
  | none => none
  | some q => if 20 < q.1 then none else pVs tab q.1 q.2
def InTab : Key → Prop
  | .inl _ => True
  | .inr s => ∀ c ∈ s.cps.toList, c ∈ tab
theorem pV_0 (r : List Int) : pV tab (0 :: r) = (pN r).map fun q : Nat × List Int => ((.inl (q.1 : Int) : Key), q.2) := rfl
theorem pV_1 (r : List Int) : pV tab (1 :: r) = (pN r).map fun q : Nat × List Int => ((.inl (-(q.1 : Int) - 1) : Key), q.2) := rfl
theorem pV_2 (r : List Int) : pV tab (2 :: r) = (match pN r with
  | none => none
  | some q => if q.2.length < q.1 then none else (pT tab q.1 q.2).map fun z : List Nat × List Int => ((.inr ⟨z.1.toArray⟩ : Key), z.2)) := rfl
theorem pV_enc {k : Key} (rest : List Int) (h : InTab tab k) : pV tab (valL tab k ++ rest) = some (k, rest) := by
  cases k with
  | inl v =>
    by_cases c : v < 0
    · have e : valL tab (.inl v) ++ rest = 1 :: (natL (-v - 1).toNat ++ rest) := by rw [valL_neg tab c]; rfl
      rw [e]
      rw [pV_1, pN_enc]
      show some (Sum.inl (-(((-v - 1).toNat : Nat) : Int) - 1), rest) = _
      congr 3
      omega
    · have e : valL tab (.inl v) ++ rest = 0 :: (natL v.toNat ++ rest) := by rw [valL_pos tab c]; rfl
      rw [e]
      rw [pV_0, pN_enc]
      show some (Sum.inl ((v.toNat : Nat) : Int), rest) = _
      congr 3
      omega
  | inr s =>
    have e : valL tab (.inr s) ++ rest = 2 :: (natL s.cps.toList.length ++ (s.cps.toList.map (fun c => ((idx tab c : Nat) : Int)) ++ rest)) := by
      show 2 :: ((natL _ ++ _) ++ rest) = _
      rw [List.append_assoc]
    rw [e]
    rw [pV_2, pN_enc]
    show (if (s.cps.toList.map (fun c => ((idx tab c : Nat) : Int)) ++ rest).length < s.cps.toList.length then none else (pT tab s.cps.toList.length (s.cps.toList.map (fun c => ((idx tab c : Nat) : Int)) ++ rest)).map fun z : List Nat × List Int => (Sum.inr (⟨z.1.toArray⟩ : Str), z.2)) = some (Sum.inr s, rest)
    rw [if_neg (by rw [List.length_append, List.length_map]; omega), pT_enc tab _ _ h]
    show some (Sum.inr (⟨s.cps.toList.toArray⟩ : Str), rest) = _
    rw [Array.toArray_toList]
theorem pVs_enc : ∀ (k : List Key) (rest : List Int), (∀ x ∈ k, InTab tab x) → pVs tab k.length (k.flatMap (valL tab) ++ rest) = some (k, rest)
  | [], rest, _ => rfl
  | x :: k, rest, h => by
    have e : (x :: k).flatMap (valL tab) ++ rest = valL tab x ++ (k.flatMap (valL tab) ++ rest) := by rw [List.flatMap_cons, List.append_assoc]
    rw [e]
    show (match pV tab (valL tab x ++ (k.flatMap (valL tab) ++ rest)) with | none => none | some q => (pVs tab k.length q.2).map fun z : List Key × List Int => (q.1 :: z.1, z.2)) = some (x :: k, rest)
    rw [pV_enc tab _ (h x (List.mem_cons_self ..))]
    show (pVs tab k.length (k.flatMap (valL tab) ++ rest)).map (fun z : List Key × List Int => (x :: z.1, z.2)) = _
    rw [pVs_enc k rest fun y hy => h y (List.mem_cons_of_mem _ hy)]
    rfl
theorem pRow_enc {k : List Key} (rest : List Int) (h : ∀ x ∈ k, InTab tab x) (hl : k.length ≤ 20) : pRow tab (rowL tab k ++ rest) = some (k, rest) := by
  have e : rowL tab k ++ rest = natL k.length ++ (k.flatMap (valL tab) ++ rest) := by unfold rowL; rw [List.append_assoc]
  unfold pRow
  rw [e, pN_enc]
  show (if 20 < k.length then none else pVs tab k.length (k.flatMap (valL tab) ++ rest)) = _
  rw [if_neg (by omega), pVs_enc tab k rest h]
theorem Bytes.of_app {a b : List Int} (h : Bytes (a ++ b)) : Bytes b := fun x hx => h x (List.mem_append_right _ hx)
theorem enc_pV (nd : tab.Nodup) {l rest : List Int} {k : Key} (hb : Bytes l) (e : pV tab l = some (k, rest)) : InTab tab k ∧ l = valL tab k ++ rest := by
  cases l with
  | nil => cases e
  | cons m r =>
    have e' : (if m = 0 then (pN r).map (fun q => ((.inl (q.1 : Int) : Key), q.2)) else if m = 1 then (pN r).map (fun q => ((.inl (-(q.1 : Int) - 1) : Key), q.2)) else if m = 2 then
      (match pN r with
      | none => none
      | some q => if q.2.length < q.1 then none else (pT tab q.1 q.2).map fun z : List Nat × List Int => ((.inr ⟨z.1.toArray⟩ : Key), z.2)) else none) = some (k, rest) := e
    by_cases c0 : m = 0
    · rw [if_pos c0] at e'
      obtain ⟨⟨n, rs⟩, hq, eq⟩ := Option.map_eq_some_iff.mp e'
      obtain ⟨e1, e2⟩ := Prod.mk.inj eq
      have e1' : (.inl (n : Int) : Key) = k := e1
      have e2' : rs = rest := e2
      subst e1' e2' c0
      refine ⟨trivial, ?_⟩
      rw [enc_pN hb.tail hq]
      rw [valL_pos tab (by omega), Int.toNat_natCast]
      rfl
    · rw [if_neg c0] at e'
      by_cases c1 : m = 1
      · rw [if_pos c1] at e'
        obtain ⟨⟨n, rs⟩, hq, eq⟩ := Option.map_eq_some_iff.mp e'
        obtain ⟨e1, e2⟩ := Prod.mk.inj eq
        have e1' : (.inl (-(n : Int) - 1) : Key) = k := e1
        have e2' : rs = rest := e2
        subst e1' e2' c1
        refine ⟨trivial, ?_⟩
        rw [enc_pN hb.tail hq]
        have z : (-(-(n : Int) - 1) - 1).toNat = n := by omega
        rw [valL_neg tab (by omega), z]
        rfl
      · rw [if_neg c1] at e'
        by_cases c2 : m = 2
        · rw [if_pos c2] at e'
          cases hp : pN r with
          | none => rw [hp] at e'; cases e'
          | some q =>
            obtain ⟨n, r2⟩ := q
            rw [hp] at e'
            have e3 : (if r2.length < n then none else (pT tab n r2).map fun z : List Nat × List Int => ((.inr ⟨z.1.toArray⟩ : Key), z.2)) = some (k, rest) := e'
            by_cases c3 : r2.length < n
            · rw [if_pos c3] at e3; cases e3
            · rw [if_neg c3] at e3
              obtain ⟨⟨cs, rs⟩, hq, eq⟩ := Option.map_eq_some_iff.mp e3
              obtain ⟨e1, e2⟩ := Prod.mk.inj eq
              have e1' : (.inr ⟨cs.toArray⟩ : Key) = k := e1
              have e2' : rs = rest := e2
              have hr := enc_pN hb.tail hp
              have hb2 : Bytes r2 := by
                have h := hb.tail
                rw [hr] at h
                exact h.of_app
              obtain ⟨h1, h2, h3⟩ := enc_pT tab nd hb2 hq
              subst e1' e2' c2
              refine ⟨h2, ?_⟩
              rw [hr, h3]
              show 2 :: (natL n ++ (cs.map (fun c => ((idx tab c : Nat) : Int)) ++ rs)) = 2 :: ((natL cs.length ++ cs.map (fun c => ((idx tab c : Nat) : Int))) ++ rs)
              rw [List.append_assoc, h1]
        · rw [if_neg c2] at e'; cases e'
theorem enc_pVs (nd : tab.Nodup) : ∀ {n : Nat} {l rest : List Int} {k : List Key}, Bytes l → pVs tab n l = some (k, rest) → k.length = n ∧ (∀ x ∈ k, InTab tab x) ∧ l = k.flatMap (valL tab) ++ rest
  | 0, l, rest, k, _, e => by
    obtain ⟨rfl, rfl⟩ := Prod.mk.inj (Option.some.inj e)
    exact ⟨rfl, fun x h => (by cases h), rfl⟩
  | n + 1, l, rest, k, hb, e => by
    have e' : (match pV tab l with | none => none | some q => (pVs tab n q.2).map fun z : List Key × List Int => (q.1 :: z.1, z.2)) = some (k, rest) := e
    cases hp : pV tab l with
    | none => rw [hp] at e'; cases e'
    | some q =>
      obtain ⟨x, r⟩ := q
      rw [hp] at e'
      obtain ⟨⟨ks, rs⟩, hq, eq⟩ := Option.map_eq_some_iff.mp e'
      obtain ⟨e1, e2⟩ := Prod.mk.inj eq
      have e1' : x :: ks = k := e1
      have e2' : rs = rest := e2
      obtain ⟨h0, h0'⟩ := enc_pV tab nd hb hp
      have hb2 : Bytes r := by
        rw [h0'] at hb
        exact hb.of_app
      obtain ⟨h1, h2, h3⟩ := enc_pVs nd hb2 hq
      subst e1' e2'
      refine ⟨by rw [List.length_cons, h1], fun y hy => (List.mem_cons.mp hy).elim (fun z => by rw [z]; exact h0) (h2 y), ?_⟩
      rw [h0', List.flatMap_cons, List.append_assoc, h3]
theorem enc_pRow (nd : tab.Nodup) {l rest : List Int} {k : List Key} (hb : Bytes l) (e : pRow tab l = some (k, rest)) : k.length ≤ 20 ∧ (∀ x ∈ k, InTab tab x) ∧ l = rowL tab k ++ rest := by
  unfold pRow at e
  cases hp : pN l with
  | none => rw [hp] at e; cases e
  | some q =>
    obtain ⟨n, r⟩ := q
    rw [hp] at e
    have e' : (if 20 < n then none else pVs tab n r) = some (k, rest) := e
    by_cases c : 20 < n
    · rw [if_pos c] at e'; cases e'
    · rw [if_neg c] at e'
      have hl := enc_pN hb hp
      have hb2 : Bytes r := by
        rw [hl] at hb
        exact hb.of_app
      obtain ⟨h1, h2, h3⟩ := enc_pVs tab nd hb2 e'
      refine ⟨by omega, h2, ?_⟩
      unfold rowL
      rw [hl, h3, h1, List.append_assoc]
theorem cut_none (nd : tab.Nodup) {k k' : List Key} {a b rest : List Int} (h : ∀ x ∈ k, InTab tab x) (hl : k.length ≤ 20) (e : rowL tab k = a ++ b) (hb : b ≠ []) (ha : Bytes a) : pRow tab a ≠ some (k', rest) := by
  intro z
  obtain ⟨h1, h2, h3⟩ := enc_pRow tab nd ha z
  have p1 := pRow_enc tab [] h hl
  rw [List.append_nil, e, h3, List.append_assoc, pRow_enc tab (rest ++ b) h2 h1] at p1
  obtain ⟨_, e2⟩ := Prod.mk.inj (Option.some.inj p1)
  exact hb (List.append_eq_nil_iff.mp e2).2
end
end KN1
set_option Elab.async false
set_option linter.all false
set_option maxRecDepth 100000
set_option maxHeartbeats 4000000
namespace KL0
open PySem PySem.Spec PyProof.Rows L2 KB KC
def top (i : Nat) : Stmt := PySem.Challenge.pw_streamstack_k10_rows_of_other_shapes.main.body.getD i (.Pass ⟨0, 0, 0, 0⟩)
abbrev sKind : Stmt := top 8
abbrev sShape : Stmt := top 9
abbrev sSchema : Stmt := top 12
abbrev sReg : Stmt := top 13
abbrev sDice : Stmt := top 15
abbrev sRoll : Stmt := top 16
abbrev sRounds : Stmt := top 17
abbrev sTold : Stmt := top 18
abbrev sLSch : Stmt := top 19
abbrev sLReads : Stmt := top 20
abbrev sLFits : Stmt := top 21
abbrev sLaw : Stmt := top 22
abbrev FnP (K : PySem.W.Frag) (x q : Str) (st : Stmt) (dvs : List V) (f : Addr) (fd : FuncData) : Prop := FunD K x q (defArgs st) (defBody st) (defScope st) dvs [] f fd
def rIxD : R2 := fun x y H Q => ∃ p xs i v, x = .ref p ∧ y = .int i ∧ H p = some (.lst xs) ∧ atI xs i = some v ∧ Q v H
theorem ix_listD {X : Cx} : IxR X rIxD := by
  intro value slice pins s σ H x y v u Q I rx ry h hs
  obtain ⟨p, xs, i, z, e1, e2, hq, he, q⟩ := h
  exact ix_list value slice pins s σ H x y v u Q I rx ry ⟨p, xs, i, z, e1, e2, SqL.of hq, he, q⟩ hs
theorem sc_int {a b : Int} : scal (.int a) (.int b) = true := rfl
theorem at3_0 {a b c : V} : atI [a, b, c] 0 = some a := rfl
theorem at3_1 {a b c : V} : atI [a, b, c] 1 = some b := rfl
theorem at3_2 {a b c : V} : atI [a, b, c] 2 = some c := rfl
theorem at2_0 {a b : V} : atI [a, b] 0 = some a := rfl
theorem at2_1 {a b : V} : atI [a, b] 1 = some b := rfl
theorem ix3_0 : ixN (0 + 1 + 1 + 1) 0 = some 0 := rfl
theorem ix3_1 : ixN (0 + 1 + 1 + 1) 1 = some 1 := rfl
theorem ix3_2 : ixN (0 + 1 + 1 + 1) 2 = some 2 := rfl
theorem upd2 {H : Hp} {a : Addr} {o o' : HO} : upd (upd H a o) a o' = upd H a o' := by
  funext b
  by_cases e : b = a
  · subst e; rw [upd_same, upd_same]
  · rw [upd_ne e, upd_ne e, upd_ne e]
structure TxtL (mg : Str → Option Value) : Prop where
  abs : mg "abs" = none
  int : mg "int" = none
  range : mg "range" = none
  dict : mg "dict" = none
  list : mg "list" = none
  tuple : mg "tuple" = none
  len : mg "len" = none
  zip : mg "zip" = none
  isi : mg "isinstance" = none
  str : mg "str" = none
  sorted : mg "sorted" = none
  all : mg "all" = none
def IsDice (H : Hp) (d : Addr) : Prop := ∃ a b k : Int, H d = some (.lst [.int a, .int b, .int k])
def ExD (d : Addr) (H H' : Hp) : Prop := ∀ b o, b ≠ d → H b = some o → H' b = some o
def spDice : Sp := fun vs H Q _ => ∃ c : Int, vs = [.int c] ∧ ∀ p a b k, H p = none → Q (.ref p) (upd H p (.lst [.int a, .int b, .int k]))
@[irreducible] def spRoll : Sp := fun vs H Q _ => ∃ (d : Addr) (m : Int), vs = [.ref d, .int m] ∧ IsDice H d ∧ 0 < m ∧ m ≤ 100000000 ∧
  ∀ (r : Int) a b k, 0 ≤ r → r < m → Q (.int r) (upd H d (.lst [.int a, .int b, .int k]))
section
variable {P : Program} {w : World} {K : PySem.W.Frag} {mg : Str → Option Value} {base : Heap} {f : Addr} {fd : FuncData}
theorem scDice : FnScope ["cell"] ["cell"] (defScope sDice) := ⟨rfl, rfl, rfl, by decide +kernel, rfl, by decide +kernel, by decide +kernel⟩
theorem ok_dice (F : FnP K "_law_dice" "_law_dice" sDice [] f fd) (T : TxtL mg) : FnOk P w K mg base CX0 1 f fd ["cell"] spDice := by
  refine F.ok scDice (fun vs H Q E h => ?_) (fun cdv A outer s H vs Q E hr h => ?_)
  · obtain ⟨c, rfl, _⟩ := h; rfl
  · obtain ⟨c, rfl, k⟩ := h
    refine ⟨_, PSs.nox <| pss_cons (ps_if (pt_chain op_lt op_lt (pe_op op_sub pe_int pe_int) (pv 0) pe_int)
        (pss_one (ps_ret (pe_lst (pa_cons (pe_callB call_abs (by rfl) T.abs (by decide +kernel) (pa_cons (pv 0) pa_nil)) (pa_cons pe_int (pa_cons pe_int pa_nil)))))) pss_nil)
      (pss_one (ps_ret (pe_lst (pa_cons (pv 0) (pa_cons (pe_op op_add pe_int (pe_op op_mod (pe_callTy call_int1 (by rfl) T.int (by decide +kernel) (pa_cons (pv 0) pa_nil)) pe_int))
        (pa_cons (pe_callTy call_int1 (by rfl) T.int (by decide +kernel) (pa_cons (pe_cmpR op_ge (pv 0) (pe_op op_pow pe_int pe_int) (nomark _)) pa_nil)) pa_nil)))))), ?_⟩
    simp only [tSeq, tIfS, tIf, tTest, tChain, tOp, tC, tVar, tRet, tLst, tTup, tCons, tCB, tNil, tAsg, gName, tCall, tDrop, tOr, tAnd, tNot, gSub, rI0, rI, tNext, L2.start, List.set_cons_zero, List.set_cons_succ, List.map, List.replicate, List.length, List.append_nil, List.getElem?_cons_zero, List.getElem?_cons_succ, List.cons_append, List.nil_append, Option.some.injEq, exists_eq_left', exists_eq_left, exists_and_left, V.int.injEq, V.ref.injEq, List.cons.injEq, and_true, true_and, V.bl.injEq, reduceCtorEq, false_and, and_false, exists_false, or_false, false_or, HO.lst.injEq]
    have hs : 0 + 1 + 1 + 1 ≤ sizeLine := by decide
    have hp : CPow 10 18 := by unfold CPow; decide
    have h9 : (0 : Int) < 1009 := by decide
    split
    · split
      · exact ⟨hs, fun p e => k p _ _ _ e⟩
      · exact ⟨h9, hp, hs, fun p e => k p _ _ _ e⟩
    · rw [if_neg (fun z => z)]
      exact ⟨h9, hp, hs, fun p e => k p _ _ _ e⟩
theorem scRoll : FnScope ["dice", "many", "found"] ["dice", "many"] (defScope sRoll) := ⟨rfl, rfl, rfl, by decide +kernel, rfl, by decide +kernel, by decide +kernel⟩
theorem ok_roll (F : FnP K "_law_roll" "_law_roll" sRoll [] f fd) (T : TxtL mg) : FnOk P w K mg base CX0 1 f fd ["dice", "many"] spRoll := by
  refine F.ok scRoll (fun vs H Q E h => ?_) (fun cdv A outer s H vs Q E hr h => ?_)
  · unfold spRoll at h
    obtain ⟨d, m, rfl, _⟩ := h; rfl
  · unfold spRoll at h
    obtain ⟨d, m, rfl, ⟨a, b, k, hd⟩, h0, h1, q⟩ := h
    refine ⟨_, PSs.nox <| pss_cons (ps_if (PW.pt (pw_or (pt_cmpR op_eq (pe_ix ix_listD (pv 0) pe_int (fun _ _ => rfl)) pe_int (nomark _)) (pw_or1 (PW.pt (pw_and (pt_cmpR op_eq (pe_ix ix_listD (pv 0) pe_int (fun _ _ => rfl)) pe_int (nomark _)) (pw_and1 (pt_cmpR op_gt (pe_ix ix_listD (pv 0) pe_int (fun _ _ => rfl)) pe_int (nomark _))))))))
        (pss_cons (ps_set (i := 2) scRoll.nd rfl (Or.inl rfl) (pe_op op_mod (pe_callTy call_int1 (by rfl) T.int (by decide +kernel) (pa_cons (pe_ix ix_listD (pv 0) pe_int (fun _ _ => rfl)) pa_nil)) (pv 1)))
          (pss_cons (ps_asg (pe_op op_fdiv (pe_ix ix_listD (pv 0) pe_int (fun _ _ => rfl)) (pv 1)) (pg_sub (pv 0) pe_int set_list)) (pss_one (ps_ret (pv 2))))) pss_nil)
      (pss_cons (ps_asg pe_int (pg_sub (pv 0) pe_int set_list))
      (pss_cons (ps_if (pt_cmpR op_gt (pv 1) pe_int (nomark _)) pss_never pss_nil)
      (pss_cons (ps_asg (pe_op op_mod (pe_callTy call_int1 (by rfl) T.int (by decide +kernel) (pa_cons (pe_op op_add (pe_op op_add (pe_op op_mul (pe_ix ix_listD (pv 0) pe_int (fun _ _ => rfl)) pe_int) (pe_op op_mul (pe_ix ix_listD (pv 0) pe_int (fun _ _ => rfl)) pe_int)) pe_int) pa_nil)) pe_int) (pg_sub (pv 0) pe_int set_list))
      (pss_cons (ps_asg (pe_op op_add (pe_ix ix_listD (pv 0) pe_int (fun _ _ => rfl)) pe_int) (pg_sub (pv 0) pe_int set_list))
      (pss_one (ps_ret (pe_op op_mod (pe_callTy call_int1 (by rfl) T.int (by decide +kernel) (pa_cons (pe_op op_fdiv (pe_ix ix_listD (pv 0) pe_int (fun _ _ => rfl)) pe_int) pa_nil)) (pv 1)))))))), ?_⟩
    have hm : decide ((100000000 : Int) < m) = false := decide_eq_false (by omega)
    simp only [tSeq, tIfS, tIf, tTest, tChain, tOp, tC, tVar, tRet, tLst, tTup, tCons, tCB, tNil, tAsg, gName, tCall, tDrop, tOr, tAnd, tNot, gSub, rI0, rI, tNext, L2.start, List.set_cons_zero, List.set_cons_succ, List.map, List.replicate, List.length, List.append_nil, List.getElem?_cons_zero, List.getElem?_cons_succ, List.cons_append, List.nil_append, Option.some.injEq, exists_eq_left', exists_eq_left, exists_and_left, V.int.injEq, V.ref.injEq, List.cons.injEq, and_true, true_and, V.bl.injEq, reduceCtorEq, false_and, and_false, exists_false, or_false, false_or, HO.lst.injEq, rIxD, rSetL, rEq, sc_int, hd, upd_same, upd2, at3_0, at3_1, at3_2, ix3_0, ix3_1, ix3_2, hm, if_true, if_false, Bool.false_eq_true]
    have g0 : (0 : Int) < 2147483647 := by decide
    have gm : ∀ x : Int, CMul x 48271 := fun x => .inr ⟨by decide, by decide⟩
    have gn : ∀ x : Int, CMul x 69621 := fun x => .inr ⟨by decide, by decide⟩
    have gd : ∀ x : Int, CDiv x 7 := fun x => ⟨by decide, by decide⟩
    have gq : ∀ x : Int, CDiv x m := fun x => ⟨h0, by omega⟩
    have lo : ∀ x : Int, 0 ≤ x % m := fun x => Int.emod_nonneg _ (by omega)
    have hi : ∀ x : Int, x % m < m := fun x => Int.emod_lt_of_pos _ h0
    split
    · exact ⟨h0, gq _, q _ _ _ _ (lo _) (hi _)⟩
    · split
      · split
        · exact ⟨h0, gq _, q _ _ _ _ (lo _) (hi _)⟩
        · exact ⟨gm _, gn _, g0, gd _, h0, q _ _ _ _ (lo _) (hi _)⟩
      · exact ⟨gm _, gn _, g0, gd _, h0, q _ _ _ _ (lo _) (hi _)⟩
end
end KL0
set_option Elab.async false
set_option linter.all false
set_option maxRecDepth 100000
set_option maxHeartbeats 4000000
namespace KL0
open PySem PySem.Spec PyProof.Rows L2 KB KC KS
@[irreducible] def spRounds (K : PySem.W.Frag) : Sp := fun vs H Q _ => ∃ (s : Addr) (ns : List Int), vs = [.ref s, .int 1] ∧ SqL K H s (ns.map V.int) ∧ ∀ H' p d, Ex H H' → H' p = some (.lst [.ref d]) → IsDice H' d → Q (.ref p) H'
theorem IsDice.upd_ne {H : Hp} {d a : Addr} {o : HO} (h : IsDice H d) (n : H a = none) : IsDice (upd H a o) d := by
  obtain ⟨x, y, z, e⟩ := h
  exact ⟨x, y, z, by rw [L2.upd_ne (ne_of_none e n)]; exact e⟩
theorem Ex.on {H H1 : Hp} {a : Addr} {o : HO} (e : Ex H H1) (n : H a = none) : Ex H (upd H1 a o) := fun b u h => by rw [L2.upd_ne (ne_of_none h n)]; exact e b u h
section
variable {P : Program} {w : World} {K : PySem.W.Frag} {mg : Str → Option Value} {base : Heap} {f fD : Addr} {fd fdD : FuncData}
theorem scRounds : FnScope ["script", "most", "cells", "cell"] ["script", "most"] (defScope sRounds) := ⟨rfl, rfl, rfl, by decide +kernel, rfl, by decide +kernel, by decide +kernel⟩
theorem ok_rounds (F : FnP K "_law_rounds" "_law_rounds" sRounds [] f fd) (T : TxtL mg) (FD : FnP K "_law_dice" "_law_dice" sDice [] fD fdD) (gD : mg "_law_dice" = some (.ref fD)) :
    FnOk P w K mg base CX0 2 f fd ["script", "most"] (spRounds K) := by
  have GD : FnOk P w K mg base CX0 1 fD fdD ["cell"] spDice := ok_dice FD T
  have bD : Binds K fdD ["cell"] [] := FD.bindsN fun _ _ _ _ _ _ us hl => match us, hl with | [_], _ => rfl
  refine F.ok scRounds (fun vs H Q E h => ?_) (fun cdv A outer s H vs Q E hr h => ?_)
  · unfold spRounds at h
    obtain ⟨c, d, rfl, _⟩ := h; rfl
  · unfold spRounds at h
    obtain ⟨a, ns, rfl, hS, q⟩ := h
    refine ⟨_, PSs.nox <| pss_cons (ps_set (i := 2) scRounds.nd rfl (Or.inl rfl) (pe_slice sl_list (pv 0) po_none (po_some (pv 1))))
      (pss_cons (ps_if (pt_cmpR (op_eqD hr.units) (pv 2) (pe_lst pa_nil) (nomark _)) (pss_one (ps_set (i := 2) scRounds.nd rfl (Or.inl rfl) (pe_lst (pa_cons pe_int pa_nil)))) pss_nil)
      (pss_one (ps_ret (pe_lc (own := [("cell", 3)]) (g := gName 3) (tt := tYes) rfl scRounds.nd (pi_list (pv 2)) (blkOk_by (N := ["script", "most", "cells", "cell"]) (sc := defScope sRounds) (by decide +kernel))
        (fun _ _ _ _ _ => pg_name (i := 3) scRounds.nd rfl (Or.inl rfl)) (fun _ _ _ _ _ => pts_nil)
        (fun _ _ _ _ _ => pe_call GD hr rfl gD FD.kp bD .nil pass0 (pa_cons (pv 3) pa_nil)))))), ?_⟩
    have fin : ∀ (c : Addr) (n : Int) (H1 : Hp), Ex H H1 → H1 c = some (.lst [.int n]) →
        (tRet (tLc (iList K (tVar 2)) (gName 3) tYes (tCall spDice [] E0 (tCons (tVar 3) tNil)) [3])) { nx := fun _ H' => Q .non H', rt := Q } [some (.ref a), some (.int 1), some (.ref c), none] H1 := by
      intro c n H1 e1 hc
      refine ⟨_, rfl, c, rfl, ⟨_, SqL.of hc⟩, fun D hD => lc_list (xs := [V.int n])
        (fun i H2 => Ex H1 H2 ∧ ((i = 0 ∧ H2 D = some (.lst [])) ∨ (i = 1 ∧ ∃ d, H2 D = some (.lst [.ref d]) ∧ IsDice H2 d))) ?_ ?_ ?_ ?_⟩
      · exact ⟨Ex.upd hD, .inl ⟨rfl, upd_same⟩⟩
      · rintro i H2 _ ⟨e2, _⟩
        exact SqL.of (e2 c _ hc)
      · rintro i x H2 hx ⟨e2, h2⟩
        rcases h2 with ⟨rfl, h2⟩ | ⟨rfl, _⟩
        · cases hx
          refine ⟨rfl, ?_⟩
          refine ⟨_, rfl, n, rfl, fun p x y z hp => ⟨[], ?_, (by decide), ?_⟩⟩
          · rw [L2.upd_ne (ne_of_none h2 hp)]; exact h2
          · refine ⟨Ex.on (e2.trans (Ex.upd hp)) hD, .inr ⟨rfl, p, upd_same, x, y, z, ?_⟩⟩
            rw [L2.upd_ne (fun e => by rw [e, h2] at hp; cases hp), upd_same]
        · cases hx
      · rintro H2 ⟨e2, h2⟩
        rcases h2 with ⟨h, _⟩ | ⟨_, d, h2, h3⟩
        · cases h
        · exact q H2 D d (e1.trans e2) h2 h3
    refine ⟨_, rfl, _, rfl, 1, rfl, a, _, rfl, hS, fun p hp => ?_⟩
    cases ns with
    | nil =>
      refine ⟨_, rfl, (by decide), fun p2 hp2 => ⟨.list [], .list [], .lst (.inl (.inl ?_)) .nil, .lst (.inl (.inl upd_same)) .nil, rfl, rfl, true, rfl, ?_⟩⟩
      · rw [L2.upd_ne (ne_of_none upd_same hp2)]; exact upd_same
      · refine ⟨(by decide), fun p3 hp3 => fin p3 0 _ ?_ upd_same⟩
        exact ((Ex.upd hp).trans (Ex.upd hp2)).trans (Ex.upd hp3)
    | cons n r =>
      have e : cutV ((n :: r).map V.int) none (some 1) = [V.int n] := by
        unfold cutV HT.sIx
        simp
      rw [e] at *
      refine ⟨_, rfl, (by decide), fun p2 hp2 => ⟨.list [.int n], .list [], .lst (.inl (.inl ?_)) (.cons (.int _) .nil), .lst (.inl (.inl upd_same)) .nil, rfl, rfl, false, rfl, ?_⟩⟩
      · rw [L2.upd_ne (ne_of_none upd_same hp2)]; exact upd_same
      · refine fin p n _ ((Ex.upd hp).trans (Ex.upd hp2)) ?_
        rw [L2.upd_ne (ne_of_none upd_same hp2)]; exact upd_same
end
end KL0
set_option Elab.async false
set_option linter.all false
set_option maxRecDepth 100000
set_option maxHeartbeats 4000000
namespace KS
open PySem PySem.Spec PyProof.Rows PySem.Calls L2 KB KC KD LamX PySem.SeqAt
def rSortItK (X : Cx) : List V → List V → Hp → VK → Prop := fun vs zs H Q => ∃ (p a f : Addr) (kvs : List (List Key × V)) (kd : List Key × V → List PyData) (ρ : List Key × V → Int), vs = [.ref p] ∧ zs = [.ref f] ∧ H p = some (L2.DX.itemsO p a) ∧ H a = some (.dT kvs) ∧
  (∀ x ∈ kvs, shaped (.tuple (kd x)) = true) ∧ (∀ x ∈ kvs, pureL (kd x) = true) ∧ (∀ x ∈ kvs, ∃ l r, kd x = .tuple l :: r) ∧ (∀ x ∈ kvs, ∀ y ∈ kvs, okL (kd x) (kd y) = true) ∧ (∀ x ∈ kvs, ∀ y ∈ kvs, ltL (kd x) (kd y) = decide (ρ x < ρ y)) ∧ KeyCall X f H kvs kd ∧
  ∀ (H' : Hp) (D : Addr) (zs : List (Addr × (List Key × V))), Ex H H' → H D = none → H' D = some (.lst (zs.map fun z => V.ref z.1)) → (zs.map (·.2)).Perm kvs → (zs.map (·.2)).Pairwise (fun x y => ¬ ρ y < ρ x) →
    (∀ z ∈ zs, ∃ q, H' z.1 = some (.tup [.ref q, z.2.2]) ∧ H' q = some (.tup (z.2.1.map kV))) → Q (.ref D) H'
section
variable {X : Cx}
theorem cr_sortedItK (hc : X.calm = true) (hu : X.A.units + 66 < cLine) : CallRK X (.builtin "sorted") [Str.ofString "key"] (rSortItK X) := by
  intro pins s σ H xs zs us ws Q I r rz h
  obtain ⟨p, a, f, kvs, kd, ρ, rfl, rfl, hp, ha, hsh, hpu, hft, hok, hρ, hcall, q⟩ := h
  obtain rfl := Vals.ref1 r
  obtain rfl := Vals.ref1 rz
  have view : s.heap.IsItemsView p a := (show ObjOk X.prog X.w H s.heap p (L2.DX.itemsO p a) from I.hok p _ hp).1
  obtain ⟨z, hd, xs', rel, o, es, ep, ho, hx, hdat, hes, his, hn⟩ := dt_of I.hok ha
  have l1 : kvs.length = xs'.length := Paired.length rel
  have l2 : es.size = xs'.length := size_of_entries hes
  show wpAny _ _ (call (.builtin "sorted") [.ref p] [(Str.ofString "key", .ref f)]) _ _ s
  refine call_function_entry_kw kind_sorted plain_sorted entry_sorted (ksk_s1 _ _) ?_
  unfold Builtin.«sorted»
  refine wpAny_bind (m := checkCount "sorted" 1 1 _) (wpAny_pure ?_)
  refine wpAny_bind (DT.collectI (A := X.A.in1) (es := es) (ep := ep) (I.ok.hd hc) view ⟨o, ho, hx, hdat⟩ (by omega) fun h' tk as hk hlt hl hG => ?_)
  refine wpAny_bind (wpAny_newList ?_ (by rw [List.length_map, hl]; omega))
  have hoL : (h'.push (seqObj "list" (as.map Value.ref).toArray 0)).get? h'.objs.size = some (seqObj "list" (as.map Value.ref).toArray 0) := Heap.get?_push_size _ rfl
  refine wpAny_bind (wpAny_holding (wpAny_call_entry_kw slot_list_sort ⟨_, hoL, rfl⟩ entry_list_sort ?body (ksk_l1 _ _)))
  case body =>
    show wpAny (model X.prog X.w) X.A.in1.in1 (Builtin.«list.sort» ⟨[.ref h'.objs.size], [(Str.ofString "key", .ref f)]⟩) _ _ _
    rw [ksk_t1]
    refine sort_body (s := s) (h2 := h'.push (seqObj "list" (as.map Value.ref).toArray 0)) (tk := tk) (ρ := ρ) I (fun b u e => Heap.get?_push_of_some _ (hk b u e)) hoL (Nat.le_of_lt hlt) rel hes hl
      ⟨hG.rise, hG.above, fun j b hj => let ⟨e, he, hg⟩ := hG.pairs j b hj; ⟨e, he, Heap.get?_push_of_some _ hg⟩⟩ z hsh hpu hft hok hρ hu hcall fun H' s' zs J e1 e2 e3 e4 e5 e6 => ⟨_, rfl, ?_⟩
    exact wpAny_pure ⟨_, rfl, .ref h'.objs.size, H', J, rfl, q H' h'.objs.size zs e1 e2 e3 e4 e5 e6⟩
theorem keyCall_lam {k : Nat} {f c' : Addr} {qn : Str} {params : Arguments} {body : Expr} {scope : Scope} {N : List Str} {pn : Str} {H : Hp} {kvs : List (List Key × V)} {kd : List Key × V → List PyData} (S : FnScope N [pn] scope) (hr : Room (k + 3) X.A)
    (hf : H f = some (LamO f qn params body scope c')) (hc : H c' = some (CodeO c' qn)) (hb : ∀ (s : Shared) (pm ctv u : Value), BindsTo s (PySem.W.kla_fn "<lambda>" qn params body scope [] pm (.ref c') ctv) ⟨[u], []⟩ ([pn].zip [u]))
    (hbody : ∀ (A : Around) (outer : List Env) (s : Shared) (H1 : Hp), Room k (A.deeper (envOfC qn scope s.heap.objs.size f (.ref c'))) → ∀ x ∈ kvs, ∀ (t q : Addr) (Q : VK), Ex H H1 → H1 t = some (.tup [.ref q, x.2]) → H1 q = some (.tup (x.1.map kV)) →
      (∀ y H2, Ex H1 H2 → Dp X.K H2 y (.tuple (kd x)) → Q y H2) → ∃ tt, PE (cxOf CX0 X.prog X.w X.K X.mg X.base N qn scope f (.ref c') A outer s H1 E0) body tt ∧ tt (start N [.ref t]) H1 Q) : KeyCall X f H kvs kd := by
  intro x hx t q H1 e1 h1 h2 pins σ s1 R J hR
  have hr2 : Room (k + 1) X.A.in1.in1 := (show Room (k + 2) X.A.in1 from Room.in1 hr).in1
  have rc := lam_run (CX := CX0) (Q := fun y H2 => Ex H1 H2 ∧ Dp X.K H2 y (.tuple (kd x))) (E := E0) (vs := [.ref t]) (us := [.ref t]) (args := ⟨[.ref t], []⟩) S hr2 J.env0.in1.in1 (e1 _ _ hf) (e1 _ _ hc) (fun pm ctv => hb s1 pm ctv _) (.cons rfl .nil) rfl
    (fun hr' => hbody _ _ s1 H1 hr' x hx t q _ e1 h1 h2 fun y H2 a b => ⟨a, b⟩)
  refine wpAny_call (codeAny_mono rc fun r s2 hq => ?_)
  cases r with
  | error e => exact (show False from hq).elim
  | ok fl =>
    cases fl with
    | ret u =>
      obtain ⟨y, H2, J2, ry, a, b⟩ := J.after hq
      exact hR y u H2 s2 J2 a ry b
    | next => exact False.elim hq
    | brk => exact False.elim hq
    | cont => exact False.elim hq
end
end KS
set_option Elab.async false
set_option linter.all false
set_option maxRecDepth 100000
set_option maxHeartbeats 4000000
namespace KG
open PySem PySem.Spec PyProof.Rows PySem.Calls L2 KB
def mergeT (acc kvs : List (List Key × V)) : List (List Key × V) := kvs.foldl (fun acc p => putK acc p.1 p.2) acc
theorem kt_merge {H : Hp} : ∀ {kvs : List (List Key × V)} {xs : List (List Key × Addr × Value)} {acc : List (List Key × V)} {ys : List (List Key × Addr × Value)}, KT H kvs xs → KT H acc ys → KT H (mergeT acc kvs) (storedAllH ys xs)
  | _, _, _, _, .nil, r => r
  | _, _, _, _, .cons (a := p) (b := x) (l₁ := kvs) (l₂ := xs) h t, r => by
    obtain ⟨h1, h2, h3⟩ := h
    have z := KT.put r p.1 (b := x.2.1) (by exact h2) h3
    show KT H (mergeT (putK _ p.1 p.2) kvs) (storedAllH (storedH _ x.1 x.2.1 x.2.2) xs)
    rw [← h1]
    exact kt_merge t z
theorem putK_len {κ : Type} [DecidableEq κ] (kvs : List (κ × V)) (k : κ) (v : V) : (putK kvs k v).length ≤ kvs.length + 1 := by
  unfold putK
  split
  · rw [List.length_map]; omega
  · rw [List.length_append]; simp
theorem merge_len : ∀ (kvs acc : List (List Key × V)), (mergeT acc kvs).length ≤ acc.length + kvs.length
  | [], acc => Nat.le_refl _
  | p :: kvs, acc => by
    have h1 := merge_len kvs (putK acc p.1 p.2)
    have h2 := putK_len acc p.1 p.2
    rw [List.length_cons]
    show (mergeT (putK acc p.1 p.2) kvs).length ≤ _
    omega
section
variable {X : Cx} {pins : List (Addr × Obj)} {σ : L2.St} {H : Hp} {s : Shared}
theorem pairs_raw (I : Inv X pins σ H s) : ∀ {ts : List Addr} {kvs : List (List Key × V)}, PairsOf H ts kvs → ∃ xs : List (List Key × Addr × Value), KT H kvs xs ∧ xs.length = ts.length ∧ ∀ (j : Nat) (x : List Key × Addr × Value), xs[j]? = some x → ∃ t, ts[j]? = some t ∧ s.heap.IsTuple t #[.ref x.2.1, x.2.2]
  | _, _, .nil => ⟨[], .nil, rfl, fun j x h => by simp at h⟩
  | _, _, .cons (a := t) (b := p) (l₁ := ts) (l₂ := kvs) h r => by
    obtain ⟨xs, k1, k2, k3⟩ := pairs_raw I r
    obtain ⟨q, h1, h2⟩ := h
    obtain ⟨_, its, rv, ht⟩ := (show ObjOk X.prog X.w H s.heap t (.tup [.ref q, p.2]) from I.hok t _ h1)
    cases rv with
    | cons r1 r2 =>
      cases r2 with
      | @cons _ u _ _ r3 r4 =>
        cases r4
        cases r1
        refine ⟨(p.1, q, u) :: xs, .cons ⟨rfl, h2, r3⟩ k1, by rw [List.length_cons, List.length_cons, k2], fun j x hj => ?_⟩
        cases j with
        | zero =>
          simp only [List.getElem?_cons_zero, Option.some.injEq] at hj
          subst hj
          exact ⟨t, rfl, ht⟩
        | succ j =>
          simp only [List.getElem?_cons_succ] at hj
          exact k3 j x hj
def rDictT : List V → Hp → VK → Prop := fun vs H Q => ∃ (a : Addr) (ts : List Addr) (kvs : List (List Key × V)), vs = [.ref a] ∧ (H a = some (.lst (ts.map V.ref)) ∨ ∃ o, H a = some (.frz o (.tup (ts.map V.ref))) ∧ o.dict = none) ∧ PairsOf H ts kvs ∧ ∀ p, H p = none → Q (.ref p) (upd H p (.dT (mergeT [] kvs)))
theorem cr_dictT (hc : X.calm = true) (hu : X.A.units + 4 < cLine) : CallR X (.type "dict") rDictT := by
  intro pins s σ H vs us Q I r h
  obtain ⟨a, ts, kvs, rfl, ha, hp, q⟩ := h
  obtain rfl := Vals.ref1 r
  obtain ⟨xs, k1, k2, k3⟩ := pairs_raw I hp
  have lk : kvs.length = xs.length := Paired.length k1
  have items : PairItems s.heap (ts.map Value.ref).toArray (fun j => ts.getD j 0) (xs.map fun x => (Value.ref x.2.1, x.2.2)) := by
    refine ⟨by simp [k2], fun j k v hj => ?_⟩
    rw [List.getElem?_map] at hj
    obtain ⟨x, hx, e⟩ := Option.map_eq_some_iff.mp hj
    obtain ⟨t, ht, hT⟩ := k3 j x hx
    cases e
    refine ⟨by simp [ht], .inl ?_⟩
    have e2 : ts.getD j 0 = t := by simp [List.getD, ht]
    show s.heap.IsTuple (ts.getD j 0) _
    rw [e2]
    exact hT
  have nps : (xs.map fun x => (Value.ref x.2.1, x.2.2)).length = xs.length := List.length_map _
  have hc2 : PairsHaveH (tupleKind (mixKind X.prog X.w)) (xs.map fun x => (Value.ref x.2.1, x.2.2)).length (PairRel (xs.map fun x => (Value.ref x.2.1, x.2.2))) xs := by
    refine ⟨by rw [nps], fun i key v hj => ?_⟩
    have hj : (xs.map fun x => (Value.ref x.2.1, x.2.2))[i]? = some (key, v) := hj
    rw [List.getElem?_map] at hj
    obtain ⟨x, hx, e⟩ := Option.map_eq_some_iff.mp hj
    cases e
    exact ⟨x.1, x.2.1, by rw [hx], rfl⟩
  have keys : ∀ x ∈ xs, (tupleKind (mixKind X.prog X.w)).is s.heap x.1 x.2.1 := fun x hx => by
    obtain ⟨p, _, e1, e2, _⟩ := mem_r k1 x hx
    rw [← e1]
    exact key_of I.hok e2
  have hst : KeysStay (tupleKind (mixKind X.prog X.w)) s.heap s.heap.objs.size [] xs := fun h' hk x hx => by
    obtain ⟨o, its, n, ho, hc', hd, hi⟩ := keys x hx
    exact ⟨o, its, n, hk _ _ (Nat.ne_of_lt (Heap.lt_size ho)) (by simp) ho, hc', hd, hi⟩
  have hroom : (tupleKind (mixKind X.prog X.w)).room X.A.in1.in1 := tupleKind_room_in1 (by show X.A.units + 1 + 1 < cLine; omega)
  have hm : (s.heap.objs.size == sysModules) = false := beq_eq_false_iff_ne.mpr (Nat.ne_of_gt I.big)
  have fin : ∀ (h' : Heap) (tk : Nat), h'.DictOfH (tupleKind (mixKind X.prog X.w)) s.heap.objs.size (storedAllH [] xs) → (∀ b o, b ∉ ([] : List Addr) → s.heap.get? b = some o → h'.get? b = some o) → kvs.length ≤ sizeLine → EP X pins σ Q (.ref s.heap.objs.size) { s with heap := h', toks := tk } := by
    intro h' tk hd hk hz
    obtain ⟨o, es, ep, d1, d2, d3, d4, _, d6⟩ := hd
    have kt : KT (upd H s.heap.objs.size (.dT (mergeT [] kvs))) (mergeT [] kvs) (storedAllH [] xs) := (kt_merge k1 .nil).keeps fun b ys e => by rw [upd_ne (ne_of_none e (I.hok.fresh (Nat.le_refl _)))]; exact e
    have hz2 := merge_len kvs []
    exact ⟨.ref s.heap.objs.size, _, I.laid (t' := tk) (o := .dT (mergeT [] kvs)) (fun b o e => hk b o (by simp) e) (Nat.le_refl _) ⟨by simp at hz2; omega, hm, _, kt, o, es, ep, d1, d2, d3, d4, d6⟩, rfl, q _ (I.hok.fresh (Nat.le_refl _))⟩
  rcases ha with ha | ha
  · obtain ⟨hz, its, n, ri, hraw⟩ := (show ObjOk X.prog X.w H s.heap a (.lst (ts.map V.ref)) from I.hok a _ ha)
    have ei : its = ts.map Value.ref := refs_at ri
    subst ei
    rw [List.length_map] at hz
    exact call_dict_pairsH (knd := tupleKind (mixKind X.prog X.w)) (PairArg.list a _ _ _) (I.ok.hd hc) hroom ⟨⟨_, n, hraw, rfl, rfl, rfl⟩, items⟩ hc2 hst (by rw [nps]; omega) fun h' tk hd hk => fin h' tk hd hk (by omega)
  · obtain ⟨o, ha, hdn⟩ := ha
    obtain ⟨ho, hz, its, ri, hraw⟩ := (show ObjOk X.prog X.w H s.heap a (.frz o (.tup (ts.map V.ref))) from I.hok a _ ha)
    have ei : its = ts.map Value.ref := refs_at ri
    subst ei
    rw [List.length_map] at hz
    obtain ⟨o', ho', hcl, n, hdat⟩ := hraw
    have e : o' = o := Option.some.inj (ho'.symm.trans ho)
    subst e
    exact call_dict_pairsH (knd := tupleKind (mixKind X.prog X.w)) (PairArg.tuple a _ _ _) (I.ok.hd hc) hroom ⟨⟨o', n, ho, hcl, hdn, hdat⟩, items⟩ hc2 hst (by rw [nps]; omega) fun h' tk hd hk => fin h' tk hd hk (by omega)
def rTupleF (K : PySem.W.Frag) : List V → Hp → VK → Prop := fun vs H Q => ∃ (p : Addr) (ys : List V), vs = [.ref p] ∧ SqL K H p ys ∧ ∀ (l : Addr) (o : Obj), o.dict = none → H l = none → Q (.ref l) (upd H l (.frz o (.tup ys)))
theorem cr_tupleF : CallR X (.type "tuple") (rTupleF X.K) := by
  intro pins s σ H vs us Q I r h
  obtain ⟨p, ys, rfl, hq, q⟩ := h
  obtain rfl := Vals.ref1 r
  obtain ⟨its, r', pl, hz⟩ := I.list hq
  have hlen := r'.length
  refine call_tuple_list pl.isList (fun h' kp => ?_) (by simp only [List.size_toArray]; omega)
  have I1 : Inv X pins σ H { s with heap := h' } := I.kept (t' := s.toks) kp
  have hget : (h'.push { cls := .type "tuple", data := .seq its.toArray }).get? h'.objs.size = some { cls := .type "tuple", data := .seq its.toArray } := Heap.get?_push_size _ rfl
  exact ⟨.ref h'.objs.size, _, I1.laid (t' := s.toks) (o := .frz { cls := .type "tuple", data := .seq its.toArray } (.tup ys)) (fun b o e => Heap.get?_push_of_some _ e) (Nat.le_refl _) ⟨hget, hz, its, r', _, hget, rfl, 0, rfl⟩, rfl, q _ _ rfl (I1.hok.fresh (Nat.le_refl _))⟩
end
end KG
set_option Elab.async false
set_option linter.all false
set_option maxRecDepth 100000
set_option maxHeartbeats 4000000
namespace KH
open PySem PySem.Spec PyProof.Rows PySem.Calls L2 KB GxR
def EltI (prog : Program) (w : World) (scope : Scope) (x : Str) (elt : Expr) (pb : Int → Bool) : Prop :=
  ∀ (cenv : Env) (A' : Around) (E' : Value → Shared → Prop) (i : Int) (t : Tok) (s₂ : Shared) (m₂ : Str → Option Value), cenv.scope = scope → s₂.heap.Ns cenv.locals m₂ → m₂ x = some (.int i t) →
    wpAny (model prog w) A' (eval elt cenv) (fun y s₃ => y = .bool (pb i) ∧ Keeps s₂ s₃) E' s₂
theorem elt_gt {prog : Program} {w : World} {scope : Scope} {x : Str} {n : Int} {j : Nat} {p1 p2 p3 : Pos} (hk : scope.kind = .function) (hl : scope.names.lookup x = some .local) (hd : (x == ("__debug__" : Str)) = false := by decide) :
    EltI prog w scope x (.Compare (.Name x p1) [.Gt] [.Constant (.int n) j p2] p3) (fun i => decide (n < i)) := by
  intro cenv A' E' i t s₂ m₂ hs hn hm
  refine wpAny_Compare1 ?_
  refine wpAny_Name (wpAny_loadName_local (by rw [hs]; exact hk) (show cenv.scope.names.lookup x = some .local by rw [hs]; exact hl) hn hm ?_) hd
  refine wpAny_Constant_int ?_
  exact PyProof.Rows.gt_int ⟨rfl, keeps_tok _ _⟩
def intP (pb : Int → Bool) : Value → Bool
  | .int i _ => pb i
  | _ => false
def vP (pb : Int → Bool) : V → Bool
  | .int i => pb i
  | _ => false
def trE (pb : Int → Bool) (es : Array DictEntry) (j : Nat) : Bool := match es[j]? with
  | some e => intP pb e.val
  | none => false
theorem all_trE (pb : Int → Bool) (es : Array DictEntry) : (List.range es.size).all (trE pb es) = es.toList.all fun e => intP pb e.val := by
  rw [Bool.eq_iff_iff, List.all_eq_true, List.all_eq_true]
  constructor
  · intro h e he
    obtain ⟨j, hj, hx⟩ := List.getElem_of_mem he
    have hj' : j < es.size := by rw [← Array.length_toList]; exact hj
    have q := h j (List.mem_range.mpr hj')
    unfold trE at q
    rw [Array.getElem?_eq_getElem hj'] at q
    rw [Array.getElem_toList] at hx
    rw [← hx]
    exact q
  · intro h j hj
    have hj' := List.mem_range.mp hj
    unfold trE
    rw [Array.getElem?_eq_getElem hj']
    exact h _ (Array.mem_toList_iff.mpr (Array.getElem_mem hj'))
theorem all_kt (pb : Int → Bool) {H : Hp} : ∀ {kvs : List (List Key × V)} {xs : List (List Key × Addr × Value)}, KT H kvs xs → (xs.all fun x => intP pb x.2.2) = kvs.all fun p => vP pb p.2
  | _, _, .nil => rfl
  | _, _, .cons (a := p) (b := x) h t => by
    rw [List.all_cons, List.all_cons, all_kt pb t]
    obtain ⟨_, _, rv⟩ := h
    have e : intP pb x.2.2 = vP pb p.2 := by
      cases hp : p.2 with
      | int i =>
        rw [hp] at rv
        obtain ⟨t, e⟩ := rv
        rw [e]
        rfl
      | non => rw [hp] at rv; rw [show x.2.2 = Value.none from rv]; rfl
      | bl b => rw [hp] at rv; rw [show x.2.2 = Value.bool b from rv]; rfl
      | str z => rw [hp] at rv; obtain ⟨t, e⟩ := rv; rw [e]; rfl
      | byt z => rw [hp] at rv; obtain ⟨t, e⟩ := rv; rw [e]; rfl
      | flt z => rw [hp] at rv; obtain ⟨t, e⟩ := rv; rw [e]; rfl
      | ref a => rw [hp] at rv; rw [show x.2.2 = Value.ref a from rv]; rfl
      | ty n => rw [hp] at rv; rw [show x.2.2 = Value.type n from rv]; rfl
    rw [e]
theorem nat1 {a b c : Nat} (h : a < b) (e : c = b + 1) (q : a = c) : False := by omega
theorem nat2 {a b c : Nat} (h : a < b) (e : b ≤ c) (q : a = c) : False := by omega
section
variable {X : Cx} {pins : List (Addr × Obj)} {σ : L2.St} {H : Hp} {s : Shared}
def ReadyI (X : Cx) (pins : List (Addr × Obj)) (σ : L2.St) (H1 : Hp) (P : Addr) (es : Array DictEntry) (pb : Int → Bool) (g : Addr) (s5 : Shared) : Prop :=
  ∃ (fp wr : List Addr) (G : Array GenState → Array GenState → Prop) (F : Nat → Value → Prop) (St : Nat → Shared → Prop),
    WalksS X.prog X.w X.A.in1 g fp wr G es.size F St ∧ St 0 s5 ∧ TruthOf X.prog X.w X.A.in1 F (trE pb es) ∧ ∀ s', Moved wr G s5 s' → ∃ H2, Tabbed P H1 H2 ∧ Inv X pins σ H2 s'
theorem gen_vals {c P : Addr} {elt e : Expr} {x : Str} {px gpos apos cpos : Pos} {scope : Scope} {pb : Int → Bool} {te : TE} {k : Nat} {Q' : Value → Shared → Prop} {R : List (List Key × V) → Hp → Prop}
    (hr : Room k X.A) (TB : TabB X.base X.mg c P) (hcode : X.env.code = .ref c) (S : GenS X.env scope x) (hi : PE X e te) (hel : EltI X.prog X.w scope x elt pb)
    (hbase : attributeBase e "values" X.env (eval e X.env) = eval e X.env) (hline : (apos.endLine == cpos.line) = true)
    (hs : ∀ v, genFold (.Call (.Attribute e "values" apos) [] [] cpos) X.env v = pure v) (I : Inv X pins σ H s) (h : te σ H fun v H1 => ∃ (d : Addr) (kvs : List (List Key × V)), v = .ref d ∧ H1 d = some (.dT kvs) ∧ IntVals kvs ∧ TabG H1 P ∧ R kvs H1)
    (hQ : ∀ kvs H1 es g s5, R kvs H1 → (es.toList.all fun e => intP pb e.val) = (kvs.all fun p => vP pb p.2) → ReadyI X pins σ H1 P es pb g s5 → Q' (.ref g) s5) :
    wpAny (model X.prog X.w) X.A (eval (.GeneratorExp elt [⟨.Name x px, .Call (.Attribute e "values" apos) [] [] cpos, [], 0⟩] scope gpos) X.env) Q' X.xe s := by
  refine wpAny_GeneratorExp_walksQ hr.hd S.co (closure_ok S.free) S.cell S.dot S.loc S.kind (by have := hr.dp; omega) ?_ hs
  refine wpAny_Call_method (T := "dict") (id := "dict.values") hbase rfl hline F.plainAttrs_dict F.slot_dict_values F.type_dict_values (thn (hi.run pins s σ H _ I h) fun u s1 ⟨v, H1, I1, r1, d, kvs, ev, hd, hiv, ⟨ps, hP, ht⟩, q1⟩ => ?_)
  subst ev
  obtain rfl : u = Value.ref d := r1
  obtain ⟨z, hm0, xs, rel, o, es, ep, ho, hx, hdat, hes, his, hn⟩ := dt_of I1.hok hd
  have raw : s1.heap.DictRaw d es ep := ⟨o, ho, hx, hdat⟩
  refine ⟨raw.typeIs, fun a e => by cases e; exact ⟨o, ho, hx.2.1⟩, ?_⟩
  show wpAny _ _ (callWith cpos (.builtin "dict.values") [.ref d] [] []) _ X.xe s1
  refine method_meetsIn F.slot_dict_values F.entry_dict_values rfl (PySem.evalArgs_none ⟨rfl, raw.typeIs, F.args_dict_values_1 _, _, meets_dict_values_raw d hm0, ⟨es, ep, raw⟩, ?_⟩)
  refine wpAny_pyIter_values_raw ⟨_, Heap.get?_push_size _ rfl, rfl, rfl⟩ (raw.at fun o e => Heap.get?_push_of_some _ e) ?_
  generalize hva : s1.heap.push { cls := .type "dict_values", data := .fields #[.ref d] } = hv
  have kv : ∀ b u, s1.heap.get? b = some u → hv.get? b = some u := fun b u e => by rw [← hva]; exact Heap.get?_push_of_some _ e
  have zv : hv.objs.size = s1.heap.objs.size + 1 := by rw [← hva, Heap.size_push]
  show _ ∧ _
  generalize hio : ({ cls := .type "dict_valueiterator", data := .fields #[.ref d, .int 0 0, .int es.size 0, .int ep 0] } : Obj) = io
  have k2 : ∀ b u, s1.heap.get? b = some u → (hv.push io).get? b = some u := fun b u e => Heap.get?_push_of_some _ (kv b u e)
  have hPs : s1.heap.get? P = some { cls := .none, data := .fields ps } := I1.hok P _ hP
  have hPlt : P < s1.heap.objs.size := Heap.lt_size hPs
  have hdlt : d < s1.heap.objs.size := Heap.lt_size ho
  have hP2 : (hv.push io).get? P = some { cls := .none, data := .fields ps } := k2 _ _ hPs
  have cd : PySem.W.CodeHd (hv.push io) c P := TB.code.keeps fun b u e => k2 b u (I1.bk b u e)
  have lim2 : (hv.push io).NoLimit := I1.nolimit.keeps k2
  have hst : (hv.push io).IsValIter hv.objs.size d 0 es.size ep ∧ (hv.push io).DictRaw d es ep := ⟨⟨_, Heap.get?_push_size _ (by rw [← hio]; rfl), by rw [← hio], by rw [← hio]; rfl⟩, raw.at fun o e => k2 _ _ e⟩
  have W : ∀ A' : Around, A'.handled = none → Walks X.prog X.w A' hv.objs.size [hv.objs.size, d] [hv.objs.size] es.size (fun i v => ∃ hi : i < es.size, v = es[i].val) (fun i h => h.IsValIter hv.objs.size d i es.size ep ∧ h.DictRaw d es ep) :=
    fun A' hA => Walks.rawValues hA _ d (by rw [zv]; exact Nat.ne_of_lt (Nat.lt_succ_of_lt hdlt)) es ep
  have vints : ∀ (i : Nat) (hi : i < es.size), ∃ n t, es[i].val = Value.int n t := fun i hi => by
    have hi' : i < xs.length := by rw [← size_of_entries hes]; exact hi
    have e1 := entry_at hes i
    rw [Array.getElem?_eq_getElem hi, List.getElem?_eq_getElem hi'] at e1
    have e2 := Option.some.inj e1
    obtain ⟨n, t, e3⟩ := kt_int rel hiv xs[i] (List.getElem_mem hi')
    exact ⟨n, t, by rw [e2]; exact e3⟩
  have hall : (es.toList.all fun e => intP pb e.val) = kvs.all fun p => vP pb p.2 := by
    rw [hes, List.all_map, ← all_kt pb rel]
    rfl
  have cont : ∀ (code : Value) (h3 : Heap) (tk : Nat) (ps' : Array Value), Heap.ExtBut P (hv.push io) h3 → (hv.push io).objs.size ≤ h3.objs.size → h3.get? P = some { cls := .none, data := .fields ps' } → (∃ more, ps' = ps ++ more) → TriplesOk ps'.toList →
      wpAny (model X.prog X.w) X.A (builtinsFor X.env.globals X.env.builtins) (fun bi s₄ =>
        ∃ Ia fp wr n₀ Pf St₀ pz F, Value.ref hv.objs.size = .ref Ia ∧ (∀ A' : Around, A'.handled = none → Walks X.prog X.w A' Ia fp wr n₀ Pf St₀) ∧ St₀ 0 s₄.heap ∧ (∀ b ∈ fp, b < s₄.heap.objs.size) ∧ s₄.heap.NoLimit ∧ cStatics ∉ wr ∧
          (∀ href : Heap, (∀ b o, s₄.heap.get? b = some o → href.get? b = some o) →
            QuietGen X.prog X.w (genEnv scope (cloFrom X.env.cells scope.names []) s₄.heap.objs.size code bi X.env) x [] elt (List.range s₄.heap.objs.size) wr Pf pz F href) ∧
          (∀ a h₅ tk gs, gs.bare = true → s₄.heap.objs.size < a → h₅.objs.size = a + 1 → (∀ b o, s₄.heap.get? b = some o → h₅.get? b = some o) →
            WalksS X.prog X.w X.A.in4 a (a :: s₄.heap.objs.size :: List.range s₄.heap.objs.size) (s₄.heap.objs.size :: wr) (GenOnlyQ s₄.gens.size) (passing pz n₀ 0).length
              (fun j y => ∃ i, (passing pz n₀ 0)[j]? = some i ∧ F i y) (GenAt X.prog X.w X.A.in4 a s₄.gens.size s₄.heap.objs.size (List.range s₄.heap.objs.size) wr pz n₀ F) →
            GenAt X.prog X.w X.A.in4 a s₄.gens.size s₄.heap.objs.size (List.range s₄.heap.objs.size) wr pz n₀ F 0 { s₄ with gens := s₄.gens.push gs, toks := tk, heap := h₅ } →
            Q' (.ref a) { s₄ with gens := s₄.gens.push gs, toks := tk, heap := h₅ })) X.xe { s1 with heap := h3, toks := tk } := by
    intro code h3 tk ps' hx3 hsz hP3 hmore ht3
    obtain ⟨bm, ob, e1, e2, e3, e4, e5, e6, e7, e8⟩ := TB.bm
    have hcP : cStatics ≠ P := fun e => by
      obtain ⟨_, hns, _⟩ := I1.nolimit
      obtain ⟨o', es', ep', ho', hd', _⟩ := hns
      rw [e, hPs] at ho'
      cases ho'
      cases hd'
    have hcl : cStatics < s1.heap.objs.size := let ⟨_, hns, _⟩ := I1.nolimit; hns.lt
    have sz2 : (hv.push io).objs.size = s1.heap.objs.size + 2 := by rw [Heap.size_push, zv]
    have keep3 : ∀ b u, b ≠ P → s1.heap.get? b = some u → h3.get? b = some u := fun b u hb e => hx3 b u hb (k2 b u e)
    refine wpAny_builtinsFor (m := X.mg) (by rw [I1.ok.glob]; exact (((I1.mod.glob.keeps I1.bk).keeps k2)).extBut hx3 TB.gP) e1 e2 (keep3 _ _ e4 (I1.bk _ _ e5)) e6 e7 e8 ?_
    refine ⟨hv.objs.size, [hv.objs.size, d], [hv.objs.size], es.size, _, _, (fun _ => true), (fun i y => ∃ hi : i < es.size, y = .bool (intP pb es[i].val)), rfl, W, ?_, ?_, lim2.extBut hx3 hcP, ?_, ?_, ?_⟩
    · refine (W X.A hr.hd).frame _ _ _ hst fun b hb u e => hx3 b u (fun z => ?_) e
      rcases List.mem_cons.mp hb with z2 | z2
      · exact (nat1 hPlt zv (z.symm.trans z2)).elim
      · rcases List.mem_cons.mp z2 with z2 | z2
        · rw [z.symm.trans z2, ho] at hPs
          cases hPs
          cases hdat
        · cases z2
    · intro b hb
      rcases List.mem_cons.mp hb with z | z
      · rw [z]
        show hv.objs.size < h3.objs.size
        omega
      · rcases List.mem_cons.mp z with z | z
        · rw [z]
          exact Nat.lt_of_lt_of_le hdlt (show s1.heap.objs.size ≤ h3.objs.size by omega)
        · cases z
    · intro z
      rcases List.mem_cons.mp z with z | z
      · exact (nat1 hcl zv z).elim
      · cases z
    · intro href hhref
      refine ⟨fun A' E' i v s₂ m₂ hA hPv hn hm hk => ?_, fun A' E' i v s₂ m₂ hA hPv hp hn hm hk => ?_⟩
      · simp only [List.forIn_nil]
        exact wpAny_pure ⟨rfl, keeps_refl _⟩
      · obtain ⟨hi', rfl⟩ := hPv
        obtain ⟨n, t, e⟩ := vints i hi'
        rw [e] at hm
        exact wpAny_mono (hel _ A' E' n t s₂ m₂ rfl hn hm) (fun y s3 r => ⟨⟨hi', by rw [r.1, e]; rfl⟩, r.2⟩) fun _ _ e => e
    · intro g h5 tk5 gs hgb hag hsz5 hk5 W5 hat
      simp only [GxR.passing_true, List.length_range] at W5
      refine hQ kvs H1 es g _ q1 hall ⟨_, _, _, _, _, W5.in4_1, hat, ?_, fun s' hmv => ?_⟩
      · intro j y sj Qj Ej hy hQj
        obtain ⟨i, hij, hi', rfl⟩ := hy
        obtain ⟨hj, ej⟩ := List.getElem?_eq_some_iff.mp hij
        rw [List.getElem_range] at ej
        subst ej
        have hQ2 : Qj (trE pb es j) sj := hQj
        unfold trE at hQ2
        rw [Array.getElem?_eq_getElem hi'] at hQ2
        exact wpAny_truthy_bool hQ2
      · obtain ⟨more, em⟩ := hmore
        have nwr : ∀ b u, s1.heap.get? b = some u → b ∉ h3.objs.size :: [hv.objs.size] := fun b u e hb => by
          have hl := Heap.lt_size e
          rcases List.mem_cons.mp hb with z | z
          · exact (nat2 hl (by omega) z).elim
          · rcases List.mem_cons.mp z with z | z
            · exact (nat1 hl zv z).elim
            · cases z
        have J := inv_tab (more := more) (h' := s'.heap) (g' := s'.gens) (d' := s'.drawn) (t' := s'.toks) I1 hP (fun b u hb e => hmv.heap b u (nwr b u e) (hk5 b u (keep3 b u hb e)))
          (by rw [← em]; exact hmv.heap P _ (nwr P _ hPs) (hk5 P _ hP3)) (AllBare.movedS (I1.bare.push hgb) hmv)
        rw [sh_eta s1 s' hmv.os] at J
        exact ⟨upd H1 P (.tbl (ps ++ more)), ⟨⟨ps ++ more, upd_same, by rw [← em]; exact ht3⟩, fun b hb => upd_ne hb⟩, J⟩
  refine ⟨lim2, ?_⟩
  cases hf : codeAmong gpos ps.toList with
  | none =>
    refine wpAny_genexprCodeX hcode (cd.code hP2 ht) (cd.tab hP2) hf fun c' h' tk hx3 hge hlt hco' _ htab' _ => ?_
    obtain ⟨o1, vs, f1, tf, fl, tg, inF, tx, tt, op, _, _, _, _, _, _, _, _, _, htr, _⟩ := hco'
    exact cont _ h' tk _ hx3 (Nat.le_trans hge (Nat.le_of_lt hlt)) htab'.2 ⟨_, rfl⟩ htr
  | some cv =>
    refine wpAny_genexprCode_hit hcode (cd.code hP2 ht) hf ?_
    exact cont cv (hv.push io) s1.toks ps (Heap.ExtBut.refl _ _) (Nat.le_refl _) hP2 ⟨#[], by simp⟩ ht
def tAllV (P : Addr) (pb : Int → Bool) (te : TE) : TE := fun σ H Q => te σ H fun v H1 => ∃ (d : Addr) (kvs : List (List Key × V)), v = .ref d ∧ H1 d = some (.dT kvs) ∧ IntVals kvs ∧ TabG H1 P ∧ ∀ H2, Tabbed P H1 H2 → Q (.bl (kvs.all fun p => vP pb p.2)) H2
theorem pe_allV {c P : Addr} {elt e : Expr} {x : Str} {px p pos gpos apos cpos : Pos} {scope : Scope} {pb : Int → Bool} {te : TE} {k : Nat}
    (hr : Room k X.A) (hg : Gl X "all") (hm : X.mg "all" = none) (TB : TabB X.base X.mg c P) (hcode : X.env.code = .ref c) (S : GenS X.env scope x) (hi : PE X e te) (hel : EltI X.prog X.w scope x elt pb)
    (hbase : attributeBase e "values" X.env (eval e X.env) = eval e X.env := by rfl) (hline : (apos.endLine == cpos.line) = true := by rfl)
    (hs : ∀ v, genFold (.Call (.Attribute e "values" apos) [] [] cpos) X.env v = pure v := by intro _; rfl)
    (he : starEach [.GeneratorExp elt [⟨.Name x px, .Call (.Attribute e "values" apos) [] [] cpos, [], 0⟩] scope gpos] X.env = (false, eval (.GeneratorExp elt [⟨.Name x px, .Call (.Attribute e "values" apos) [] [] cpos, [], 0⟩] scope gpos) X.env) :: starEach [] X.env := by rfl) :
    PE X (.Call (.Name "all" p) [.GeneratorExp elt [⟨.Name x px, .Call (.Attribute e "values" apos) [] [] cpos, [], 0⟩] scope gpos] [] pos) (tAllV P pb te) := by
  refine ⟨fun pins s σ H Q I h => ?_⟩
  refine wpAny_Call_Name_kw (ld_blt I hg hm boot_all ?_)
  refine PyProof.Rows.callWith_builtin1 ?_ he (by rfl)
  rw [he]
  show wpAny _ _ (spliced ((false, eval (.GeneratorExp elt [⟨.Name x px, .Call (.Attribute e "values" apos) [] [] cpos, [], 0⟩] scope gpos) X.env) :: backTo pos (starEach [] X.env))) _ _ s
  refine Calls.spliced_cons (gen_vals (R := fun kvs H1 => ∀ H2, Tabbed P H1 H2 → Q (.bl (kvs.all fun p => vP pb p.2)) H2) hr TB hcode S hi hel hbase hline hs I h fun kvs H1 es g s5 hR hal hG => ?_)
  obtain ⟨fp, wr, G, F, St, W, hst, htr, hI⟩ := hG
  refine Calls.spliced_nil ?_
  refine call_all_walkS (W.self 0 _ _ _ hst ⟨g, fp, wr, G, _, F, St, _, rfl, W, hst, htr, fun s' hmv => ?_⟩)
  obtain ⟨H2, hT, J⟩ := hI s' hmv
  refine ⟨.bl _, H2, J, rfl, ?_⟩
  rw [all_trE pb es, hal]
  exact hR H2 hT
end
end KH
set_option Elab.async false
set_option linter.all false
set_option maxRecDepth 100000
set_option maxHeartbeats 4000000
namespace KH
open PySem PySem.Spec PyProof.Rows PySem.Calls L2 KB GxR
def TabbedS (P : Addr) (q : Str) (H H' : Hp) : Prop := LamX.TabS H' P q ∧ ∀ b o, b ≠ P → H b = some o → H' b = some o
theorem ltN {a n s h : Nat} (h1 : n ≤ a) (h2 : n = s + 2) (h3 : h = s + 1) (z : a = h) : False := by omega
section
variable {X : Cx} {pins : List (Addr × Obj)} {σ : L2.St} {H : Hp} {s : Shared}
def ReadyS (X : Cx) (pins : List (Addr × Obj)) (σ : L2.St) (H1 : Hp) (P : Addr) (q : Str) (es : Array DictEntry) (pb : Int → Bool) (g : Addr) (s5 : Shared) : Prop :=
  ∃ (fp wr : List Addr) (G : Array GenState → Array GenState → Prop) (F : Nat → Value → Prop) (St : Nat → Shared → Prop),
    WalksS X.prog X.w X.A.in1 g fp wr G es.size F St ∧ St 0 s5 ∧ TruthOf X.prog X.w X.A.in1 F (trE pb es) ∧ ∀ s', Moved wr G s5 s' → ∃ H2, TabbedS P q H1 H2 ∧ Inv X pins σ H2 s'
theorem gen_valsS {c P : Addr} {q : Str} {elt e : Expr} {x : Str} {px gpos apos cpos : Pos} {scope : Scope} {pb : Int → Bool} {te : TE} {k : Nat} {Q' : Value → Shared → Prop} {R : List (List Key × V) → Hp → Prop}
    (hq : X.env.qual ++ Str.ofString "<genexpr>" = q) (hr : Room k X.A) (TB : TabB X.base X.mg c P) (hcode : X.env.code = .ref c) (S : GenS X.env scope x) (hi : PE X e te) (hel : EltI X.prog X.w scope x elt pb)
    (hbase : attributeBase e "values" X.env (eval e X.env) = eval e X.env) (hline : (apos.endLine == cpos.line) = true)
    (hs : ∀ v, genFold (.Call (.Attribute e "values" apos) [] [] cpos) X.env v = pure v) (I : Inv X pins σ H s) (h : te σ H fun v H1 => ∃ (d : Addr) (kvs : List (List Key × V)), v = .ref d ∧ H1 d = some (.dT kvs) ∧ IntVals kvs ∧ LamX.TabS H1 P q ∧ R kvs H1)
    (hQ : ∀ kvs H1 es g s5, R kvs H1 → (es.toList.all fun e => intP pb e.val) = (kvs.all fun p => vP pb p.2) → ReadyS X pins σ H1 P q es pb g s5 → Q' (.ref g) s5) :
    wpAny (model X.prog X.w) X.A (eval (.GeneratorExp elt [⟨.Name x px, .Call (.Attribute e "values" apos) [] [] cpos, [], 0⟩] scope gpos) X.env) Q' X.xe s := by
  refine wpAny_GeneratorExp_walksQ hr.hd S.co (closure_ok S.free) S.cell S.dot S.loc S.kind (by have := hr.dp; omega) ?_ hs
  refine wpAny_Call_method (T := "dict") (id := "dict.values") hbase rfl hline F.plainAttrs_dict F.slot_dict_values F.type_dict_values (thn (hi.run pins s σ H _ I h) fun u s1 ⟨v, H1, I1, r1, d, kvs, ev, hd, hiv, ⟨ps, hP, ht, ha⟩, q1⟩ => ?_)
  subst ev
  obtain rfl : u = Value.ref d := r1
  obtain ⟨z, hm0, xs, rel, o, es, ep, ho, hx, hdat, hes, his, hn⟩ := dt_of I1.hok hd
  have raw : s1.heap.DictRaw d es ep := ⟨o, ho, hx, hdat⟩
  refine ⟨raw.typeIs, fun a e => by cases e; exact ⟨o, ho, hx.2.1⟩, ?_⟩
  show wpAny _ _ (callWith cpos (.builtin "dict.values") [.ref d] [] []) _ X.xe s1
  refine method_meetsIn F.slot_dict_values F.entry_dict_values rfl (PySem.evalArgs_none ⟨rfl, raw.typeIs, F.args_dict_values_1 _, _, meets_dict_values_raw d hm0, ⟨es, ep, raw⟩, ?_⟩)
  refine wpAny_pyIter_values_raw ⟨_, Heap.get?_push_size _ rfl, rfl, rfl⟩ (raw.at fun o e => Heap.get?_push_of_some _ e) ?_
  generalize hva : s1.heap.push { cls := .type "dict_values", data := .fields #[.ref d] } = hv
  have kv : ∀ b u, s1.heap.get? b = some u → hv.get? b = some u := fun b u e => by rw [← hva]; exact Heap.get?_push_of_some _ e
  have zv : hv.objs.size = s1.heap.objs.size + 1 := by rw [← hva, Heap.size_push]
  show _ ∧ _
  generalize hio : ({ cls := .type "dict_valueiterator", data := .fields #[.ref d, .int 0 0, .int es.size 0, .int ep 0] } : Obj) = io
  have k2 : ∀ b u, s1.heap.get? b = some u → (hv.push io).get? b = some u := fun b u e => Heap.get?_push_of_some _ (kv b u e)
  have hPs : s1.heap.get? P = some { cls := .none, data := .fields ps } := I1.hok P _ hP
  have hPlt : P < s1.heap.objs.size := Heap.lt_size hPs
  have hdlt : d < s1.heap.objs.size := Heap.lt_size ho
  have hP2 : (hv.push io).get? P = some { cls := .none, data := .fields ps } := k2 _ _ hPs
  have cd : PySem.W.CodeHd (hv.push io) c P := TB.code.keeps fun b u e => k2 b u (I1.bk b u e)
  have lim2 : (hv.push io).NoLimit := I1.nolimit.keeps k2
  have hst : (hv.push io).IsValIter hv.objs.size d 0 es.size ep ∧ (hv.push io).DictRaw d es ep := ⟨⟨_, Heap.get?_push_size _ (by rw [← hio]; rfl), by rw [← hio], by rw [← hio]; rfl⟩, raw.at fun o e => k2 _ _ e⟩
  have W : ∀ A' : Around, A'.handled = none → Walks X.prog X.w A' hv.objs.size [hv.objs.size, d] [hv.objs.size] es.size (fun i v => ∃ hi : i < es.size, v = es[i].val) (fun i h => h.IsValIter hv.objs.size d i es.size ep ∧ h.DictRaw d es ep) :=
    fun A' hA => Walks.rawValues hA _ d (by rw [zv]; exact Nat.ne_of_lt (Nat.lt_succ_of_lt hdlt)) es ep
  have vints : ∀ (i : Nat) (hi : i < es.size), ∃ n t, es[i].val = Value.int n t := fun i hi => by
    have hi' : i < xs.length := by rw [← size_of_entries hes]; exact hi
    have e1 := entry_at hes i
    rw [Array.getElem?_eq_getElem hi, List.getElem?_eq_getElem hi'] at e1
    have e2 := Option.some.inj e1
    obtain ⟨n, t, e3⟩ := kt_int rel hiv xs[i] (List.getElem_mem hi')
    exact ⟨n, t, by rw [e2]; exact e3⟩
  have hall : (es.toList.all fun e => intP pb e.val) = kvs.all fun p => vP pb p.2 := by
    rw [hes, List.all_map, ← all_kt pb rel]
    rfl
  have cont : ∀ (code : Value) (h3 : Heap) (tk : Nat) (ps' : Array Value), Heap.ExtBut P (hv.push io) h3 → (hv.push io).objs.size ≤ h3.objs.size → h3.get? P = some { cls := .none, data := .fields ps' } → (∃ more, ps' = ps ++ more) → TriplesOk ps'.toList → ∀ co : Option Addr, (∀ pos' cv, codeAmong pos' ps'.toList = some cv → codeAmong pos' ps.toList = some cv ∨ ∃ c', co = some c' ∧ cv = .ref c') → (∀ c', co = some c' → (hv.push io).objs.size ≤ c' ∧ c' < h3.objs.size ∧ h3.CodeRec (.ref c') q) →
      wpAny (model X.prog X.w) X.A (builtinsFor X.env.globals X.env.builtins) (fun bi s₄ =>
        ∃ Ia fp wr n₀ Pf St₀ pz F, Value.ref hv.objs.size = .ref Ia ∧ (∀ A' : Around, A'.handled = none → Walks X.prog X.w A' Ia fp wr n₀ Pf St₀) ∧ St₀ 0 s₄.heap ∧ (∀ b ∈ fp, b < s₄.heap.objs.size) ∧ s₄.heap.NoLimit ∧ cStatics ∉ wr ∧
          (∀ href : Heap, (∀ b o, s₄.heap.get? b = some o → href.get? b = some o) →
            QuietGen X.prog X.w (genEnv scope (cloFrom X.env.cells scope.names []) s₄.heap.objs.size code bi X.env) x [] elt (List.range s₄.heap.objs.size) wr Pf pz F href) ∧
          (∀ a h₅ tk gs, gs.bare = true → s₄.heap.objs.size < a → h₅.objs.size = a + 1 → (∀ b o, s₄.heap.get? b = some o → h₅.get? b = some o) →
            WalksS X.prog X.w X.A.in4 a (a :: s₄.heap.objs.size :: List.range s₄.heap.objs.size) (s₄.heap.objs.size :: wr) (GenOnlyQ s₄.gens.size) (passing pz n₀ 0).length
              (fun j y => ∃ i, (passing pz n₀ 0)[j]? = some i ∧ F i y) (GenAt X.prog X.w X.A.in4 a s₄.gens.size s₄.heap.objs.size (List.range s₄.heap.objs.size) wr pz n₀ F) →
            GenAt X.prog X.w X.A.in4 a s₄.gens.size s₄.heap.objs.size (List.range s₄.heap.objs.size) wr pz n₀ F 0 { s₄ with gens := s₄.gens.push gs, toks := tk, heap := h₅ } →
            Q' (.ref a) { s₄ with gens := s₄.gens.push gs, toks := tk, heap := h₅ })) X.xe { s1 with heap := h3, toks := tk } := by
    intro code h3 tk ps' hx3 hsz hP3 hmore ht3 co hnew hco
    obtain ⟨bm, ob, e1, e2, e3, e4, e5, e6, e7, e8⟩ := TB.bm
    have hcP : cStatics ≠ P := fun e => by
      obtain ⟨_, hns, _⟩ := I1.nolimit
      obtain ⟨o', es', ep', ho', hd', _⟩ := hns
      rw [e, hPs] at ho'
      cases ho'
      cases hd'
    have hcl : cStatics < s1.heap.objs.size := let ⟨_, hns, _⟩ := I1.nolimit; hns.lt
    have sz2 : (hv.push io).objs.size = s1.heap.objs.size + 2 := by rw [Heap.size_push, zv]
    have keep3 : ∀ b u, b ≠ P → s1.heap.get? b = some u → h3.get? b = some u := fun b u hb e => hx3 b u hb (k2 b u e)
    refine wpAny_builtinsFor (m := X.mg) (by rw [I1.ok.glob]; exact (((I1.mod.glob.keeps I1.bk).keeps k2)).extBut hx3 TB.gP) e1 e2 (keep3 _ _ e4 (I1.bk _ _ e5)) e6 e7 e8 ?_
    refine ⟨hv.objs.size, [hv.objs.size, d], [hv.objs.size], es.size, _, _, (fun _ => true), (fun i y => ∃ hi : i < es.size, y = .bool (intP pb es[i].val)), rfl, W, ?_, ?_, lim2.extBut hx3 hcP, ?_, ?_, ?_⟩
    · refine (W X.A hr.hd).frame _ _ _ hst fun b hb u e => hx3 b u (fun z => ?_) e
      rcases List.mem_cons.mp hb with z2 | z2
      · exact (nat1 hPlt zv (z.symm.trans z2)).elim
      · rcases List.mem_cons.mp z2 with z2 | z2
        · rw [z.symm.trans z2, ho] at hPs
          cases hPs
          cases hdat
        · cases z2
    · intro b hb
      rcases List.mem_cons.mp hb with z | z
      · rw [z]
        show hv.objs.size < h3.objs.size
        omega
      · rcases List.mem_cons.mp z with z | z
        · rw [z]
          exact Nat.lt_of_lt_of_le hdlt (show s1.heap.objs.size ≤ h3.objs.size by omega)
        · cases z
    · intro z
      rcases List.mem_cons.mp z with z | z
      · exact (nat1 hcl zv z).elim
      · cases z
    · intro href hhref
      refine ⟨fun A' E' i v s₂ m₂ hA hPv hn hm hk => ?_, fun A' E' i v s₂ m₂ hA hPv hp hn hm hk => ?_⟩
      · simp only [List.forIn_nil]
        exact wpAny_pure ⟨rfl, keeps_refl _⟩
      · obtain ⟨hi', rfl⟩ := hPv
        obtain ⟨n, t, e⟩ := vints i hi'
        rw [e] at hm
        exact wpAny_mono (hel _ A' E' n t s₂ m₂ rfl hn hm) (fun y s3 r => ⟨⟨hi', by rw [r.1, e]; rfl⟩, r.2⟩) fun _ _ e => e
    · intro g h5 tk5 gs hgb hag hsz5 hk5 W5 hat
      simp only [GxR.passing_true, List.length_range] at W5
      refine hQ kvs H1 es g _ q1 hall ⟨_, _, _, _, _, W5.in4_1, hat, ?_, fun s' hmv => ?_⟩
      · intro j y sj Qj Ej hy hQj
        obtain ⟨i, hij, hi', rfl⟩ := hy
        obtain ⟨hj, ej⟩ := List.getElem?_eq_some_iff.mp hij
        rw [List.getElem_range] at ej
        subst ej
        have hQ2 : Qj (trE pb es j) sj := hQj
        unfold trE at hQ2
        rw [Array.getElem?_eq_getElem hi'] at hQ2
        exact wpAny_truthy_bool hQ2
      · obtain ⟨more, em⟩ := hmore
        have nwr : ∀ b u, s1.heap.get? b = some u → b ∉ h3.objs.size :: [hv.objs.size] := fun b u e hb => by
          have hl := Heap.lt_size e
          rcases List.mem_cons.mp hb with z | z
          · exact (nat2 hl (by omega) z).elim
          · rcases List.mem_cons.mp z with z | z
            · exact (nat1 hl zv z).elim
            · cases z
        have J := inv_tab (more := more) (h' := s'.heap) (g' := s'.gens) (d' := s'.drawn) (t' := s'.toks) I1 hP (fun b u hb e => hmv.heap b u (nwr b u e) (hk5 b u (keep3 b u hb e)))
          (by rw [← em]; exact hmv.heap P _ (nwr P _ hPs) (hk5 P _ hP3)) (AllBare.movedS (I1.bare.push hgb) hmv)
        rw [sh_eta s1 s' hmv.os] at J
        cases co with
        | none =>
          refine ⟨upd H1 P (.tbl (ps ++ more)), ⟨⟨ps ++ more, upd_same, by rw [← em]; exact ht3, fun pos' cv hcv => ?_⟩, fun b o hb e => by rw [upd_ne hb]; exact e⟩, J⟩
          rw [← em] at hcv
          rcases hnew pos' cv hcv with z | ⟨c', z, _⟩
          · obtain ⟨c0, e1, e2⟩ := ha pos' cv z
            exact ⟨c0, e1, by rw [upd_ne (fun z => by rw [z, hP] at e2; cases e2)]; exact e2⟩
          · cases z
        | some c' =>
          obtain ⟨hge, hlt, cr⟩ := hco c' rfl
          obtain ⟨c2, oc, vs, t, e2, hoc, hd2, hv2⟩ := id cr
          cases e2
          have hge1 : s1.heap.objs.size ≤ c' := by omega
          have nC : H1 c' = none := I1.hok.fresh hge1
          have nPc : P ≠ c' := ne_of_none hP nC
          have nw : c' ∉ h3.objs.size :: [hv.objs.size] := fun z => by
            rcases List.mem_cons.mp z with z | z
            · exact Nat.lt_irrefl _ (z ▸ hlt)
            · rcases List.mem_cons.mp z with z | z
              · exact ltN hge sz2 zv z
              · cases z
          have ho' : s'.heap.get? c' = some oc := hmv.heap c' _ nw (hk5 c' _ hoc)
          have nC2 : upd H1 P (.tbl (ps ++ more)) c' = none := by rw [upd_ne nPc.symm]; exact nC
          have J2 : Inv X pins σ (upd (upd H1 P (.tbl (ps ++ more))) c' (LamX.CodeO c' q)) s' := J.take (h' := s'.heap) (t' := s'.toks) (fun b ob _ e => e) (I1.fpOk hge1 nC2)
            (show ObjOk X.prog X.w _ s'.heap c' (LamX.CodeO c' q) from ⟨⟨oc, vs, t, ho', hd2, hv2⟩, ⟨_, ho'⟩, fun h1 h2 ⟨o1, v1, t1, z1, z2, z3⟩ k => ⟨o1, v1, t1, k _ z1, z2, z3⟩⟩)
          refine ⟨_, ⟨⟨ps ++ more, by rw [upd_ne nPc, upd_same], by rw [← em]; exact ht3, fun pos' cv hcv => ?_⟩, fun b o hb e => by rw [upd_ne (ne_of_none e nC), upd_ne hb]; exact e⟩, J2⟩
          rw [← em] at hcv
          rcases hnew pos' cv hcv with z | ⟨c3, z, e3⟩
          · obtain ⟨c0, e1, e2⟩ := ha pos' cv z
            exact ⟨c0, e1, by rw [upd_ne (ne_of_none e2 nC), upd_ne (fun z => by rw [z, hP] at e2; cases e2)]; exact e2⟩
          · cases z
            exact ⟨c', e3, upd_same⟩
  refine ⟨lim2, ?_⟩
  cases hf : codeAmong gpos ps.toList with
  | none =>
    refine wpAny_genexprCodeX hcode (cd.code hP2 ht) (cd.tab hP2) hf fun c' h' tk hx3 hge hlt hco' hrec' htab' _ => ?_
    obtain ⟨o1, vs, f1, tf, fl, tg, inF, tx, tt, op, _, _, _, _, _, _, _, _, _, htr, _⟩ := hco'
    have eL : (ps ++ #[rawInt gpos.line, rawInt gpos.col, .ref c']).toList = ps.toList ++ [rawInt gpos.line, rawInt gpos.col, .ref c'] := by simp
    refine cont _ h' tk _ hx3 (Nat.le_trans hge (Nat.le_of_lt hlt)) htab'.2 ⟨_, rfl⟩ htr (some c') (fun pos' cv hcv => ?_) (fun c3 e => ?_)
    · rw [eL] at hcv
      rcases LamX.among_app _ ht hcv with z | z
      · exact .inl z
      · exact .inr ⟨c', rfl, z⟩
    · cases e
      exact ⟨hge, hlt, hq ▸ hrec'⟩
  | some cv =>
    refine wpAny_genexprCode_hit hcode (cd.code hP2 ht) hf ?_
    exact cont cv (hv.push io) s1.toks ps (Heap.ExtBut.refl _ _) (Nat.le_refl _) hP2 ⟨#[], by simp⟩ ht none (fun _ _ z => .inl z) (fun _ e => nomatch e)
def tAllS (P : Addr) (q : Str) (pb : Int → Bool) (te : TE) : TE := fun σ H Q => te σ H fun v H1 => ∃ (d : Addr) (kvs : List (List Key × V)), v = .ref d ∧ H1 d = some (.dT kvs) ∧ IntVals kvs ∧ LamX.TabS H1 P q ∧ ∀ H2, TabbedS P q H1 H2 → Q (.bl (kvs.all fun p => vP pb p.2)) H2
theorem pe_allS {c P : Addr} {elt e : Expr} {x : Str} {px p pos gpos apos cpos : Pos} {scope : Scope} {pb : Int → Bool} {te : TE} {k : Nat}
    (hq : X.env.qual ++ Str.ofString "<genexpr>" = q) (hr : Room k X.A) (hg : Gl X "all") (hm : X.mg "all" = none) (TB : TabB X.base X.mg c P) (hcode : X.env.code = .ref c) (S : GenS X.env scope x) (hi : PE X e te) (hel : EltI X.prog X.w scope x elt pb)
    (hbase : attributeBase e "values" X.env (eval e X.env) = eval e X.env := by rfl) (hline : (apos.endLine == cpos.line) = true := by rfl)
    (hs : ∀ v, genFold (.Call (.Attribute e "values" apos) [] [] cpos) X.env v = pure v := by intro _; rfl)
    (he : starEach [.GeneratorExp elt [⟨.Name x px, .Call (.Attribute e "values" apos) [] [] cpos, [], 0⟩] scope gpos] X.env = (false, eval (.GeneratorExp elt [⟨.Name x px, .Call (.Attribute e "values" apos) [] [] cpos, [], 0⟩] scope gpos) X.env) :: starEach [] X.env := by rfl) :
    PE X (.Call (.Name "all" p) [.GeneratorExp elt [⟨.Name x px, .Call (.Attribute e "values" apos) [] [] cpos, [], 0⟩] scope gpos] [] pos) (tAllS P q pb te) := by
  refine ⟨fun pins s σ H Q I h => ?_⟩
  refine wpAny_Call_Name_kw (ld_blt I hg hm boot_all ?_)
  refine PyProof.Rows.callWith_builtin1 ?_ he (by rfl)
  rw [he]
  show wpAny _ _ (spliced ((false, eval (.GeneratorExp elt [⟨.Name x px, .Call (.Attribute e "values" apos) [] [] cpos, [], 0⟩] scope gpos) X.env) :: backTo pos (starEach [] X.env))) _ _ s
  refine Calls.spliced_cons (gen_valsS (R := fun kvs H1 => ∀ H2, TabbedS P q H1 H2 → Q (.bl (kvs.all fun p => vP pb p.2)) H2) hq hr TB hcode S hi hel hbase hline hs I h fun kvs H1 es g s5 hR hal hG => ?_)
  obtain ⟨fp, wr, G, F, St, W, hst, htr, hI⟩ := hG
  refine Calls.spliced_nil ?_
  refine call_all_walkS (W.self 0 _ _ _ hst ⟨g, fp, wr, G, _, F, St, _, rfl, W, hst, htr, fun s' hmv => ?_⟩)
  obtain ⟨H2, hT, J⟩ := hI s' hmv
  refine ⟨.bl _, H2, J, rfl, ?_⟩
  rw [all_trE pb es, hal]
  exact hR H2 hT
end
end KH
set_option Elab.async false
set_option linter.all false
set_option maxRecDepth 100000
set_option maxHeartbeats 4000000
namespace GS
open PySem PySem.Spec PyProof.Rows PySem.Calls L2 KB GxR KH
def ReadyG (X : Cx) (pins : List (Addr × Obj)) (σ : L2.St) (H1 : Hp) (P : Addr) (q : Str) (n : Nat) (tr : Nat → Bool) (g : Addr) (s5 : Shared) : Prop :=
  ∃ (fp wr : List Addr) (G : Array GenState → Array GenState → Prop) (F : Nat → Value → Prop) (St : Nat → Shared → Prop),
    WalksS X.prog X.w X.A.in1 g fp wr G n F St ∧ St 0 s5 ∧ TruthOf X.prog X.w X.A.in1 F tr ∧ ∀ s', Moved wr G s5 s' → ∃ H2, TabbedS P q H1 H2 ∧ Inv X pins σ H2 s'
def EltG (prog : Program) (w : World) (mg : Str → Option Value) (scope : Scope) (x : Str) (elt : Expr) (Pv : Nat → Value → Prop) (tr : Nat → Bool) : Prop :=
  ∀ (cenv : PySem.Env) (A' : Around) (E' : Value → Shared → Prop) (i : Nat) (v : Value) (s₂ : Shared) (m₂ : Str → Option Value), cenv.scope = scope → cenv.globals = mainGlobals → A'.handled = none → s₂.heap.Ns mainGlobals mg → Pv i v → s₂.heap.Ns cenv.locals m₂ → m₂ x = some v →
    wpAny (model prog w) A' (eval elt cenv) (fun y s₃ => y = .bool (tr i) ∧ Keeps s₂ s₃) E' s₂
structure Src (X : Cx) (pins : List (Addr × Obj)) (σ : L2.St) (P : Addr) (q : Str) (x : Str) (elt : Expr) (scope : Scope) (Q' : Value → Shared → Prop) (it : Value) (sb : Shared) (s1 : Shared) (H1 : Hp) (J : Addr) (fp wr : List Addr) (n : Nat) (Pv : Nat → Value → Prop) (St : Nat → Heap → Prop) (tr : Nat → Bool) : Prop where
  it : it = .ref J
  inv : Inv X pins σ H1 s1
  same : sb = { s1 with heap := sb.heap, toks := sb.toks }
  keep : ∀ b u, s1.heap.get? b = some u → sb.heap.get? b = some u
  size : s1.heap.objs.size ≤ sb.heap.objs.size
  walk : ∀ A' : Around, A'.handled = none → Walks X.prog X.w A' J fp wr n Pv St
  st : St 0 sb.heap
  fps : ∀ b ∈ fp, b < sb.heap.objs.size ∧ b ≠ P
  wrs : ∀ b ∈ wr, s1.heap.objs.size ≤ b
  tab : LamX.TabS H1 P q
  elt : EltG X.prog X.w X.mg scope x elt Pv tr
  next : ∀ g s5, ReadyG X pins σ H1 P q n tr g s5 → Q' (.ref g) s5
theorem lt_or {a b c d : Nat} (h1 : a ≤ b) (h2 : b ≤ c) (h3 : d < a) (e : d = c) : False := by omega
section
variable {X : Cx} {pins : List (Addr × Obj)} {σ : L2.St} {s : Shared}
theorem gen_S {c P : Addr} {q : Str} {elt iter : Expr} {x : Str} {px gpos : Pos} {scope : Scope} {k : Nat} {Q' : Value → Shared → Prop} (hq : X.env.qual ++ Str.ofString "<genexpr>" = q) (hr : Room k X.A) (TB : GxR.TabB X.base X.mg c P) (hcode : X.env.code = .ref c) (S : GenS X.env scope x)
    (hs : ∀ v, genFold iter X.env v = pure v)
    (src : wpAny (model X.prog X.w) X.A (eval iter X.env) (fun xv sa => wpAny (model X.prog X.w) X.A (pyIter xv) (fun it sb => ∃ s1 H1 J fp wr n Pv St tr, Src X pins σ P q x elt scope Q' it sb s1 H1 J fp wr n Pv St tr) X.xe sa) X.xe s) :
    wpAny (model X.prog X.w) X.A (eval (.GeneratorExp elt [⟨.Name x px, iter, [], 0⟩] scope gpos) X.env) Q' X.xe s := by
  refine wpAny_GeneratorExp_walksQ hr.hd S.co (closure_ok S.free) S.cell S.dot S.loc S.kind (by have := hr.dp; omega) (wpAny_mono src (fun xv sa h1 => wpAny_mono h1 (fun it sb h2 => ?_) fun _ _ e => e) fun _ _ e => e) hs
  obtain ⟨s1, H1, J, fp, wr, n, Pv, St, tr, Z⟩ := h2
  obtain ⟨ps, hP, ht, ha⟩ := Z.tab
  obtain ⟨hb, gb, db, kb, ob⟩ := sb
  have sm := Z.same
  have I1 := Z.inv
  have hPs : s1.heap.get? P = some { cls := .none, data := .fields ps } := I1.hok P _ hP
  have hPlt : P < s1.heap.objs.size := Heap.lt_size hPs
  have hP2 : hb.get? P = some { cls := .none, data := .fields ps } := Z.keep _ _ hPs
  have cd : PySem.W.CodeHd hb c P := TB.code.keeps fun b u e => Z.keep b u (I1.bk b u e)
  have lim2 : hb.NoLimit := I1.nolimit.keeps Z.keep
  rw [sm]
  refine ⟨lim2, ?_⟩
  have hsz2 : s1.heap.objs.size ≤ hb.objs.size := Z.size
  have cst : cStatics < s1.heap.objs.size := let ⟨_, hns, _⟩ := I1.nolimit; hns.lt
  have goOn : ∀ (code : Value) (h3 : Heap) (tk : Nat) (more : Array Value), Heap.ExtBut P hb h3 → hb.objs.size ≤ h3.objs.size → h3.get? P = some { cls := .none, data := .fields (ps ++ more) } → TriplesOk (ps ++ more).toList →
      ∀ co : Option Addr, (∀ p' cv, codeAmong p' (ps ++ more).toList = some cv → codeAmong p' ps.toList = some cv ∨ ∃ c', co = some c' ∧ cv = .ref c') → (∀ c', co = some c' → hb.objs.size ≤ c' ∧ c' < h3.objs.size ∧ h3.CodeRec (.ref c') q) →
      wpAny (model X.prog X.w) X.A (builtinsFor X.env.globals X.env.builtins) (fun bi s₄ => ∃ I fp wr n₀ P St₀ pz F, it = .ref I ∧ (∀ A' : Around, A'.handled = none → Walks X.prog X.w A' I fp wr n₀ P St₀) ∧ St₀ 0 s₄.heap ∧ (∀ b ∈ fp, b < s₄.heap.objs.size) ∧ s₄.heap.NoLimit ∧ cStatics ∉ wr ∧
          (∀ href : Heap, (∀ b o, s₄.heap.get? b = some o → href.get? b = some o) → QuietGen X.prog X.w (genEnv scope (cloFrom X.env.cells scope.names []) s₄.heap.objs.size code bi X.env) x [] elt (List.range s₄.heap.objs.size) wr P pz F href) ∧
          (∀ a h₅ tk gs, gs.bare = true → s₄.heap.objs.size < a → h₅.objs.size = a + 1 → (∀ b o, s₄.heap.get? b = some o → h₅.get? b = some o) →
            WalksS X.prog X.w X.A.in4 a (a :: s₄.heap.objs.size :: List.range s₄.heap.objs.size) (s₄.heap.objs.size :: wr) (GenOnlyQ s₄.gens.size) (passing pz n₀ 0).length
              (fun j y => ∃ i, (passing pz n₀ 0)[j]? = some i ∧ F i y) (GenAt X.prog X.w X.A.in4 a s₄.gens.size s₄.heap.objs.size (List.range s₄.heap.objs.size) wr pz n₀ F) →
            GenAt X.prog X.w X.A.in4 a s₄.gens.size s₄.heap.objs.size (List.range s₄.heap.objs.size) wr pz n₀ F 0 { s₄ with gens := s₄.gens.push gs, toks := tk, heap := h₅ } →
            Q' (.ref a) { s₄ with gens := s₄.gens.push gs, toks := tk, heap := h₅ })) X.xe { s1 with heap := h3, toks := tk } := by
    intro code h3 tk more hx3 hsz hP3 ht3 co hnew hco
    obtain ⟨bm, bo, e1, e2, e3, e4, e5, e6, e7, e8⟩ := TB.bm
    have hcP : cStatics ≠ P := fun e => by
      obtain ⟨_, hns, _⟩ := I1.nolimit
      obtain ⟨o', es', ep', ho', hd', _⟩ := hns
      rw [e, hPs] at ho'
      cases ho'
      cases hd'
    have keep3 : ∀ b u, b ≠ P → s1.heap.get? b = some u → h3.get? b = some u := fun b u n e => hx3 b u n (Z.keep b u e)
    have nsG : h3.Ns mainGlobals X.mg := ((I1.mod.glob.keeps I1.bk).keeps Z.keep).extBut hx3 TB.gP
    have glt : mainGlobals < s1.heap.objs.size := (I1.mod.glob.keeps I1.bk).lt
    refine wpAny_builtinsFor (m := X.mg) (by rw [I1.ok.glob]; exact (((I1.mod.glob.keeps I1.bk).keeps Z.keep)).extBut hx3 TB.gP) e1 e2 (keep3 _ _ e4 (I1.bk _ _ e5)) e6 e7 e8 ?_
    refine ⟨J, fp, wr, n, Pv, St, (fun _ => true), (fun i y => y = .bool (tr i)), Z.it, Z.walk, (Z.walk X.A hr.hd).frame _ _ _ Z.st fun b hbf u e => hx3 b u (Z.fps b hbf).2 e, fun b hbf => Nat.lt_of_lt_of_le (Z.fps b hbf).1 hsz, lim2.extBut hx3 hcP, fun z => Nat.lt_irrefl _ (Nat.lt_of_lt_of_le cst (Z.wrs _ z)), fun href hhr => ⟨fun A' E' i v s₂ m₂ _ _ _ _ _ => ?_, fun A' E' i v s₂ m₂ hA hPv _ hn hm hk => Z.elt _ A' E' i v s₂ m₂ rfl I1.ok.glob hA (nsG.at fun o e => hk _ (List.mem_range.mpr (Heap.lt_size e)) (fun z => Nat.lt_irrefl _ (Nat.lt_of_lt_of_le glt (Z.wrs _ z))) _ (hhr _ _ e)) hPv hn hm⟩, ?_⟩
    · simp only [List.forIn_nil]
      exact wpAny_pure ⟨rfl, keeps_refl _⟩
    · intro g h5 tk5 gs hgb hag hsz5 hk5 W5 hat
      simp only [GxR.passing_true, List.length_range] at W5
      refine Z.next g _ ⟨_, _, _, _, _, W5.in4_1, hat, fun j y sj Qj Ej hy hQj => ?_, fun s' hmv => ?_⟩
      · obtain ⟨i, hij, hF⟩ := hy
        obtain ⟨hj, ej⟩ := List.getElem?_eq_some_iff.mp hij
        rw [List.getElem_range] at ej
        have hF' : y = .bool (tr i) := hF
        rw [hF', ← ej]
        exact wpAny_truthy_bool hQj
      · have apart : ∀ b u, s1.heap.get? b = some u → b ∉ h3.objs.size :: wr := fun b u e z => by
          have hl := Heap.lt_size e
          rcases List.mem_cons.mp z with z | z
          · exact lt_or hsz2 hsz hl z
          · exact Nat.lt_irrefl _ (Nat.lt_of_lt_of_le hl (Z.wrs _ z))
        have JJ := inv_tab (more := more) (h' := s'.heap) (g' := s'.gens) (d' := s'.drawn) (t' := s'.toks) I1 hP (fun b u n e => hmv.heap b u (apart b u e) (hk5 b u (keep3 b u n e)))
          (hmv.heap P _ (apart P _ hPs) (hk5 P _ hP3)) (AllBare.movedS (I1.bare.push hgb) hmv)
        rw [sh_eta s1 s' hmv.os] at JJ
        cases co with
        | none =>
          refine ⟨_, ⟨⟨ps ++ more, upd_same, ht3, fun p' cv hcv => ?_⟩, fun b o n e => by rw [upd_ne n]; exact e⟩, JJ⟩
          rcases hnew p' cv hcv with z | ⟨c', z, _⟩
          · obtain ⟨c0, y1, y2⟩ := ha p' cv z
            exact ⟨c0, y1, by rw [upd_ne (fun z => by rw [z, hP] at y2; cases y2)]; exact y2⟩
          · cases z
        | some c' =>
          obtain ⟨hge, hlt, cr⟩ := hco c' rfl
          obtain ⟨c2, oc, vs, t, y0, hoc, hd2, hv2⟩ := id cr
          cases y0
          have nC : H1 c' = none := I1.hok.fresh (Nat.le_trans hsz2 hge)
          have nPc : P ≠ c' := ne_of_none hP nC
          have nw : c' ∉ h3.objs.size :: wr := fun z => by
            rcases List.mem_cons.mp z with z | z
            · exact Nat.lt_irrefl _ (z ▸ hlt)
            · exact Nat.lt_irrefl _ (Nat.lt_of_lt_of_le (Z.fps c' ((Z.walk X.A hr.hd).sub c' z)).1 hge)
          have ho' : s'.heap.get? c' = some oc := hmv.heap c' _ nw (hk5 c' _ hoc)
          have nC2 : upd H1 P (.tbl (ps ++ more)) c' = none := by rw [upd_ne nPc.symm]; exact nC
          have J2 := JJ.take (h' := s'.heap) (t' := s'.toks) (o := LamX.CodeO c' q) (fun b ob _ e => e) (I1.fpOk (Nat.le_trans hsz2 hge) nC2)
            (show ObjOk X.prog X.w _ s'.heap c' (LamX.CodeO c' q) from ⟨⟨oc, vs, t, ho', hd2, hv2⟩, ⟨_, ho'⟩, fun k1 k2 ⟨o1, v1, t1, z1, z2, z3⟩ kk => ⟨o1, v1, t1, kk _ z1, z2, z3⟩⟩)
          refine ⟨_, ⟨⟨ps ++ more, by rw [upd_ne nPc, upd_same], ht3, fun p' cv hcv => ?_⟩, fun b o n e => by rw [upd_ne (ne_of_none e nC), upd_ne n]; exact e⟩, J2⟩
          rcases hnew p' cv hcv with z | ⟨c3, z, e3'⟩
          · obtain ⟨c0, y1, y2⟩ := ha p' cv z
            exact ⟨c0, y1, by rw [upd_ne (ne_of_none y2 nC), upd_ne (fun z => by rw [z, hP] at y2; cases y2)]; exact y2⟩
          · cases z
            exact ⟨c', e3', upd_same⟩
  cases hf : codeAmong gpos ps.toList with
  | none =>
    refine wpAny_genexprCodeX hcode (cd.code hP2 ht) (cd.tab hP2) hf fun c' h' tk hx3 hge hlt hco' hrec' htab' _ => ?_
    obtain ⟨o1, vs, f1, tf, fl, tg, inF, tx, tt, op, _, _, _, _, _, _, _, _, _, htr, _⟩ := hco'
    refine goOn _ h' tk _ hx3 (Nat.le_trans hge (Nat.le_of_lt hlt)) htab'.2 htr (some c') (fun p' cv hcv => ?_) fun c3 e => by cases e; exact ⟨hge, hlt, hq ▸ hrec'⟩
    have eL : (ps ++ #[rawInt gpos.line, rawInt gpos.col, .ref c']).toList = ps.toList ++ [rawInt gpos.line, rawInt gpos.col, .ref c'] := by simp
    rw [eL] at hcv
    exact (LamX.among_app _ ht hcv).elim .inl fun z => .inr ⟨c', rfl, z⟩
  | some cv =>
    refine wpAny_genexprCode_hit hcode (cd.code hP2 ht) hf ?_
    have e0 : ps ++ #[] = ps := by simp
    exact goOn cv hb kb #[] (Heap.ExtBut.refl _ _) (Nat.le_refl _) (by rw [e0]; exact hP2) (by rw [e0]; exact ht) none (fun p' v z => by rw [e0] at z; exact .inl z) (fun _ e => nomatch e)
end
end GS
set_option Elab.async false
set_option linter.all false
set_option maxRecDepth 100000
set_option maxHeartbeats 4000000
namespace GS
open PySem PySem.Spec PyProof.Rows PySem.Calls L2 KB GxR KH
theorem elt_notInG {prog : Program} {w : World} {mg : Str → Option Value} {scope : Scope} {x g : Str} {a wd : Str} {tk : Tok} {p1 p2 p3 : Pos} (hk : scope.kind = .function) (hl : scope.names.lookup x = some .local) (hg : scope.names.lookup g = some .globalImplicit) (hm : mg g = some (.str wd tk)) (hd : (x == ("__debug__" : Str)) = false := by decide) (hd2 : (g == ("__debug__" : Str)) = false := by decide) :
    EltG prog w mg scope x (.Compare (.Name x p1) [.NotIn] [.Name g p2] p3) (SignAt a) (trF (fun c => !decide (c ∈ wd.cps.toList)) a.cps.toList) := by
  intro cenv A' E' i v s₂ m₂ hs hgl hA nsG hPv hn hmx
  obtain ⟨c, u, hc, rfl⟩ := hPv
  refine wpAny_Compare1 ?_
  refine wpAny_Name (wpAny_loadName_local (by rw [hs]; exact hk) (show cenv.scope.names.lookup x = some .local by rw [hs]; exact hl) hn hmx ?_) hd
  refine Calls.Name_function_global (by rw [hs]; exact hk) (show cenv.scope.names.lookup g = some .globalImplicit by rw [hs]; exact hg) (Calls.loadGlobal_global (by rw [hgl]; exact nsG) hm ?_) hd2
  refine PyProof.Rows.notIn_str ⟨?_, keeps_tok _ _⟩
  rw [trF_some (b := c) (by rw [Array.getElem?_toList]; exact hc)]
  exact congrArg Value.bool (congrArg Bool.not (PySem.StrLaws.found_one wd c))
section
variable {X : Cx}
def tAnyT (P : Addr) (q : Str) (pb : Nat → Bool) (te : TE) : TE := fun σ H Q => te σ H fun v H1 => ∃ a : Str, v = .str a ∧ LamX.TabS H1 P q ∧ ∀ H2, TabbedS P q H1 H2 → Q (.bl (a.cps.toList.any pb)) H2
theorem pe_anyT {c P : Addr} {q : Str} {elt iter : Expr} {x : Str} {px p pos gpos : Pos} {scope : Scope} {pb : Nat → Bool} {te : TE} {k : Nat}
    (hq : X.env.qual ++ Str.ofString "<genexpr>" = q) (hr : Room k X.A) (hg : Gl X "any") (hm : X.mg "any" = none) (TB : TabB X.base X.mg c P) (hcode : X.env.code = .ref c) (S : GenS X.env scope x) (hi : PE X iter te) (hel : ∀ a : Str, EltG X.prog X.w X.mg scope x elt (SignAt a) (trF pb a.cps.toList))
    (hs : ∀ v, genFold iter X.env v = pure v)
    (he : starEach [.GeneratorExp elt [⟨.Name x px, iter, [], 0⟩] scope gpos] X.env = (false, eval (.GeneratorExp elt [⟨.Name x px, iter, [], 0⟩] scope gpos) X.env) :: starEach [] X.env := by rfl) :
    PE X (.Call (.Name "any" p) [.GeneratorExp elt [⟨.Name x px, iter, [], 0⟩] scope gpos] [] pos) (tAnyT P q pb te) := by
  refine ⟨fun pins s σ H Q I h => ?_⟩
  refine wpAny_Call_Name_kw (ld_blt I hg hm boot_any ?_)
  refine PyProof.Rows.callWith_builtin1 ?_ he (by rfl)
  rw [he]
  show wpAny _ _ (spliced ((false, eval (.GeneratorExp elt [⟨.Name x px, iter, [], 0⟩] scope gpos) X.env) :: backTo pos (starEach [] X.env))) _ _ s
  refine Calls.spliced_cons (gen_S (pins := pins) (σ := σ) hq hr TB hcode S hs (thn (hi.run pins s σ H _ I h) fun xv s1 ⟨v, H1, I1, r1, q1⟩ => ?_))
  obtain ⟨a, rfl, tab, q1⟩ := q1
  obtain ⟨t, rfl⟩ := _root_.id r1
  refine wpAny_pyIter_str fun o St W hst => ?_
  have hPlt : P < s1.heap.objs.size := let ⟨_, e, _⟩ := tab; Heap.lt_size (I1.hok P _ e)
  refine ⟨s1, H1, s1.heap.objs.size, [s1.heap.objs.size], [s1.heap.objs.size], a.cps.size, SignAt a, St, trF pb a.cps.toList, rfl, I1, rfl, fun b u e => Heap.get?_push_of_some _ e, Nat.le_of_lt (by rw [Heap.size_push]; exact Nat.lt_succ_self _), W, hst, fun b hb => ?_, fun b hb => ?_, tab, hel a, fun g s5 hG => ?_⟩
  · rw [List.mem_singleton.mp hb]
    exact ⟨by show _ < (s1.heap.push o).objs.size; rw [Heap.size_push]; exact Nat.lt_succ_self _, fun z => Nat.lt_irrefl _ (z ▸ hPlt)⟩
  · rw [List.mem_singleton.mp hb]
    exact Nat.le_refl _
  · obtain ⟨fp, wr, G, F, St, W, hst, htr, hI⟩ := hG
    refine Calls.spliced_nil ?_
    refine call_any_walkS (W.self 0 _ _ _ hst ⟨g, fp, wr, G, _, F, St, _, rfl, W, hst, htr, fun s' hmv => ?_⟩)
    obtain ⟨H2, hT, J⟩ := hI s' hmv
    refine ⟨.bl _, H2, J, rfl, ?_⟩
    rw [any_signs a pb]
    exact q1 H2 hT
end
end GS
set_option Elab.async false
set_option linter.all false
set_option maxRecDepth 100000
set_option maxHeartbeats 4000000
namespace KL0
open PySem PySem.Spec PyProof.Rows L2 KB KC KS KN1 LamX
theorem okC {P : Program} {w : World} {K : PySem.W.Frag} {mg : Str → Option Value} {base : Heap} {x qual : Str} {st : Stmt} {dvs : List V} {f c : Addr} {fd : FuncData} {CX : CXT} {N ps : List Str} {k : Nat} {sp : Sp} (F : FnP K x qual st dvs f fd) (hc : fd.code = .ref c) (S : FnScope N ps (defScope st)) (len : ∀ vs H Q E, sp vs H Q E → vs.length = ps.length)
    (hbody : ∀ (A : Around) (outer : List Env) (s : Shared) (H : Hp) (vs : List V) (Q : VK) (E : XK), Room k (A.deeper (envOfC qual (defScope st) s.heap.objs.size f (.ref c))) → sp vs H Q E →
      ∃ t, PSs (cxOf CX P w K mg base N qual (defScope st) f (.ref c) A outer s H E) (defBody st) t ∧ t { nx := fun _ H' => Q .non H', rt := Q } (start N vs) H) : FnOk P w K mg base CX (k + 1) f fd ps sp := by
  obtain ⟨oc, od, dV, kV, doc, pm, an, cdv, ct, osl, rfl, lk, hcd, hD, hK⟩ := F.ex
  have e : cdv = .ref c := hc
  subst e
  exact fn_of lk hcd S len hbody
def veB : List Value := [.type "ValueError", .type "Exception", .type "BaseException", .type "object"]
structure TxtX (K : PySem.W.Frag) (mg : Str → Option Value) (CR : Addr) : Prop where
  g : mg "RowError" = some (.ref CR)
  x : PySem.W.excIn K CR veB "ValueError.__new__" = true
  k : PySem.W.keepIn K (.ref CR) = true
  b : PySem.W.subIn K (.ref CR) (.type "BaseException") = some true
  t : PySem.W.typeIn K (.ref CR) = some (.type "type")
  e : PySem.W.exmOne K (.ref CR) (.ref CR) = some true
def ltrs : Str := "\n !\"#$&'()*+,-./0123456789:;<=>?@ABCDEFGHIJKLMNOPQRSTUVWXYZ[\\]^_`abcdefghijklmnopqrstuvwxyz{|}~"
structure TxtK (mg : Str → Option Value) : Prop where
  l : ∃ tk, mg "LETTERS" = some (.str ltrs tk)
  bool : mg "bool" = none
  any : mg "any" = none
def badT (a : Str) : Bool := a.cps.toList.any fun c => !decide (c ∈ ltrs.cps.toList)
abbrev qK : Str := "kind_of.<locals>.<genexpr>"
def KindR (CR Ps : Addr) (H : Hp) (Q : VK) (E : XK) : V → Prop
  | .int _ => Q (.str "int") H
  | .bl _ => E (.ref CR) none H
  | .non => E (.ref CR) none H
  | .ref p => (∃ xs, H p = some (.tup xs)) ∧ E (.ref CR) none H
  | .str a => TabS H Ps qK ∧ ∀ H', KH.TabbedS Ps qK H H' → if badT a = true then E (.ref CR) none H' else Q (.str "text") H'
  | _ => False
@[irreducible] def spKind (CR Ps : Addr) : Sp := fun vs H Q E => ∃ v, vs = [v] ∧ KindR CR Ps H Q E v
@[irreducible] def rIsiB (K : PySem.W.Frag) : List V → Hp → VK → Prop := rIsi K
theorem call_isiB {X : Cx} : CallR X (.builtin "isinstance") (rIsiB X.K) := by
  unfold rIsiB
  exact call_isi
theorem isi_ty {K : PySem.W.Frag} {H : Hp} {x : V} {a b : String} {r : Bool} {Q : VK} (ty : TyOf K H x (.type a)) (h : kitB a b = some r) (q : Q (.bl r) H) : rIsiB K [x, .ty b] H Q := by
  unfold rIsiB
  exact ⟨x, .ty b, .type a, .type b, r, rfl, .ty b, .base ty, kit_ty h, q⟩
section
variable {P : Program} {w : World} {K : PySem.W.Frag} {mg : Str → Option Value} {base : Heap} {f cK Ps CR : Addr} {fd : FuncData}
theorem scKind : FnScope ["value"] ["value"] (defScope sKind) := ⟨rfl, rfl, rfl, by decide +kernel, rfl, by decide +kernel, by decide +kernel⟩
theorem ok_kind (F : FnP K "kind_of" "kind_of" sKind [] f fd) (hc : fd.code = .ref cK) (TBs : GxR.TabB base mg cK Ps) (T : TxtL mg) (TK : TxtK mg) (TX : TxtX K mg CR) : FnOk P w K mg base (L2.CX P w) 1 f fd ["value"] (spKind CR Ps) := by
  obtain ⟨tk, hL⟩ := TK.l
  refine okC F hc scKind (fun vs H Q E h => ?_) (fun A outer s H vs Q E hr h => ?_)
  · unfold spKind at h
    obtain ⟨_, rfl, _⟩ := h; rfl
  · unfold spKind at h
    obtain ⟨v, rfl, h⟩ := h
    refine ⟨_, pss_cons (ps_if (pt_val (pe_callB call_isiB (by rfl) T.isi PyProof.Rows.boot_isinstance (pa_cons (pv 0) (pa_cons (pe_bltn (v := .ty "bool") (u := .type "bool") (by rfl) TK.bool (by decide +kernel) rfl) pa_nil))))
        (pss_one (ps_raise rfl (takes_of rfl rfl rfl rfl) (pmk_own PySem.F.excBase_ValueError TX.x TX.g TX.k (raises_own TX.b TX.t) rfl))) pss_nil)
      (pss_cons (ps_if (pt_val (pe_callB call_isiB (by rfl) T.isi PyProof.Rows.boot_isinstance (pa_cons (pv 0) (pa_cons (pe_bltn (v := .ty "int") (u := .type "int") (by rfl) T.int (by decide +kernel) rfl) pa_nil))))
        (pss_one (ps_ret pe_str)) pss_nil)
      (pss_cons (ps_if (PW.pt (pw_or (pt_not (pt_val (pe_callB call_isiB (by rfl) T.isi PyProof.Rows.boot_isinstance (pa_cons (pv 0) (pa_cons (pe_bltn (v := .ty "str") (u := .type "str") (by rfl) T.str (by decide +kernel) rfl) pa_nil)))))
          (pw_or1 (pt_val (GS.pe_anyT (c := cK) (P := Ps) (q := qK) (pb := fun c => !decide (c ∈ ltrs.cps.toList)) (x := "sign") (show (Str.ofString "kind_of" ++ Str.ofString ".<locals>.") ++ Str.ofString "<genexpr>" = qK by decide +kernel) hr (by rfl) TK.any TBs rfl
            ⟨rfl, rfl, by decide +kernel, rfl, rfl, fun y hy e => by
              rcases List.mem_cons.mp hy with rfl | hy
              · cases e
              · rcases List.mem_cons.mp hy with rfl | hy
                · cases e
                · rcases List.mem_cons.mp hy with rfl | hy
                  · cases e
                  · cases hy⟩ (pv 0) (fun a => GS.elt_notInG rfl rfl rfl hL) (fun _ => rfl))))))
        (pss_one (ps_raise rfl (takes_of rfl rfl rfl rfl) (pmk_own PySem.F.excBase_ValueError TX.x TX.g TX.k (raises_own TX.b TX.t) rfl))) pss_nil)
      (pss_one (ps_ret pe_str)))), ?_⟩
    have no : ∀ {b : Bool} {A B : Prop}, b = false → B → if b = true then A else B := fun h q => by rw [h, if_neg (by decide)]; exact q
    cases v with
    | int n =>
      refine ⟨_, rfl, ?_⟩
      show rIsiB K [_, .ty "bool"] H _
      refine isi_ty (.int n) (by decide +kernel) ⟨_, rfl, no rfl ?_⟩
      refine ⟨_, rfl, ?_⟩
      show rIsiB K [_, .ty "int"] H _
      refine isi_ty (.int n) (by decide +kernel) ⟨_, rfl, iteT ?_⟩
      exact h
    | bl b =>
      refine ⟨_, rfl, ?_⟩
      show rIsiB K [_, .ty "bool"] H _
      refine isi_ty (.bl b) (by decide +kernel) ⟨_, rfl, iteT ?_⟩
      exact h
    | non =>
      refine ⟨_, rfl, ?_⟩
      show rIsiB K [_, .ty "bool"] H _
      refine isi_ty .non (by decide +kernel) ⟨_, rfl, no rfl ?_⟩
      refine ⟨_, rfl, ?_⟩
      show rIsiB K [_, .ty "int"] H _
      refine isi_ty .non (by decide +kernel) ⟨_, rfl, no rfl ?_⟩
      refine ⟨_, rfl, ?_⟩
      show rIsiB K [_, .ty "str"] H _
      refine isi_ty (r := false) .non (by decide +kernel) ⟨_, rfl, ?_⟩
      exact h
    | ref p =>
      obtain ⟨⟨xs, hp⟩, h⟩ := h
      refine ⟨_, rfl, ?_⟩
      show rIsiB K [_, .ty "bool"] H _
      refine isi_ty (r := false) (.tup hp) (by decide +kernel) ⟨_, rfl, no rfl ?_⟩
      refine ⟨_, rfl, ?_⟩
      show rIsiB K [_, .ty "int"] H _
      refine isi_ty (.tup hp) (by decide +kernel) ⟨_, rfl, no rfl ?_⟩
      refine ⟨_, rfl, ?_⟩
      show rIsiB K [_, .ty "str"] H _
      refine isi_ty (r := false) (.tup hp) (by decide +kernel) ⟨_, rfl, ?_⟩
      exact h
    | str a =>
      obtain ⟨tab, h⟩ := h
      refine ⟨_, rfl, ?_⟩
      show rIsiB K [_, .ty "bool"] H _
      refine isi_ty (.str a) (by decide +kernel) ⟨_, rfl, no rfl ?_⟩
      refine ⟨_, rfl, ?_⟩
      show rIsiB K [_, .ty "int"] H _
      refine isi_ty (.str a) (by decide +kernel) ⟨_, rfl, no rfl ?_⟩
      refine ⟨_, rfl, ?_⟩
      show rIsiB K [_, .ty "str"] H _
      refine isi_ty (r := true) (.str a) (by decide +kernel) ⟨_, rfl, ?_⟩
      refine no rfl ⟨_, rfl, a, rfl, tab, fun H2 tb => ⟨_, rfl, ?_⟩⟩
      have h2 := h H2 tb
      show if badT a = true then _ else _
      exact h2
    | _ => exact False.elim h
end
end KL0
set_option Elab.async false
set_option linter.all false
set_option maxRecDepth 100000
set_option maxHeartbeats 4000000
namespace KL0
open PySem PySem.Spec PyProof.Rows L2 KB KC KS KN1 LamX
abbrev Tb (Ps : Addr) (H H' : Hp) : Prop := KH.TabbedS Ps qK H H'
theorem Tb.refl {Ps : Addr} {H : Hp} (t : TabS H Ps qK) : Tb Ps H H := ⟨t, fun _ _ _ e => e⟩
theorem Tb.trans {Ps : Addr} {H H1 H2 : Hp} (a : Tb Ps H H1) (b : Tb Ps H1 H2) : Tb Ps H H2 := ⟨b.1, fun x o n e => b.2 x o n (a.2 x o n e)⟩
theorem Tb.ex {Ps : Addr} {H H1 H2 : Hp} (a : Tb Ps H H1) (e : Ex H1 H2) : Tb Ps H H2 := ⟨a.1.ext e, fun x o n h => e x o (a.2 x o n h)⟩
theorem kind_step {CR Ps : Addr} {H : Hp} {Q : VK} {E : XK} {v : V} (h : KindR CR Ps H Q E v) : spKind CR Ps [v] H Q E := by
  unfold spKind
  exact ⟨v, rfl, h⟩
section
variable {P : Program} {w : World} {K : PySem.W.Frag} {mg : Str → Option Value} {base : Heap} {f fK fN cK Ps CR : Addr} {fd fdK fdN : FuncData}
end
end KL0
set_option Elab.async false
set_option linter.all false
set_option maxRecDepth 100000
set_option maxHeartbeats 4000000
namespace PySem
open AutoSeq1
end PySem
namespace KL0
open PySem PySem.Spec PyProof.Rows L2 KB KC KS KN1 LamX
theorem tabS_lst {H : Hp} {P l : Addr} {q : Str} {xs ys : List V} (t : TabS H P q) (h : H l = some (.lst xs)) : TabS (upd H l (.lst ys)) P q := by
  obtain ⟨ps, hP, ht, ha⟩ := t
  refine ⟨ps, by rw [L2.upd_ne (fun z => by rw [z, h] at hP; cases hP)]; exact hP, ht, fun pos cv hc => ?_⟩
  obtain ⟨c, e1, e2⟩ := ha pos cv hc
  exact ⟨c, e1, by rw [L2.upd_ne (fun z => by rw [z, h] at e2; cases e2)]; exact e2⟩
section
variable {P : Program} {w : World} {K : PySem.W.Frag} {mg : Str → Option Value} {base : Heap} {f fV fK fN cK Ps CR : Addr} {fd fdV fdK fdN : FuncData}
end
end KL0
set_option Elab.async false
set_option linter.all false
set_option maxRecDepth 100000
set_option maxHeartbeats 2000000
namespace RC
open PySem PySem.Spec PyProof.Rows L2
theorem tracedZ_but {h h' B : Heap} {e C : Addr} {Z : Obj → Prop} {fl : Value} {m : Str → Option Value} (t : HandSPX.TracedZ h B e Z fl) (hn : h.Ns C m) (hs : Heap.SameBut C h h') : HandSPX.TracedZ h' B e Z fl := by
  obtain ⟨oe, vs, T, oT, ts, he, hz, hd, h1, hnT, hTe, hT, hdT, h3⟩ := t
  obtain ⟨oC, es, ep, hoC, hdC, _⟩ := hn
  have n1 : e ≠ C := fun z => by
    rw [z, hoC] at he
    cases he
    rw [hdC] at hd; cases hd
  have n2 : T ≠ C := fun z => by
    rw [z, hoC] at hT
    cases hT
    rw [hdC] at hdT; cases hdT
  exact ⟨oe, vs, T, oT, ts, (hs.2 e n1).trans he, hz, hd, h1, hnT, hTe, (hs.2 T n2).trans hT, hdT, h3⟩
def FlyC (X : Cx) (W : WX) (C : Addr) (u : Value) (s' : Shared) : Prop :=
  ∃ (a : Addr) (B : Heap) (sI : Shared) (pins : List (Addr × Obj)) (σ : L2.St) (H : Hp) (cls : Value) (d : Option Addr),
    u = .ref a ∧ Inv X pins σ H sI ∧ (∀ b o, sI.heap.get? b = some o → b ∉ frs X.stack → B.get? b = some o) ∧ sI.heap.UpToSlots s'.heap ∧
      HandSPX.FlyingZ B X.stack a (Zc cls d) s'.heap ∧ H a = none ∧ s'.os = sI.os ∧ AllBare s'.gens ∧ W cls d σ H ∧ B.get? C = none ∧ sI.heap.get? C = none
section
variable {X : Cx} {s' : Shared}
theorem noted {W : WX} {u : Value} {m : Str → Option Value} {cenv : Env} (hs : X.stack = X.env :: X.outer) (hf : X.env.frame = some X.env.locals) (hcf : cenv.frame = X.env.frame) (tk : Takes X W) (x : FlyC X W cenv.locals u s') (hn : s'.heap.Ns cenv.locals m) :
    notedBy (model X.prog X.w) X.A cenv (fun e s'' => CompFails (model X.prog X.w) X.A X.xe cenv e s'') u s' := by
  obtain ⟨a, B, sI, pins, σ, H, cls, d, rfl, I, nb, up, fl, na, os, ag, w, bC, iC⟩ := x
  have hfr : X.A.frames = some (X.env :: X.outer) := by rw [I.ok.frames, hs]
  show wpAny _ X.A (noteFrame (.ref a) cenv) _ _ s'
  rw [noteFrame_env _ hcf]
  rw [hs] at fl
  refine HandSPX.looks_onZ Zc.steady hfr hf fl fun h1 hh1 up1 => ?_
  obtain ⟨k1, k2, k3, k4⟩ := hh1
  have hn1 : h1.Ns cenv.locals m := up1.ns hn
  refine ⟨m, hn1, fun h2 m2 hn2 hs2 => ?_⟩
  have k1' : B.StaysIn h2 := fun b o hb => (hs2.2 b fun q => by rw [q, bC] at hb; cases hb).trans (k1 b o hb)
  have k3' : h2.FunFrames B (X.env :: X.outer) := Heap.FunFrames.sameBut hs2 hn2 k3
  have k4' := tracedZ_but k4 hn1 hs2
  have hh2 : HandSPX.HeldZ B (X.env :: X.outer) a (Zc cls d) X.env.locals h2 := ⟨k1', k2, k3', k4'⟩
  obtain ⟨oe, vs, T, oT, ts, he, hz, hd, e1, _⟩ := id k4'
  unfold PySem.passOn
  refine wpAny_bind (wpAny_field he hd e1 ?_)
  rw [if_neg (show ¬ ((Value.ref T == Value.none) = true) from by simp)]
  rw [hcf, hf]
  refine wpAny_bind (HandSPX.setFlight_onZ hh2 fun h3 hh3 up3 => wpAny_throw (tk _ _ ?_))
  refine ⟨a, B, sI, pins, σ, H, cls, d, rfl, I, nb, fun b o e nf => ?_, .inr (.inr (by rw [hs]; exact hh3)), na, os, ag, w⟩
  obtain ⟨sl, q⟩ := (up.trans up1) b o e nf
  have nC : b ≠ cenv.locals := fun z => by rw [z, iC] at e; cases e
  obtain ⟨sl2, q2⟩ := up3 b _ ((hs2.2 b nC).trans q) nf
  exact ⟨sl2, q2⟩
theorem fly_of {W : WX} {pins : List (Addr × Obj)} {σ : L2.St} {H : Hp} {s sO : Shared} {E : XK} {C : Addr} {oC : Obj} {u : Value} (I : Inv X pins σ H sO) (hO : sO.heap.get? C = none) (kO : ∀ b o, sO.heap.get? b = some o → s.heap.get? b = some o) (osO : sO.os = s.os) (hC : s.heap.get? C = some oC) (nC : H C = none) (fC : C ∉ frs X.stack)
    (hW : ∀ cls d H', E cls d H' → W cls d σ H') (c : L2.CX X.prog X.w X.stack H s E u s') : FlyC X W C u s' := by
  obtain ⟨a, B0, H', cls, d, rfl, fl0, hok0, ub, na, os, ag, hE⟩ := c
  obtain ⟨B, r1, r2⟩ := restrict B0 fun b => decide (b ≠ C)
  have nC' : H' C = none := ub.free C oC hC nC
  have bs : ∀ b o, B.get? b = some o → B0.get? b = some o ∧ b ≠ C := fun b o e => by
    by_cases z : b = C
    · rw [r2 b (by simp [z])] at e; cases e
    · rw [r1 b (by simp [z])] at e
      exact ⟨e, z⟩
  have bn : ∀ b, B0.get? b = none → B.get? b = none := fun b e => by
    cases q : B.get? b with
    | none => rfl
    | some o => rw [(bs b o q).1] at e; cases e
  have fl : HandSPX.FlyingZ B X.stack a (Zc cls d) s'.heap := by
    obtain ⟨f1, f2, f3, oe, vs, T, oT, ts, he, hz, hd, h1, hnT, rest⟩ := fl0
    exact ⟨fun b o e => f1 b o (bs b o e).1, bn _ f2, funFrames_none f3 fun L hL => bn _ (by
      obtain ⟨q, _⟩ := f3.mem hL
      exact q), oe, vs, T, oT, ts, he, hz, hd, h1, bn _ hnT, rest⟩
  have hok : HOk X.prog X.w H' B := fun b o q => (hok0 b o q).stay (fun c u hc r => by
    have z : c ≠ C := fun z => by
      rcases hc with hc | hc
      · rw [hc] at z
        rw [z, nC'] at q; cases q
      · rw [z, nC'] at hc; cases hc
    rw [r1 c (by simp [z])]
    exact r) (fun _ r => r) fun _ _ r => r
  obtain ⟨G, g1, g2⟩ := restrict s'.heap fun b => (B.get? b).isSome || decide (b ∈ frs X.stack)
  have st : B.StaysIn s'.heap := fl.1
  have gB : ∀ b o, B.get? b = some o → G.get? b = some o := fun b o e => by
    rw [g1 b (by simp [e])]
    exact st b o e
  have gF : ∀ b, b ∈ frs X.stack → G.get? b = s'.heap.get? b := fun b hb => g1 b (by simp [hb])
  have og : ∀ b o, G.get? b = some o → s'.heap.get? b = some o ∧ ((B.get? b).isSome = true ∨ b ∈ frs X.stack) := fun b o e => by
    cases q : ((B.get? b).isSome || decide (b ∈ frs X.stack)) with
    | false => rw [g2 b q] at e; cases e
    | true =>
      rw [g1 b q] at e
      exact ⟨e, by simpa [Bool.or_eq_true] using q⟩
  have bC : B.get? C = none := r2 C (by simp)
  have ne : ∀ b o, sO.heap.get? b = some o → b ≠ C := fun b o e z => by rw [z, hO] at e; cases e
  have kB : ∀ b o, B0.get? b = some o → b ≠ C → B.get? b = some o := fun b o e z => by rw [r1 b (by simp [z])]; exact e
  refine ⟨a, B, { sO with heap := G, gens := s'.gens, drawn := s'.drawn, toks := s'.toks }, pins, σ, H', cls, d, rfl, ?_, fun b o e hb => ?_, Heap.UpToSlots.of_keeps fun b o e => (og b o e).1, fl, na, os.trans osO.symm, ag, hW _ _ _ hE, bC, ?_⟩
  · refine I.call (ch := []) ⟨fun b o e n hb _ => gB b o (kB b o (ub.keep b o (kO b o e) n hb) (ne b o e)), fun b o e n hb _ => ?_, fun b o e n _ => ub.free b o (kO b o e) n, fun b o e _ => ?_, ub.tups, ub.frzs, ub.tbls⟩ (hok.kept gB) ag (fun _ z => nomatch z)
    · obtain ⟨sl, q⟩ := ub.slot b o (kO b o e) hb
      exact ⟨sl, by rw [gF b hb]; exact q⟩
    · by_cases hb : b ∈ frs X.stack
      · obtain ⟨sl, q⟩ := ub.slot b o (kO b o e) hb
        exact ⟨_, by rw [gF b hb]; exact q⟩
      · obtain ⟨o', q⟩ := ub.there b o (kO b o e) hb
        exact ⟨o', gB b o' (kB b o' q (ne b o e))⟩
  · obtain ⟨e', h⟩ := og b o e
    rcases h with h | h
    · obtain ⟨o', q⟩ := Option.isSome_iff_exists.mp h
      have z := st b o' q
      rw [e'] at z; cases z
      exact q
    · exact absurd h hb
  · exact g2 C (by rw [bC]; simp [fC])
end
end RC
set_option Elab.async false
set_option linter.all false
set_option maxRecDepth 100000
set_option maxHeartbeats 2000000
namespace RC
open PySem PySem.Spec PyProof.Rows L2
abbrev blkX (X : Cx) (s : Shared) (H : Hp) (scope : Scope) (cenv : Env) (fp : List Addr) (xe : Value → Shared → Prop) : Cx := { X.blk s H scope cenv fp with xe := xe }
theorem inv_blkX {X : Cx} {s : Shared} {H H' : Hp} {scope : Scope} {cenv : Env} {fp : List Addr} {xe : Value → Shared → Prop} {pins : List (Addr × Obj)} {σ : L2.St} {s' : Shared} (I : Inv (X.blk s H scope cenv fp) pins σ H' s') : Inv (blkX X s H scope cenv fp xe) pins σ H' s' :=
  Inv.unwish (X := blkX X s H scope cenv fp xe) (E := fun _ _ => False) I
section
variable {X : Cx}
def PassB (X : Cx) (E : XK) (Y : Cx) : Prop := Passes (L2.CX X.prog X.w) Y E
theorem ns_keeps {h h' : Heap} {C : Addr} {m : Str → Option Value} (n : h.Ns C m) (k : ∀ o, h.get? C = some o → h'.get? C = some o) : h'.Ns C m := by
  obtain ⟨o, es, ep, h1, r⟩ := n
  exact ⟨o, es, ep, k o h1, r⟩
theorem pe_lcX {elt tg iter : Expr} {ifs : List Expr} {scope : Scope} {own : List (Str × Nat)} {pos : Pos} {wi : TI} {g : TG} {tt : TT} {te : TE} {E : XK} (hc : X.calm = true) (hN : X.N.Nodup) (hst : X.stack = X.env :: X.outer) (hf : X.env.frame = some X.env.locals) (tk : Takes X (fun cls d _ H => E cls d H)) (hi : PI X tg iter wi) (ok : BlkOk X.N X.env.scope scope own)
    (hg : ∀ (s : Shared) (H : Hp) (C : Addr) (cl : List (Str × Addr)) (fp : List Addr) (xe : Value → Shared → Prop), PassB X E (blkX X s H scope (compEnvC scope cl C X.env) fp xe) → PG (blkX X s H scope (compEnvC scope cl C X.env) fp xe) tg g)
    (ht : ∀ (s : Shared) (H : Hp) (C : Addr) (cl : List (Str × Addr)) (fp : List Addr) (xe : Value → Shared → Prop), PassB X E (blkX X s H scope (compEnvC scope cl C X.env) fp xe) → PTs (blkX X s H scope (compEnvC scope cl C X.env) fp xe) ifs tt)
    (he : ∀ (s : Shared) (H : Hp) (C : Addr) (cl : List (Str × Addr)) (fp : List Addr) (xe : Value → Shared → Prop), PassB X E (blkX X s H scope (compEnvC scope cl C X.env) fp xe) → PE (blkX X s H scope (compEnvC scope cl C X.env) fp xe) elt te) (hs : ∀ x, foldedSetIterable iter X.env x = pure x := by intro _; rfl) :
    PE X (.ListComp elt [⟨tg, iter, ifs, 0⟩] scope pos) (tLc wi g tt te (own.map (·.2))) := by
  refine ⟨fun pins s σ H Q I h => ?_⟩
  rw [eval_ListComp]
  have hfree : ∀ y ∈ scope.names, y.2 = .free → ∃ c, X.env.cells.lookup y.1 = some c := fun y hy e => (ok.free y hy e).elim (fun k => I.ok.has _ (.inl k)) fun k => I.ok.has _ (.inr k)
  refine comprehension_at (use := none) rfl hs (closure_ok hfree) ok.kind (fun y hy e => by rw [ok.uniq y hy, e]) (thn (hi.run pins s σ H _ I h) fun xv s1 hx => thn hx fun itv s2 ⟨it, fp, tn, J, H2, e, I2, T, st2, f2, q⟩ => ?_)
  subst e
  refine wpAny_newObj_type (newEnv_comp ?_) (by show 0 ≤ sizeLine; decide)
  generalize hD : s2.heap.objs.size = D
  obtain ⟨W, ⟨m0, w0⟩, turn⟩ := q D (I2.hok.fresh (Nat.le_of_eq hD))
  generalize hs3 : ({ s2 with heap := s2.heap.push { cls := .type "list", data := .seq ([] : List Value).toArray } } : Shared) = s3
  have I3 : Inv X pins σ (upd H2 D (.lst [])) s3 := by
    rw [← hs3]
    refine I2.laid (t' := s2.toks) (fun b o e => Heap.get?_push_of_some _ e) (Nat.le_of_eq hD) ⟨Nat.zero_le _, [], 0, .nil, ?_⟩
    rw [← hD]
    exact Heap.get?_push_size _ rfl
  have h3 : s3.heap = s2.heap.push { cls := .type "list", data := .seq ([] : List Value).toArray } := by rw [← hs3]
  have f3 : ∀ b ∈ fp, FpOk X pins (upd H2 D (.lst [])) b ∧ b < s3.heap.objs.size := fun b hb => by
    obtain ⟨o, e, _⟩ := T.obj _ _ st2 b hb
    have hlt := Heap.lt_size e
    refine ⟨⟨?_, (f2 b hb).2⟩, by rw [h3, Heap.size_push]; exact Nat.lt_succ_of_lt hlt⟩
    rw [upd_ne (by rw [← hD]; exact Nat.ne_of_lt hlt)]
    exact (f2 b hb).1
  have st3 : tn 0 s3.heap := T.keep _ _ _ st2 fun b _ o e => by rw [h3]; exact Heap.get?_push_of_some _ e
  have I4 := block_start I3 ok hN f3
  have pg := fun xe => hg s3 (upd H2 D (.lst [])) s3.heap.objs.size (cellsFrom (s3.heap.objs.size + 1) scope.names (cloFrom X.env.cells scope.names [])) fp xe
  have pt := fun xe => ht s3 (upd H2 D (.lst [])) s3.heap.objs.size (cellsFrom (s3.heap.objs.size + 1) scope.names (cloFrom X.env.cells scope.names [])) fp xe
  have pe := fun xe => he s3 (upd H2 D (.lst [])) s3.heap.objs.size (cellsFrom (s3.heap.objs.size + 1) scope.names (cloFrom X.env.cells scope.names [])) fp xe
  show codeAny _ _ (.compStart (.ListComp elt [⟨tg, iter, ifs, 0⟩] scope pos) 0 (.ref it) (.ref D) (compEnvC scope (cellsFrom (s3.heap.objs.size + 1) scope.names (cloFrom X.env.cells scope.names [])) s3.heap.objs.size X.env)) (compEnds (model X.prog X.w) X.A X.xe none (fun v s' => EP X pins σ Q v s') (.ref D) (compEnvC scope (cellsFrom (s3.heap.objs.size + 1) scope.names (cloFrom X.env.cells scope.names [])) s3.heap.objs.size X.env)) { s3 with heap := pushCells (s3.heap.push { cls := .type "dict", data := .dict #[] }) scope.names }
  have nfp : ∀ b ∈ fp, (upd H2 D (.lst [])) b = none := fun b hb => (f3 b hb).1.1
  generalize hce : compEnvC scope (cellsFrom (s3.heap.objs.size + 1) scope.names (cloFrom X.env.cells scope.names [])) s3.heap.objs.size X.env = ce at I4 pg pt pe ⊢
  have cL : ce.locals = s3.heap.objs.size := by subst hce; rfl
  have cF : ce.frame = X.env.frame := by subst hce; rfl
  generalize hH3 : upd H2 D (.lst []) = H3 at I3 I4 pg pt pe w0 nfp f3
  generalize hs4 : ({ s3 with heap := pushCells (s3.heap.push { cls := .type "dict", data := .dict #[] }) scope.names } : Shared) = s4 at I4 ⊢
  have st4 : tn 0 s4.heap := T.keep _ _ _ st3 fun b _ o e => by rw [← hs4]; exact pushCells_keeps _ _ _ _ (Heap.get?_push_of_some _ e)
  generalize hxe : notedBy (model X.prog X.w) X.A ce (fun e s' => CompFails (model X.prog X.w) X.A X.xe ce e s') = xe
  have back : ∀ {pins' : List (Addr × Obj)} {σ' : L2.St} {H' : Hp} {s' : Shared}, Inv (blkX X s3 H3 scope ce fp xe) pins' σ' H' s' → Inv X pins σ H' s' := fun {pins' σ' H' s'} I' => I3.call' (ch := fp) I'.os I'.base I'.hok I'.bare fun b hb => ⟨(f3 b hb).1.2.2.2.1, (f3 b hb).1.2.1, (f3 b hb).1.2.2.2.2.1, (f3 b hb).1.2.2.2.2.2⟩
  have freeC : ∀ {pins' : List (Addr × Obj)} {σ' : L2.St} {H' : Hp} {s' : Shared}, Inv (blkX X s3 H3 scope ce fp xe) pins' σ' H' s' → H' ce.locals = none := fun I' => I'.free
  have pass : PassB X E (blkX X s3 H3 scope ce fp xe) := fun pins' σ' H' s5 u s' I' c => by
    have nC := freeC I'
    have I7 := back I'
    have nC' : H' s3.heap.objs.size = none := by rw [← cL]; exact nC
    obtain ⟨f0, f1, f2', f3', f4', f5'⟩ := I3.fpOk (Nat.le_refl _) nC'
    have fC : ce.locals ∉ frs X.stack := by
      rw [cL, hst]
      intro z
      obtain ⟨en, hen, hz⟩ := List.mem_filterMap.mp z
      rcases List.mem_cons.mp hen with rfl | hen
      · rw [hf] at hz
        exact f1 (Option.some.inj hz).symm
      · exact f2' (List.mem_filterMap.mpr ⟨en, hen, hz⟩)
    obtain ⟨mm, hn, _⟩ := I'.loc
    have hn : s5.heap.Ns ce.locals mm := hn
    obtain ⟨oC, es, ep, hoC, rest⟩ := id hn
    obtain ⟨hO, r1, r2⟩ := restrict s5.heap fun b => decide (b ≠ ce.locals)
    have kO : ∀ b o, hO.get? b = some o → s5.heap.get? b = some o := fun b o e => by
      by_cases z : b = ce.locals
      · rw [r2 b (by simp [z])] at e; cases e
      · rw [r1 b (by simp [z])] at e; exact e
    have IO : Inv X pins σ H' { s5 with heap := hO, toks := s5.toks } := by
      refine I7.turned (it := s3.heap.objs.size) (t' := s5.toks) (fun b o hb e => ?_) f0 f1 f3' f4' f5'
      rw [r1 b (by rw [cL]; simp [hb])]
      exact e
    have fly : FlyC X (fun cls d _ H => E cls d H) ce.locals u s' := fly_of (s := s5) (sO := { s5 with heap := hO, toks := s5.toks }) (oC := oC) IO (r2 _ (by simp)) kO rfl hoC nC fC (fun _ _ _ z => z) c
    have hn' : s'.heap.Ns ce.locals mm := ns_keeps hn fun o ho => by
      obtain ⟨a, B, H6, cls, d, _, fl, _, ub, _⟩ := c
      exact fl.1 _ _ (ub.keep _ _ ho nC fC)
    rw [← hxe]
    exact noted hst hf cF tk fly hn'
  have stat : ∀ {σ' : L2.St} {H' : Hp} {s' : Shared}, Inv (blkX X s3 H3 scope ce fp xe) [] σ' H' s' → (∀ b ∈ fp, H' b = none) → ∀ b ∈ fp, FpOk (blkX X s3 H3 scope ce fp xe) [] H' b := fun {σ' H' s'} I' hn b hb =>
    ⟨hn b hb, (I'.ok.exf b hb).1, I'.ok.exfs b hb, .inl hb, fun x c e => (I'.ok.exf b hb).2 x c e, fun p hp => absurd (show p ∈ ([] : List (Addr × Obj)) ++ [] from hp) (by simp)⟩
  have loop : codeAny (model X.prog X.w) X.A (.compLoop (.ListComp elt [⟨tg, iter, ifs, 0⟩] scope pos) 0 (.ref it) (.ref D) ce) (compEnds (model X.prog X.w) X.A X.xe none (fun v s' => EP X pins σ Q v s') (.ref D) ce) s4 := by
    refine compLoop_any (fun n s' => ∃ i H', Inv (blkX X s3 H3 scope ce fp xe) [] (wipe σ (own.map (·.2))) H' s' ∧ tn i s'.heap ∧ (∀ b ∈ fp, H' b = none) ∧ W i n H') ?_ m0 ⟨0, H3, inv_blkX I4, st4, nfp, w0⟩
    rintro n s5 ⟨i, H5, I5, st5, n5, w5⟩
    have err : ∀ {α : Type} {t : Sem α} {R R' : α → Shared → Prop} {sx : Shared}, wpAny (model X.prog X.w) X.A t R xe sx → (∀ a s', R a s' → R' a s') → wpAny (model X.prog X.w) X.A t R' (notedBy (model X.prog X.w) X.A ce fun e s' => compEnds (model X.prog X.w) X.A X.xe none (fun v s' => EP X pins σ Q v s') (.ref D) ce (.error e) s') sx := fun hw hR => by
      refine wpAny_mono hw hR fun e s' he => ?_
      rw [← hxe] at he
      exact he
    rcases turn i n H5 w5 with ⟨stop, qq⟩ | ⟨go, Nx, hNx, step⟩
    · refine thnF (T.done (blkX X s3 H3 scope ce fp xe) rfl rfl rfl hc i [] s5 _ H5 (fun _ _ => False) I5 (stat I5 n5) st5 stop) fun r s6 ⟨hr, I6⟩ => ?_
      subst hr
      have nC : H5 s3.heap.objs.size = none := by rw [← cL]; exact freeC I6
      obtain ⟨m, hn, _⟩ := I6.loc
      have hn : s6.heap.Ns ce.locals m := hn
      refine ⟨m, hn, fun h'' sb => ?_⟩
      obtain ⟨f0, f1, f2, f3, f4, f5⟩ := I3.fpOk (Nat.le_refl _) nC
      exact ⟨.ref D, H5, (back I6).turned (t' := s6.toks) (fun b o hb e => (sb.2 b (by rw [cL]; exact hb)).trans e) f0 f1 f3 f4 f5, rfl, qq⟩
    · refine thnF (T.item (blkX X s3 H3 scope ce fp xe) rfl rfl rfl hc i [] s5 _ H5 (fun _ _ => False) I5 (stat I5 n5) st5 go) fun r s6 ⟨u, hr, h6⟩ => ?_
      subst hr
      refine thnF h6 fun _ s7 ⟨x, H7, I7, r7, y7, st7, n7⟩ => ?_
      have I7' := I7.pinned (stat I7 n7) (T.obj _ _ st7)
      refine err ((pg xe pass).run _ s7 _ H7 x u _ I7' r7 (step x H7 y7)) fun _ s8 ⟨σ8, H8, I8, hw8, q8⟩ => ?_
      refine err ((pt xe pass).run _ s8 σ8 H8 _ I8 q8) fun b s9 ⟨H9, I9, q9⟩ => ?_
      have fin : ∀ {s' : Shared} {H' : Hp}, Inv (blkX X s3 H3 scope ce fp xe) ([] ++ pinsAt fp s7.heap) σ8 H' s' → Nx H' → ∃ m, m < n ∧ ∃ i H', Inv (blkX X s3 H3 scope ce fp xe) [] (wipe σ (own.map (·.2))) H' s' ∧ tn i s'.heap ∧ (∀ b ∈ fp, H' b = none) ∧ W i m H' := fun {s' H'} I' nx => by
        obtain ⟨m', hm, w'⟩ := hNx H' nx
        have pin' : ∀ b ∈ fp, ∀ o, s7.heap.get? b = some o → s'.heap.get? b = some o ∧ H' b = none := fun b hb o e =>
          let z := I'.pin (b, o) (List.mem_append_right _ (List.mem_append_right _ (mem_pinsAt hb e)))
          ⟨z.1, z.2.1⟩
        refine ⟨m', hm, i + 1, H', (I'.unpinned (pins := [])).weak (by rw [← hw8, wipe_length]) (fun j v e => (wipe_some (by rw [hw8]; exact e)).1), T.keep _ _ _ st7 fun b hb o e => (pin' b hb o e).1, fun b hb => ?_, w'⟩
        obtain ⟨o, e, _⟩ := T.obj _ _ st7 b hb
        exact (pin' b hb o e).2
      cases b with
      | false =>
        simp only [Bool.false_eq_true, if_false] at q9 ⊢
        exact fin I9 q9
      | true =>
        simp only [if_true] at q9 ⊢
        refine err ((pe xe pass).run _ s9 σ8 H9 _ I9 q9) fun z s10 ⟨yv, H10, I10, r10, acc, hD10, hz10, nx⟩ => ?_
        exact app_ok (X := blkX X s3 H3 scope ce fp xe) I10 hD10 hz10 r10 fun s11 I11 => fin I11 nx
  exact codeAny_compStart_list loop (T.self X.A 0 _ _ _ st4 loop)
end
end RC
set_option Elab.async false
set_option linter.all false
set_option maxRecDepth 100000
set_option maxHeartbeats 2000000
namespace RC
open PySem PySem.Spec PyProof.Rows L2
section
variable {X : Cx} {pins : List (Addr × Obj)} {σ : L2.St} {H : Hp} {s : Shared}
theorem inv_drop {ch : List Addr} {hO : Heap} (I : Inv X pins σ H s) (k : ∀ b o, b ∉ ch → s.heap.get? b = some o → hO.get? b = some o) (hn : ∀ b ∈ ch, H b = none) (hb : ∀ b ∈ ch, X.s_0.heap.get? b = none) (hL : ∀ b ∈ ch, b ≠ X.env.locals) (hf : ∀ b ∈ ch, ∃ o vs, s.heap.get? b = some o ∧ o.data = .fields vs) (hp : ∀ p ∈ X.pn ++ pins, p.1 ∉ ch) : Inv X pins σ H { s with heap := hO } := by
  have s0 : ∀ {b : Addr} {o : Obj}, X.s_0.heap.get? b = some o → b ∉ ch := fun {b o} e hc => by rw [hb b hc] at e; cases e
  have cl : ∀ {c : Addr} {v : Option Value}, s.heap.IsCell c v → hO.IsCell c v := fun {c v} ⟨o, ho, hd⟩ => ⟨o, k c o (fun hc => by
    obtain ⟨o', vs, e', hd'⟩ := hf c hc
    rw [ho] at e'
    cases e'
    rw [hd] at hd'; cases hd') ho, hd⟩
  refine ⟨I.ok, I.os, I.bare, ⟨fun b o e n h1 h2 => k b o (s0 e) (I.base.keep b o e n h1 h2), fun b o e n h1 h2 => ?_, I.base.free, fun b o e h1 => ?_, I.base.tups, I.base.frzs, I.base.tbls⟩, ?_, fun x c e => ?_, I.free, I.freeC, fun p q => ?_, fun b u q => ?_, I.len⟩
  · obtain ⟨sl, z⟩ := I.base.slot b o e n h1 h2
    exact ⟨sl, k b _ (s0 e) z⟩
  · obtain ⟨o', z⟩ := I.base.there b o e h1
    exact ⟨o', k b _ (s0 e) z⟩
  · obtain ⟨m, hns, hl⟩ := I.loc
    refine ⟨m, ns_keeps hns fun o ho => k _ o (fun hc => hL _ hc rfl) ho, fun i x v e1 e2 e3 => ?_⟩
    obtain ⟨u, r, q⟩ := hl i x v e1 e2 e3
    refine ⟨u, r, ?_⟩
    rcases q with q | ⟨q1, c, q2, q3⟩
    · exact .inl q
    · exact .inr ⟨q1, c, q2, cl q3⟩
  · obtain ⟨v, z⟩ := I.cell x c e
    exact ⟨v, cl z⟩
  · obtain ⟨z1, z2⟩ := I.pin p q
    exact ⟨k _ _ (hp p q) z1, z2⟩
  · exact (I.hok b u q).stay (fun c v hc r => k c v (fun hch => by
      have z := hn c hch
      rcases hc with hc | hc
      · rw [hc, q] at z; cases z
      · rw [hc] at z; cases z) r) (fun _ r => r) fun _ _ r => r
end
def wAgain (K : PySem.W.Frag) (c : Value) (ts : TS) (Wout : WX) : WX := fun cls d σ H =>
  ∃ b, PySem.W.exmOne K cls c = some b ∧ (b = true → ts { nx := fun σ' H' => Wout cls d σ' H', rt := fun _ _ => False, bk := fun _ _ => False, ct := fun _ _ => False } σ H) ∧ (b = false → Wout cls d σ H)
section
variable {X : Cx} {x : Str} {c : Value} {body : List Stmt} {b₀ : Stmt} {np pos pos' pr : Pos} {tb : WX → TS} {ts : TS} {Wout : WX}
theorem ps_try_again (hs : X.stack = X.env :: X.outer) (hf : X.env.frame = some X.env.locals) (hex : X.ex = []) (hc : Names X x c) (hpa : ∀ hd : Option Value, PassesOwnAt (model X.prog X.w) (X.A.mark hd) X.A X.env X.xe) (tk : Takes X Wout)
    (hb : ∀ (W : WX) (pn : List (Addr × Obj)) (xe : Value → Shared → Prop), Takes (X.tr pn xe) W → PassesOwn (model X.prog X.w) X.A X.env xe → PSs (X.tr pn xe) body (tb W))
    (hsu : ∀ (a : Addr) (pn : List (Addr × Obj)), PS (X.suite a pn) b₀ ts) :
    PS X (.Try body [.ExceptHandler (some (.Name x np)) none [b₀, .Raise none none pr] pos'] [] [] pos) (fun D σ H => tb (wAgain X.K c ts Wout) D σ H) := by
  refine ⟨fun pins s σ H D I h => ?_⟩
  have ok := I.ok
  have hfr : X.A.frames = some (X.env :: X.outer) := by rw [ok.frames, hs]
  refine wpAny_Try_except ?_
  refine wpAny_mono ((hb (wAgain X.K c ts Wout) (X.pn ++ pins) (fun e s₁ => wpAny (model X.prog X.w) X.A (noteFrame e X.env) (fun _ s₂ => wpAny (model X.prog X.w) X.A (setFlight e none) (fun _ s₃ =>
    wpAny (model X.prog X.w) X.A (handleBy e X.env [.ExceptHandler (some (.Name x np)) none [b₀, .Raise none none pr] pos']) (SP X pins D) X.xe s₃) X.xe s₂) X.xe s₁) (fun u s' xx => ?_) PassesOwn.looking).run [] s σ H D (I.toTry _) h) (fun f s1 hsp => ?_) (fun e s1 he => he)
  · obtain ⟨a, B, sI, pins', σ', H', cls, d, rfl, J', nb, up, sky, na, os, ag, b, hb1, hyes, hno⟩ := xx
    have J : Inv X pins σ' H' sI := J'.ofTry ok
    have sky' : Sky B (X.env :: X.outer) a (Zc cls d) X.env.locals s'.heap := by rw [← hs]; exact sky
    show wpAny (model X.prog X.w) X.A (noteFrame (.ref a) X.env) _ _ _
    refine Sky.land Zc.steady hfr hf sky' fun h3 fl3 up3 => ?_
    have J3 : Inv X pins σ' H' { s' with heap := h3 } := J.landed nb fl3.1 (up.trans up3) os ag
    obtain ⟨oe3, vs3, he3, hz3, hd3⟩ := fl3.there
    have notFr : ∀ {h : Heap} {a : Addr} {o : Obj} {vs : Array Value}, h.FunFrames B (X.env :: X.outer) → h.get? a = some o → o.data = .fields vs → a ∉ frs (X.env :: X.outer) := fun {h a o vs} ff e dd hm => by
      obtain ⟨_, o', e', hnf⟩ := ff.mem hm
      rw [e] at e'; cases e'
      exact hnf _ dd
    have nLF : ∀ {b : Addr}, b ∉ frs (X.env :: X.outer) → b ≠ X.env.locals ∧ b ∉ X.fs := fun {b} nfr => ⟨fun z => nfr (List.mem_filterMap.mpr ⟨X.env, List.mem_cons_self, by rw [hf, z]⟩), fun hm => by
      obtain ⟨e, he, q⟩ := List.mem_filterMap.mp hm
      exact nfr (List.mem_filterMap.mpr ⟨e, List.mem_cons_of_mem _ he, q⟩)⟩
    have nfr := notFr fl3.2.2.1 he3 hd3
    obtain ⟨nL, nF⟩ := nLF nfr
    have S3 := J3.suite he3 hd3 na nL nF
    refine wpAny_handleBy_cons (codeAny_handlers_test ?_) (by intro q; cases q)
    have LT : PySem.W.Looks (model X.prog X.w) h3 (typeOf (.ref a)) cls := fun A Q E s k q => wpAny_typeOf_ref (k _ _ he3) (by rw [hz3.1]; exact q)
    have LM := PySem.W.exm_one (M := model X.prog X.w) (J3.kIn) LT hb1
    have test : ∀ {Q : Value → Shared → Prop} {E : Value → Shared → Prop}, Q c { s' with heap := h3 } → wpAny (model X.prog X.w) (X.A.mark (some (.ref a))) (eval (.Name x np) X.env) Q E { s' with heap := h3 } := fun {Q E} q => by
      obtain ⟨hg, hdbg, hm | ⟨hm, hv, hnn⟩⟩ := hc
      · exact ld_glob (X := X.suite a ((a, oe3) :: (X.pn ++ pins))) S3 hg hm q hdbg
      · exact ld_blt (X := X.suite a ((a, oe3) :: (X.pn ++ pins))) S3 hg hm hv q hnn hdbg
    refine test (LM.here ?_)
    have old : ∀ {b : Addr}, B.get? b = none → b ∉ frs (X.env :: X.outer) → X.s_0.heap.get? b = none ∧ ∀ p ∈ X.pn ++ pins, p.1 ≠ b := fun {b} e nf => by
      have e1 : sI.heap.get? b = none := by
        cases q : sI.heap.get? b with
        | none => rfl
        | some o =>
          have := nb b o q (by rw [hs]; exact nf)
          rw [e] at this; cases this
      refine ⟨?_, fun p hp z => ?_⟩
      · cases q : X.s_0.heap.get? b with
        | none => rfl
        | some o =>
          obtain ⟨o', r⟩ := J.base.there b o q (by rw [hex]; simp)
          rw [e1] at r; cases r
      · have := (J.pin p hp).1
        rw [z, e1] at this; cases this
    cases b with
    | true =>
      refine codeAny_handlers_suite ?_
      refine HandSPX.lands_againZ fl3 fun h4 fl4 up4 => ?_
      have J4 : Inv X pins σ' H' { s' with heap := h4 } := J.landed nb fl4.1 ((up.trans up3).trans up4) os ag
      obtain ⟨k1, k2, k3, oe4, vs4, T, oT, ts4, he4, hz4, hd4, h14, hnT, hTe, hT, hdT, h34⟩ := id fl4
      have nfT := notFr k3 hT hdT
      obtain ⟨nLT, nFT⟩ := nLF nfT
      have nT : H' T = none := (J.inGround nb).gone hnT
      have S4 : Inv (X.suite a ((a, oe4) :: (X.pn ++ pins))) [(T, oT)] σ' H' { s' with heap := h4 } := (J4.suite he4 hd4 na nL nF).pins_of fun p hp => by
        rw [List.mem_singleton.mp hp]
        exact ⟨hT, nT, nLT, nFT, fun v z => by rw [show oT.data = .cell v from z] at hdT; cases hdT⟩
      refine wpAny_execs_cons (wpAny_mono ((hsu a ((a, oe4) :: (X.pn ++ pins))).run [(T, oT)] _ _ H' _ S4 (hyes rfl)) (fun f s6 hsp => ?_) (fun _ _ z => False.elim z))
      cases f with
      | brk =>
        obtain ⟨_, _, _, q6⟩ := hsp
        exact False.elim q6
      | cont =>
        obtain ⟨_, _, _, q6⟩ := hsp
        exact False.elim q6
      | ret u =>
        obtain ⟨_, _, _, _, _, q6⟩ := hsp
        exact False.elim q6
      | next =>
        obtain ⟨σ6, H6, S6, q6⟩ := hsp
        obtain ⟨pa, na6, _⟩ := S6.pin (a, oe4) (List.mem_append_left _ List.mem_cons_self)
        obtain ⟨pT, nT6, _⟩ := S6.pin (T, oT) (List.mem_append_right _ (List.mem_singleton.mpr rfl))
        have J6 : Inv X pins σ6 H6 s6 := S6.unsuite ok
        obtain ⟨hO, r1, r2⟩ := restrict s6.heap fun b => decide (b ∉ [a, T])
        have kO : ∀ b o, hO.get? b = some o → s6.heap.get? b = some o ∧ b ∉ [a, T] := fun b o e => by
          by_cases z : b ∈ [a, T]
          · rw [r2 b (decide_eq_false fun h => h z)] at e; cases e
          · rw [r1 b (decide_eq_true z)] at e; exact ⟨e, z⟩
        have kI : ∀ b o, b ∉ [a, T] → s6.heap.get? b = some o → hO.get? b = some o := fun b o z e => by rw [r1 b (decide_eq_true z)]; exact e
        obtain ⟨oa0, oa1⟩ := old k2 nfr
        obtain ⟨oT0, oT1⟩ := old hnT nfT
        have two : ∀ {R : Addr → Prop}, R a → R T → ∀ b ∈ [a, T], R b := fun ha hT b hb => by
          rcases List.mem_cons.mp hb with e | hb
          · rw [e]; exact ha
          · rw [List.mem_singleton.mp hb]; exact hT
        have IO : Inv X pins σ6 H6 { s6 with heap := hO } := inv_drop J6 kI (two na6 nT6) (two oa0 oT0) (two nL nLT) (two ⟨_, _, pa, hd4⟩ ⟨_, _, pT, hdT⟩) fun p hp hm => by
          rcases List.mem_cons.mp hm with e | hm
          · exact oa1 p hp e
          · exact oT1 p hp (List.mem_singleton.mp hm)
        obtain ⟨B6, hB6⟩ : ∃ B6, B6 = PySem.W.hideAll hO (frs X.stack) := ⟨_, rfl⟩
        have hB : ∀ b o, B6.get? b = some o → hO.get? b = some o := fun b o e => by rw [hB6] at e; exact PySem.W.of_hideAll _ e
        have gB : ∀ b o, hO.get? b = some o → b ∉ frs X.stack → B6.get? b = some o := fun b o e hb => by rw [hB6]; exact PySem.W.hideAll_get _ e hb
        have nB : ∀ b ∈ frs X.stack, B6.get? b = none := fun b hb => by rw [hB6]; exact PySem.W.hideAll_none _ hb
        clear hB6
        have bN : ∀ {b : Addr}, b ∈ [a, T] → B6.get? b = none := fun {b} hb => by
          cases q : B6.get? b with
          | none => rfl
          | some o => exact absurd hb (kO b o (hB b o q)).2
        have ff : s6.heap.FunFrames B6 X.stack := Heap.FunFrames.of_keeps (fun b o e _ => ⟨o, (kO b o e).1, rfl⟩) (funFrames_none IO.stack nB)
        have fl6 : HandSPX.FlyingZ B6 (X.env :: X.outer) a (Zc cls d) s6.heap :=
          ⟨fun b o e => (kO b o (hB b o e)).1, bN List.mem_cons_self, by rw [← hs]; exact ff, oe4, vs4, T, oT, ts4, pa, hz4, hd4, h14, bN (List.mem_cons_of_mem _ (List.mem_singleton.mpr rfl)), hTe, pT, hdT, h34⟩
        refine wpAny_execs_cons (wpAny_mono (Q := fun _ _ => False) (E := X.xe) ?_ (fun _ _ z => z.elim) (fun e s z => hpa _ e s z))
        refine wpAny_Raise_bare ?_
        unfold raiseBare raiseStmt
        dsimp only
        refine wpAny_bind (wpAny_handled ?_)
        show wpAny (model X.prog X.w) (X.A.mark (some (.ref a))) _ _ _ _
        rw [show (X.A.mark (some (.ref a))).handled = some (.ref a) from rfl]
        dsimp only
        refine wpAny_bind (wpAny_rule ?_)
        refine wpAny_bind (wpAny_field pa hd4 h14 ?_)
        rw [if_neg (show ¬ ((Value.ref T == Value.none) = true) from by simp)]
        rw [hf]
        have last : ∀ {α : Type}, wpAny (model X.prog X.w) (X.A.mark (some (.ref a))) (setFlight (.ref a) (some X.env.locals)) (fun _ s7 => wpAny (model X.prog X.w) (X.A.mark (some (.ref a))) (throw (.ref a) : Sem α) (fun _ _ => False) X.xe s7) X.xe s6 := fun {α} =>
          HandSPX.setFlight_upZ fl6 fun h7 hh7 up7 => wpAny_throw (tk _ _ ⟨a, _, { s6 with heap := hO }, pins, σ6, H6, cls, d, rfl, IO, gB, (Heap.UpToSlots.of_keeps fun b o e => (kO b o e).1).trans up7, .inr (.inr (by rw [hs]; exact hh7)), na6, rfl, S6.bare, q6⟩)
        first
          | exact wpAny_bind last
          | exact wpAny_bind (wpAny_pure (wpAny_bind last))
    | false =>
      show wpAny _ X.A (handleBy (.ref a) X.env []) _ _ _
      refine wpAny_handleBy_nil ?_
      obtain ⟨k1, k2, k3, oe, vs, T, oT, ts', he, hz, hd, h1, hr⟩ := id fl3
      unfold PySem.passOn
      refine wpAny_bind (wpAny_field he hd h1 ?_)
      rw [if_neg (show ¬ ((Value.ref T == Value.none) = true) from by simp)]
      have fin : wpAny (model X.prog X.w) X.A (setFlight (.ref a) X.env.frame) (fun _ s4 => wpAny (model X.prog X.w) X.A (throw (.ref a) : Sem Flow) (SP X pins D) X.xe s4) X.xe { s' with heap := h3 } := by
        rw [hf]
        refine HandSPX.setFlight_upZ fl3 fun h4 hh4 up4 => wpAny_throw (tk _ _ ?_)
        exact ⟨a, B, sI, pins, σ', H', cls, d, rfl, J, nb, (up.trans up3).trans up4, .inr (.inr (by rw [hs]; exact hh4)), na, os, ag, hno rfl⟩
      first
        | exact wpAny_bind (wpAny_pure (wpAny_bind fin))
        | exact wpAny_bind fin
  · cases f with
    | next =>
      obtain ⟨σ', H', J', q⟩ := hsp
      exact wpAny_execs_nil ⟨σ', H', J'.ofTry ok, q⟩
    | brk =>
      obtain ⟨σ', H', J', q⟩ := hsp
      exact ⟨σ', H', J'.ofTry ok, q⟩
    | cont =>
      obtain ⟨σ', H', J', q⟩ := hsp
      exact ⟨σ', H', J'.ofTry ok, q⟩
    | ret u =>
      obtain ⟨v, σ', H', J', r, q⟩ := hsp
      exact ⟨v, σ', H', J'.ofTry ok, r, q⟩
end
end RC
set_option linter.all false
namespace Q1
abbrev Sp2 := Int × Int
structure M (g : Int) (ts : List Int) (s : Sp2) : Prop where
  m1 : s.1 ∈ ts
  m2 : ∀ u ∈ ts, ¬ (s.1 - g < u ∧ u < s.1)
  m3 : s.2 - g ∈ ts
  m4 : ∀ u ∈ ts, ¬ (s.2 - g < u ∧ u < s.2)
  m5 : ∀ x, s.1 ≤ x → x < s.2 - g → ∃ u ∈ ts, x < u ∧ u < x + g
  m6 : s.1 + g ≤ s.2
theorem M.apart {g : Int} {ts : List Int} {a b : Sp2} (hg : 0 < g) (ha : M g ts a) (hb : M g ts b) (h : a.1 ≤ b.1) : a = b ∨ a.2 ≤ b.1 := by
  by_cases e : a.2 ≤ b.1
  · exact .inr e
  · left
    have e1 : a.1 = b.1 := by
      by_cases e2 : b.1 ≤ a.2 - g
      · by_cases e3 : a.1 < b.1
        · exfalso
          by_cases e4 : a.1 ≤ b.1 - g
          · obtain ⟨u, hu, h1, h2⟩ := ha.m5 (b.1 - g) e4 (by omega)
            exact hb.m2 u hu ⟨h1, by omega⟩
          · exact hb.m2 a.1 ha.m1 ⟨by omega, e3⟩
        · omega
      · exact absurd ⟨(by omega : a.2 - g < b.1), (by omega : b.1 < a.2)⟩ (ha.m4 b.1 hb.m1)
    have e2 : a.2 = b.2 := by
      have l1 := ha.m6
      have l2 := hb.m6
      rcases Int.lt_trichotomy a.2 b.2 with h1 | h1 | h1
      · obtain ⟨u, hu, h3, h4⟩ := hb.m5 (a.2 - g) (by omega) (by omega)
        exact absurd ⟨h3, by omega⟩ (ha.m4 u hu)
      · exact h1
      · obtain ⟨u, hu, h3, h4⟩ := ha.m5 (b.2 - g) (by omega) (by omega)
        exact absurd ⟨h3, by omega⟩ (hb.m4 u hu)
    exact Prod.ext e1 e2
theorem M.congr {g : Int} {ts us : List Int} (h : ∀ x, x ∈ ts ↔ x ∈ us) {s : Sp2} (m : M g ts s) : M g us s :=
  ⟨(h _).mp m.m1, fun u hu => m.m2 u ((h _).mpr hu), (h _).mp m.m3, fun u hu => m.m4 u ((h _).mpr hu), fun x h1 h2 => by
    obtain ⟨u, hu, h3⟩ := m.m5 x h1 h2
    exact ⟨u, (h _).mp hu, h3⟩, m.m6⟩
structure Spans (g : Int) (ts : List Int) (S : List Sp2) : Prop where
  mem : ∀ s, s ∈ S ↔ M g ts s
  cover : ∀ u ∈ ts, ∃ s ∈ S, s.1 ≤ u ∧ u + g ≤ s.2
  asc : S.Pairwise fun a b => a.2 ≤ b.1
theorem Spans.congr {g : Int} {ts us : List Int} (h : ∀ x, x ∈ ts ↔ x ∈ us) {S : List Sp2} (m : Spans g ts S) : Spans g us S :=
  ⟨fun s => ⟨fun z => ((m.mem s).mp z).congr h, fun z => (m.mem s).mpr (z.congr fun x => (h x).symm)⟩, fun u hu => m.cover u ((h u).mpr hu), m.asc⟩
theorem asc_eq {g : Int} (hg : 0 < g) : ∀ {A B : List Sp2}, (∀ s ∈ A, s.1 + g ≤ s.2) → A.Pairwise (fun a b => a.2 ≤ b.1) → B.Pairwise (fun a b => a.2 ≤ b.1) → (∀ s, s ∈ A ↔ s ∈ B) → A = B
  | [], [], _, _, _, _ => rfl
  | [], b :: B, _, _, _, h => absurd ((h b).mpr List.mem_cons_self) (by simp)
  | a :: A, [], _, _, _, h => absurd ((h a).mp List.mem_cons_self) (by simp)
  | a :: A, b :: B, w, pa, pb, h => by
    have wB : ∀ s ∈ b :: B, s.1 + g ≤ s.2 := fun s hs => w s ((h s).mpr hs)
    rw [List.pairwise_cons] at pa pb
    have wa := w a List.mem_cons_self
    have wb := wB b List.mem_cons_self
    have e : a = b := by
      rcases List.mem_cons.mp ((h a).mp List.mem_cons_self) with z | z
      · exact z
      rcases List.mem_cons.mp ((h b).mpr List.mem_cons_self) with y | y
      · exact y.symm
      have h1 := pb.1 a z
      have h2 := pa.1 b y
      omega
    subst e
    have na : ∀ {C : List Sp2}, (∀ x ∈ C, a.2 ≤ x.1) → a ∉ C := fun hc hm => by
      have := hc a hm
      omega
    rw [asc_eq hg (fun s hs => w s (List.mem_cons_of_mem _ hs)) pa.2 pb.2 fun s => ?_]
    constructor
    · intro hs
      rcases List.mem_cons.mp ((h s).mp (List.mem_cons_of_mem _ hs)) with z | z
      · exact absurd (z ▸ hs) (na pa.1)
      · exact z
    · intro hs
      rcases List.mem_cons.mp ((h s).mpr (List.mem_cons_of_mem _ hs)) with z | z
      · exact absurd (z ▸ hs) (na pb.1)
      · exact z
theorem Spans.uniq {g : Int} (hg : 0 < g) {ts : List Int} {A B : List Sp2} (a : Spans g ts A) (b : Spans g ts B) : A = B :=
  asc_eq hg (fun s hs => ((a.mem s).mp hs).m6) a.asc b.asc fun s => (a.mem s).trans (b.mem s).symm
def ov (g t : Int) (s : Sp2) : Bool := decide (s.1 < t + g) && decide (t < s.2)
def inner (g t : Int) (S : List Sp2) : List Sp2 := S.filter (ov g t)
def others (g t : Int) (S : List Sp2) : List Sp2 := S.filter fun s => decide (s ∉ inner g t S)
theorem ov_iff {g t : Int} {s : Sp2} : ov g t s = true ↔ s.1 < t + g ∧ t < s.2 := by
  unfold ov
  simp
theorem mem_inner {g t : Int} {S : List Sp2} {s : Sp2} : s ∈ inner g t S ↔ s ∈ S ∧ s.1 < t + g ∧ t < s.2 := by
  unfold inner
  rw [List.mem_filter, ov_iff]
theorem mem_others {g t : Int} {S : List Sp2} {s : Sp2} : s ∈ others g t S ↔ s ∈ S ∧ ¬ (s.1 < t + g ∧ t < s.2) := by
  unfold others
  rw [List.mem_filter, decide_eq_true_eq, mem_inner]
  constructor
  · rintro ⟨h1, h2⟩; exact ⟨h1, fun h => h2 ⟨h1, h⟩⟩
  · rintro ⟨h1, h2⟩; exact ⟨h1, fun h => h2 h.2⟩
structure Joint (g t : Int) (S : List Sp2) (b e : Int) : Prop where
  b1 : b = t ∨ ∃ s ∈ inner g t S, b = s.1
  b2 : b ≤ t
  b3 : ∀ s ∈ inner g t S, b ≤ s.1
  e1 : e = t + g ∨ ∃ s ∈ inner g t S, e = s.2
  e2 : t + g ≤ e
  e3 : ∀ s ∈ inner g t S, s.2 ≤ e
section
variable {g t b e : Int} {ts : List Int} {S : List Sp2}
theorem joint_M (hg : 0 < g) (H : Spans g ts S) (J : Joint g t S b e) : M g (t :: ts) (b, e) := by
  have cov := H.cover
  refine ⟨?_, fun u hu => ?_, ?_, fun u hu => ?_, fun x h1 h2 => ?_, ?_⟩
  · rcases J.b1 with h | ⟨s, hs, h⟩
    · show b ∈ t :: ts
      rw [h]; exact List.mem_cons_self
    · show b ∈ t :: ts
      rw [h]
      exact List.mem_cons_of_mem _ ((H.mem s).mp (mem_inner.mp hs).1).m1
  · show ¬ (b - g < u ∧ u < b)
    rintro ⟨h1, h2⟩
    have hb := J.b2
    rcases List.mem_cons.mp hu with rfl | hu
    · omega
    · rcases J.b1 with h | ⟨s, hs, h⟩
      · obtain ⟨s', hs', h3, h4⟩ := cov u hu
        have := J.b3 s' (mem_inner.mpr ⟨hs', by omega, by omega⟩)
        omega
      · exact ((H.mem s).mp (mem_inner.mp hs).1).m2 u hu ⟨by omega, by omega⟩
  · show e - g ∈ t :: ts
    rcases J.e1 with h | ⟨s, hs, h⟩
    · have : e - g = t := by omega
      rw [this]; exact List.mem_cons_self
    · rw [h]
      exact List.mem_cons_of_mem _ ((H.mem s).mp (mem_inner.mp hs).1).m3
  · show ¬ (e - g < u ∧ u < e)
    rintro ⟨h1, h2⟩
    have he := J.e2
    rcases List.mem_cons.mp hu with rfl | hu
    · omega
    · rcases J.e1 with h | ⟨s, hs, h⟩
      · obtain ⟨s', hs', h3, h4⟩ := cov u hu
        have := J.e3 s' (mem_inner.mpr ⟨hs', by omega, by omega⟩)
        omega
      · exact ((H.mem s).mp (mem_inner.mp hs).1).m4 u hu ⟨by omega, by omega⟩
  · have h1 : b ≤ x := h1
    have h2 : x < e - g := h2
    show ∃ u ∈ t :: ts, x < u ∧ u < x + g
    by_cases hx : x < t
    · -- ahead of t: in the inner span that begins at b
      by_cases hx2 : t < x + g
      · exact ⟨t, List.mem_cons_self, hx, hx2⟩
      · rcases J.b1 with h | ⟨s, hs, h⟩
        · omega
        · obtain ⟨hs1, hs2, hs3⟩ := mem_inner.mp hs
          have m := (H.mem s).mp hs1
          obtain ⟨u, hu, h3⟩ := m.m5 x (by omega) (by omega)
          exact ⟨u, List.mem_cons_of_mem _ hu, h3⟩
    · rcases J.e1 with h | ⟨s, hs, h⟩
      · omega
      · obtain ⟨hs1, hs2, hs3⟩ := mem_inner.mp hs
        have m := (H.mem s).mp hs1
        by_cases hx3 : s.1 ≤ x
        · obtain ⟨u, hu, h3⟩ := m.m5 x hx3 (by omega)
          exact ⟨u, List.mem_cons_of_mem _ hu, h3⟩
        · exact ⟨s.1, List.mem_cons_of_mem _ m.m1, by omega, by omega⟩
  · have := J.b2
    have := J.e2
    show b + g ≤ e
    omega
theorem others_M (hg : 0 < g) (H : Spans g ts S) {s : Sp2} (h : s ∈ others g t S) : M g (t :: ts) s := by
  obtain ⟨h1, h2⟩ := mem_others.mp h
  have m := (H.mem s).mp h1
  have l := m.m6
  refine ⟨List.mem_cons_of_mem _ m.m1, fun u hu => ?_, List.mem_cons_of_mem _ m.m3, fun u hu => ?_, fun x h3 h4 => ?_, m.m6⟩
  · rcases List.mem_cons.mp hu with rfl | hu
    · omega
    · exact m.m2 u hu
  · rcases List.mem_cons.mp hu with rfl | hu
    · omega
    · exact m.m4 u hu
  · obtain ⟨u, hu, h5⟩ := m.m5 x h3 h4
    exact ⟨u, List.mem_cons_of_mem _ hu, h5⟩
theorem joint_mem (hg : 0 < g) (H : Spans g ts S) (J : Joint g t S b e) (s : Sp2) : s ∈ others g t S ++ [(b, e)] ↔ M g (t :: ts) s := by
  have mb := joint_M hg H J
  have lb := J.b2
  have le := J.e2
  rw [List.mem_append, List.mem_singleton]
  constructor
  · rintro (h | rfl)
    · exact others_M hg H h
    · exact mb
  · intro m
    have ls := m.m6
    have ap : s = (b, e) ∨ s.2 ≤ b ∨ e ≤ s.1 := by
      rcases Int.le_total s.1 b with h | h
      · rcases m.apart hg mb h with z | z
        · exact .inl z
        · exact .inr (.inl z)
      · rcases mb.apart hg m h with z | z
        · exact .inl z.symm
        · exact .inr (.inr z)
    rcases ap with z | ap
    · exact .inr z
    · left
      have notT : ∀ u, u ∈ t :: ts → s.1 ≤ u → u < s.2 → u ∈ ts := fun u hu h1 h2 => by
        rcases List.mem_cons.mp hu with rfl | hu
        · exfalso; omega
        · exact hu
      refine mem_others.mpr ⟨(H.mem s).mpr ⟨notT _ m.m1 (by omega) (by omega), fun u hu => m.m2 u (List.mem_cons_of_mem _ hu), notT _ m.m3 (by omega) (by omega), fun u hu => m.m4 u (List.mem_cons_of_mem _ hu), fun x h1 h2 => ?_, m.m6⟩, by omega⟩
      obtain ⟨u, hu, h3, h4⟩ := m.m5 x h1 h2
      exact ⟨u, notT u hu (by omega) (by omega), h3, h4⟩
theorem joint_cover (H : Spans g ts S) (J : Joint g t S b e) : ∀ u ∈ t :: ts, ∃ s ∈ others g t S ++ [(b, e)], s.1 ≤ u ∧ u + g ≤ s.2 := by
  intro u hu
  have lb := J.b2
  have le := J.e2
  have hm : (b, e) ∈ others g t S ++ [(b, e)] := List.mem_append.mpr (.inr (List.mem_singleton.mpr rfl))
  rcases List.mem_cons.mp hu with rfl | hu
  · exact ⟨(b, e), hm, lb, le⟩
  · obtain ⟨s, hs, h1, h2⟩ := H.cover u hu
    by_cases h : s.1 < t + g ∧ t < s.2
    · have hi := mem_inner.mpr ⟨hs, h⟩
      have := J.b3 s hi
      have := J.e3 s hi
      exact ⟨(b, e), hm, by show b ≤ u; omega, by show u + g ≤ e; omega⟩
    · exact ⟨s, List.mem_append.mpr (.inl (mem_others.mpr ⟨hs, h⟩)), h1, h2⟩
theorem asc_nodup (hg : 0 < g) : ∀ {A : List Sp2}, (∀ s ∈ A, s.1 + g ≤ s.2) → A.Pairwise (fun a b => a.2 ≤ b.1) → A.Nodup
  | [], _, _ => List.nodup_nil
  | a :: A, w, p => by
    rw [List.pairwise_cons] at p
    refine List.nodup_cons.mpr ⟨fun h => ?_, asc_nodup hg (fun s hs => w s (List.mem_cons_of_mem _ hs)) p.2⟩
    have := p.1 a h
    have := w a List.mem_cons_self
    omega
theorem joint_nodup (hg : 0 < g) (H : Spans g ts S) (J : Joint g t S b e) : (others g t S ++ [(b, e)]).Nodup := by
  have nS := asc_nodup hg (fun s hs => ((H.mem s).mp hs).m6) H.asc
  have lb := J.b2
  have le := J.e2
  refine List.nodup_append.mpr ⟨nS.filter _, by simp, fun x hx y hy => ?_⟩
  rw [List.mem_singleton] at hy
  subst hy
  rintro rfl
  have := (mem_others.mp hx).2
  exact this ⟨by show b < t + g; omega, by show t < e; omega⟩
def lt2 (a b : Sp2) : Bool := decide (a.1 < b.1) || (decide (a.1 = b.1) && decide (a.2 < b.2))
theorem asc_of_sorted (hg : 0 < g) {A : List Sp2} (hm : ∀ s ∈ A, M g ts s) (nd : A.Nodup) (so : A.Pairwise fun a b => lt2 b a = false) : A.Pairwise fun a b => a.2 ≤ b.1 := by
  induction A with
  | nil => exact .nil
  | cons a A ih =>
    rw [List.pairwise_cons] at so
    rw [List.nodup_cons] at nd
    refine List.pairwise_cons.mpr ⟨fun x hx => ?_, ih (fun s hs => hm s (List.mem_cons_of_mem _ hs)) nd.2 so.2⟩
    have h1 := so.1 x hx
    unfold lt2 at h1
    rw [Bool.or_eq_false_iff, decide_eq_false_iff_not] at h1
    rcases (hm a List.mem_cons_self).apart hg (hm x (List.mem_cons_of_mem _ hx)) (by omega) with z | z
    · exact absurd (z ▸ hx) nd.1
    · exact z
theorem joined_spans (hg : 0 < g) (H : Spans g ts S) (J : Joint g t S b e) {A : List Sp2} (pm : A.Perm (others g t S ++ [(b, e)])) (so : A.Pairwise fun a b => lt2 b a = false) : Spans g (t :: ts) A := by
  have hm : ∀ s, s ∈ A ↔ M g (t :: ts) s := fun s => (pm.mem_iff).trans (joint_mem hg H J s)
  refine ⟨hm, fun u hu => ?_, asc_of_sorted hg (fun s hs => (hm s).mp hs) (pm.nodup_iff.mpr (joint_nodup hg H J)) so⟩
  obtain ⟨s, hs, h⟩ := joint_cover H J u hu
  exact ⟨s, pm.mem_iff.mpr hs, h⟩
theorem taken_eq (hg : 0 < g) (H : Spans g ts S) {A : List Sp2} (pm : A.Perm (inner g t S)) (so : A.Pairwise fun a b => lt2 b a = false) : A = inner g t S := by
  have hi : ∀ s ∈ inner g t S, M g ts s := fun s hs => (H.mem s).mp (mem_inner.mp hs).1
  have ai : (inner g t S).Pairwise fun a b => a.2 ≤ b.1 := H.asc.filter _
  have nd : (inner g t S).Nodup := (asc_nodup hg (fun s hs => ((H.mem s).mp hs).m6) H.asc).filter _
  have hA : ∀ s ∈ A, M g ts s := fun s hs => hi s (pm.mem_iff.mp hs)
  exact asc_eq hg (fun s hs => (hA s hs).m6) (asc_of_sorted hg hA (pm.nodup_iff.mpr nd) so) ai fun s => pm.mem_iff
theorem taken_law (hg : 0 < g) (H : Spans g ts S) (J : Joint g t S b e) {A : List Sp2} (pm : A.Perm (others g t S ++ [(b, e)])) : S.filter (fun s => decide (s ∉ A) || decide (s = (b, e))) = inner g t S := by
  unfold inner
  refine List.filter_congr fun s hs => ?_
  have lb := J.b2
  have le := J.e2
  have hA : s ∈ A ↔ s ∈ others g t S ∨ s = (b, e) := by rw [pm.mem_iff, List.mem_append, List.mem_singleton]
  rw [Bool.eq_iff_iff, ov_iff, Bool.or_eq_true, decide_eq_true_eq, decide_eq_true_eq, hA, mem_others]
  constructor
  · rintro (h | rfl)
    · by_cases z : s.1 < t + g ∧ t < s.2
      · exact z
      · exact absurd (.inl ⟨hs, z⟩) h
    · exact ⟨by show b < t + g; omega, by show t < e; omega⟩
  · intro h
    by_cases z : s = (b, e)
    · exact .inr z
    · left
      rintro (y | y)
      · exact y.2 h
      · exact z y
end
def lsStep (g : Int) (acc : List Sp2) (t : Int) : List Sp2 :=
  match acc.getLast? with
  | some l => if t < l.2 then acc.dropLast ++ [(l.1, t + g)] else acc ++ [(t, t + g)]
  | none => [(t, t + g)]
theorem spans_nil {g : Int} : Spans g [] [] := ⟨fun s => ⟨fun h => by simp at h, fun m => absurd m.m1 (by simp)⟩, fun u hu => absurd hu (by simp), .nil⟩
theorem ls_spans {g t : Int} (hg : 0 < g) {ts : List Int} {S : List Sp2} (H : Spans g ts S) (ht : ∀ u ∈ ts, u ≤ t) : Spans g (t :: ts) (lsStep g S t) := by
  have hs1 : ∀ s ∈ S, s.1 ≤ t := fun s hs => ht _ ((H.mem s).mp hs).m1
  have hs2 : ∀ s ∈ S, s.2 ≤ t + g := fun s hs => by have := ht _ ((H.mem s).mp hs).m3; omega
  rcases List.eq_nil_or_concat S with rfl | ⟨init, l, rfl⟩
  · have J : Joint g t [] t (t + g) := ⟨.inl rfl, Int.le_refl _, fun s hs => absurd hs (by simp [inner]), .inl rfl, Int.le_refl _, fun s hs => absurd hs (by simp [inner])⟩
    exact joined_spans hg H J (A := [(t, t + g)]) (List.Perm.refl _) (by simp)
  · rw [List.concat_eq_append] at H hs1 hs2 ⊢
    have asc := H.asc
    rw [List.pairwise_append] at asc
    have hl := hs1 l (by simp)
    have hl2 := hs2 l (by simp)
    have ml := (H.mem l).mp (by simp)
    have noi : ∀ s ∈ init, s.2 ≤ t := fun s hs => by have := asc.2.2 s hs l (by simp); omega
    have w : ∀ s ∈ init ++ [l], s.1 + g ≤ s.2 := fun s hs => ((H.mem s).mp hs).m6
    unfold lsStep
    rw [List.getLast?_concat]
    show Spans g (t :: ts) (if t < l.2 then _ else _)
    by_cases h : t < l.2
    · rw [if_pos h, List.dropLast_concat]
      have hin : ∀ s, s ∈ inner g t (init ++ [l]) ↔ s = l := fun s => by
        rw [mem_inner]
        constructor
        · rintro ⟨h1, h2, h3⟩
          rcases List.mem_append.mp h1 with z | z
          · have := noi s z; omega
          · exact List.mem_singleton.mp z
        · rintro rfl
          exact ⟨by simp, by omega, h⟩
      have J : Joint g t (init ++ [l]) l.1 (t + g) := ⟨.inr ⟨l, (hin l).mpr rfl, rfl⟩, hl, fun s hs => by rw [(hin s).mp hs]; exact Int.le_refl _, .inl rfl, Int.le_refl _, fun s hs => by rw [(hin s).mp hs]; exact hl2⟩
      have eo : others g t (init ++ [l]) = init := by
        unfold others
        rw [List.filter_append, List.filter_eq_self.mpr fun s hs => ?_]
        · rw [List.filter_cons_of_neg (by simpa using (hin l).mpr rfl)]
          simp
        · rw [decide_eq_true_eq, hin]
          rintro rfl
          have h1 := noi s hs
          omega
      refine joined_spans hg H J (by rw [eo]) ?_
      refine List.pairwise_append.mpr ⟨asc.1.imp_of_mem fun {a b} ha hb hab => ?_, by simp, fun a ha b hb => ?_⟩
      · have := w a (by simp [ha])
        unfold lt2
        simp
        omega
      · rw [List.mem_singleton] at hb
        subst hb
        have h1 := asc.2.2 a ha l (by simp)
        have := w a (by simp [ha])
        unfold lt2
        simp
        omega
    · rw [if_neg h]
      have hin : ∀ s, s ∉ inner g t (init ++ [l]) := fun s hs => by
        obtain ⟨h1, h2, h3⟩ := mem_inner.mp hs
        rcases List.mem_append.mp h1 with z | z
        · have := noi s z; omega
        · rw [List.mem_singleton.mp z] at h3
          exact h h3
      have J : Joint g t (init ++ [l]) t (t + g) := ⟨.inl rfl, Int.le_refl _, fun s hs => absurd hs (hin s), .inl rfl, Int.le_refl _, fun s hs => absurd hs (hin s)⟩
      have eo : others g t (init ++ [l]) = init ++ [l] := by
        unfold others
        exact List.filter_eq_self.mpr fun s _ => by rw [decide_eq_true_eq]; exact hin s
      refine joined_spans hg H J (by rw [eo]) ?_
      refine List.pairwise_append.mpr ⟨H.asc.imp_of_mem fun {a b} ha hb hab => ?_, by simp, fun a ha b hb => ?_⟩
      · have := w a ha
        unfold lt2
        simp
        omega
      · rw [List.mem_singleton] at hb
        subst hb
        have h1 := hs1 a ha
        have h2 := hs2 a ha
        have := w a ha
        have h3 : a.2 ≤ t := by
          rcases List.mem_append.mp ha with z | z
          · exact noi a z
          · rw [List.mem_singleton.mp z]; omega
        unfold lt2
        simp
        omega
def lawSp (g : Int) (ts : List Int) : List Sp2 := ts.foldl (lsStep g) []
theorem lawSp_spans {g : Int} (hg : 0 < g) {ts : List Int} (so : ts.Pairwise (· ≤ ·)) : Spans g ts (lawSp g ts) := by
  have go : ∀ (r p : List Int) (S : List Sp2), Spans g p S → (∀ u ∈ p, ∀ v ∈ r, u ≤ v) → r.Pairwise (· ≤ ·) → Spans g (p ++ r) (r.foldl (lsStep g) S) := by
    intro r
    induction r with
    | nil => intro p S h _ _; simpa using h
    | cons t r ih =>
      intro p S h hp hr
      rw [List.pairwise_cons] at hr
      have h1 := ls_spans hg h fun u hu => hp u hu t List.mem_cons_self
      have h2 := ih (p ++ [t]) (lsStep g S t) (h1.congr fun x => by simp [or_comm]) (fun u hu v hv => ?_) hr.2
      · simpa using h2
      · rcases List.mem_append.mp hu with z | z
        · exact hp u z v (List.mem_cons_of_mem _ hv)
        · rw [List.mem_singleton.mp z]; exact hr.1 v hv
  exact go ts [] [] spans_nil (by simp) so
end Q1
set_option Elab.async false
set_option linter.all false
set_option maxRecDepth 100000
set_option maxHeartbeats 4000000
namespace SrtU
open PySem PyProof.Rows Srt SrtO
section
variable {prog : Program} {w : World} {A : Around} {E : Value → Shared → Prop} {s : Shared}
theorem collect_tup {l : Addr} {vs : List Value} {Q : List Value → Shared → Prop} (hl : s.heap.IsTuple l vs.toArray)
    (h : Q vs { s with heap := (s.heap.push (seqObj "list" #[] 0)).update s.heap.objs.size (Obj.mapSeq (· ++ vs.toArray)) }) (hsz : vs.length ≤ sizeLine) :
    wpAny (model prog w) A (collect (.ref l)) Q E s := by
  obtain ⟨o, ho, hc, n, hd⟩ := id hl
  unfold collect
  refine wpAny_bind (wpAny_runValue (codeAny_builtin entry_proto_collect' ?_))
  show wpAny _ _ (do again (.builtin "list.__iadd__" ⟨[← newList [], .ref l], []⟩)) _ _ s
  refine wpAny_bind (wpAny_newList (wpAny_pure ⟨Code.quiet_builtin _ (by decide +kernel), codeAny_builtin entry_list_iadd' ?_⟩))
  show wpAny _ _ (Builtin.List.listExtendWith (.ref s.heap.objs.size) (.ref l) (.ref s.heap.objs.size)) _ _ { s with heap := s.heap.push (seqObj "list" #[] 0) }
  unfold Builtin.List.listExtendWith
  have ho' : (s.heap.push (seqObj "list" #[] 0)).get? l = some o := Heap.get?_push_of_some _ ho
  refine wpAny_bind (wpAny_typeOf (T := "tuple") ⟨o, ho', hc⟩ ?_)
  have ht : (Value.type "tuple" == Value.type "tuple") = true := by rfl
  rw [if_pos (by rw [ht]; simp)]
  refine wpAny_bind (listItems_at ho' hd ?_)
  refine wpAny_bind (listItems_at (xs := #[]) (n := 0) (Heap.get?_push_size _ rfl) rfl ?_)
  rw [if_neg (by simp)]
  refine wpAny_bind (listUpdate_at (xs := #[]) (n := 0) (Heap.get?_push_size _ rfl) rfl ?_ (Nat.zero_le _) (by show (#[] ++ vs.toArray).size ≤ sizeLine + 1; simp only [Array.size_append, List.size_toArray, List.length_nil]; omega))
  refine wpAny_pure ?_
  show wpAny (model prog w) A (do
      let o ← load s.heap.objs.size
      match o.data with
      | .seq xs _ => pure xs.toList
      | _ => unsupported "internal:collect") Q E { s with heap := (s.heap.push (seqObj "list" #[] 0)).update s.heap.objs.size (Obj.mapSeq (· ++ vs.toArray)) }
  refine wpAny_bind (wpAny_load (get?_update_seq (Heap.get?_push_size _ rfl) _) ?_)
  show wpAny _ _ (pure ((#[] : Array Value) ++ vs.toArray).toList) Q E _
  rw [show ((#[] : Array Value) ++ vs.toArray).toList = vs by simp]
  exact wpAny_pure h
theorem sorted_ordT {l : Addr} {vs : List Value} {ltv : Value → Value → Bool} {Q : Value → Shared → Prop} (O : Swo ltv) (hl : s.heap.IsTuple l vs.toArray) (hz : vs.length ≤ sizeLine)
    (hS : 2 ≤ vs.length → ∀ (h₁ : Heap) (a : Addr), h₁.get? a = some (seqObj "list" vs.toArray 0) → (∀ b o, s.heap.get? b = some o → b ≠ a ∧ h₁.get? b = some o) → SortableO prog w A.in1.in1 { s with heap := h₁ } a vs ltv)
    (h : ∀ out : List Value, Srtd ltv out → Stb ltv out vs → Q (.ref (s.heap.objs.size + 1)) { s with heap := sortedAll s.heap vs out.toArray }) :
    wpAny (model prog w) A (call (.builtin "sorted") [.ref l]) Q E s := by
  refine Calls.call_function_entry kind_sorted plain_sorted entry_sorted (args_sorted1 _) ?_
  unfold Builtin.«sorted»
  refine wpAny_bind (m := checkCount "sorted" 1 1 _) (wpAny_pure ?_)
  refine wpAny_bind (collect_tup hl ?_ hz)
  refine wpAny_bind (wpAny_newList ?_ hz)
  have hsz : ((s.heap.push (seqObj "list" #[] 0)).update s.heap.objs.size (Obj.mapSeq (· ++ vs.toArray))).objs.size = s.heap.objs.size + 1 := by
    rw [Heap.size_update, size_push']
  have hoL : (((s.heap.push (seqObj "list" #[] 0)).update s.heap.objs.size (Obj.mapSeq (· ++ vs.toArray))).push (seqObj "list" vs.toArray 0)).get? (s.heap.objs.size + 1) = some (seqObj "list" vs.toArray 0) := by
    rw [← hsz]; exact Heap.get?_push_size _ rfl
  have keep : ∀ b o, s.heap.get? b = some o → b ≠ s.heap.objs.size + 1 ∧ (((s.heap.push (seqObj "list" #[] 0)).update s.heap.objs.size (Obj.mapSeq (· ++ vs.toArray))).push (seqObj "list" vs.toArray 0)).get? b = some o := fun b o q => by
    have hlt : b < s.heap.objs.size := Heap.lt_size q
    refine ⟨Nat.ne_of_lt (Nat.lt_succ_of_lt hlt), Heap.get?_push_of_some _ ?_⟩
    rw [Heap.get?_update_ne _ _ _ _ (Nat.ne_of_lt hlt)]
    exact Heap.get?_push_of_some _ q
  show wpAny _ _ _ _ _ { s with heap := ((s.heap.push (seqObj "list" #[] 0)).update s.heap.objs.size (Obj.mapSeq (· ++ vs.toArray))).push (seqObj "list" vs.toArray 0) }
  rw [hsz]
  refine wpAny_bind (wpAny_holding (wpAny_call_entry slot_list_sort ⟨_, hoL, rfl⟩ entry_list_sort (list_sort_ord O hoL hz (fun h2 => hS h2 _ _ hoL keep) fun out hs hb => ⟨_, rfl, ?_⟩) (args_list_sort _)))
  exact wpAny_pure ⟨_, rfl, h out hs hb⟩
theorem sorted_pairsT {l : Addr} {vs : List Value} {k : Value → Int × Int} {Q : Value → Shared → Prop} (hl : s.heap.IsTuple l vs.toArray) (hz : vs.length ≤ sizeLine) (hp : ∀ v ∈ vs, IsPair s.heap v (k v).1 (k v).2)
    (h : ∀ (h' : Heap) (d : Addr) (out : List Value), Srtd (fun v u => lexB (k v) (k u)) out → Stb (fun v u => lexB (k v) (k u)) out vs → (∀ b o, s.heap.get? b = some o → h'.get? b = some o) → s.heap.objs.size ≤ d → (∃ n, h'.get? d = some (seqObj "list" out.toArray n)) → Q (.ref d) { s with heap := h' }) :
    wpAny (model prog w) A (call (.builtin "sorted") [.ref l]) Q E s := by
  refine sorted_ordT (swo_lex k) hl hz (fun h2 h₁ a ha kk => ?_) fun out hs hb => ?_
  · refine pairs_sortableO (s := { s with heap := h₁ }) (by omega) (fun v hm => (hp v hm).keeps fun b o e _ => (kk b o e).2) fun o e => ?_
    have e' : some o = some (seqObj "list" vs.toArray 0) := e.symm.trans ha
    cases e'
    intro c
    exact absurd (Value.type.inj c) (by decide)
  · exact h _ _ out hs hb (fun b o e => sortedAll_old e) (Nat.le_succ _) (sortedAll_at s.heap vs out.toArray)
end
end SrtU
namespace R8
open PySem PySem.Spec PyProof.Rows L2 KB KC KS Q1
def pD (p : Sp2) : PyData := .tuple [.int p.1, .int p.2]
def Ps (H : Hp) (us : List Addr) (S : List Sp2) : Prop := Paired (fun (t : Addr) (p : Sp2) => H t = some (.tup [.int p.1, .int p.2])) us S
theorem paired_mono {α β : Type} {R R' : α → β → Prop} (f : ∀ a b, R a b → R' a b) : ∀ {l : List α} {m : List β}, Paired R l m → Paired R' l m
  | _, _, .nil => .nil
  | _, _, .cons h t => .cons (f _ _ h) (paired_mono f t)
theorem paired_app {α β : Type} {R : α → β → Prop} : ∀ {l l' : List α} {m m' : List β}, Paired R l m → Paired R l' m' → Paired R (l ++ l') (m ++ m')
  | _, _, _, _, .nil, h => h
  | _, _, _, _, .cons h t, h' => .cons h (paired_app t h')
theorem Ps.ex {H H' : Hp} {us : List Addr} {S : List Sp2} (p : Ps H us S) (e : ∀ b xs, H b = some (.tup xs) → H' b = some (.tup xs)) : Ps H' us S := paired_mono (fun a b h => e a _ h) p
theorem Ps.dp {K : PySem.W.Frag} {H : Hp} : ∀ {us : List Addr} {S : List Sp2}, Ps H us S → DpAll K H (us.map V.ref) (S.map pD)
  | _, _, .nil => .nil
  | _, _, .cons h t => .cons (.tup (SqT.of h) (.cons (.int _) (.cons (.int _) .nil))) (Ps.dp t)
theorem Ps.at {H : Hp} : ∀ {us : List Addr} {S : List Sp2}, Ps H us S → ∀ {i : Nat} {t : Addr}, us[i]? = some t → ∃ p, S[i]? = some p ∧ H t = some (.tup [.int p.1, .int p.2])
  | _, _, .nil, i, t, h => by simp at h
  | _, _, .cons (a := a) (b := b) h r, i, t, e => by
    cases i with
    | zero => cases e; exact ⟨b, rfl, h⟩
    | succ i => exact Ps.at r (i := i) e
theorem Ps.at2 {H : Hp} : ∀ {us : List Addr} {S : List Sp2}, Ps H us S → ∀ {i : Nat} {p : Sp2}, S[i]? = some p → ∃ t, us[i]? = some t ∧ H t = some (.tup [.int p.1, .int p.2])
  | _, _, .nil, i, t, h => by simp at h
  | _, _, .cons (a := a) (b := b) h r, i, t, e => by
    cases i with
    | zero => cases e; exact ⟨a, rfl, h⟩
    | succ i => exact Ps.at2 r (i := i) e
def kH (H : Hp) : V → Int × Int
  | .ref t => match H t with
    | some (.tup [.int i, .int j]) => (i, j)
    | _ => (0, 0)
  | _ => (0, 0)
theorem kH_at {H : Hp} {t : Addr} {p : Sp2} (h : H t = some (.tup [.int p.1, .int p.2])) : kH H (.ref t) = p := by
  unfold kH
  simp only [h]
theorem Ps.kH {H : Hp} : ∀ {us : List Addr} {S : List Sp2}, Ps H us S → (us.map V.ref).map (kH H) = S
  | _, _, .nil => rfl
  | _, _, .cons h t => by rw [List.map_cons, List.map_cons, kH_at h, Ps.kH t]
theorem eqv_pD (a b : Sp2) : PyData.eqv (pD a) (pD b) = decide (a = b) := by
  obtain ⟨a1, a2⟩ := a
  obtain ⟨b1, b2⟩ := b
  unfold pD
  simp only [PyData.eqv, PyData.eqvAll, Bool.and_true, Prod.mk.injEq]
  rw [Bool.eq_iff_iff]
  simp
theorem any_pD (S : List Sp2) (p : Sp2) : ((S.map pD).any fun z => PyData.eqv z (pD p)) = decide (p ∈ S) := by
  rw [Bool.eq_iff_iff, List.any_eq_true, decide_eq_true_eq]
  constructor
  · rintro ⟨z, hz, h⟩
    obtain ⟨q, hq, rfl⟩ := List.mem_map.mp hz
    rw [eqv_pD, decide_eq_true_eq] at h
    exact h ▸ hq
  · intro h
    exact ⟨pD p, List.mem_map.mpr ⟨p, h, rfl⟩, by rw [eqv_pD]; exact decide_eq_true rfl⟩
theorem shaped_pD (p : Sp2) : SeqAt.shaped (pD p) = true := by
  unfold SeqAt.shaped pD
  simp [PyData.canLay0, PyData.canLayAll0, PyData.depth, PyData.depthAll]
theorem lay_pD : ∀ S : List Sp2, PyData.canLayAll0 (S.map pD) = true
  | [] => by simp [PyData.canLayAll0]
  | p :: S => by
    rw [List.map_cons]
    unfold PyData.canLayAll0
    rw [lay_pD S]
    simp [pD, PyData.canLay0, PyData.canLayAll0]
def rInP (neg : Bool) : R2 := fun x y H Q => ∃ (t a : Addr) (p : Sp2) (us : List Addr) (S : List Sp2), x = .ref t ∧ y = .ref a ∧ H t = some (.tup [.int p.1, .int p.2]) ∧ H a = some (.tup (us.map V.ref)) ∧ Ps H us S ∧ Q (.bl (if neg then !decide (p ∈ S) else decide (p ∈ S))) H
section
variable {X : Cx}
theorem op_inP (hu : X.A.units + 65 < cLine) : OpR X (compareOp .In) (rInP false) := by
  intro pins s σ H x y v u Q I rx ry h
  obtain ⟨t, a, p, us, S, rfl, rfl, ht, ha, hp, q⟩ := h
  obtain ⟨as, r1⟩ := Dp.reads I (pD p) (.ref t) v (.tup (SqT.of ht) (.cons (.int _) (.cons (.int _) .nil))) rx
  obtain ⟨bs, r2⟩ := Dp.reads I (.tuple (S.map pD)) (.ref a) u (.tup (SqT.of ha) hp.dp) ry
  refine SeqAt.in_tuple_reads r2 r1 (lay_pD S) (SeqAt.canLay_of_shaped (shaped_pD p)) (room_in_shaped (shaped_pD p) hu) ⟨.bl _, H, I, rfl, ?_⟩
  rw [any_pD]
  exact q
theorem op_notInP (hu : X.A.units + 65 < cLine) : OpR X (compareOp .NotIn) (rInP true) := by
  intro pins s σ H x y v u Q I rx ry h
  obtain ⟨t, a, p, us, S, rfl, rfl, ht, ha, hp, q⟩ := h
  obtain ⟨as, r1⟩ := Dp.reads I (pD p) (.ref t) v (.tup (SqT.of ht) (.cons (.int _) (.cons (.int _) .nil))) rx
  obtain ⟨bs, r2⟩ := Dp.reads I (.tuple (S.map pD)) (.ref a) u (.tup (SqT.of ha) hp.dp) ry
  refine SeqAt.notIn_tuple_reads r2 r1 (lay_pD S) (SeqAt.canLay_of_shaped (shaped_pD p)) (room_in_shaped (shaped_pD p) hu) ⟨.bl _, H, I, rfl, ?_⟩
  rw [any_pD]
  exact q
end
theorem refs_ex : ∀ {l : List V}, (∀ v ∈ l, ∃ t, v = V.ref t) → ∃ us : List Addr, l = us.map V.ref
  | [], _ => ⟨[], rfl⟩
  | v :: l, h => by
    obtain ⟨t, rfl⟩ := h v List.mem_cons_self
    obtain ⟨us, rfl⟩ := refs_ex fun v hv => h v (List.mem_cons_of_mem _ hv)
    exact ⟨t :: us, rfl⟩
theorem ps_of {H : Hp} : ∀ {us : List Addr}, (∀ t ∈ us, ∃ p : Sp2, H t = some (.tup [.int p.1, .int p.2])) → Ps H us ((us.map V.ref).map (kH H))
  | [], _ => .nil
  | t :: us, h => by
    obtain ⟨p, hp⟩ := h t List.mem_cons_self
    refine .cons ?_ (ps_of fun u hu => h u (List.mem_cons_of_mem _ hu))
    rw [kH_at hp]
    exact hp
theorem Ps.mem {H : Hp} : ∀ {us : List Addr} {S : List Sp2}, Ps H us S → ∀ t ∈ us, ∃ p : Sp2, H t = some (.tup [.int p.1, .int p.2])
  | _, _, .nil, t, h => by simp at h
  | _, _, .cons (b := b) h r, t, ht => by
    rcases List.mem_cons.mp ht with rfl | ht
    · exact ⟨b, h⟩
    · exact Ps.mem r t ht
theorem lexB_lt2 {a b : Sp2} (h : SrtO.lexB a b = false) : lt2 a b = false := by
  have := SrtO.lexB_no.mp h
  unfold lt2
  rw [Bool.or_eq_false_iff, Bool.and_eq_false_iff, decide_eq_false_iff_not, decide_eq_false_iff_not, decide_eq_false_iff_not]
  omega
theorem sort_out {H : Hp} {us : List Addr} {S : List Sp2} {ys : List V} (hp : Ps H us S) (so : SrtO.Srtd (ltP (kH H)) ys) (st : SrtO.Stb (ltP (kH H)) ys (us.map V.ref)) :
    ∃ (us' : List Addr) (S' : List Sp2), ys = us'.map V.ref ∧ Ps H us' S' ∧ S'.Perm S ∧ S'.Pairwise (fun a b => lt2 b a = false) := by
  have pm := st.perm
  obtain ⟨us', rfl⟩ := refs_ex (l := ys) fun v hv => by
    obtain ⟨t, _, e⟩ := List.mem_map.mp (pm.mem_iff.mp hv)
    exact ⟨t, e.symm⟩
  refine ⟨us', (us'.map V.ref).map (kH H), rfl, ps_of fun t ht => ?_, ?_, ?_⟩
  · have := pm.mem_iff.mp (List.mem_map.mpr ⟨t, ht, rfl⟩)
    obtain ⟨t', ht', e⟩ := List.mem_map.mp this
    cases e
    exact hp.mem t ht'
  · rw [← hp.kH]
    exact pm.map _
  · refine List.pairwise_map.mpr (so.imp fun {a b} h => lexB_lt2 h)
def rSortPL : List V → Hp → VK → Prop := fun vs H Q => ∃ (a : Addr) (us : List Addr) (S : List Sp2), vs = [.ref a] ∧ (H a = some (.lst (us.map V.ref)) ∨ H a = some (.tup (us.map V.ref))) ∧ Ps H us S ∧
  ∀ (q : Addr) (us' : List Addr) (S' : List Sp2), H q = none → Ps H us' S' → S'.Perm S → S'.Pairwise (fun a b => lt2 b a = false) → Q (.ref q) (upd H q (.lst (us'.map V.ref)))
section
variable {X : Cx}
theorem cr_sortPL : CallR X (.builtin "sorted") rSortPL := by
  intro pins s σ H vs us0 Q I r h
  obtain ⟨a, us, S, rfl, ha | ha, hp, q⟩ := h
  · refine cr_sortedPO pins s σ H _ us0 Q I r ⟨a, us.map V.ref, kH H, rfl, SqL.of ha, fun x hx => ?_, fun ys p so st hn => ?_⟩
    · obtain ⟨t, ht, rfl⟩ := List.mem_map.mp hx
      obtain ⟨p, h⟩ := hp.mem t ht
      exact ⟨t, rfl, by rw [kH_at h]; exact h⟩
    · obtain ⟨us', S', rfl, h1, h2, h3⟩ := sort_out hp so st
      exact q p us' S' hn h1 h2 h3
  · obtain ⟨its, rv, hl, hz⟩ := I.tuple (SqT.of ha)
    obtain ⟨u, rfl, ru⟩ := vals1 r
    obtain rfl : u = Value.ref a := ru
    obtain ⟨e1, e2⟩ := refs_back rv fun x m => by
      obtain ⟨t, _, e⟩ := List.mem_map.mp m
      exact ⟨t, e.symm⟩
    refine SrtU.sorted_pairsT (k := fun u => kH H (backV u)) hl (by rw [← rv.length]; exact hz) (fun v hv => ?_) fun h' d out h1 h2 kp hd hn => ?_
    · obtain ⟨t, rfl⟩ := e2 v hv
      have hm : V.ref t ∈ us.map V.ref := by rw [e1]; exact List.mem_map.mpr ⟨_, hv, rfl⟩
      obtain ⟨t', ht', e⟩ := List.mem_map.mp hm
      cases e
      obtain ⟨p, hpt⟩ := hp.mem t ht'
      obtain ⟨_, its2, r2, o, ho, hc, n, hd⟩ := I.hok _ _ hpt
      obtain ⟨u1, u2, rfl, ri, rj⟩ := vals2 r2
      obtain ⟨t1, rfl⟩ := ri
      obtain ⟨t2, rfl⟩ := rj
      have e : kH H (backV (.ref t)) = p := kH_at hpt
      rw [e]
      exact ⟨t, o, t1, t2, n, rfl, ho, hc, hd⟩
    · have h3 : ∀ u ∈ out, ∃ a, u = Value.ref a := fun u hu => e2 u (h2.perm.mem_iff.mp hu)
      obtain ⟨n, hn⟩ := hn
      have hb : SrtO.Stb (ltP (kH H)) (out.map backV) (us.map V.ref) := by
        rw [e1]
        exact SrtO.Stb.map (ltP_swo (kH H)) backV h2
      obtain ⟨us', S', e, k1, k2, k3⟩ := sort_out hp (SrtO.srtd_map h1) hb
      have hq := q d us' S' (I.hok.fresh hd) k1 k2 k3
      rw [← e] at hq
      refine ⟨.ref d, upd H d (.lst (out.map backV)), I.laid (t' := s.toks) kp hd ⟨?_, out, n, vals_back h3, hn⟩, rfl, hq⟩
      rw [hb.len]
      exact hz
end
def minDef : List Int → Int → Int
  | [], d => d
  | n :: ns, _ => W.minOf n ns
theorem minOf_spec : ∀ (ns : List Int) (n : Int), W.minOf n ns ∈ n :: ns ∧ ∀ y ∈ n :: ns, W.minOf n ns ≤ y
  | [], n => ⟨List.mem_cons_self, fun y hy => by rw [List.mem_singleton.mp hy]; exact Int.le_refl _⟩
  | m :: ns, n => by
    have e : W.minOf n (m :: ns) = W.minOf (if m < n then m else n) ns := by
      unfold W.minOf
      rw [List.foldl_cons]
      have : (W.DatumOrd.lt m n = true) = (m < n) := by
        show (decide (m < n) = true) = _
        simp
      simp only [this]
    obtain ⟨h1, h2⟩ := minOf_spec ns (if m < n then m else n)
    rw [e]
    refine ⟨?_, fun y hy => ?_⟩
    · rcases List.mem_cons.mp h1 with h | h
      · rw [h]
        split
        · simp
        · simp
      · simp [h]
    · have h0 := h2 _ List.mem_cons_self
      rcases List.mem_cons.mp hy with e | hy
      · generalize W.minOf (if m < n then m else n) ns = z at h0
        split at h0 <;> omega
      rcases List.mem_cons.mp hy with e | hy
      · generalize W.minOf (if m < n then m else n) ns = z at h0
        split at h0 <;> omega
      · exact h2 y (List.mem_cons_of_mem _ hy)
theorem minDef_eq {ns : List Int} {d m : Int} (h : m ∈ ns) (hm : ∀ y ∈ ns, m ≤ y) : minDef ns d = m := by
  cases ns with
  | nil => simp at h
  | cons n ns =>
    obtain ⟨h1, h2⟩ := minOf_spec ns n
    show W.minOf n ns = m
    exact Int.le_antisymm (h2 m h) (hm _ h1)
def rMinDef (K : PySem.W.Frag) : List V → List V → Hp → VK → Prop := fun vs zs H Q => ∃ (a : Addr) (ns : List Int) (d : Int), vs = [.ref a] ∧ zs = [.int d] ∧ SqL K H a (ns.map V.int) ∧ Q (.int (minDef ns d)) H
theorem dp_ints {K : PySem.W.Frag} {H : Hp} : ∀ ns : List Int, DpAll K H (ns.map V.int) (ns.map PyData.int)
  | [] => .nil
  | n :: ns => .cons (.int _) (dp_ints ns)
theorem cr_minDef {X : Cx} (hc : X.calm = true) (hu : X.A.units + 66 < cLine) : CallRK X (.builtin "min") [Str.ofString "default"] (rMinDef X.K) := by
  intro pins s σ H xs zs us ws Q I r rz h
  obtain ⟨a, ns, d, rfl, rfl, ha, q⟩ := h
  obtain rfl := Vals.ref1 r
  obtain ⟨u, rfl, t, rfl⟩ := vals1 rz
  obtain ⟨its, rv, hl, hz⟩ := I.list ha
  obtain ⟨as, ra⟩ := Dp.readsAll I (ns.map PyData.int) _ its (dp_ints ns) rv
  show wpAny _ _ (call (.builtin "min") [.ref a] [(Str.ofString "default", .int d t)]) _ _ s
  refine W.min_list_datum_default (α := Int) (xs := ns) (I.ok.hd hc) hl.isList ⟨as, ra⟩ (by show X.A.units + 1 + 0 < cLine; omega) (fun e h' tk hk => ?_) fun y ys i v h' tk e hv hh hk => ?_
  · subst e
    exact ⟨.int d, H, I.kept (t' := tk) hk, ⟨t, rfl⟩, q⟩
  · subst e
    obtain ⟨bs, rb⟩ := hh
    have : ∃ t, v = Value.int (W.minOf y ys) t := by
      cases rb
      exact ⟨_, rfl⟩
    obtain ⟨t2, rfl⟩ := this
    exact ⟨.int _, H, I.kept (t' := tk) hk, ⟨t2, rfl⟩, q⟩
end R8
set_option Elab.async false
set_option linter.all false
set_option maxRecDepth 100000
set_option maxHeartbeats 4000000
namespace CP
open PySem PySem.Spec PyProof.Rows L2 KB KC KD LamX
def CloO (f : Addr) (q : Str) (params : Arguments) (body : Expr) (scope : Scope) (clo : List (Str × Addr)) (c' : Addr) : HO := .ext fun h => ∃ pm ctv, h.get? f = some (PySem.W.kla_obj "<lambda>" q params body scope clo pm c' ctv)
theorem cloO_ok {P : Program} {w : World} {H : Hp} {h : Heap} {f c' : Addr} {q : Str} {params : Arguments} {body : Expr} {scope : Scope} {clo : List (Str × Addr)} {pm ctv : Value} (e : h.get? f = some (PySem.W.kla_obj "<lambda>" q params body scope clo pm c' ctv)) :
    ObjOk P w H h f (CloO f q params body scope clo c') := ⟨⟨pm, ctv, e⟩, ⟨_, e⟩, fun h1 h2 ⟨a, b, z⟩ k => ⟨a, b, k _ z⟩⟩
def tClo (T : List (Addr × Str)) (q : Str) (params : Arguments) (body : Expr) (scope : Scope) (clo : List (Str × Addr)) : TE := fun _ H Q => Tabs T H ∧ ∀ f c' H1, ExtN H H1 → Tabs T H1 → H1 f = some (CloO f q params body scope clo c') → H1 c' = some (CodeO c' q) → H f = none → Q (.ref f) H1
section
variable {X : Cx}
theorem pe_cloV {T : List (Addr × Str)} {c P : Addr} {params : Arguments} {body : Expr} {scope : Scope} {pos : Pos} (TB : TabB X.base X.mg c P) (hcode : X.env.code = .ref c) (hm : (P, X.env.qual ++ "<lambda>") ∈ T) (hu : ∀ p ∈ T, p.1 = P → p.2 = X.env.qual ++ "<lambda>")
    (hdef : defaultsOf params X.env = ([], [])) (hfree : ∀ y ∈ scope.names, y.2 = .free → X.env.scope.names.lookup y.1 = some .cell ∨ X.env.scope.names.lookup y.1 = some .free) : PE X (.Lambda params body scope pos) (tClo T (X.env.qual ++ "<lambda>") params body scope (cloFrom X.env.cells scope.names [])) := by
  refine ⟨fun pins s σ H Q I h => ?_⟩
  obtain ⟨hT, h⟩ := h
  obtain ⟨ps, hP, ht, ha⟩ := hT _ hm
  refine PySem.W.kla_eval hdef ?_
  have bP : s.heap.BuiltinsAt X.mg P := TB.bm.keeps I.bk
  have hP' : s.heap.get? P = some { cls := .none, data := .fields ps } := I.hok P _ hP
  have hcl : closureFor scope X.env = pure (cloFrom X.env.cells scope.names []) := closure_ok fun y hy e => (hfree y hy e).elim (fun z => I.ok.has _ (.inl z)) fun z => I.ok.has _ (.inr z)
  have end_ : ∀ (c' : Addr) (ctv : Value) (H1 : Hp) (h' : Heap) (tk : Nat), Inv X pins σ H1 { s with heap := h', toks := tk } → s.heap.objs.size ≤ h'.objs.size → ExtN H H1 → Tabs T H1 → H1 h'.objs.size = none → H1 c' = some (CodeO c' (X.env.qual ++ "<lambda>")) →
      EP X pins σ Q (.ref h'.objs.size) { s with heap := h'.push (PySem.W.kla_obj "<lambda>" (X.env.qual ++ "<lambda>") params body scope (cloFrom X.env.cells scope.names []) ((X.mg "__name__").getD .none) c' ctv), toks := tk } := by
    intro c' ctv H1 h' tk I1 hz e1 t1 n1 co
    have J : Inv X pins σ (upd H1 h'.objs.size (CloO h'.objs.size (X.env.qual ++ "<lambda>") params body scope (cloFrom X.env.cells scope.names []) c')) { s with heap := h'.push (PySem.W.kla_obj "<lambda>" (X.env.qual ++ "<lambda>") params body scope (cloFrom X.env.cells scope.names []) ((X.mg "__name__").getD .none) c' ctv), toks := tk } :=
      I1.laid (t' := tk) (fun b u e => Heap.get?_push_of_some _ e) (Nat.le_refl _) (cloO_ok (Heap.get?_push_size _ rfl))
    exact ⟨.ref h'.objs.size, _, J, rfl, h h'.objs.size c' _ (e1.trans (extN_upd n1)) (tabs_upd t1 n1) upd_same (by rw [upd_ne (ne_of_none co n1)]; exact co) (I.hok.fresh hz)⟩
  cases hc : codeAmong pos ps.toList with
  | none =>
    refine PySem.W.kla_makeFunction (mg := X.mg) (c := c) (P := P) (ps := ps) hcl I.ok.glob (I.mod.glob.keeps I.bk) hcode (TB.code.keeps I.bk) hP' ht hc TB.gP bP fun c' ctv h' tk hx hge hlt hrec htb => ?_
    obtain ⟨c2, oc, vs, t, e2, hoc, hd, hv⟩ := hrec
    cases e2
    have nC : H c' = none := I.hok.fresh hge
    have nPc : P ≠ c' := ne_of_none hP nC
    have I1 := inv_table (t' := tk) (more := #[rawInt pos.line, rawInt pos.col, .ref c']) (h' := h') I hP hx htb hge ⟨oc, vs, t, hoc, hd, hv⟩
    have hE : ExtN H (upd (upd H P (.tbl (ps ++ #[rawInt pos.line, rawInt pos.col, .ref c']))) c' (CodeO c' (X.env.qual ++ "<lambda>"))) := fun b o e n => by
      rw [upd_ne (ne_of_none e nC), upd_ne (fun z => n ps (Option.some.inj (e.symm.trans (by rw [z]; exact hP))))]
      exact e
    have eL : (ps ++ #[rawInt pos.line, rawInt pos.col, .ref c']).toList = ps.toList ++ [rawInt pos.line, rawInt pos.col, .ref c'] := by simp
    refine end_ c' ctv _ h' tk I1 (Nat.le_trans hge (Nat.le_of_lt hlt)) hE (fun p hp => ?_) ?_ upd_same
    · by_cases hb : p.1 = P
      · rw [hu p hp hb, hb]
        refine ⟨_, by rw [upd_ne nPc, upd_same], by rw [eL]; exact PySem.TriplesOk_snoc _ _ _ _ ht, fun p' cv hcv => ?_⟩
        rw [eL] at hcv
        rcases among_app _ ht hcv with z | z
        · obtain ⟨c0, e1, e2⟩ := ha p' cv z
          exact ⟨c0, e1, hE _ _ e2 codeO_ne⟩
        · exact ⟨c', z, upd_same⟩
      · obtain ⟨ps', a1, a2, a3⟩ := hT p hp
        refine ⟨ps', by rw [upd_ne (ne_of_none a1 nC), upd_ne hb]; exact a1, a2, fun p' cv hcv => ?_⟩
        obtain ⟨c0, e1, e2⟩ := a3 p' cv hcv
        exact ⟨c0, e1, hE _ _ e2 codeO_ne⟩
    · have n1 : h'.objs.size ≠ c' := Nat.ne_of_gt hlt
      have n2 : h'.objs.size ≠ P := Nat.ne_of_gt (Nat.lt_of_lt_of_le (Heap.lt_size hP') (Nat.le_trans hge (Nat.le_of_lt hlt)))
      rw [upd_ne n1, upd_ne n2]
      exact I.hok.fresh (Nat.le_trans hge (Nat.le_of_lt hlt))
  | some cv =>
    obtain ⟨c', e, hco⟩ := ha pos cv hc
    subst e
    refine PySem.W.kla_makeFunctionHit (mg := X.mg) (c := c) (P := P) (ps := ps) hcl I.ok.glob (I.mod.glob.keeps I.bk) hcode (TB.code.keeps I.bk) hP' ht hc bP fun ctv h' tk hx hsz => ?_
    exact end_ c' ctv H h' tk (I.kept (t' := tk) hx) hsz (ExtN.refl H) hT (I.hok.fresh hsz) hco
end
structure LamP (sc scope : Scope) (pn y : Str) : Prop where
  kind : scope.kind = .function
  co : scope.isCoroutine = false
  gen : scope.isGenerator = false
  own : ∀ z ∈ scope.names, z.2 ≠ .cell
  par : scope.names.lookup pn = some .local
  fy : scope.names.lookup y = some .free
  ne : pn ≠ y
  free : ∀ z ∈ scope.names, z.2 = .free → sc.names.lookup z.1 = some .cell ∨ sc.names.lookup z.1 = some .free
def cxP (X : Cx) (A : Around) (s : Shared) (H : Hp) (E : XK) (scope : Scope) (f c' : Addr) (pn y : Str) : Cx := { lamCx X A X.stack s H E scope f c' with N := [pn, y] }
section
variable {X : Cx} {pins : List (Addr × Obj)} {σ : L2.St} {H : Hp} {s : Shared}
theorem clo_start {A : Around} {E : XK} {scope : Scope} {f c' : Addr} {h₁ : Heap} {tk j : Nat} {pn y : Str} {u : Value} {v vy : V} (I : Inv X pins σ H s) (L : LamP X.env.scope scope pn y) (e0 : Env0 X.prog X.w X.K X.mg X.base A X.stack s H) (hd : A.handled = none)
    (hns : h₁.Ns s.heap.objs.size fun z => ([(pn, u)] : List (Str × Value)).reverse.lookup z) (kp : ∀ b o, s.heap.get? b = some o → h₁.get? b = some o) (rv : RelV v u) (hy : X.N[j]? = some y) (hσ : σ[j]? = some (some vy)) :
    Inv (cxP X A s H E scope f c' pn y) [] [some v, some vy] H { s with heap := h₁, toks := tk } := by
  have down : ∀ {z c}, (cloFrom X.env.cells scope.names []).lookup z = some c → X.env.cells.lookup z = some c := fun {z c} e => by
    rcases cloFrom_mem (PySem.mem_of_lookup e) with hm | ⟨h1, h2⟩
    · cases hm
    · have hz : ∃ c1, X.env.cells.lookup z = some c1 := (L.free _ h1 rfl).elim (fun k => I.ok.has _ (.inl k)) fun k => I.ok.has _ (.inr k)
      obtain ⟨c1, hc⟩ := hz
      have e2 : c = c1 := by
        rw [h2, hc] <;> rfl
      rw [e2]
      exact hc
  have upw : ∀ {z}, scope.names.lookup z = some .free → ∃ c, (cloFrom X.env.cells scope.names []).lookup z = some c := fun {z} hl => by
    have hz : (z, NameKind.free) ∈ scope.names := PySem.mem_of_lookup hl
    exact mem_lookup (cloFrom_has (cells := X.env.cells) (acc := []) hz)
  have cellK : ∀ {c : Addr} {w' : Option Value}, s.heap.IsCell c w' → h₁.IsCell c w' := fun {c w'} ⟨o, ho, hd⟩ => ⟨o, kp _ _ ho, hd⟩
  have noA : ∀ b : Addr, b ∉ (cxP X A s H E scope f c' pn y).ex := fun b z => absurd (show b ∈ ([] : List Addr) from z) (by simp)
  have ok : (cxP X A s H E scope f c' pn y).Ok := ⟨e0.mod, L.kind, rfl, rfl, Nat.le_refl _, fun a b c e1 e2 => I.ok.inj a b c (down e1) (down e2), fun a ha => by
      have ha : scope.names.lookup a = some .cell ∨ scope.names.lookup a = some .free := ha
      rcases ha with ha | ha
      · exact absurd rfl (L.own _ (PySem.mem_of_lookup ha))
      · exact upw ha, fun a c z _ => (by
      have z : false = true := z
      cases z), fun _ => hd, Around.frames_deeper e0.frames, .inr ⟨rfl, rfl⟩, fun b z => absurd z (noA b), e0.bs, e0.bsz, fun b _ _ => noA b, fun b z => absurd z (noA b), e0.funs, e0.frf⟩
  refine ⟨ok, rfl, e0.bare, Un.kept kp, ⟨_, hns, fun i z v' e1 e2 e3 => ?_⟩, fun z c e => ?_, e0.hok.fresh (Nat.le_refl _), fun z c e => ?_, fun q hq => absurd (show q ∈ ([] : List (Addr × Obj)) ++ [] from hq) (by simp), e0.hok.kept kp, rfl⟩
  · match i, e1, e2 with
    | 0, e1, e2 =>
      cases e1
      cases e2
      exact ⟨u, rv, .inl ⟨L.par, by simp [List.lookup]⟩⟩
    | 1, e1, e2 =>
      cases e1
      cases e2
      obtain ⟨m, hn, hl⟩ := I.loc
      have hk := L.free _ (PySem.mem_of_lookup L.fy) rfl
      obtain ⟨w', r, q⟩ := hl j y vy hy hσ (hk.elim (fun k => .inr (.inl k)) fun k => .inr (.inr k))
      obtain ⟨c2, h2⟩ := upw L.fy
      refine ⟨w', r, .inr ⟨.inr L.fy, c2, h2, ?_⟩⟩
      have c1 := down h2
      rcases q with ⟨k', _⟩ | ⟨_, c3, e', z⟩
      · have k' : X.env.scope.names.lookup y = some .local := k'
        rcases hk with k2 | k2 <;> rw [show X.env.scope.names.lookup y = _ from k2] at k' <;> cases k'
      · rw [c1] at e'
        cases e'
        exact cellK z
    | i + 2, e1, e2 => cases e1
  · obtain ⟨w', z⟩ := I.cell z c (down e)
    exact ⟨w', cellK z⟩
  · exact I.freeC z c (down e)
theorem clo_run {A : Around} {E : XK} {k j : Nat} {f c' : Addr} {params : Arguments} {body : Expr} {scope : Scope} {pn y : Str} {u : Value} {v vy : V} {Q : VK} (I : Inv X pins σ H s) (L : LamP X.env.scope scope pn y) (hr : Room (k + 1) A) (e0 : Env0 X.prog X.w X.K X.mg X.base A X.stack s H)
    (hf : H f = some (CloO f (X.env.qual ++ "<lambda>") params body scope (cloFrom X.env.cells scope.names []) c')) (hc : H c' = some (CodeO c' (X.env.qual ++ "<lambda>")))
    (hb : ∀ pm ctv, BindsTo s (PySem.W.kla_fn "<lambda>" (X.env.qual ++ "<lambda>") params body scope (cloFrom X.env.cells scope.names []) pm (.ref c') ctv) ⟨[u], []⟩ [(pn, u)]) (rv : RelV v u) (hy : X.N[j]? = some y) (hσ : σ[j]? = some (some vy))
    (hbody : Room k (A.deeper (lamEnv X scope s.heap.objs.size f c')) → ∃ t, PE (cxP X A s H E scope f c' pn y) body t ∧ t [some v, some vy] H Q) :
    codeAny (model X.prog X.w) A (.call (.ref f) ⟨[u], []⟩) (CR (L2.CX X.prog X.w) X.stack X.prog X.w H s Q E) s := by
  obtain ⟨⟨pm, ctv, of1⟩, _, _⟩ := e0.hok f _ hf
  obtain ⟨⟨oc, vsc, t, hoc, hdc, hvc⟩, _, _⟩ := e0.hok c' _ hc
  refine PySem.W.kla_callFunE hr.depth of1 rfl L.co L.gen rfl ⟨c', oc, vsc, t, rfl, hoc, hdc, hvc⟩ ?_
  refine hb pm ctv _ _ _ _ ?_
  refine wpAny_newFunctionEnv (fun z hz => L.own z hz) (fun z hz => ?_) (fun h₁ hns hsb => ⟨I.nolimit.fresh _ hsb, ?_⟩) L.kind
  · rw [List.mem_singleton.mp hz]
    exact L.par
  · show codeAny _ _ (.expr body (lamEnv X scope s.heap.objs.size f c')) _ _
    have kp : ∀ b o, s.heap.get? b = some o → h₁.get? b = some o := fun b o e => hsb.extBut b o (Nat.ne_of_lt (Heap.lt_size e)) (Heap.get?_push_of_some _ e)
    have J : Inv (cxP X A s H E scope f c' pn y) [] [some v, some vy] H { s with heap := h₁, toks := s.toks + ([(pn, u)] : List (Str × Value)).length } := clo_start I L e0 hr.hd hns kp rv hy hσ
    obtain ⟨t, ht, hq⟩ := hbody (hr.deeper _)
    refine PySem.W.kla_codeExpr (wpAny_mono (ht.run [] _ _ H Q J hq) (fun v s' hq => ?_) fun e s' hq => hq)
    obtain ⟨w', H', J', rv, q⟩ := hq
    exact ⟨w', H', J'.os, J'.bare, J'.base, J'.hok, rv, q⟩
end
end CP
set_option Elab.async false
set_option linter.all false
set_option maxRecDepth 100000
set_option maxHeartbeats 4000000
namespace CP
open PySem PySem.Spec PyProof.Rows PySem.Calls L2 KB KC KD KS LamX PySem.SeqAt PySem.W
def KeyI (X : Cx) (σ : L2.St) (f : Addr) (H : Hp) (bs : List Str) (kf : Str → Int) : Prop :=
  ∀ x ∈ bs, ∀ (H1 : Hp), Ex H H1 → ∀ (pins : List (Addr × Obj)) (s1 : Shared) (v : Value) (R : Value → Shared → Prop), RelV (.str x) v → Inv X pins σ H1 s1 →
    (∀ t H2 s2, Inv X pins σ H2 s2 → Ex H1 H2 → Un (frs X.stack) [] H1 H2 s1.heap s2.heap → R (.int (kf x) t) s2) → wpAny (model X.prog X.w) X.A.in1.in1 (call (.ref f) [v]) R (fun _ _ => False) s1
theorem KeyI.ex {X : Cx} {σ : L2.St} {f : Addr} {H H1 : Hp} {bs : List Str} {kf : Str → Int} (k : KeyI X σ f H bs kf) (e : Ex H H1) : KeyI X σ f H1 bs kf := fun x hx H2 e2 => k x hx H2 (e.trans e2)
section
variable {X : Cx} {pins : List (Addr × Obj)} {σ : L2.St}
theorem each_vals {α : Type} {g : α → V} : ∀ {vs : List Value} {bs : List α}, Vals (bs.map g) vs → EachIs (fun v b => RelV (g b) v) vs bs
  | [], [], _ => .nil
  | v :: vs, b :: bs, .cons h r => .cons h (each_vals r)
  | [], _ :: _, r => by cases r
  | _ :: _, [], r => by cases r
theorem vals_each {α : Type} {g : α → V} : ∀ {vs : List Value} {bs : List α}, EachIs (fun v b => RelV (g b) v) vs bs → Vals (bs.map g) vs
  | _, _, .nil => .nil
  | _, _, .cons h r => .cons h (vals_each r)
theorem ints_each {h : Heap} {kf : Str → Int} : ∀ {vs : List Value} {bs : List Str}, EachIs (fun v b => RelV (V.int (kf b)) v) vs bs → EachIs (fun v b => ∃ as, Reads h v (PyData.int (kf b)) as) vs bs
  | _, _, .nil => .nil
  | _, _, .cons a r => by
    obtain ⟨t, rfl⟩ := a
    exact .cons ⟨[], .int _ t⟩ (ints_each r)
theorem sort_bodyI {f D : Addr} {H : Hp} {s : Shared} {h2 : Heap} {tk : Nat} {bs : List Str} {vs : List Value} {kf : Str → Int} {P : PySem.Fin → Shared → Prop} {E : Value → Shared → Prop}
    (I : Inv X pins σ H s) (hk : ∀ b o, s.heap.get? b = some o → h2.get? b = some o) (hD : h2.get? D = some (seqObj "list" vs.toArray 0)) (hsD : s.heap.objs.size ≤ D)
    (rv : Vals (bs.map V.str) vs) (hz : bs.length ≤ sizeLine) (hu : X.A.units + 66 < cLine) (hcall : KeyI X σ f H bs kf)
    (q : ∀ (H' : Hp) (s' : Shared), Inv X pins σ H' s' → Ex H H' → H D = none → H' D = some (.lst ((bs.mergeSort fun a b => decide (kf a ≤ kf b)).map V.str)) → P (.done (.ret .none)) s') :
    wpAny (model X.prog X.w) X.A.in1.in1 (ksk_tree D (.ref f) false) P E { s with heap := h2, toks := tk } := by
  have lv : vs.length = bs.length := by
    have := rv.length
    rw [List.length_map] at this
    exact this.symm
  have szl : vs.toArray.size = bs.length := by rw [List.size_toArray, lv]
  have nD : H D = none := I.hok.fresh hsD
  unfold ksk_tree
  refine wpAny_bind (listItems_at hD rfl ?_)
  refine wpAny_bind (listUpdate_at hD rfl ?_ (by rw [szl]; exact hz) (Nat.zero_le _))
  obtain ⟨e1, ho1⟩ : ∃ e1, (h2.update D (Obj.mapSeq fun _ => (#[] : Array Value))).get? D = some (seqObj "list" #[] e1) := ⟨_, get?_update_seq hD fun _ => #[]⟩
  refine wpAny_bind (seqEpoch_at ho1 rfl ?_)
  refine wpAny_bind (wpAny_newTuple ?_ (by show vs.length ≤ _; omega))
  refine wpAny_bind (wpAny_newList ?_ (Nat.zero_le _))
  refine wpAny_holding ?_
  generalize hh4 : (h2.update D (Obj.mapSeq fun _ => (#[] : Array Value))).push (seqObj "tuple" vs.toArray 0) = h4
  have z4 : h4.objs.size = h2.objs.size + 1 := by rw [← hh4, size_push', Heap.size_update]
  have keep4 : ∀ b o, b ≠ D → h2.get? b = some o → h4.get? b = some o := fun b o hb e => by
    rw [← hh4]
    exact Heap.get?_push_of_some _ ((Heap.get?_update_ne _ _ _ _ hb).trans e)
  have hD4 : h4.get? D = some (seqObj "list" #[] e1) := by rw [← hh4]; exact Heap.get?_push_of_some _ ho1
  have I1 : Inv X pins σ (upd H h4.objs.size (.lst [])) { s with heap := h4.push (seqObj "list" #[] 0), toks := tk } :=
    I.laid (t' := tk) (fun b o e => Heap.get?_push_of_some _ (keep4 b o (fun z => by rw [z] at e; exact absurd (Heap.lt_size e) (Nat.not_lt.mpr hsD)) (hk b o e))) (by rw [z4]; exact Nat.le_succ_of_le (Nat.le_trans hsD (Nat.le_of_lt (Heap.lt_size hD))))
      ⟨Nat.zero_le _, [], 0, .nil, Heap.get?_push_size _ rfl⟩
  have hkn : H h4.objs.size = none := I.hok.fresh (by rw [z4]; exact Nat.le_succ_of_le (Nat.le_trans hsD (Nat.le_of_lt (Heap.lt_size hD))))
  have hDk : D ≠ h4.objs.size := by rw [z4]; exact Nat.ne_of_lt (Nat.lt_succ_of_lt (Heap.lt_size hD))
  have hD2 : (upd H h4.objs.size (.lst [])) D = none := by rw [upd_ne hDk]; exact nD
  have fD : ∀ H', H' D = none → FpOk X pins H' D := fun H' n => I.fpOk hsD n
  have I3 : Inv X (pins ++ [(D, seqObj "list" #[] e1)]) σ (upd H h4.objs.size (.lst [])) { s with heap := h4.push (seqObj "list" #[] 0), toks := tk } := I1.pins_of fun p hp => by
    rcases List.mem_append.mp hp with hp | hp
    · exact I1.pin p (List.mem_append_right _ hp)
    · rw [List.mem_singleton.mp hp]
      obtain ⟨_, f1, f2, _⟩ := fD _ hD2
      exact ⟨Heap.get?_push_of_some _ hD4, hD2, f1, f2, fun v z => by cases z⟩
  unfold ksk_rest
  refine wpAny_bind (wpAny_rule ?_)
  first
    | rw [List.forIn_toArray]
    | (rw [← Array.forIn_toList]; simp only [List.toList_toArray])
  refine wpAny_bind (ksk_fold (fun i s' => ∃ (Hi : Hp), Inv X (pins ++ [(D, seqObj "list" #[] e1)]) σ Hi s' ∧ Ex H Hi ∧ Hi h4.objs.size = some (.lst ((bs.take i).map fun x => V.int (kf x)))) vs 0 _ ⟨_, I3, Ex.upd hkn, upd_same⟩ ?step ?done)
  case step =>
    rintro j v s' hv ⟨Hi, Ii, ei, hki⟩
    simp only [Nat.zero_add] at hki ⊢
    have jl : j < vs.length := (List.getElem?_eq_some_iff.mp hv).1
    obtain ⟨x, hx⟩ : ∃ x, bs[j]? = some x := ⟨_, List.getElem?_eq_getElem (by omega)⟩
    obtain ⟨v', hv', rx⟩ := rv.get (i := j) (x := .str x) (by rw [List.getElem?_map, hx]; rfl)
    obtain rfl : v' = v := Option.some.inj (hv'.symm.trans hv)
    have hxm : x ∈ bs := List.mem_of_getElem? hx
    refine wpAny_bind (wpAny_attempt (wpAny_mono (hcall x hxm Hi ei _ s' v' (fun u s'' => ∃ t H3, u = .int (kf x) t ∧ Inv X (pins ++ [(D, seqObj "list" #[] e1)]) σ H3 s'' ∧ Ex Hi H3) rx Ii fun t H3 s2 J e3 _ => ⟨t, H3, rfl, J, e3⟩) (fun u s'' he => ?_) fun _ _ hF => hF.elim))
    obtain ⟨t, H3, rfl, J, e3⟩ := he
    have hk3 := e3 _ _ hki
    obtain ⟨hzy, its, n, ri, hraw⟩ := lst_raw J hk3
    have il : its.length = j := by
      have := ri.length
      rw [List.length_map, List.length_take] at this
      omega
    try dsimp only
    refine wpAny_bind (listUpdate_at hraw rfl ?_ (by rw [List.size_toArray]; omega) (by rw [Array.size_push, List.size_toArray]; omega))
    have tk1 : (bs.take (j + 1)).map (fun x => V.int (kf x)) = (bs.take j).map (fun x => V.int (kf x)) ++ [V.int (kf x)] := by
      rw [List.take_add_one, hx, List.map_append]
      rfl
    refine wpAny_pure ⟨rfl, _, lst_write (tk := s''.toks) (zs := (bs.take (j + 1)).map fun x => V.int (kf x)) (vs := its ++ [.int (kf x) t]) J hk3 hraw (by rw [List.length_map, List.length_take]; omega) (by rw [tk1]; exact ri.append (.cons ⟨t, rfl⟩ .nil)) (·.push (.int (kf x) t)) (by simp), fun b o e => ?_, upd_same⟩
    rw [upd_ne (ne_of_none e hkn)]
    exact e3 _ _ (ei _ _ e)
  case done =>
    rintro s' ⟨Hi, Ii, ei, hki⟩
    rw [Nat.zero_add, List.take_of_length_le (by omega)] at hki
    obtain ⟨_, its, n, ri, hraw⟩ := lst_raw Ii hki
    have il : its.length = bs.length := by
      have := ri.length
      rw [List.length_map] at this
      exact this.symm
    try dsimp only
    refine wpAny_bind (listItems_at hraw rfl ?_)
    have hal : AllAlike (bs.map fun x => PyData.int (kf x)) := AllAlike.of fun _ _ => rfl
    have hsk : Sortable (bs.map fun x => PyData.int (kf x)) := Sortable.others fun _ => ⟨fun z => (nomatch z), fun _ z => (nomatch z)⟩
    have ek : EachIs (fun v d => ∃ as, Reads s'.heap v d as) its (bs.map fun x => PyData.int (kf x)) := each_map (R := fun v d => ∃ as, Reads s'.heap v d as) (fun x => PyData.int (kf x)) (ints_each (each_vals (g := fun x => V.int (kf x)) ri))
    have S : SortsAt X.prog X.w X.A.in1.in1 s' (dataKind s'.heap (bs.map fun x => PyData.int (kf x))) its := SortsAt.data (s := s') ek hal hsk fun d hd => by
      obtain ⟨x, _, rfl⟩ := List.mem_map.mp hd
      show X.A.units + 1 + 1 + (PyData.int (kf x)).depth < cLine
      have : (PyData.int (kf x)).depth = 0 := rfl
      omega
    obtain ⟨kd, hlt, hkd⟩ := S.kind
    have hK : PyProof.Rows.KeysOf (dataKind s'.heap (bs.map fun x => PyData.int (kf x))) (its.toArray.zip vs.toArray) := keysOf_zip (by rw [List.toList_toArray]; exact S.keys)
    have hss : (its.toArray.zip vs.toArray).size = vs.length := by rw [Array.size_zip, List.size_toArray, List.size_toArray]; omega
    have out_of : ∀ st' : SortSt, (arrOf st').Perm (its.toArray.zip vs.toArray) → SortedToK (dataKind s'.heap (bs.map fun x => PyData.int (kf x))) (arrOf st') (its.toArray.zip vs.toArray).size → Stable (dataKind s'.heap (bs.map fun x => PyData.int (kf x))) (arrOf st') (its.toArray.zip vs.toArray) →
        ((arrOf st').map (·.2)).toList = sortVals (dataKind s'.heap (bs.map fun x => PyData.int (kf x))) false its vs := fun st' hp hs ht => by
      have e := sort_out (rev := false) (keys := its.toArray) (items := vs.toArray) (xs := arrOf st') hK (by simpa using hp) (by simpa using hs) (by simpa using ht)
      simpa using e
    have eout : EachIs (fun v x => RelV (.str x) v) (sortVals (dataKind s'.heap (bs.map fun x => PyData.int (kf x))) false its vs) (bs.mergeSort fun a b => decide (kf a ≤ kf b)) := by
      have h := keyedOut_each (rev := false) (fun x => PyData.int (kf x)) ⟨s'.heap, its, hal, rfl, ek⟩ (each_vals (g := V.str) rv)
      rw [dataLe_int] at h
      exact h
    have vout : Vals ((bs.mergeSort fun a b => decide (kf a ≤ kf b)).map V.str) (sortVals (dataKind s'.heap (bs.map fun x => PyData.int (kf x))) false its vs) := vals_each (g := V.str) eout
    have lout : (bs.mergeSort fun a b => decide (kf a ≤ kf b)).length = bs.length := List.length_mergeSort ..
    have tail : ∀ st' : SortSt, ((arrOf st').map (·.2)).toList = sortVals (dataKind s'.heap (bs.map fun x => PyData.int (kf x))) false its vs → failedOf st' = none →
        wpAny (model X.prog X.w) X.A.in1.in1 (ksk_tail D false e1 (.ref h4.objs.size) st') P E s' := by
      intro st' ho hf
      have osz : ((arrOf st').map (·.2)).size = bs.length := by
        rw [← Array.length_toList, ho, ← vout.length, List.length_map, lout]
      have J1 := lst_write (tk := s'.toks) (zs := []) (vs := []) Ii hki hraw (Nat.zero_le _) .nil (fun _ => (#[] : Array Value)) rfl
      obtain ⟨pD, nD5, _⟩ := J1.pin (D, seqObj "list" #[] e1) (List.mem_append_right _ (List.mem_append_right _ (List.mem_singleton.mpr rfl)))
      unfold ksk_tail
      try dsimp only
      refine wpAny_bind (listUpdate_at hraw rfl ?_ (by rw [List.size_toArray]; omega) (Nat.zero_le _))
      refine wpAny_bind (wpAny_letGo ?_)
      refine wpAny_bind (seqEpoch_at pD rfl ?_)
      refine wpAny_bind (listUpdate_at pD rfl ?_ (Nat.zero_le _) (by simp only [Bool.false_eq_true, if_false]; rw [osz]; omega))
      rw [hf]
      simp only [bne_self_eq_false, Bool.false_eq_true, if_false]
      refine wpAny_pure ?_
      have J2 := J1.pins_of (pins' := pins) fun p hp => J1.pin p (List.mem_append_right _ (List.mem_append_left _ hp))
      have eD := get?_update_seq pD fun _ => (arrOf st').map (·.2)
      have J3 := J2.take (t' := s'.toks) (o := .lst ((bs.mergeSort fun a b => decide (kf a ≤ kf b)).map V.str)) (h' := (s'.heap.update h4.objs.size (Obj.mapSeq fun _ => (#[] : Array Value))).update D (Obj.mapSeq fun _ => (arrOf st').map (·.2))) (fun b u hb e => (Heap.get?_update_ne _ _ _ _ hb).trans e) (fD _ nD5)
        ⟨by rw [List.length_map, lout]; exact hz, _, _, vout, by rw [← ho, Array.toArray_toList]; exact eD⟩
      refine q _ _ J3 (fun b o e => ?_) nD upd_same
      rw [upd_ne (ne_of_none e nD), upd_ne (ne_of_none e hkn)]
      exact ei b o e
    unfold ksk_end
    simp only [Bool.false_eq_true, if_false]
    by_cases h2s : vs.toArray.size < 2
    · rw [if_pos h2s, if_pos h2s]
      refine wpAny_bind (wpAny_pure ?_)
      rw [StateT.run_pure]
      refine wpAny_bind (wpAny_pure ?_)
      try dsimp only
      refine tail (SortSt.mk' general' (its.toArray.zip vs.toArray) #[] 7 none) (out_of _ (Array.Perm.refl _) (fun i j hij hj => ?_) (Stable.refl _)) rfl
      rw [hss] at hj
      rw [List.size_toArray] at h2s
      have : i = j := by omega
      subst this
      exact KeyOrd.kle_refl _
    · rw [if_neg h2s, if_neg h2s]
      rw [List.size_toArray] at h2s
      refine wpAny_bind (hkd (by omega) _ ?_)
      refine wpAny_bind (wpAny_mono (PyProof.Rows.H.wpS_sortRunsSt (kd := kd) (a₀ := its.toArray.zip vs.toArray) (st := SortSt.mk' kd (its.toArray.zip vs.toArray) #[] 7 none)
        (Q := fun _ st' => failedOf st' = none ∧ ((arrOf st').map (·.2)).toList = sortVals (dataKind s'.heap (bs.map fun x => PyData.int (kf x))) false its vs)
        hlt hK ⟨Array.Perm.refl _, rfl, rfl⟩ rfl (Stable.refl _) (by rw [hss]; omega) fun st' a1 a2 a3 a4 => ⟨a2, out_of st' a1 a3 a4⟩) ?_ fun _ _ e => e)
      rintro ⟨⟨⟩, st'⟩ s'' ⟨rfl, hf, ho⟩
      try dsimp only at ho ⊢
      exact tail st' ho hf
end
end CP
set_option Elab.async false
set_option linter.all false
set_option maxRecDepth 100000
set_option maxHeartbeats 4000000
namespace CP
open PySem PySem.Spec PyProof.Rows PySem.Calls L2 KB KC KD KS LamX PySem.SeqAt PySem.W
section
variable {prog : Program} {w : World} {A : Around} {E : Value → Shared → Prop} {s : Shared} {T : String} {r d : Addr} {n : Nat} {P : Nat → Value → Prop} {OK : Heap → Prop}
theorem collect_src {R : List Value → Shared → Prop} (K : KdlSrc prog w T r d n P OK) (hh : A.handled = none) (hok : OK s.heap) (hn : n ≤ sizeLine)
    (h : ∀ (h' : Heap) (tk : Nat) (acc : Array Value), (∀ b o, s.heap.get? b = some o → h'.get? b = some o) → s.heap.objs.size < h'.objs.size → ItemsOf P acc n → R acc.toList { s with heap := h', toks := tk }) :
    wpAny (model prog w) A (collect (.ref r)) R E s := by
  have hlt := K.there _ hok
  unfold collect
  refine wpAny_bind (wpAny_runValue (codeAny_builtin PyProof.Rows.entry_proto_collect' ?_))
  rw [Around.under_plainId PySem.F.plain_proto_collect _]
  show wpAny _ A.in1 (newList [] >>= fun l => again (.builtin "list.__iadd__" ⟨[l, .ref r], []⟩)) _ _ s
  refine wpAny_bind (wpAny_newObj_type ?_)
  refine wpAny_pure ⟨plainId_quiet PySem.F.plain_list_iadd _, codeAny_builtin PyProof.Rows.entry_list_iadd' ?_⟩
  rw [Around.under_plainId PySem.F.plain_list_iadd _]
  have hS₁ : (s.heap.push { cls := .type "list", data := .seq ([] : List Value).toArray }).get? s.heap.objs.size = some { cls := .type "list", data := .seq #[] } := Heap.get?_push_size _ rfl
  show wpAny _ A.in1 (Builtin.List.listExtendWith (.ref s.heap.objs.size) (.ref r) (.ref s.heap.objs.size)) _ _ _
  have key := kdl_extend (A := A) (s := { s with heap := s.heap.push { cls := .type "list", data := .seq ([] : List Value).toArray } })
    (R := fun (q : Result) (s' : Shared) => ∃ (h' : Heap) (tk : Nat) (acc' : Array Value) (c' : Nat), q = .ok (.ret (.ref s.heap.objs.size)) ∧ s' = { s with heap := h', toks := tk } ∧
      (∀ b o, s.heap.get? b = some o → h'.get? b = some o) ∧ h'.get? s.heap.objs.size = some { cls := .type "list", dict := none, data := .seq acc' c', slots := #[] } ∧ ItemsOf P acc' n)
    K hh (K.keep _ _ hok fun b _ o e => Heap.get?_push_of_some _ e) s.heap.objs.size (Nat.ne_of_gt hlt.1) (Nat.ne_of_gt hlt.2) (.ref s.heap.objs.size) 0 hS₁
    (fun h' tk acc' c' hk hS' hacc => ⟨h', tk, acc', c', rfl, rfl, fun b o e => hk b o (Nat.ne_of_lt (Heap.lt_size e)) (Heap.get?_push_of_some _ e), hS', hacc⟩) hn
  refine wpAny_mono key (fun fin s' x => ?_) fun e s' x => ?_
  · cases fin with
    | done f =>
      obtain ⟨h', tk, acc', c', e, rfl, hk, hS', hacc⟩ := x
      cases e
      show wpAny _ A (load s.heap.objs.size >>= _) _ _ _
      refine wpAny_bind (wpAny_load hS' ?_)
      refine wpAny_pure ?_
      exact h h' tk acc' hk (Heap.lt_size hS') hacc
    | again c₁ =>
      refine ⟨x.1, codeAny_mono x.2 fun q s₂ y => ?_⟩
      obtain ⟨h', tk, acc', c', rfl, rfl, hk, hS', hacc⟩ := y
      show wpAny _ A (load s.heap.objs.size >>= _) _ _ _
      refine wpAny_bind (wpAny_load hS' ?_)
      refine wpAny_pure ?_
      exact h h' tk acc' hk (Heap.lt_size hS') hacc
  · obtain ⟨_, _, _, _, e', _⟩ := x
    cases e'
end
theorem vals_keys {prog : Program} {w : World} {kvs : List (Key × V)} {vs : List (Key × Value)} (rk : kvs.map (·.1) = vs.map (·.1)) {acc : Array Value} (hacc : ItemsOf (fun i v => ∃ k x, vs[i]? = some (k, x) ∧ (mixKind prog w).is k v = true) acc vs.length) : Vals (kvs.map fun kv => kV kv.1) acc.toList := by
  have hl : kvs.length = vs.length := by
    have := congrArg List.length rk
    simpa using this
  have el : acc.toList.length = acc.size := by simp
  refine vals_of_at (by rw [List.length_map, el, hacc.1, hl]) fun j x u h1 h2 => ?_
  obtain ⟨k, y, hky, hi⟩ := hacc.2 j u (by rw [← Array.getElem?_toList]; exact h2)
  have e1 : (kvs.map (·.1))[j]? = some k := by
    rw [rk, List.getElem?_map, hky] <;> rfl
  have e2 : (kvs.map fun kv => kV kv.1)[j]? = some (kV k) := by
    have e3 : (kvs.map fun kv => kV kv.1) = (kvs.map (·.1)).map kV := by rw [List.map_map] <;> rfl
    rw [e3, List.getElem?_map, e1] <;> rfl
  rw [e2] at h1
  cases h1
  exact keyIs_rel hi
section
variable {X : Cx} {pins : List (Addr × Obj)} {σ : L2.St}
theorem collect_dK {A : Around} {s : Shared} {H : Hp} {p : Addr} {kvs : List (Key × V)} {R : List Value → Shared → Prop} {E : Value → Shared → Prop} (I : Inv X pins σ H s) (hh : A.handled = none) (hp : H p = some (.dK kvs))
    (h : ∀ (h' : Heap) (tk : Nat) (us : List Value), (∀ b o, s.heap.get? b = some o → h'.get? b = some o) → s.heap.objs.size < h'.objs.size → Vals (kvs.map fun kv => kV kv.1) us → kvs.length ≤ sizeLine → R us { s with heap := h', toks := tk }) :
    wpAny (model X.prog X.w) A (collect (.ref p)) R E s := by
  obtain ⟨z, lo, vs, rk, hd⟩ := (show ObjOk X.prog X.w H s.heap p (.dK kvs) from I.hok p _ hp)
  obtain ⟨ep, hat⟩ := hd.dictAt
  have hl : kvs.length = vs.length := Paired.length rk
  exact collect_src (kdl_dict (knd := mixKind X.prog X.w) (kvs := vs) (ep := ep) lo) hh hat (by rw [← hl]; exact z) fun h' tk acc hk hlt hacc => h h' tk acc.toList hk hlt (vals_keys (KV.keys rk) hacc) z
def rSortDS : List V → Hp → VK → Prop := fun xs H Q => ∃ (p : Addr) (kvs : List (Key × V)) (bs : List Str), xs = [.ref p] ∧ H p = some (.dK kvs) ∧ kvs.map (fun kv => kV kv.1) = bs.map V.str ∧ ∀ D, H D = none → Q (.ref D) (upd H D (.lst ((bs.mergeSort fun a b => decide (a.cps.toList ≤ b.cps.toList)).map V.str)))
def rSortDI : List V → Hp → VK → Prop := fun xs H Q => ∃ (p : Addr) (kvs : List (Key × V)) (bs : List Int), xs = [.ref p] ∧ H p = some (.dK kvs) ∧ kvs.map (fun kv => kV kv.1) = bs.map V.int ∧ ∀ D, H D = none → Q (.ref D) (upd H D (.lst ((bs.mergeSort fun a b => decide (a ≤ b)).map V.int)))
theorem sorted_flat {α : Type} {enc : α → PyData} {g : α → V} {bs : List α} {le : α → α → Bool} {s : Shared} {H : Hp} {p : Addr} {kvs : List (Key × V)} {Q : VK} (hc : X.calm = true) (hu : X.A.units + 66 < cLine) (I : Inv X pins σ H s) (hp : H p = some (.dK kvs)) (hb : kvs.map (fun kv => kV kv.1) = bs.map g)
    (hal : ∀ b b', alike (enc b) (enc b') = true) (hk : ∀ b, enc b ≠ .none ∧ ∀ xs, enc b ≠ .tuple xs) (hd : ∀ b, (enc b).depth ≤ 1) (hle : dataLe false enc = le) (rd : ∀ (h : Heap) (b : α) (v : Value), RelV (g b) v → Reads h v (enc b) [])
    (q : ∀ D, H D = none → Q (.ref D) (upd H D (.lst ((bs.mergeSort le).map g)))) : wpAny (model X.prog X.w) X.A (call (.builtin "sorted") [.ref p]) (EP X pins σ Q) X.xe s := by
  refine call_function_entry kind_sorted plain_sorted entry_sorted (args_sorted1 _) ?_
  unfold Builtin.«sorted»
  refine wpAny_bind (m := checkCount "sorted" 1 1 _) (wpAny_pure ?_)
  refine wpAny_bind (collect_dK (A := X.A.in1) I (I.ok.hd hc) hp fun h' tk us hkp hlt rv hz => ?_)
  rw [hb] at rv
  have lu : bs.length = us.length := by
    have := rv.length
    rw [List.length_map] at this
    exact this
  have lz : bs.length ≤ sizeLine := by
    have := congrArg List.length hb
    rw [List.length_map, List.length_map] at this
    omega
  refine wpAny_bind (wpAny_newList ?_ (by show us.length ≤ _; omega))
  have hoL : (h'.push (seqObj "list" us.toArray 0)).get? h'.objs.size = some (seqObj "list" us.toArray 0) := Heap.get?_push_size _ rfl
  have er : EachIs (fun v b => ∃ as, Reads (h'.push (seqObj "list" us.toArray 0)) v (enc b) as ∧ h'.objs.size ∉ as) us bs := by
    have := each_vals (g := g) rv
    clear hoL rv lu
    exact go this
  refine wpAny_bind (wpAny_holding ?_)
  refine list_sort_data (A := X.A.in1) (s := { s with heap := h'.push (seqObj "list" us.toArray 0), toks := tk }) (a := h'.objs.size) (n := 0) (enc := enc) (R := fun v b => RelV (g b) v) hoL (each_vals (g := g) rv) er (AllAlike.of hal) (Sortable.others hk) lz (fun b _ => by
    have := hd b
    show X.A.units + 1 + 1 + (enc b).depth < cLine
    omega) fun out hol eo => ?_
  rw [hle] at eo
  have vo := vals_each (g := g) eo
  refine wpAny_pure ⟨_, rfl, ?_⟩
  obtain ⟨e, he⟩ := sortedHeap_at (out := (List.toArray out)) (vs := us) hoL
  have J := I.laid (t' := tk) (a := h'.objs.size) (o := .lst ((bs.mergeSort le).map g)) (h' := sortedHeap (h'.push (seqObj "list" us.toArray 0)) h'.objs.size us (List.toArray out)) (fun b u e1 => by
      have e2 := hkp b u e1
      have l2 := Heap.lt_size e2
      rw [sortedHeap_old (Nat.ne_of_lt l2) (by rw [Heap.size_push]; exact Nat.lt_succ_of_lt l2)]
      exact Heap.get?_push_of_some _ e2) (Nat.le_of_lt hlt) ⟨by rw [List.length_map, List.length_mergeSort]; exact lz, out, e, vo, he⟩
  exact ⟨.ref h'.objs.size, _, J, rfl, q _ (I.hok.fresh (Nat.le_of_lt hlt))⟩
where
  go {h' : Heap} {us : List Value} : ∀ {vs : List Value} {cs : List α}, EachIs (fun v b => RelV (g b) v) vs cs → EachIs (fun v b => ∃ as, Reads (h'.push (seqObj "list" us.toArray 0)) v (enc b) as ∧ h'.objs.size ∉ as) vs cs
    | _, _, .nil => .nil
    | _, _, .cons a r => .cons ⟨[], rd _ _ _ a, by simp⟩ (go r)
theorem cr_sortDS (hc : X.calm = true) (hu : X.A.units + 66 < cLine) : CallR X (.builtin "sorted") rSortDS := by
  intro pins s σ H xs us Q I r h
  obtain ⟨p, kvs, bs, rfl, hp, hb, q⟩ := h
  rw [Vals.ref1 r]
  exact sorted_flat (enc := fun x : Str => PyData.str x) hc hu I hp hb (fun _ _ => rfl) (fun _ => ⟨fun z => (nomatch z), fun _ z => (nomatch z)⟩) (fun _ => by simp [PyData.depth]) (dataLe_str fun x => x) (fun h b v ⟨t, e⟩ => by rw [e]; exact .str b t) q
theorem cr_sortDI (hc : X.calm = true) (hu : X.A.units + 66 < cLine) : CallR X (.builtin "sorted") rSortDI := by
  intro pins s σ H xs us Q I r h
  obtain ⟨p, kvs, bs, rfl, hp, hb, q⟩ := h
  rw [Vals.ref1 r]
  exact sorted_flat (enc := fun x : Int => PyData.int x) hc hu I hp hb (fun _ _ => rfl) (fun _ => ⟨fun z => (nomatch z), fun _ z => (nomatch z)⟩) (fun _ => by simp [PyData.depth]) (dataLe_int fun x => x) (fun h b v ⟨t, e⟩ => by rw [e]; exact .int b t) q
end
end CP
set_option Elab.async false
set_option linter.all false
set_option maxRecDepth 100000
set_option maxHeartbeats 4000000
namespace CP
open PySem PySem.Spec PyProof.Rows PySem.Calls L2 KB KC KD KS LamX PySem.SeqAt PySem.W
def CallS (X : Cx) (f : Value) (ks : List Str) (r : L2.St → List V → List V → Hp → VK → Prop) : Prop :=
  ∀ (pins : List (Addr × Obj)) (s : Shared) (σ : L2.St) (H : Hp) (xs zs : List V) (us ws : List Value) (Q : VK), Inv X pins σ H s → Vals xs us → Vals zs ws → r σ xs zs H Q → wpAny (model X.prog X.w) X.A (call f us (ks.zip ws)) (EP X pins σ Q) X.xe s
section
variable {X : Cx}
theorem pe_callS {x : Str} {p pos : Pos} {e : Expr} {es : List Expr} {kws : List Keyword} {t tk : TA} {id : String} {ks : List Str} {r : L2.St → List V → List V → Hp → VK → Prop} (hc : CallS X (.builtin id) ks r) (hg : Gl X x) (hm : X.mg x = none) (hv : bootBuiltins x = some (.builtin id)) (ha : PA X (e :: es) t) (hk : PK X kws tk) (hn : x ≠ "__name__" := by decide) (hdb : (x == ("__debug__" : Str)) = false := by decide)
    (h1 : backTo pos (starEach (e :: es) X.env) = (false, eval e X.env) :: backTo pos (starEach es X.env) := by rfl) (h2 : (backTo pos (starEach (e :: es) X.env)).any (·.1) = false := by rfl)
    (h3 : (backToKw pos (keywordEach kws X.env)).all (·.1.isSome) = true := by rfl) (h4 : (backToKw pos (keywordEach kws X.env)).any (·.1.isNone) = false := by rfl) (h5 : (backToKw pos (keywordEach kws X.env)).filterMap (·.1) = ks := by rfl) :
    PE X (.Call (.Name x p) (e :: es) kws pos) (fun σ H Q => t σ H fun vs H1 => tk σ H1 fun zs H2 => r σ vs zs H2 Q) := by
  refine ⟨fun pins s σ H Q I h => wpAny_Call_Name_kw (ld_blt I hg hm hv ?_ hn hdb)⟩
  refine PyProof.Rows.callWith_kw (thn (ha.run pos pins s σ H _ I h) fun us sA ⟨vs, HA, IA, rA, qA⟩ => thn (hk.run pos pins sA σ HA _ IA qA) fun ws sB ⟨zs, HB, IB, rB, qB⟩ => ?_) h1 h2 h3 h4
  rw [h5]
  exact hc pins sB σ HB vs zs us ws Q IB rA rB qB
def rSortKC (X : Cx) : L2.St → List V → List V → Hp → VK → Prop := fun σ xs zs H Q => ∃ (p f : Addr) (kvs : List (Key × V)) (bs : List Str) (kf : Str → Int), xs = [.ref p] ∧ zs = [.ref f] ∧ H p = some (.dK kvs) ∧ kvs.map (fun kv => kV kv.1) = bs.map V.str ∧ KeyI X σ f H bs kf ∧
  ∀ H' D, Ex H H' → H D = none → H' D = some (.lst ((bs.mergeSort fun a b => decide (kf a ≤ kf b)).map V.str)) → Q (.ref D) H'
theorem cs_sortKC (hc : X.calm = true) (hu : X.A.units + 66 < cLine) : CallS X (.builtin "sorted") [Str.ofString "key"] (rSortKC X) := by
  intro pins s σ H xs zs us ws Q I r rz h
  obtain ⟨p, f, kvs, bs, kf, rfl, rfl, hp, hb, hcall, q⟩ := h
  obtain rfl := Vals.ref1 r
  obtain rfl := Vals.ref1 rz
  show wpAny _ _ (call (.builtin "sorted") [.ref p] [(Str.ofString "key", .ref f)]) _ _ s
  refine call_function_entry_kw kind_sorted plain_sorted entry_sorted (ksk_s1 _ _) ?_
  unfold Builtin.«sorted»
  refine wpAny_bind (m := checkCount "sorted" 1 1 _) (wpAny_pure ?_)
  refine wpAny_bind (collect_dK (A := X.A.in1) I (I.ok.hd hc) hp fun h' tk us hkp hlt rv hz => ?_)
  rw [hb] at rv
  have lu : bs.length = us.length := by
    have := rv.length
    rw [List.length_map] at this
    exact this
  have lz : bs.length ≤ sizeLine := by
    have := congrArg List.length hb
    rw [List.length_map, List.length_map] at this
    omega
  refine wpAny_bind (wpAny_newList ?_ (by show us.length ≤ _; omega))
  have hoL : (h'.push (seqObj "list" us.toArray 0)).get? h'.objs.size = some (seqObj "list" us.toArray 0) := Heap.get?_push_size _ rfl
  refine wpAny_bind (wpAny_holding (wpAny_call_entry_kw slot_list_sort ⟨_, hoL, rfl⟩ entry_list_sort ?body (ksk_l1 _ _)))
  case body =>
    show wpAny (model X.prog X.w) X.A.in1.in1 (Builtin.«list.sort» ⟨[.ref h'.objs.size], [(Str.ofString "key", .ref f)]⟩) _ _ _
    rw [ksk_t1]
    refine sort_bodyI (s := s) (h2 := h'.push (seqObj "list" us.toArray 0)) (tk := tk) I (fun b u e => Heap.get?_push_of_some _ (hkp b u e)) hoL (Nat.le_of_lt hlt) rv lz hu hcall fun H' s' J e1 e2 e3 => ⟨_, rfl, ?_⟩
    exact wpAny_pure ⟨_, rfl, .ref h'.objs.size, H', J, rfl, q H' h'.objs.size e1 e2 e3⟩
def leastF (kf : Str → Int) (x : Str) (xs : List Str) : Str := xs.foldl (fun a y => if decide (kf y < kf a) = true then y else a) x
def rMinKC (X : Cx) : L2.St → List V → List V → Hp → VK → Prop := fun σ xs zs H Q => ∃ (p f : Addr) (x : Str) (bs : List Str) (kf : Str → Int), xs = [.ref p] ∧ zs = [.ref f] ∧ H p = some (.lst ((x :: bs).map V.str)) ∧ KeyI X σ f H (x :: bs) kf ∧ ∀ H', Ex H H' → Q (.str (leastF kf x bs)) H'
theorem walksV {prog : Program} {w : World} {A : Around} (hh : A.handled = none) (I l : Addr) (hne : l ≠ I) (ys : List V) :
    Walks prog w A I [I, l] [I] ys.length (fun i v => ∃ x, ys[i]? = some x ∧ RelV x v) (fun i h => h.IsListIter I l i ∧ ∃ its : List Value, Vals ys its ∧ h.IsList l its.toArray) where
  sub := fun b hb => by simp at hb; simp [hb]
  frame := fun i h h' st hk => by
    obtain ⟨h1, its, rv, h2⟩ := st
    exact ⟨h1.at fun o e => hk I (by simp) o e, its, rv, h2.at fun o e => hk l (by simp) o e⟩
  item := fun i s Q E hi st hQ => by
    obtain ⟨h1, its, rv, h2⟩ := st
    refine (Walks.list hh I l hne its.toArray).item i s Q E (by rw [List.size_toArray, ← rv.length]; exact hi) ⟨h1, h2⟩ fun v h' tk hv st' hk => ?_
    obtain ⟨x, hx⟩ : ∃ x, ys[i]? = some x := ⟨_, List.getElem?_eq_getElem hi⟩
    obtain ⟨u, hu, ru⟩ := rv.get hx
    have e : u = v := Option.some.inj (hu.symm.trans (by simpa using hv))
    rw [e] at ru
    exact hQ v h' tk ⟨x, hx, ru⟩ ⟨st'.1, its, rv, st'.2⟩ hk
  done := fun s Q E st hQ => by
    obtain ⟨h1, its, rv, h2⟩ := st
    refine (Walks.list hh I l hne its.toArray).done s Q E ⟨?_, h2⟩ hQ
    rw [List.size_toArray, ← rv.length]
    exact h1
  self := fun i s Q E st hQ => wpAny_pyIter_listiter st.1 hQ
theorem cs_minKC (hc : X.calm = true) : CallS X (.builtin "min") [Str.ofString "key"] (rMinKC X) := by
  intro pins s σ H xs zs us ws Q I r rz h
  obtain ⟨p, f, x, bs, kf, rfl, rfl, hp, hcall, q⟩ := h
  obtain rfl := Vals.ref1 r
  obtain rfl := Vals.ref1 rz
  obtain ⟨hz, its0, n0, rv0, hraw0⟩ := lst_raw I hp
  have hisl : s.heap.IsList p its0.toArray := ⟨_, hraw0, rfl, n0, rfl⟩
  have hplt : p < s.heap.objs.size := Heap.lt_size hraw0
  show wpAny _ _ (call (.builtin "min") [.ref p] [(Str.ofString "key", .ref f)]) _ _ s
  refine call_min_walkK (wpAny_pyIter_list hisl ?_)
  generalize hoI : ({ cls := .type "list_iterator", data := .fields #[.ref p, .int 0 0] } : Obj) = oI
  have sz2 : (s.heap.push oI).objs.size = s.heap.objs.size + 1 := Heap.size_push _ _
  have I2 : Inv X pins σ H { s with heap := s.heap.push oI } := I.kept (t' := s.toks) fun b o e => Heap.get?_push_of_some _ e
  have nIt : H s.heap.objs.size = none := I.hok.fresh (Nat.le_refl _)
  have nS : H (s.heap.push oI).objs.size = none := by rw [sz2]; exact I.hok.fresh (Nat.le_succ _)
  have fpI : ∀ H', H' s.heap.objs.size = none → FpOk X pins H' s.heap.objs.size := fun H' n => I.fpOk (Nat.le_refl _) n
  have fpS : ∀ H', H' (s.heap.push oI).objs.size = none → FpOk X pins H' (s.heap.push oI).objs.size := fun H' n => I.fpOk (by rw [sz2]; exact Nat.le_succ _) n
  have nfr : ∀ b, s.heap.objs.size ≤ b → b ∉ frs X.stack := fun b hb z => by
    rcases List.mem_cons.mp (I.stkSub _ z) with e | e
    · have h1 := I.lt
      rw [← e] at h1
      exact Nat.lt_irrefl _ (Nat.lt_of_lt_of_le h1 hb)
    · exact I.nofs hb e
  have gd : ∀ {i : Nat} {v : Value}, (∃ y, ((x :: bs).map V.str)[i]? = some y ∧ RelV y v) → ∃ b, (x :: bs)[i]? = some b ∧ (x :: bs).getD i x = b ∧ RelV (.str b) v := fun {i v} ⟨y, hy, ry⟩ => by
    rw [List.getElem?_map] at hy
    obtain ⟨b, hb, rfl⟩ := Option.map_eq_some_iff.mp hy
    exact ⟨b, hb, by rw [List.getD_eq_getElem?_getD, hb]; rfl, ry⟩
  refine ⟨s.heap.objs.size, [s.heap.objs.size, p], [s.heap.objs.size], (fun a b => b = a), ((x :: bs).map V.str).length, (fun i v => ∃ y, ((x :: bs).map V.str)[i]? = some y ∧ RelV y v), (fun i s' => s'.heap.IsListIter s.heap.objs.size p i ∧ ∃ its : List Value, Vals ((x :: bs).map V.str) its ∧ s'.heap.IsList p its.toArray),
    (fun s' => ∃ Hi, Inv X pins σ Hi s' ∧ Ex H Hi ∧ Hi s.heap.objs.size = none ∧ Hi (s.heap.push oI).objs.size = none), (fun i k _ => ∃ t, k = .int (kf ((x :: bs).getD i x)) t), (fun i j => decide (kf ((x :: bs).getD i x) < kf ((x :: bs).getD j x))),
    rfl, (walksV (A := X.A.in1) (I.ok.hd hc) s.heap.objs.size p (Nat.ne_of_lt hplt) ((x :: bs).map V.str)).toS, ⟨⟨oI, Heap.get?_push_size _ (by rw [← hoI]; rfl), by rw [← hoI], by rw [← hoI]; rfl⟩, its0, rv0, hisl.at fun o e => Heap.get?_push_of_some _ e⟩, fun b hb => ?_, by simp, ?_, ⟨H, I2, Ex.refl H, nIt, nS⟩, fun v s' hP hJ => ?_⟩
  · show b < (s.heap.push oI).objs.size
    rw [sz2]
    rcases List.mem_cons.mp hb with e | hb
    · rw [e]
      exact Nat.lt_succ_self _
    · rw [List.mem_singleton.mp hb]
      exact Nat.lt_succ_of_lt hplt
  · refine ⟨fun s1 s' hJ hm => ?_, fun _ _ _ _ h _ => h, fun i v s1 o Q' E' hi hP hJ hst hS hQ => ?_, fun i j ki kj s1 Q' E' _ hi hj hQ => ?_⟩
    · obtain ⟨Hi, J, e, n1, n2⟩ := hJ
      obtain ⟨h1, g1, d1, t1, o1⟩ := s'
      have eg : g1 = s1.gens := hm.gens
      have ed : d1 = s1.drawn := hm.drawn
      have eo : o1 = s1.os := hm.os
      subst eg
      subst ed
      subst eo
      refine ⟨Hi, J.turnedL (t' := t1) (ch := [(s.heap.push oI).objs.size, s.heap.objs.size]) (fun b o hb e => hm.heap b o hb e) (fun b hb => ?_), e, n1, n2⟩
      rcases List.mem_cons.mp hb with z | hb
      · rw [z]
        exact fpS Hi n2
      · rw [List.mem_singleton.mp hb]
        exact fpI Hi n1
    · obtain ⟨Hi, J, e, n1, n2⟩ := hJ
      obtain ⟨b, hb, hbd, rb⟩ := gd hP
      have hS : s1.heap.get? (s.heap.push oI).objs.size = some o := hS
      refine wpAny_of_in1 (wpAny_mono (hcall b (List.mem_of_getElem? hb) Hi e pins s1 v (fun u s2 => Q' u s2) rb J fun t H2 s2 J2 e2 un => ?_) (fun _ _ h => h) fun _ _ (h : False) => h.elim)
      obtain ⟨hit, its, rvi, hli⟩ := hst
      obtain ⟨oi, hoi, hci, hdi⟩ := hit
      have k1 := un.keep _ _ hoi n1 (nfr _ (Nat.le_refl _)) (by simp)
      have k2 := un.keep _ _ hS n2 (nfr _ (by rw [sz2]; exact Nat.le_succ _)) (by simp)
      have f1 := un.free _ _ hoi n1 (by simp)
      have f2 := un.free _ _ hS n2 (by simp)
      obtain ⟨_, its2, n2', rv2, hraw2⟩ := lst_raw J2 (e2 _ _ (e _ _ hp))
      exact hQ (.int (kf b) t) s2 ⟨H2, J2, e.trans e2, f1, f2⟩ ⟨⟨oi, k1, hci, hdi⟩, its2, rv2, ⟨_, hraw2, rfl, n2', rfl⟩⟩ k2 ⟨t, by rw [hbd]⟩ fun _ _ h => h
    · obtain ⟨t, rfl⟩ := hi
      obtain ⟨u, rfl⟩ := hj
      exact CmpOf.ints_lt (prog := X.prog) (w := X.w) (A := X.A.in1) (P := fun i v => ∃ t, v = .int (kf ((x :: bs).getD i x)) t) (fun i => kf ((x :: bs).getD i x)) (fun i v h => h) i j _ _ _ _ _ ⟨t, rfl⟩ ⟨u, rfl⟩ hQ
  · obtain ⟨Hi, J, e, n1, n2⟩ := hJ
    obtain ⟨b, hb, hbd, rb⟩ := gd hP
    have hf := (argBest_fold (fun a y => decide (kf a < kf y)) x x bs bs.length (Nat.le_refl _)).2
    rw [List.take_length] at hf
    have hn : ((x :: bs).map V.str).length - 1 = bs.length := by simp
    rw [hn] at hbd
    have eb : leastF kf x bs = b := by
      rw [← hbd]
      exact hf.symm
    rw [← eb] at rb
    exact ⟨.str (leastF kf x bs), Hi, J, rb, q Hi e⟩
theorem keyI_clo {σ : L2.St} {k j : Nat} {f c' : Addr} {params : Arguments} {body : Expr} {scope : Scope} {pn y : Str} {H : Hp} {bs : List Str} {kf : Str → Int} {vy : V} (L : LamP X.env.scope scope pn y) (hr : Room (k + 3) X.A)
    (hf : H f = some (CloO f (X.env.qual ++ "<lambda>") params body scope (cloFrom X.env.cells scope.names []) c')) (hc : H c' = some (CodeO c' (X.env.qual ++ "<lambda>")))
    (hb : ∀ (s : Shared) (clo : List (Str × Addr)) (pm ctv u : Value), BindsTo s (PySem.W.kla_fn "<lambda>" (X.env.qual ++ "<lambda>") params body scope clo pm (.ref c') ctv) ⟨[u], []⟩ [(pn, u)]) (hy : X.N[j]? = some y) (hσ : σ[j]? = some (some vy))
    (hbody : ∀ (A : Around) (s : Shared) (H1 : Hp) (E : XK), Room k (A.deeper (lamEnv X scope s.heap.objs.size f c')) → ∀ x ∈ bs, Ex H H1 → ∃ tt, PE (cxP X A s H1 E scope f c' pn y) body tt ∧ ∀ Q : VK, (∀ H2, Ex H1 H2 → Q (.int (kf x)) H2) → tt [some (.str x), some vy] H1 Q) : KeyI X σ f H bs kf := by
  intro x hx H1 e1 pins s1 v R rv I hR
  have hr2 : Room (k + 1) X.A.in1.in1 := (show Room (k + 2) X.A.in1 from Room.in1 hr).in1
  have rc := clo_run (Q := fun y H2 => ∃ H', H' = H2 ∧ y = .int (kf x) ∧ Ex H1 H') (E := fun _ _ _ => False) (u := v) (v := .str x) (vy := vy) I L hr2 I.env0.in1.in1 (e1 _ _ hf) (e1 _ _ hc) (fun pm ctv => hb s1 _ pm ctv _) rv hy hσ
    (fun hr' => let ⟨tt, h1, h2⟩ := hbody _ s1 H1 (fun _ _ _ => False) hr' x hx e1; ⟨tt, h1, h2 _ fun H2 e2 => ⟨H2, rfl, rfl, e2⟩⟩)
  refine wpAny_call (codeAny_mono rc fun r s2 hq => ?_)
  cases r with
  | error e =>
    exact (no_err hq).elim
  | ok fl =>
    cases fl with
    | ret u =>
      obtain ⟨w', H2, os, bare, un, hok, rw', H', rfl, rfl, e2⟩ := hq
      obtain ⟨t, rfl⟩ := rw'
      have J := I.call' (s' := s2) os un hok bare (fun b z => absurd z (by simp))
      exact hR t H' s2 J e2 un
    | next => exact False.elim hq
    | brk => exact False.elim hq
    | cont => exact False.elim hq
where
  no_err {H1 : Hp} {s1 s2 : Shared} {e : Value} (h : L2.CX X.prog X.w X.stack H1 s1 (fun _ _ _ => False) e s2) : False := by
    obtain ⟨_, _, _, _, _, _, _, _, _, _, _, _, z⟩ := h
    exact z
end
end CP
set_option Elab.async false
set_option linter.all false
set_option maxRecDepth 100000
set_option maxHeartbeats 4000000
namespace K7
open PySem PySem.Spec PyProof.Rows L2 KB KC KS LamX R8
theorem Ex.on {H H1 : Hp} {a : Addr} {o : HO} (e : Ex H H1) (n : H a = none) : Ex H (upd H1 a o) := fun b u h => by rw [L2.upd_ne (ne_of_none h n)]; exact e b u h
theorem ifT {c A B : Prop} [Decidable c] (h : c) (a : A) : if c then A else B := by rw [if_pos h]; exact a
theorem ifF {c A B : Prop} [Decidable c] (h : ¬ c) (b : B) : if c then A else B := by rw [if_neg h]; exact b
theorem paired_snoc' {α β : Type} {R : α → β → Prop} {l : List α} {m : List β} {a : α} {b : β} (p : Paired R l m) (h : R a b) : Paired R (l ++ [a]) (m ++ [b]) := paired_app p (.cons h .nil)
theorem paired_len {α β : Type} {R : α → β → Prop} : ∀ {l : List α} {m : List β}, Paired R l m → l.length = m.length
  | _, _, .nil => rfl
  | _, _, .cons _ t => by rw [List.length_cons, List.length_cons, paired_len t]
def KT' (H H' : Hp) : Prop := ∀ b xs, H b = some (.tup xs) → H' b = some (.tup xs)
theorem lcG {J : It} {n : Nat} {G : Hp → Prop} {Y : Nat → Hp → V → Hp → Prop} (w : Walk J n G Y) {α : Type} (R : Hp → V → α → Prop) (out : Nat → Option α) (stab : ∀ H H' v a, KT' H H' → R H v a → R H' v a)
    {g : TG} {tt : TT} {te : TE} {vs : List Nat} {σ : L2.St} {HL : Hp} {D : Addr} {Qd : Hp → Prop} (hD : HL D = none) (hz : n ≤ 1000000) (hG : ∀ H, Ex HL H → G H) (hY : ∀ i H x H1, i < n → Ex HL H → Y i H x H1 → Ex H H1)
    (turn : ∀ (i : Nat) (x : V) (H H1 : Hp) (R0 : V → Hp → Prop) (N0 : Hp → Prop), i < n → Ex HL H → Y i H x H1 → (out i = none → ∀ H2, Ex H1 H2 → N0 H2) → (∀ a, out i = some a → ∀ H2 y, Ex H1 H2 → R H2 y a → R0 y H2) →
      g x (wipe σ vs) H1 fun σ2 H2 => wipe σ2 vs = wipe σ vs ∧ tt σ2 H2 fun b H3 => if b = true then te σ2 H3 R0 else N0 H3)
    (fin : ∀ H xs, Ex HL H → H D = some (.lst xs) → Paired (R H) xs ((List.range n).filterMap out) → Qd H) :
    ∃ W : Nat → Nat → Hp → Prop, (∃ m, W 0 m (upd HL D (.lst []))) ∧ ∀ i m H, W i m H →
      (J.stop i H ∧ Qd H) ∨ (J.go i H ∧ ∃ Nx : Hp → Prop, (∀ H', Nx H' → ∃ m', m' < m ∧ W (i + 1) m' H') ∧ ∀ x H', J.yld i H x H' → g x (wipe σ vs) H' fun σ2 H2 => wipe σ2 vs = wipe σ vs ∧ tt σ2 H2 fun b H3 =>
        if b = true then te σ2 H3 fun y H4 => ∃ acc, H4 D = some (.lst acc) ∧ acc.length < sizeLine ∧ Nx (upd H4 D (.lst (acc ++ [y]))) else Nx H3) := by
  refine lc_it w (fun i H => Ex HL H ∧ ∃ xs, H D = some (.lst xs) ∧ Paired (R H) xs ((List.range i).filterMap out)) ⟨Ex.upd hD, [], upd_same, .nil⟩ (fun i H _ h => hG H h.1) ?_ fun H ⟨e, xs, hx, hp⟩ => fin H xs e hx hp
  rintro i x H H1 hi ⟨e, xs, hx, hp⟩ hy
  have e1 := hY i H x H1 hi e hy
  have hs : (List.range (i + 1)).filterMap out = (List.range i).filterMap out ++ (out i).toList := by
    rw [List.range_succ, List.filterMap_append]
    cases h : out i <;> simp [h]
  refine turn i x H H1 _ _ hi e hy (fun hn H2 e2 => ?_) fun a ha H2 y e2 hr => ?_
  · refine ⟨(e.trans e1).trans e2, xs, e2 _ _ (e1 _ _ hx), ?_⟩
    rw [hs, hn]
    simpa using paired_mono (fun v b h => stab _ _ v b (fun b' xs' h' => e2 _ _ (e1 _ _ h')) h) hp
  · have hx2 := e2 _ _ (e1 _ _ hx)
    have kt : KT' H2 (upd H2 D (.lst (xs ++ [y]))) := fun b ys h => by
      rw [L2.upd_ne (fun z => by rw [z, hx2] at h; cases h)]; exact h
    refine ⟨xs, hx2, ?_, Ex.on ((e.trans e1).trans e2) hD, xs ++ [y], upd_same, ?_⟩
    · have l1 := paired_len hp
      have l2 := List.length_filterMap_le out (List.range i)
      rw [List.length_range] at l2
      have : sizeLine = 16777216 := rfl
      omega
    · rw [hs, ha]
      exact paired_snoc' (paired_mono (fun v b h => stab _ _ v b (fun b' xs' h' => kt _ _ (e2 _ _ (e1 _ _ h'))) h) hp) (stab _ _ _ _ kt hr)
def RInt : Hp → V → Int → Prop := fun _ v a => v = .int a
def RStr : Hp → V → Str → Prop := fun _ v a => v = .str a
theorem RInt.stab : ∀ H H' v a, KT' H H' → RInt H v a → RInt H' v a := fun _ _ _ _ _ h => h
theorem RStr.stab : ∀ H H' v a, KT' H H' → RStr H v a → RStr H' v a := fun _ _ _ _ _ h => h
theorem rint_map {H : Hp} : ∀ {xs : List V} {ns : List Int}, Paired (RInt H) xs ns → xs = ns.map V.int
  | _, _, .nil => rfl
  | _, _, .cons h t => by rw [List.map_cons, ← rint_map t]; rw [show _ = _ from h]
theorem rstr_map {H : Hp} : ∀ {xs : List V} {ns : List Str}, Paired (RStr H) xs ns → xs = ns.map V.str
  | _, _, .nil => rfl
  | _, _, .cons h t => by rw [List.map_cons, ← rstr_map t]; rw [show _ = _ from h]
theorem range_fm {α β : Type} (f : α → Option β) : ∀ xs : List α, (List.range xs.length).filterMap (fun i => xs[i]?.bind f) = xs.filterMap f := by
  intro xs
  induction xs with
  | nil => rfl
  | cons a xs ih =>
    rw [List.length_cons, List.range_succ_eq_map, List.filterMap_cons, List.filterMap_map]
    have e : ((fun i => ((a :: xs)[i]?).bind f) ∘ Nat.succ) = fun i => xs[i]?.bind f := by
      funext i
      simp
    rw [e, ih]
    simp [List.filterMap_cons]
theorem yat_ex {xs : List V} {i : Nat} {H H1 : Hp} {x : V} (h : YAt xs i H x H1) : Ex H H1 := by
  obtain ⟨rfl, _⟩ := h
  exact Ex.refl _
theorem yfn_ex {f : Nat → V} {i : Nat} {H H1 : Hp} {x : V} (h : YFn f i H x H1) : Ex H H1 := by
  obtain ⟨rfl, _⟩ := h
  exact Ex.refl _
theorem pf {X : Cx} (i : Nat) {f x : Str} {p1 p2 : Pos} (hN : X.N[i]? = some x := by rfl) (hv : Vis X.env.scope x := by first | exact .inl rfl | exact .inr (.inl rfl) | exact .inr (.inr rfl) | exact .inr rfl) (hd : (x == ("__debug__" : Str)) = false := by decide) (hcd : (x == ("__classdict__" : Str)) = false := by decide)
    (hb : attributeBase (.Name x p1) f X.env (eval (.Name x p1) X.env) = eval (.Name x p1) X.env := by rfl) : PE X (.Attribute (.Name x p1) f p2) (tFld X.K (tVar i) f) :=
  pe_fld (pe_var (i := i) hN hv hd hcd) hb
def veB : List Value := [.type "ValueError", .type "Exception", .type "BaseException", .type "object"]
structure TxtX (K : PySem.W.Frag) (mg : Str → Option Value) (CE : Addr) : Prop where
  g : mg "GroupError" = some (.ref CE)
  x : PySem.W.excIn K CE veB "ValueError.__new__" = true
  k : PySem.W.keepIn K (.ref CE) = true
  b : PySem.W.subIn K (.ref CE) (.type "BaseException") = some true
  t : PySem.W.typeIn K (.ref CE) = some (.type "type")
  e : PySem.W.exmOne K (.ref CE) (.ref CE) = some true
def rIxP : R2 := fun x y H Q => ∃ p xs i v, x = .ref p ∧ y = .int i ∧ H p = some (.tup xs) ∧ atI xs i = some v ∧ Q v H
theorem ix_tupD {X : Cx} : IxR X rIxP := by
  intro value slice pins s σ H x y v u Q I rx ry h hs
  obtain ⟨p, xs, i, z, e1, e2, hq, he, q⟩ := h
  exact ix_tup value slice pins s σ H x y v u Q I rx ry ⟨p, xs, i, z, e1, e2, SqT.of hq, he, q⟩ hs
theorem filt_fm {α : Type} (f : α → Bool) (xs : List α) : xs.filterMap (fun p => if f p = true then some p else none) = xs.filter f := by
  induction xs with
  | nil => rfl
  | cons a xs ih => cases h : f a <;> simp [h, ih]
theorem map_fm {α β : Type} (f : α → β) (xs : List α) : xs.filterMap (fun p => some (f p)) = xs.map f := by
  induction xs with
  | nil => rfl
  | cons a xs ih => simp
theorem at0 {a b : V} : atI [a, b] 0 = some a := rfl
theorem at1 {a b : V} : atI [a, b] 1 = some b := rfl
theorem wipe_set {σ : L2.St} {i : Nat} {x : Option V} : wipe ((wipe σ [i]).set i x) [i] = wipe σ [i] := by
  show ((σ.set i none).set i x).set i none = σ.set i none
  rw [List.set_set, List.set_set]
end K7

namespace K7
open PySem PySem.Spec PyProof.Rows L2 KB KC KS LamX R8
def putA {α : Type} (es : List (Key × α)) (k : Key) (a : α) : List (Key × α) := if (es.any fun e => decide (e.1 = k)) = true then es.map (fun e => if e.1 = k then (e.1, a) else e) else es ++ [(k, a)]
def foldA {α : Type} (es : List (Key × α)) : List (Key × α) := es.foldl (fun acc e => putA acc e.1 e.2) []
abbrev KvR {α : Type} (R : Hp → V → α → Prop) (H : Hp) (kvs : List (Key × V)) (es : List (Key × α)) : Prop := Paired (fun (p : Key × V) (e : Key × α) => p.1 = e.1 ∧ R H p.2 e.2) kvs es
theorem any_eq {α : Type} {R : Hp → V → α → Prop} {H : Hp} {k : Key} : ∀ {kvs : List (Key × V)} {es : List (Key × α)}, KvR R H kvs es → (kvs.any fun e => decide (e.1 = k)) = es.any fun e => decide (e.1 = k)
  | _, _, .nil => rfl
  | _, _, .cons h t => by rw [List.any_cons, List.any_cons, h.1, any_eq t]
theorem kvR_put {α : Type} {R : Hp → V → α → Prop} {H : Hp} {k : Key} {z : V} {a : α} {kvs : List (Key × V)} {es : List (Key × α)} (r : KvR R H kvs es) (hr : R H z a) : KvR R H (putK kvs k z) (putA es k a) := by
  unfold putK putA
  rw [any_eq r]
  split
  · exact go r
  · exact paired_snoc' r ⟨rfl, hr⟩
where
  go : ∀ {kvs : List (Key × V)} {es : List (Key × α)}, KvR R H kvs es → KvR R H (kvs.map fun kv => if kv.1 = k then (kv.1, z) else kv) (es.map fun e => if e.1 = k then (e.1, a) else e)
    | _, _, .nil => .nil
    | _, _, .cons (a := p) (b := e) h t => by
      rw [List.map_cons, List.map_cons]
      refine .cons ?_ (go t)
      by_cases c : p.1 = k
      · rw [if_pos c, if_pos (h.1 ▸ c)]
        exact ⟨h.1, hr⟩
      · rw [if_neg c, if_neg (h.1 ▸ c)]
        exact h
theorem putA_len {α : Type} (es : List (Key × α)) (k : Key) (a : α) : (putA es k a).length ≤ es.length + 1 := by
  unfold putA
  split
  · rw [List.length_map]; omega
  · rw [List.length_append]; simp
theorem foldA_snoc {α : Type} (es : List (Key × α)) (k : Key) (a : α) : foldA (es ++ [(k, a)]) = putA (foldA es) k a := by
  unfold foldA
  rw [List.foldl_append]
  rfl
theorem foldA_len_go {α : Type} : ∀ (es acc : List (Key × α)), (es.foldl (fun acc e => putA acc e.1 e.2) acc).length ≤ acc.length + es.length
  | [], acc => by simp
  | e :: es, acc => by
    rw [List.foldl_cons]
    have := foldA_len_go es (putA acc e.1 e.2)
    have := putA_len acc e.1 e.2
    rw [List.length_cons]
    omega
theorem foldA_len {α : Type} (es : List (Key × α)) : (foldA es).length ≤ es.length := by
  have := foldA_len_go es []
  unfold foldA
  simpa using this
theorem foldA_self_go {α : Type} : ∀ (es acc : List (Key × α)), ((acc ++ es).map (·.1)).Nodup → es.foldl (fun acc e => putA acc e.1 e.2) acc = acc ++ es
  | [], acc, _ => by simp
  | e :: es, acc, h => by
    have ne : ¬ (acc.any fun x => decide (x.1 = e.1)) = true := by
      rw [List.any_eq_true]
      rintro ⟨x, hx, hk⟩
      have hk := of_decide_eq_true hk
      rw [List.map_append, List.nodup_append] at h
      exact h.2.2 x.1 (List.mem_map.mpr ⟨x, hx, rfl⟩) e.1 (by simp) hk
    have ep : putA acc e.1 e.2 = acc ++ [e] := by unfold putA; rw [if_neg ne]
    rw [List.foldl_cons, ep, foldA_self_go es (acc ++ [e])]
    · simp
    · simpa using h
theorem foldA_self {α : Type} {es : List (Key × α)} (h : (es.map (·.1)).Nodup) : foldA es = es := foldA_self_go es [] (by simpa using h)
def KT2 (H H' : Hp) : Prop := ∀ b o, (∀ ks, o ≠ .dK ks) → H b = some o → H' b = some o
theorem dcG {J : It} {n : Nat} {G : Hp → Prop} {Y : Nat → Hp → V → Hp → Prop} (w : Walk J n G Y) {α : Type} (R : Hp → V → α → Prop) (out : Nat → Option (Key × α)) (stab : ∀ H H' v a, KT2 H H' → R H v a → R H' v a)
    {g : TG} {tt : TT} {tk tv : TE} {vs : List Nat} {σ : L2.St} {HL : Hp} {D : Addr} {Qd : Hp → Prop} (hD : HL D = none) (hz : n ≤ 1000000) (hG : ∀ H, Ex HL H → G H) (hY : ∀ i H x H1, i < n → Ex HL H → Y i H x H1 → Ex H H1)
    (turn : ∀ (i : Nat) (x : V) (H H1 : Hp) (R0 : V → V → Hp → Prop) (N0 : Hp → Prop), i < n → Ex HL H → Y i H x H1 → (out i = none → ∀ H2, Ex H1 H2 → N0 H2) → (∀ k a, out i = some (k, a) → ∀ H2 z, Ex H1 H2 → R H2 z a → R0 (kV k) z H2) →
      g x (wipe σ vs) H1 fun σ2 H2 => wipe σ2 vs = wipe σ vs ∧ tt σ2 H2 fun b H3 => if b = true then tk σ2 H3 fun y H4 => tv σ2 H4 fun z H5 => R0 y z H5 else N0 H3)
    (fin : ∀ H kvs, Ex HL H → H D = some (.dK kvs) → KvR R H kvs (foldA ((List.range n).filterMap out)) → Qd H) :
    ∃ W : Nat → Nat → Hp → Prop, (∃ m, W 0 m (upd HL D (.dK []))) ∧ ∀ i m H, W i m H →
      (J.stop i H ∧ Qd H) ∨ (J.go i H ∧ ∃ Nx : Hp → Prop, (∀ H', Nx H' → ∃ m', m' < m ∧ W (i + 1) m' H') ∧ ∀ x H', J.yld i H x H' → g x (wipe σ vs) H' fun σ2 H2 => wipe σ2 vs = wipe σ vs ∧ tt σ2 H2 fun b H3 =>
        if b = true then tk σ2 H3 fun y H4 => tv σ2 H4 fun z H5 => ∃ kvs k, y = kV k ∧ H5 D = some (.dK kvs) ∧ kvs.length < sizeLine ∧ Nx (upd H5 D (.dK (putK kvs k z))) else Nx H3) := by
  refine ⟨fun i m H => m = n - i ∧ i ≤ n ∧ (Ex HL H ∧ ∃ kvs, H D = some (.dK kvs) ∧ KvR R H kvs (foldA ((List.range i).filterMap out))), ⟨n, by simp, Nat.zero_le _, Ex.upd hD, [], upd_same, .nil⟩, ?_⟩
  rintro i m H ⟨rfl, hi, e, kvs, hx, hp⟩
  have q := hG H e
  by_cases hlt : i < n
  · refine .inr ⟨w.goes i H hlt q, (fun H' => i + 1 ≤ n ∧ (Ex HL H' ∧ ∃ kvs, H' D = some (.dK kvs) ∧ KvR R H' kvs (foldA ((List.range (i + 1)).filterMap out)))), fun H' p' => ⟨n - (i + 1), by omega, rfl, p'⟩, fun x H1 y => ?_⟩
    have y := w.yields i H x H1 hlt q y
    have e1 := hY i H x H1 hlt e y
    have hs : (List.range (i + 1)).filterMap out = (List.range i).filterMap out ++ (out i).toList := by
      rw [List.range_succ, List.filterMap_append]
      cases h : out i <;> simp [h]
    refine turn i x H H1 (fun y z H5 => ∃ kvs k, y = kV k ∧ H5 D = some (.dK kvs) ∧ kvs.length < sizeLine ∧ (fun H' => i + 1 ≤ n ∧ (Ex HL H' ∧ ∃ kvs, H' D = some (.dK kvs) ∧ KvR R H' kvs (foldA ((List.range (i + 1)).filterMap out)))) (upd H5 D (.dK (putK kvs k z)))) _ hlt e y (fun hn H2 e2 => ?_) fun k a ha H2 z e2 hr => ?_
    · refine ⟨hlt, (e.trans e1).trans e2, kvs, e2 _ _ (e1 _ _ hx), ?_⟩
      rw [hs, hn]
      simpa using paired_mono (fun v b h => ⟨h.1, stab _ _ v.2 b.2 (fun b' o' _ h' => e2 _ _ (e1 _ _ h')) h.2⟩) hp
    · have hx2 := e2 _ _ (e1 _ _ hx)
      have kt : KT2 H2 (upd H2 D (.dK (putK kvs k z))) := fun b o ho h => by
        rw [L2.upd_ne (fun z => by rw [z, hx2] at h; exact ho _ (Option.some.inj h).symm)]; exact h
      refine ⟨kvs, k, rfl, hx2, ?_, hlt, Ex.on ((e.trans e1).trans e2) hD, putK kvs k z, upd_same, ?_⟩
      · have l1 := paired_len hp
        have l2 := foldA_len ((List.range i).filterMap out)
        have l3 := List.length_filterMap_le out (List.range i)
        rw [List.length_range] at l3
        have : sizeLine = 16777216 := rfl
        omega
      · rw [hs, ha]
        show KvR R _ _ (foldA (_ ++ [(k, a)]))
        rw [foldA_snoc]
        exact kvR_put (paired_mono (fun v b h => ⟨h.1, stab _ _ v.2 b.2 (fun b' o' n' h' => kt _ _ n' (e2 _ _ (e1 _ _ h'))) h.2⟩) hp) (stab _ _ _ _ kt hr)
  · have e' : i = n := by omega
    subst e'
    exact .inl ⟨w.stops H q, fin H kvs e hx hp⟩
def RTrue : Hp → V → Unit → Prop := fun _ v _ => v = .bl true
theorem RInt.stab2 : ∀ H H' v a, KT2 H H' → RInt H v a → RInt H' v a := fun _ _ _ _ _ h => h
theorem RTrue.stab : ∀ H H' v a, KT2 H H' → RTrue H v a → RTrue H' v a := fun _ _ _ _ _ h => h
theorem kvR_keys {α : Type} {R : Hp → V → α → Prop} {H : Hp} : ∀ {kvs : List (Key × V)} {es : List (Key × α)}, KvR R H kvs es → kvs.map (fun kv => kV kv.1) = es.map fun e => kV e.1
  | _, _, .nil => rfl
  | _, _, .cons h t => by rw [List.map_cons, List.map_cons, kvR_keys t, h.1]
end K7

namespace K7
open PySem PySem.Spec PyProof.Rows L2 KB KC KD KS LamX R8 CP
theorem ps_setDc {X : Cx} {i : Nat} {y : Str} {py : Pos} {kx vx tg iter : Expr} {ifs : List Expr} {scope : Scope} {own : List (Str × Nat)} {pos spos : Pos} {wi : TI} {g : TG} {tt : L2.TT} {tk tv : TE} (hc : X.calm = true) (hN : X.N.Nodup) (hy : X.N[i]? = some y) (hyl : X.env.scope.names.lookup y = some .local)
    (hsw : swapsWith (.DictComp kx vx [⟨tg, iter, ifs, 0⟩] scope pos) (some (.Name y py)) spos.line X.env = pure true) (hi : PI X tg iter wi) (ok : BlkOk X.N X.env.scope scope own)
    (hg : ∀ (s : Shared) (H : Hp) (C : Addr) (cl : List (Str × Addr)) (fp : List Addr), PG (X.blk s H scope (compEnvC scope cl C X.env) fp) tg g) (ht : ∀ (s : Shared) (H : Hp) (C : Addr) (cl : List (Str × Addr)) (fp : List Addr), PTs (X.blk s H scope (compEnvC scope cl C X.env) fp) ifs tt)
    (hk : ∀ (s : Shared) (H : Hp) (C : Addr) (cl : List (Str × Addr)) (fp : List Addr), PE (X.blk s H scope (compEnvC scope cl C X.env) fp) kx tk)
    (he : ∀ (s : Shared) (H : Hp) (C : Addr) (cl : List (Str × Addr)) (fp : List Addr), PE (X.blk s H scope (compEnvC scope cl C X.env) fp) vx tv) (hs : ∀ x, foldedSetIterable iter X.env x = pure x := by intro _; rfl) :
    PS X (.Assign [.Name y py] (.DictComp kx vx [⟨tg, iter, ifs, 0⟩] scope pos) spos) (tAsg (tDc wi g tt tk tv (own.map (·.2))) (gName i)) := by
  refine ⟨fun pins s σ H D I h => ?_⟩
  rw [exec_Assign_Name_used _ _ _ _ hsw]
  refine wpAny_bind (wpAny_standAt (wpAny_bind ?_))
  show wpAny _ X.A (do let _ ← comprehension (.DictComp kx vx [⟨tg, iter, ifs, 0⟩] scope pos) scope X.env (firstIterPos [⟨tg, iter, ifs, 0⟩] pos) newDict false (eval iter X.env) (some (assign (.Name y py) X.env))) _ _ s
  have h : tDc wi g tt tk tv (own.map (·.2)) σ H (fun x H1 => gName i x σ H1 D.nx) := h
  refine wpAny_bind (thn (dc_core (Qf := fun _ s' => SP X pins D .next s') hc hN I hi ok hg ht hk he hs h fun L C s' m H' I' q hn f => ?_) fun _ s' hq => wpAny_pure (wpAny_pure hq))
  show wpAny _ _ (assign (.Name y py) X.env (.ref L)) _ _ _
  refine wpAny_assign_Name (store_ok2 (v := V.ref L) I' hN hy (.inl hyl) rfl (fun s2 I2 ⟨a, sb, ha⟩ => ?_) (.inr hyl))
  obtain ⟨f0, f1, f2, f3, f4, f5⟩ := f
  have haC : C ≠ a := by
    rcases ha with z | z
    · rw [z]; exact f1
    · exact fun e => f4 y a z e.symm
  refine ⟨m, hn.sameBut sb haC, fun h3 sb3 => ?_⟩
  exact ⟨_, H', I2.turned (t' := s2.toks) (fun b o hb e => (sb3.2 b hb).trans e) f0 f1 f3 f4 f5, q⟩
theorem sw_dict {kx vx : Expr} {gs : List Comprehension} {scope : Scope} {pos py : Pos} {y : Str} {l : Nat} {env : Env} (hk : env.scope.kind = .function) (hy : env.scope.names.lookup y = some .local) (hl : (py.line == pos.line) = true)
    (ha : (scope.names.any fun (n, k) => n == y && (k == .local || k == .cell)) = false) : swapsWith (.DictComp kx vx gs scope pos) (some (.Name y py)) l env = pure true := by
  have ky : env.kindOf y = some .local := hy
  have hb : env.blockKind = .function := by unfold Env.blockKind; rw [hk]; rfl
  unfold swapsWith
  simp only [hb, ky, ha, Expr.pos, hl]
  rfl
end K7
set_option Elab.async false
set_option linter.all false
set_option maxRecDepth 100000
set_option maxHeartbeats 2000000
namespace GG
open PySem PySem.Spec PyProof.Rows L2
structure GOk (N : List Str) (sc scope : Scope) (own : List (Str × Nat)) : Prop where
  blk : BlkOk N sc scope own
  co : scope.isCoroutine = false
  cell : ∀ y ∈ scope.names, y.2 ≠ .cell
  dot : scope.names.lookup (".0" : Str) = some NameKind.local
theorem gOk_by {N : List Str} {sc scope : Scope} {own : List (Str × Nat)} (h : blkC N sc scope own = true) (h1 : scope.isCoroutine = false) (h2 : (scope.names.all fun y => !decide (y.2 = .cell)) = true) (h3 : scope.names.lookup (".0" : Str) = some NameKind.local) : GOk N sc scope own :=
  ⟨blkOk_by h, h1, fun y hy e => by
    have z := List.all_eq_true.mp h2 y hy
    rw [e] at z
    simp at z, h3⟩
theorem over_gen {A : Around} {elt : Expr} {cs : List Comprehension} {scope : Scope} {pos : Pos} {it acc : Value} {env : Env} : A.over (.compLoop (.GeneratorExp elt cs scope pos) 0 it acc env) [] = A.deeper env := by
  first
    | rfl
    | (obtain ⟨hd, d, fr, gs, u⟩ := A; simp [Around.over, Around.deeper, marksOver, frameCount, unitsOf, envsOf, guardsOf, pushEnvs, pushGuards, Code.envs, Code.env?, Code.isFrame, Code.guards, Code.isGuard, Code.weight, Code.frames, Code.isCreation, Code.isCaller, Code.cUnits])
theorem over_gen0 {A : Around} {elt : Expr} {cs : List Comprehension} {scope : Scope} {pos : Pos} {it acc : Value} {env : Env} : A.over (.compStart (.GeneratorExp elt cs scope pos) 0 it acc env) [] = A.deeper env := by
  first
    | rfl
    | (obtain ⟨hd, d, fr, gs, u⟩ := A; simp [Around.over, Around.deeper, marksOver, frameCount, unitsOf, envsOf, guardsOf, pushEnvs, pushGuards, Code.envs, Code.env?, Code.isFrame, Code.guards, Code.isGuard, Code.weight, Code.frames, Code.isCreation, Code.isCaller, Code.cUnits])
abbrev genCx (X : Cx) (A : Around) (s0 : Shared) (H0 : Hp) (cenv : Env) (fp : List Addr) (pn : List (Addr × Obj)) : Cx where
  prog := X.prog
  w := X.w
  K := X.K
  mg := X.mg
  base := X.base
  A := A.deeper cenv
  N := X.N
  s_0 := s0
  H_0 := H0
  env := cenv
  outer := X.stack
  stack := cenv :: X.stack
  ex := fp
  fn := fun _ => false
  calm := true
  pn := pn
  xe := fun _ _ => False
section
variable {X : Cx} {pins : List (Addr × Obj)} {σ : L2.St} {H : Hp} {s : Shared}
theorem gen_start {A : Around} {scope : Scope} {own : List (Str × Nat)} {fp : List Addr} {h' : Heap} {tk : Nat} {g' : Array GenState} {d' : Drawn} {code : Value} {m : Str → Option Value} {pn : List (Addr × Obj)} (I : Inv X pins σ H s) (ok : GOk X.N X.env.scope scope own) (hN : X.N.Nodup) (hA : A.handled = none) (hAf : A.frames = X.A.frames)
    (hfp : ∀ b ∈ fp, FpOk X pins H b ∧ b < s.heap.objs.size) (hns : h'.Ns s.heap.objs.size m) (kp : ∀ b o, s.heap.get? b = some o → h'.get? b = some o) (hg : AllBare g')
    (hpn : ∀ p ∈ pn, h'.get? p.1 = some p.2 ∧ s.heap.objs.size < p.1 ∧ ∀ v, p.2.data ≠ .cell v) :
    Inv (genCx X A s H (genEnv scope (cloFrom X.env.cells scope.names []) s.heap.objs.size code builtinsNs X.env) fp pn) [] (wipe σ (own.map (·.2))) H { s with heap := h', gens := g', drawn := d', toks := tk } := by
  have hfree : ∀ y ∈ scope.names, y.2 = .free → ∃ c, X.env.cells.lookup y.1 = some c := fun y hy e => by
    rcases ok.blk.free y hy e with k | k
    · exact I.ok.has _ (.inl k)
    · exact I.ok.has _ (.inr k)
  generalize hcenv : genEnv scope (cloFrom X.env.cells scope.names []) s.heap.objs.size code builtinsNs X.env = cenv
  have hL : cenv.locals = s.heap.objs.size := by rw [← hcenv]; rfl
  have hcl : cenv.cells = cloFrom X.env.cells scope.names [] := by rw [← hcenv]; rfl
  have hsc : cenv.scope = scope := by rw [← hcenv]; rfl
  have cm : ∀ {y c}, cenv.cells.lookup y = some c → X.env.cells.lookup y = some c ∧ c < s.heap.objs.size := fun {y c} e => by
    rw [hcl] at e
    rcases cloFrom_mem (PySem.mem_of_lookup e) with hm | ⟨h1, h2⟩
    · cases hm
    · obtain ⟨c1, hc⟩ := hfree _ h1 rfl
      have hc : X.env.cells.lookup y = some c1 := hc
      have e2 : c = c1 := by rw [h2, hc] <;> rfl
      rw [e2]
      obtain ⟨w, z⟩ := I.cell _ _ hc
      exact ⟨hc, z.lt⟩
  have look : ∀ {y}, scope.names.lookup y = some .free → ∃ c, cenv.cells.lookup y = some c := fun {y} hl => by
    have hy : (y, NameKind.free) ∈ scope.names := PySem.mem_of_lookup hl
    rw [hcl]
    exact mem_lookup (cloFrom_has (cells := X.env.cells) (acc := []) hy)
  have okB : (genCx X A s H cenv fp pn).Ok := by
    refine ⟨I.ok.mod, by show cenv.scope.kind = _; rw [hsc]; exact ok.blk.kind, by show cenv.globals = _; rw [← hcenv]; exact I.ok.glob, by show cenv.builtins = _; rw [← hcenv]; rfl, by show s.heap.objs.size ≤ cenv.locals; rw [hL]; exact Nat.le_refl _,
      fun y z c e1 e2 => I.ok.inj y z c (cm e1).1 (cm e2).1, fun y hy => ?_, fun y c z e => ?_, fun _ => hA, Around.frames_deeper (hAf.trans I.ok.frames), .inr ⟨rfl, by show cenv.frame = some cenv.locals; rw [← hcenv]; rfl⟩, fun b hb => ⟨?_, fun y c e z => ?_⟩, I.bs, Nat.le_trans I.ok.bsz I.sz, fun b o e hb => ?_, fun b hb z => ?_, I.stack, I.stkFree⟩
    · have hy : cenv.scope.names.lookup y = some .cell ∨ cenv.scope.names.lookup y = some .free := hy
      rw [hsc] at hy
      rcases hy with hy | hy
      · exact absurd rfl (ok.cell _ (PySem.mem_of_lookup hy))
      · exact look hy
    · have z : false = true := z
      cases z
    · show b ≠ cenv.locals
      rw [hL]; exact Nat.ne_of_lt (hfp b hb).2
    · exact (hfp b hb).1.2.2.2.2.1 y c (cm e).1 z
    · rcases (hfp b hb).1.2.2.2.1 with z | z
      · exact I.ok.noex b o e z
      · exact absurd (Nat.lt_of_lt_of_le (Heap.lt_size e) (Nat.le_trans I.ok.bsz z)) (Nat.lt_irrefl _)
    · rcases List.mem_cons.mp (I.stkSub b z) with z | z
      · exact (hfp b hb).1.2.1 z
      · exact (hfp b hb).1.2.2.1 z
  refine ⟨okB, rfl, hg, Un.kept kp, ⟨m, by show h'.Ns cenv.locals m; rw [hL]; exact hns, fun i y av e1 e2 e3 => ?_⟩, fun y c e => ?_, ?_, fun y c e => ?_, fun p hp => ?_, I.hok.kept kp, by rw [wipe_length]; exact I.len⟩
  · obtain ⟨e2, hne⟩ := wipe_some e2
    have no : ∀ k, scope.names.lookup y = some k → k = .local ∨ k = .cell → False := fun k hk hh => by
      rcases ok.blk.own _ (PySem.mem_of_lookup hk) hh with e' | e'
      · obtain ⟨p, hp, hpy⟩ := List.mem_map.mp e'
        have e3 := ok.blk.ix p hp
        have : p.1 = y := hpy
        rw [this] at e3
        exact hne (List.mem_map.mpr ⟨p, hp, nodup_ix hN e3 e1⟩)
      · exact e' (List.mem_of_getElem? e1)
    have e3 : Vis cenv.scope y := e3
    rw [hsc] at e3
    have hfr : scope.names.lookup y = some .free := by
      rcases e3 with e3 | e3 | e3
      · exact (no _ e3 (.inl rfl)).elim
      · exact (no _ e3 (.inr rfl)).elim
      · exact e3
    obtain ⟨m, hn, hl⟩ := I.loc
    have hvis : Vis X.env.scope y := (ok.blk.free _ (PySem.mem_of_lookup hfr) rfl).elim (fun k => .inr (.inl k)) (fun k => .inr (.inr k))
    obtain ⟨w, r, q⟩ := hl i y av e1 e2 hvis
    obtain ⟨c, h1⟩ := look hfr
    refine ⟨w, r, .inr ⟨.inr (by show cenv.scope.names.lookup y = _; rw [hsc]; exact hfr), c, h1, ?_⟩⟩
    have h2 := (cm h1).1
    rcases q with ⟨k, _⟩ | ⟨_, c', e', z⟩
    · have k : X.env.scope.names.lookup y = some .local := k
      rcases ok.blk.free _ (PySem.mem_of_lookup hfr) rfl with k' | k' <;> rw [show X.env.scope.names.lookup y = _ from k'] at k <;> cases k
    · rw [h2] at e'; cases e'
      exact z.keeps kp
  · obtain ⟨w, z⟩ := I.cell y c (cm e).1
    exact ⟨w, z.keeps kp⟩
  · show H cenv.locals = none
    rw [hL]; exact I.hok.fresh (Nat.le_refl _)
  · exact I.freeC y c (cm e).1
  · rw [List.append_nil] at hp
    obtain ⟨h1, h2, h3⟩ := hpn p hp
    refine ⟨h1, I.hok.fresh (Nat.le_of_lt h2), by rw [hL]; exact Nat.ne_of_gt h2, fun z => ?_, h3⟩
    obtain ⟨_, o, ho, _⟩ := I.stack.mem z
    exact Nat.lt_irrefl _ (Nat.lt_trans (Heap.lt_size ho) h2)
end
end GG
set_option Elab.async false
set_option linter.all false
set_option maxRecDepth 100000
set_option maxHeartbeats 2000000
namespace GG
open PySem PySem.Spec PyProof.Rows L2
def TurnG (J : It) (g : TG) (te : TE) (vs : List Nat) (σ : L2.St) (stop : Bool) (End Found : Hp → Prop) (W : Nat → Nat → Hp → Prop) : Prop :=
  ∀ i m H, W i m H → (J.stop i H ∧ End H) ∨ (J.go i H ∧ ∃ Nx : Hp → Prop, (∀ H', Nx H' → ∃ m', m' < m ∧ W (i + 1) m' H') ∧
    ∀ x H', J.yld i H x H' → g x (wipe σ vs) H' fun σ2 H2 => wipe σ2 vs = wipe σ vs ∧ te σ2 H2 fun y H4 => ∃ c : Bool, y = .bl c ∧ ((c = stop → Found H4) ∧ (c ≠ stop → Nx H4)))
def RunG (Y : Cx) (σ0 : L2.St) (fp : List Addr) (tn : Nat → Heap → Prop) (i : Nat) (H : Hp) (s : Shared) : Prop := Inv Y [] σ0 H s ∧ tn i s.heap ∧ ∀ b ∈ fp, H b = none
def ProtoG (Y : Cx) (σ0 : L2.St) (fp : List Addr) (tn : Nat → Heap → Prop) (stop : Bool) (Found : Hp → Prop) (W : Nat → Nat → Hp → Prop) : Protocol := fun m _ v s kap =>
  ∃ (b : Bool) (i : Nat) (H : Hp), v = .bool b ∧ RunG Y σ0 fp tn i H s ∧ (b = stop → Found H) ∧ (b ≠ stop → (∃ m', m' < m ∧ W i m' H) ∧ ∀ s'' : Shared, s''.heap = s.heap → s''.os = s.os → AllBare s''.gens → kap (.send .none) s'')
def EndG (Y : Cx) (σ0 : L2.St) (End : Hp → Prop) : Nat → Shared → Shared → Prop := fun _ _ s => ∃ H, Inv Y [] σ0 H s ∧ End H
section
variable {X : Cx} {A : Around} {s0 : Shared} {H0 : Hp} {cenv : Env} {fp : List Addr} {pn : List (Addr × Obj)}
theorem inv_awake {Y : Cx} {pins : List (Addr × Obj)} {σ : L2.St} {H : Hp} {s s'' : Shared} (I : Inv Y pins σ H s) (h1 : s''.heap = s.heap) (h2 : s''.os = s.os) (h3 : AllBare s''.gens) : Inv Y pins σ H s'' :=
  I.call' (ch := []) h2 (Un.kept fun b u e => by rw [h1]; exact e) (I.hok.kept fun b u e => by rw [h1]; exact e) h3 fun b z => absurd z (by simp)
theorem seg_loop {tg iter elt : Expr} {scope : Scope} {pos : Pos} {it : Addr} {J : It} {tn : Nat → Heap → Prop} {g : TG} {te : TE} {vs : List Nat} {σ : L2.St} {stop : Bool} {End Found : Hp → Prop} {W : Nat → Nat → Hp → Prop}
    (T : Turn X.prog X.w X.K tg J fp it tn) (pg : PG (genCx X A s0 H0 cenv fp pn) tg g) (pe : PE (genCx X A s0 H0 cenv fp pn) elt te) (hco : cenv.scope.isCoroutine = false) (hlen : σ.length = X.N.length)
    (stat : ∀ {σ' : L2.St} {H' : Hp} {s' : Shared}, Inv (genCx X A s0 H0 cenv fp pn) [] σ' H' s' → (∀ b ∈ fp, H' b = none) → ∀ b ∈ fp, FpOk (genCx X A s0 H0 cenv fp pn) [] H' b)
    (turn : TurnG J g te vs σ stop End Found W) :
    ∀ (m n i : Nat) (s₀ s : Shared) (H : Hp), m < n → RunG (genCx X A s0 H0 cenv fp pn) (wipe σ vs) fp tn i H s → W i m H →
      Seg (model X.prog X.w) A (fun n s₀ r s₁ => r = .ok .next ∧ EndG (genCx X A s0 H0 cenv fp pn) (wipe σ vs) End n s₀ s₁) (ProtoG (genCx X A s0 H0 cenv fp pn) (wipe σ vs) fp tn stop Found W) n s₀
        (.compLoop (.GeneratorExp elt [⟨tg, iter, [], 0⟩] scope pos) 0 (.ref it) .none cenv) ((model X.prog X.w).den (.compLoop (.GeneratorExp elt [⟨tg, iter, [], 0⟩] scope pos) 0 (.ref it) .none cenv)) [] s := by
  intro m
  induction m using Nat.strongRecOn with
  | ind m ih =>
    intro n i s₀ s H hmn ⟨I, st, nf⟩ w
    show Seg _ A _ _ _ s₀ _ ((compTurn (.GeneratorExp elt [⟨tg, iter, [], 0⟩] scope pos) 0 (.ref it) .none cenv).onRaise (leaving cenv)) [] s
    rw [compTurn_gen, Sem.onRaise_eq_wrap]
    refine seg_bind_wrap (wpAny_standAt ?_)
    rcases turn i m H w with ⟨hs, he⟩ | ⟨hg, Nx, hNx, step⟩
    · refine seg_bind_wrap ?_
      rw [over_gen]
      refine wpAny_mono (T.done (genCx X A s0 H0 cenv fp pn) rfl rfl rfl rfl i [] s _ H (fun _ _ => False) I (stat I nf) st hs) (fun r s6 hr => ?_) fun _ _ e => e.elim
      obtain ⟨hr, I6⟩ := hr
      subst hr
      exact seg_end (.ok .next) ⟨rfl, H, I6, he⟩
    · refine seg_bind_wrap ?_
      rw [over_gen]
      refine wpAny_mono (T.item (genCx X A s0 H0 cenv fp pn) rfl rfl rfl rfl i [] s _ H (fun _ _ => False) I (stat I nf) st hg) (fun r s6 hr => ?_) fun _ _ e => e.elim
      obtain ⟨u, hr, h6⟩ := hr
      subst hr
      dsimp only
      refine seg_bind_wrap ?_
      rw [over_gen]
      refine wpAny_mono h6 (fun _ s7 h7 => ?_) fun _ _ e => e.elim
      obtain ⟨x, H7, I7, r7, y7, st7, n7⟩ := h7
      have I7' := I7.pinned (stat I7 n7) (T.obj _ _ st7)
      refine seg_bind_wrap ?_
      rw [over_gen]
      refine wpAny_mono (pg.run _ s7 _ H7 x u _ I7' r7 (step x H7 y7)) (fun _ s8 h8 => ?_) fun _ _ e => e.elim
      obtain ⟨σ8, H8, I8, hw8, q8⟩ := h8
      have hf : (forIn ([] : List Expr) true fun c r => (if r = true then do let ok ← isTrue c cenv (eval c cenv); pure (ForInStep.yield ok) else pure (ForInStep.yield r) : Sem (ForInStep Bool))) = pure true := rfl
      refine seg_bind_wrap ?_
      rw [over_gen]
      simp only [List.forIn_nil]
      refine wpAny_pure ?_
      simp only [if_true]
      have hy : ∀ v, yieldOut cenv v = yieldValue v := fun v => by simp only [yieldOut, hco, Bool.false_eq_true, if_false]
      simp only [hy]
      rw [Sem.bind_eq_wrap', Sem.bind_eq_wrap', Sem.wrap_wrap, Sem.wrap_wrap]
      refine seg_wrap ?_
      rw [over_gen]
      refine wpAny_mono (pe.run _ s8 σ8 H8 _ I8 q8) (fun y s9 h9 => ?_) fun _ _ e => e.elim
      obtain ⟨yv, H9, I9, r9, c, ec, hfound, hnext⟩ := h9
      subst ec
      have ey : y = Value.bool c := r9
      subst ey
      have fin : RunG (genCx X A s0 H0 cenv fp pn) (wipe σ vs) fp tn (i + 1) H9 s9 := by
        have pin' : ∀ b ∈ fp, ∀ o, s7.heap.get? b = some o → s9.heap.get? b = some o ∧ H9 b = none := fun b hb o e =>
          let z := I9.pin (b, o) (List.mem_append_right _ (List.mem_append_right _ (mem_pinsAt hb e)))
          ⟨z.1, z.2.1⟩
        refine ⟨(I9.unpinned (pins := [])).weak (by rw [← hw8, wipe_length]) (fun j v e => (wipe_some (by rw [hw8]; exact e)).1), T.keep _ _ _ st7 fun b hb o e => (pin' b hb o e).1, fun b hb => ?_⟩
        obtain ⟨o, e, _⟩ := T.obj _ _ st7 b hb
        exact (pin' b hb o e).2
      obtain ⟨n', rfl⟩ : ∃ n', n = n' + 1 := ⟨n - 1, by omega⟩
      refine seg_at (seg_yield rfl rfl rfl ⟨c, i + 1, H9, rfl, fin, hfound, fun nc => ?_⟩)
      obtain ⟨m', hm', w'⟩ := hNx H9 (hnext nc)
      refine ⟨⟨m', by show m' < n'; omega, w'⟩, fun s'' e1 e2 e3 => ?_⟩
      obtain ⟨J1, J2, J3⟩ := fin
      exact seg_again rfl (ih m' hm' n' (i + 1) s'' s'' H9 (by omega) ⟨inv_awake J1 e1 e2 e3, by rw [e1]; exact J2, J3⟩ w')
theorem seg_start {tg iter elt : Expr} {scope : Scope} {pos : Pos} {it : Addr} {J : It} {tn : Nat → Heap → Prop} {g : TG} {te : TE} {vs : List Nat} {σ : L2.St} {stop : Bool} {End Found : Hp → Prop} {W : Nat → Nat → Hp → Prop}
    (T : Turn X.prog X.w X.K tg J fp it tn) (pg : PG (genCx X A s0 H0 cenv fp pn) tg g) (pe : PE (genCx X A s0 H0 cenv fp pn) elt te) (hco : cenv.scope.isCoroutine = false) (hlen : σ.length = X.N.length)
    (stat : ∀ {σ' : L2.St} {H' : Hp} {s' : Shared}, Inv (genCx X A s0 H0 cenv fp pn) [] σ' H' s' → (∀ b ∈ fp, H' b = none) → ∀ b ∈ fp, FpOk (genCx X A s0 H0 cenv fp pn) [] H' b)
    (turn : TurnG J g te vs σ stop End Found W) (m n : Nat) (s₀ s : Shared) (H : Hp) (hmn : m < n) (hr : RunG (genCx X A s0 H0 cenv fp pn) (wipe σ vs) fp tn 0 H s) (w : W 0 m H) :
      Seg (model X.prog X.w) A (fun n s₀ r s₁ => r = .ok .next ∧ EndG (genCx X A s0 H0 cenv fp pn) (wipe σ vs) End n s₀ s₁) (ProtoG (genCx X A s0 H0 cenv fp pn) (wipe σ vs) fp tn stop Found W) n s₀
        (.compStart (.GeneratorExp elt [⟨tg, iter, [], 0⟩] scope pos) 0 (.ref it) .none cenv) ((model X.prog X.w).den (.compStart (.GeneratorExp elt [⟨tg, iter, [], 0⟩] scope pos) 0 (.ref it) .none cenv)) [] s := by
  have loop := seg_loop (iter := iter) (scope := scope) (pos := pos) T pg pe hco hlen stat turn m n 0 s₀ s H hmn hr w
  show Seg _ A _ _ _ s₀ _ ((compStart (.GeneratorExp elt [⟨tg, iter, [], 0⟩] scope pos) 0 (.ref it) .none cenv).onRaise (leaving cenv)) [] s
  unfold compStart
  rw [Sem.onRaise_eq_wrap]
  show Seg _ A _ _ _ s₀ _ ((ask >>= _).wrap _ _ _ _) [] s
  refine seg_bind_wrap (wpAny_askSetting ?_)
  split
  · exact seg_again rfl loop
  · first
      | exact seg_bind_wrap (wpAny_rule (seg_bind_wrap (wpAny_standAt (seg_bind_wrap (T.self _ 0 s _ _ hr.2.1 (seg_again rfl loop))))))
      | (refine seg_bind_wrap (wpAny_rule ?_); show Seg _ A _ _ _ s₀ _ ((standAt iter.pos >>= _).wrap _ _ _ _) [] s; exact seg_bind_wrap (wpAny_standAt (seg_bind_wrap (T.self _ 0 s _ _ hr.2.1 (seg_again rfl loop)))))
end
end GG
set_option Elab.async false
set_option linter.all false
set_option maxRecDepth 100000
set_option maxHeartbeats 2000000
namespace GG
open PySem PySem.Spec PyProof.Rows L2
def Alive (Y : Cx) (A : Around) (σ0 : L2.St) (fp : List Addr) (tn : Nat → Heap → Prop) (stop : Bool) (End Found : Hp → Prop) (W : Nat → Nat → Hp → Prop) (g : Addr) (gi n : Nat) (s : Shared) : Prop :=
  s.heap.IsGen g gi ∧ s.heap.NoLimit ∧ AllBare s.gens ∧ ∃ gs, s.gens[gi]? = some gs ∧ ∀ s'' : Shared, s''.heap = s.heap → s''.os = s.os → AllBare s''.gens →
    gs.Goes (model Y.prog Y.w) A (fun n s₀ r s₁ => r = .ok .next ∧ EndG Y σ0 End n s₀ s₁) (ProtoG Y σ0 fp tn stop Found W) n (.send .none) s''
theorem bare_set {gs : Array GenState} {g : Nat} {x : GenState} (h : AllBare gs) (hx : x.bare = true) : AllBare (gs.setIfInBounds g x) := fun y hy => by
  rcases Array.mem_or_eq_of_mem_setIfInBounds hy with z | z
  · exact h _ z
  · rw [z]; exact hx
theorem setGen_at {s : Shared} {g : Nat} {x : GenState} (h : g + 1 ≤ (s.setGen g x).gens.size) : (s.setGen g x).gens[g]? = some x := by
  rw [GenW.setGen_size] at h
  have hlt : g < s.gens.size := h
  simp [Shared.setGen, hlt]
def GotG (X Y : Cx) (pins : List (Addr × Obj)) (σ : L2.St) (A : Around) (σ0 : L2.St) (fp : List Addr) (tn : Nat → Heap → Prop) (stop : Bool) (End Found : Hp → Prop) (W : Nat → Nat → Hp → Prop) (g : Addr) (gi n : Nat) (r : Option Value) (s' : Shared) : Prop :=
  (r = none ∧ ∃ H', Inv X pins σ H' s' ∧ End H') ∨ ∃ b : Bool, r = some (.bool b) ∧ (b = stop → ∃ H', Inv X pins σ H' s' ∧ Found H') ∧ (b ≠ stop → ∃ n', n' < n ∧ Alive Y A σ0 fp tn stop End Found W g gi n' s')
section
variable {X Y : Cx} {pins : List (Addr × Obj)} {σ σ0 : L2.St} {A : Around} {fp : List Addr} {tn : Nat → Heap → Prop} {stop : Bool} {End Found : Hp → Prop} {W : Nat → Nat → Hp → Prop} {g : Addr} {gi : Nat} {gobj : Obj} {E : Value → Shared → Prop}
theorem next_step (hh : A.handled = none) (hroom : A.depth < recursionLimit)
    (back : ∀ {σ' : L2.St} {H' : Hp} {s' s'' : Shared}, Inv Y [] σ' H' s' → s''.os = s'.os → AllBare s''.gens → (∀ b o, s'.heap.get? b = some o → s''.heap.get? b = some o) → Inv X pins σ H' s'')
    (hpn : Y.pn = [(g, gobj)]) (hgo : ∀ h : Heap, h.get? g = some gobj → h.IsGen g gi) {n : Nat} {s : Shared} (al : Alive Y A.in1 σ0 fp tn stop End Found W g gi n s) :
    wpAny (model Y.prog Y.w) A (pyNext (.ref g)) (fun r s' => GotG X Y pins σ A.in1 σ0 fp tn stop End Found W g gi n r s') E s := by
  obtain ⟨hg, hl, hb, gs, hgs, hgoes⟩ := al
  have hlt : gi + 1 ≤ s.gens.size := by
    rcases Nat.lt_or_ge gi s.gens.size with h | h
    · exact h
    · rw [Array.getElem?_eq_none h] at hgs; cases hgs
  refine GenW.wpAny_gsz hlt ?_
  refine wpAny_pyNext_genexpQ (P := EndG Y σ0 End) hh hl hroom hg hgs (hgoes _ rfl rfl (bare_set hb rfl)) (fun v s₁ gs' hbare hY => ?_) (fun s₁ hp h' hk => ?_)
  · intro hsz
    obtain ⟨b, i, H, rfl, ⟨I, st, nf⟩, hf, hnx⟩ := hY
    have bare' : AllBare (s₁.setGen gi gs').gens := bare_set I.bare hbare
    refine .inr ⟨b, rfl, fun e => ⟨H, back I rfl bare' (fun _ _ z => z), hf e⟩, fun e => ?_⟩
    obtain ⟨_, hk⟩ := hnx e
    cases n with
    | zero => exact (hk s₁ rfl rfl I.bare).elim
    | succ m =>
      have pg : s₁.heap.get? g = some gobj := (I.pin (g, gobj) (List.mem_append_left _ (by rw [hpn]; exact List.mem_singleton.mpr rfl))).1
      exact ⟨m, Nat.lt_succ_self m, hgo _ pg, I.nolimit, bare', gs', setGen_at hsz, fun s'' e1 e2 e3 => hk s'' e1 e2 e3⟩
  · intro _
    obtain ⟨H, I, he⟩ := hp
    exact .inl ⟨rfl, H, back I rfl (bare_set I.bare rfl) hk, he⟩
theorem any_loop {R : Result → Shared → Prop} (hh : A.handled = none) (hroom : A.depth < recursionLimit)
    (back : ∀ {σ' : L2.St} {H' : Hp} {s' s'' : Shared}, Inv Y [] σ' H' s' → s''.os = s'.os → AllBare s''.gens → (∀ b o, s'.heap.get? b = some o → s''.heap.get? b = some o) → Inv X pins σ H' s'')
    (hpn : Y.pn = [(g, gobj)]) (hgo : ∀ h : Heap, h.get? g = some gobj → h.IsGen g gi)
    (h1 : ∀ s' H', Inv X pins σ H' s' → End H' → R (.ok (.ret (.bool false))) s') (h2 : ∀ s' H', Inv X pins σ H' s' → Found H' → R (.ok (.ret (.bool true))) s') :
    ∀ (n : Nat) (s : Shared), Alive Y A.in1.in1 σ0 fp tn true End Found W g gi n s → codeAny (model Y.prog Y.w) A (.builtin "any.loop" ⟨[.ref g], []⟩) R s := by
  intro n
  induction n using Nat.strongRecOn with
  | ind n ih =>
    intro s al
    refine codeAny_builtin F.entry_any_loop ?_
    rw [Around.under_plainId F.plain_any_loop _]
    show wpAny _ A.in1 (pyNext (.ref g) >>= _) _ _ s
    refine wpAny_bind (thn (next_step (A := A.in1) (X := X) (pins := pins) (σ := σ) hh hroom back hpn hgo al) fun r s' hr => ?_)
    rcases hr with ⟨rfl, H', I, e⟩ | ⟨b, rfl, hf, hn⟩
    · exact wpAny_bind (wpAny_rule (wpAny_pure (h1 s' H' I e)))
    · refine wpAny_bind (wpAny_holding (wpAny_truthy_bool ?_))
      refine wpAny_bind (wpAny_letGo ?_)
      cases b with
      | true =>
        obtain ⟨H', I, f⟩ := hf rfl
        simp only [if_true]
        exact wpAny_bind (wpAny_rule (wpAny_pure (h2 s' H' I f)))
      | false =>
        obtain ⟨n', hlt, al'⟩ := hn (by simp)
        simp only [Bool.false_eq_true, if_false]
        exact wpAny_pure ⟨plainId_quiet F.plain_any_loop _, ih n' hlt s' al'⟩
theorem all_loop {R : Result → Shared → Prop} (hh : A.handled = none) (hroom : A.depth < recursionLimit)
    (back : ∀ {σ' : L2.St} {H' : Hp} {s' s'' : Shared}, Inv Y [] σ' H' s' → s''.os = s'.os → AllBare s''.gens → (∀ b o, s'.heap.get? b = some o → s''.heap.get? b = some o) → Inv X pins σ H' s'')
    (hpn : Y.pn = [(g, gobj)]) (hgo : ∀ h : Heap, h.get? g = some gobj → h.IsGen g gi)
    (h1 : ∀ s' H', Inv X pins σ H' s' → End H' → R (.ok (.ret (.bool true))) s') (h2 : ∀ s' H', Inv X pins σ H' s' → Found H' → R (.ok (.ret (.bool false))) s') :
    ∀ (n : Nat) (s : Shared), Alive Y A.in1.in1 σ0 fp tn false End Found W g gi n s → codeAny (model Y.prog Y.w) A (.builtin "all.loop" ⟨[.ref g], []⟩) R s := by
  intro n
  induction n using Nat.strongRecOn with
  | ind n ih =>
    intro s al
    refine codeAny_builtin F.entry_all_loop ?_
    rw [Around.under_plainId F.plain_all_loop _]
    show wpAny _ A.in1 (pyNext (.ref g) >>= _) _ _ s
    refine wpAny_bind (thn (next_step (A := A.in1) (X := X) (pins := pins) (σ := σ) hh hroom back hpn hgo al) fun r s' hr => ?_)
    rcases hr with ⟨rfl, H', I, e⟩ | ⟨b, rfl, hf, hn⟩
    · exact wpAny_bind (wpAny_rule (wpAny_pure (h1 s' H' I e)))
    · refine wpAny_bind (wpAny_holding (wpAny_truthy_bool ?_))
      refine wpAny_bind (wpAny_letGo ?_)
      cases b with
      | false =>
        obtain ⟨H', I, f⟩ := hf rfl
        simp only [Bool.false_eq_true, if_false]
        exact wpAny_bind (wpAny_rule (wpAny_pure (h2 s' H' I f)))
      | true =>
        obtain ⟨n', hlt, al'⟩ := hn (by simp)
        simp only [if_true]
        exact wpAny_pure ⟨plainId_quiet F.plain_all_loop _, ih n' hlt s' al'⟩
end
end GG
set_option Elab.async false
set_option linter.all false
set_option maxRecDepth 100000
set_option maxHeartbeats 4000000
namespace GG
open PySem PySem.Spec PyProof.Rows L2
def TabbedG (P : Addr) (q : Str) (H H' : Hp) : Prop := LamX.TabS H' P q ∧ ∀ b o, b ≠ P → H b = some o → H' b = some o
def tAG (stop : Bool) (P : Addr) (q : Str) (wi : TI) (g : TG) (te : TE) (vs : List Nat) : TE := fun σ H Q => wi σ H fun J H1 => LamX.TabS H1 P q ∧ ∀ H2, TabbedG P q H1 H2 →
  ∃ W : Nat → Nat → Hp → Prop, (∃ m, W 0 m H2) ∧ TurnG J g te vs σ stop (Q (.bl (!stop))) (Q (.bl stop)) W
section
variable {X : Cx}
theorem gen_any {c P : Addr} {q : Str} {k : Nat} {elt tg iter : Expr} {scope : Scope} {own : List (Str × Nat)} {gpos : Pos} {wi : TI} {g : TG} {te : TE} {stop : Bool} {Q' : Value → Shared → Prop} {pins : List (Addr × Obj)} {s : Shared} {σ : L2.St} {H : Hp} {Q : VK}
    (hq : X.env.qual ++ Str.ofString "<genexpr>" = q) (hr : Room (k + 1) X.A) (TB : GxR.TabB X.base X.mg c P) (hcode : X.env.code = .ref c) (hN : X.N.Nodup) (hi : PI X tg iter wi) (ok : GOk X.N X.env.scope scope own)
    (hg : ∀ (s : Shared) (H : Hp) (C : Addr) (code : Value) (fp : List Addr) (pn : List (Addr × Obj)), PG (genCx X X.A.in1.in1 s H (genEnv scope (cloFrom X.env.cells scope.names []) C code builtinsNs X.env) fp pn) tg g)
    (he : ∀ (s : Shared) (H : Hp) (C : Addr) (code : Value) (fp : List Addr) (pn : List (Addr × Obj)), Room k (X.A.in1.in1.deeper (genEnv scope (cloFrom X.env.cells scope.names []) C code builtinsNs X.env)) → PE (genCx X X.A.in1.in1 s H (genEnv scope (cloFrom X.env.cells scope.names []) C code builtinsNs X.env) fp pn) elt te)
    (hs : ∀ x, genFold iter X.env x = pure x) (I0 : Inv X pins σ H s) (h : tAG stop P q wi g te (own.map (·.2)) σ H Q)
    (hQ : ∀ (Y : Cx) (σ0 : L2.St) (fp : List Addr) (tn : Nat → Heap → Prop) (W : Nat → Nat → Hp → Prop) (ga : Addr) (gobj : Obj) (gi n : Nat) (s5 : Shared), Y.prog = X.prog → Y.w = X.w → Y.pn = [(ga, gobj)] → (∀ h : Heap, h.get? ga = some gobj → h.IsGen ga gi) →
      (∀ {σ' : L2.St} {H' : Hp} {s' s'' : Shared}, Inv Y [] σ' H' s' → s''.os = s'.os → AllBare s''.gens → (∀ b o, s'.heap.get? b = some o → s''.heap.get? b = some o) → Inv X pins σ H' s'') →
      Alive Y X.A.in1.in1 σ0 fp tn stop (Q (.bl (!stop))) (Q (.bl stop)) W ga gi n s5 → Q' (.ref ga) s5) :
    wpAny (model X.prog X.w) X.A (eval (.GeneratorExp elt [⟨tg, iter, [], 0⟩] scope gpos) X.env) Q' X.xe s := by
  have hfree : ∀ y ∈ scope.names, y.2 = .free → ∃ c, X.env.cells.lookup y.1 = some c := fun y hy e => (ok.blk.free y hy e).elim (fun k => I0.ok.has _ (.inl k)) fun k => I0.ok.has _ (.inr k)
  have hdp : X.A.depth < recursionLimit := by have := hr.dp; omega
  refine wpAny_GeneratorExp_make ok.co (closure_ok hfree) ok.cell ok.dot ok.blk.kind hdp (thn (hi.run pins s σ H _ I0 h) fun xv sa ha => thn ha fun itv s2 h2 => ?_) hs
  obtain ⟨it, fp, tn, J, H1, rfl, I1, T, st2, f2, tab, turn⟩ := h2
  refine ⟨I1.nolimit, ?_⟩
  obtain ⟨ps, hP, ht, ha⟩ := tab
  have hPs : s2.heap.get? P = some { cls := .none, data := .fields ps } := I1.hok P _ hP
  have cd : PySem.W.CodeHd s2.heap c P := TB.code.keeps fun b u e => I1.bk b u e
  have fP : ∀ b ∈ fp, b ≠ P := fun b hb z => by
    have := (f2 b hb).1
    rw [z, hP] at this; cases this
  have flt : ∀ b ∈ fp, b < s2.heap.objs.size := fun b hb => by
    obtain ⟨o, e, _⟩ := T.obj _ _ st2 b hb
    exact Heap.lt_size e
  have goOn : ∀ (code : Value) (h3 : Heap) (tk : Nat) (H2 : Hp), Inv X pins σ H2 { s2 with heap := h3, toks := tk } → (∀ b o, b ≠ P → s2.heap.get? b = some o → h3.get? b = some o) → s2.heap.objs.size ≤ h3.objs.size → TabbedG P q H1 H2 → (∀ b ∈ fp, H2 b = none) →
      wpAny (model X.prog X.w) X.A (builtinsFor X.env.globals X.env.builtins) (fun bi s₄ => ∀ h', h'.Ns s₄.heap.objs.size (fun y => if y = (".0" : Str) then some (.ref it) else none) → Heap.SameBut s₄.heap.objs.size (s₄.heap.push { cls := .type "frame", data := .dict #[] }) h' →
          Q' (.ref h'.objs.size) { s₄ with
            gens := s₄.gens.push (.fresh (.compStart (.GeneratorExp elt [⟨tg, iter, [], 0⟩] scope gpos) 0 (.ref it) .none (genEnv scope (cloFrom X.env.cells scope.names []) s₄.heap.objs.size code bi X.env))),
            toks := s₄.toks + 1 + 1 + 1,
            heap := h'.push { cls := .type "generator", data := .fields #[.int s₄.gens.size 0, .str "<genexpr>" (s₄.toks + 1), .str (X.env.qual ++ "<genexpr>") (s₄.toks + 1 + 1)] } }) X.xe { s2 with heap := h3, toks := tk } := by
    intro code h3 tk H2 I4 k3 sz3 htab fn
    obtain ⟨bm, bo, e1, e2, e3, e4, e5, e6, e7, e8⟩ := TB.bm
    refine wpAny_builtinsFor (m := X.mg) (by rw [I4.ok.glob]; exact I4.mod.glob.keeps I4.bk) e1 e2 (I4.bk _ _ e5) e6 e7 e8 ?_
    generalize hs4 : ({ s2 with heap := h3, toks := tk } : Shared) = s4 at I4 ⊢
    have eh4 : s4.heap = h3 := by rw [← hs4]
    intro h' hn' hs'
    have hsz : h'.objs.size = s4.heap.objs.size + 1 := by rw [hs'.1, Heap.size_push]
    have keep' : ∀ b o, s4.heap.get? b = some o → h'.get? b = some o := fun b o e => hs'.extBut b o (Nat.ne_of_lt (Heap.lt_size e)) (Heap.get?_push_of_some _ e)
    generalize hgo : ({ cls := .type "generator", data := .fields #[.int s4.gens.size 0, .str "<genexpr>" (s4.toks + 1), .str (X.env.qual ++ "<genexpr>") (s4.toks + 1 + 1)] } : Obj) = gobj
    have hgc : gobj.cls = .type "generator" ∧ ∃ nm qn, gobj.data = .fields #[.int s4.gens.size 0, nm, qn] ∧ gobj.slots = #[] := by rw [← hgo]; exact ⟨rfl, _, _, rfl, rfl⟩
    have hgd : ∀ v, gobj.data ≠ .cell v := fun v z => by rw [← hgo] at z; cases z
    have gp : ∀ hh : Heap, (hh.push gobj).get? hh.objs.size = some gobj := fun hh => by rw [← hgo]; exact Heap.get?_push_size _ rfl
    have keep₅ : ∀ b o, s4.heap.get? b = some o → (h'.push gobj).get? b = some o := fun b o e => Heap.get?_push_of_some _ (keep' b o e)
    have f4 : ∀ b ∈ fp, FpOk X pins H2 b ∧ b < s4.heap.objs.size := fun b hb => ⟨⟨fn b hb, (f2 b hb).2⟩, by rw [eh4]; exact Nat.lt_of_lt_of_le (flt b hb) sz3⟩
    generalize hce : genEnv scope (cloFrom X.env.cells scope.names []) s4.heap.objs.size code builtinsNs X.env = ce
    have cL : ce.locals = s4.heap.objs.size := by rw [← hce]; rfl
    have I5 : Inv (genCx X X.A.in1.in1 s4 H2 ce fp [(h'.objs.size, gobj)]) [] (wipe σ (own.map (·.2))) H2 { s4 with heap := h'.push gobj, gens := s4.gens.push (.fresh (.compStart (.GeneratorExp elt [⟨tg, iter, [], 0⟩] scope gpos) 0 (.ref it) .none ce)), toks := s4.toks + 1 + 1 + 1 } := by
      rw [← hce]
      refine gen_start (A := X.A.in1.in1) (fp := fp) (d' := s4.drawn) I4 ok hN hr.hd rfl f4 (hn'.push _) keep₅ (AllBare.push I4.bare rfl) fun p hp => ?_
      rw [List.mem_singleton.mp hp]
      exact ⟨gp _, by show s4.heap.objs.size < h'.objs.size; omega, hgd⟩
    obtain ⟨W, ⟨m0, w0⟩, trn⟩ := turn H2 htab
    have pg := hg s4 H2 s4.heap.objs.size code fp [(h'.objs.size, gobj)]
    have pe := he s4 H2 s4.heap.objs.size code fp [(h'.objs.size, gobj)] (⟨hr.hd, by have := hr.dp; show X.A.depth + 1 + 3 * k + 5 < _; omega, by have := hr.un; show X.A.units + 1 + 1 + 3 + 16 * k + 200 < _; omega⟩)
    rw [hce] at pg pe
    have stat : ∀ {σ' : L2.St} {H' : Hp} {s' : Shared}, Inv (genCx X X.A.in1.in1 s4 H2 ce fp [(h'.objs.size, gobj)]) [] σ' H' s' → (∀ b ∈ fp, H' b = none) → ∀ b ∈ fp, FpOk (genCx X X.A.in1.in1 s4 H2 ce fp [(h'.objs.size, gobj)]) [] H' b := fun {σ' H' s'} I' hn b hb =>
      ⟨hn b hb, (I'.ok.exf b hb).1, I'.ok.exfs b hb, .inl hb, fun x c e => (I'.ok.exf b hb).2 x c e, fun p hp => by
        have hp : p ∈ [(h'.objs.size, gobj)] := by simpa using hp
        rw [List.mem_singleton.mp hp]
        show h'.objs.size ≠ b
        exact Nat.ne_of_gt (by rw [hsz]; exact Nat.lt_succ_of_lt (f4 b hb).2)⟩
    refine hQ (genCx X X.A.in1.in1 s4 H2 ce fp [(h'.objs.size, gobj)]) (wipe σ (own.map (·.2))) fp tn W h'.objs.size gobj s4.gens.size (m0 + 1) _ rfl rfl rfl (fun hh e => ?_) (fun {σ' H' s' s''} I' ho hb kk => ?_) ?_
    · obtain ⟨q1, nm, qn, q2, q3⟩ := hgc
      exact ⟨gobj, nm, qn, e, q1, q2, q3⟩
    · have J1 : Inv X pins σ H' { s' with gens := s''.gens } := I4.call' (ch := fp) I'.os I'.base I'.hok hb fun b hb => ⟨(f4 b hb).1.2.2.2.1, (f4 b hb).1.2.1, (f4 b hb).1.2.2.2.2.1, (f4 b hb).1.2.2.2.2.2⟩
      exact J1.call' (ch := []) ho (Un.kept kk) (J1.hok.kept kk) hb fun b z => absurd z (by simp)
    · refine ⟨?_, I5.nolimit, I5.bare, .fresh (.compStart (.GeneratorExp elt [⟨tg, iter, [], 0⟩] scope gpos) 0 (.ref it) .none ce), Array.getElem?_push_size .., fun s'' e1 e2 e3 => ⟨rfl, ?_⟩⟩
      · obtain ⟨q1, nm, qn, q2, q3⟩ := hgc
        exact ⟨gobj, nm, qn, gp _, q1, q2, q3⟩
      · refine seg_start (X := X) (vs := own.map (·.2)) (J := J) (g := g) (te := te) T pg pe (by rw [← hce]; exact ok.co) I4.len stat trn m0 (m0 + 1) s'' s'' H2 (Nat.lt_succ_self _) ⟨inv_awake I5 e1 e2 e3, ?_, fn⟩ w0
        rw [e1]
        refine T.keep _ _ _ st2 fun b hb o e => keep₅ b o ?_
        rw [eh4]
        exact k3 b o (fP b hb) e
  cases hf : codeAmong gpos ps.toList with
  | none =>
    refine wpAny_genexprCodeX hcode (cd.code hPs ht) (cd.tab hPs) hf fun c' h' tk hx3 hge hlt hco' hrec' htab' _ => ?_
    obtain ⟨o1, vs1, f1, tf, fl, tg1, inF, tx, tt, op, _, _, _, _, _, _, _, _, _, htr, _⟩ := hco'
    have nC : H1 c' = none := I1.hok.fresh hge
    have nPc : P ≠ c' := ne_of_none hP nC
    obtain ⟨c2, oc, vs, t, y0, hoc, hd2, hv2⟩ := hrec'
    cases y0
    have I4 := LamX.inv_table (q := q) (t' := tk) (more := #[rawInt gpos.line, rawInt gpos.col, .ref c']) I1 hP (fun b o nb e => hx3 b o nb e) htab'.2 hge ⟨oc, vs, t, hoc, hd2, by rw [← hq]; exact hv2⟩
    have hE : ∀ b o, b ≠ P → H1 b = some o → upd (upd H1 P (.tbl (ps ++ #[rawInt gpos.line, rawInt gpos.col, .ref c']))) c' (LamX.CodeO c' q) b = some o := fun b o n e => by rw [upd_ne (ne_of_none e nC), upd_ne n]; exact e
    refine goOn _ h' tk _ I4 (fun b o nb e => hx3 b o nb e) (Nat.le_trans hge (Nat.le_of_lt hlt)) ⟨⟨_, by rw [upd_ne nPc, upd_same], htr, fun p' cv hcv => ?_⟩, hE⟩ fun b hb => ?_
    · have eL : (ps ++ #[rawInt gpos.line, rawInt gpos.col, Value.ref c']).toList = ps.toList ++ [rawInt gpos.line, rawInt gpos.col, .ref c'] := by simp
      rw [eL] at hcv
      rcases LamX.among_app _ ht hcv with z | z
      · obtain ⟨c0, y1, y2⟩ := ha p' cv z
        exact ⟨c0, y1, hE _ _ (fun z => by rw [z, hP] at y2; cases y2) y2⟩
      · exact ⟨c', z, upd_same⟩
    · rw [upd_ne (Nat.ne_of_lt (Nat.lt_of_lt_of_le (flt b hb) hge)), upd_ne (fP b hb)]
      exact (f2 b hb).1
  | some cv =>
    refine wpAny_genexprCode_hit hcode (cd.code hPs ht) hf ?_
    exact goOn cv s2.heap s2.toks H1 I1 (fun _ _ _ e => e) (Nat.le_refl _) ⟨⟨ps, hP, ht, ha⟩, fun _ _ _ e => e⟩ fun b hb => (f2 b hb).1
theorem pe_anyG {c P : Addr} {q : Str} {k : Nat} {elt tg iter : Expr} {scope : Scope} {own : List (Str × Nat)} {p gpos pos : Pos} {wi : TI} {g : TG} {te : TE}
    (hq : X.env.qual ++ Str.ofString "<genexpr>" = q) (hr : Room (k + 1) X.A) (hgl : Gl X "any") (hm : X.mg "any" = none) (TB : GxR.TabB X.base X.mg c P) (hcode : X.env.code = .ref c) (hN : X.N.Nodup) (hi : PI X tg iter wi) (ok : GOk X.N X.env.scope scope own)
    (hg : ∀ (s : Shared) (H : Hp) (C : Addr) (code : Value) (fp : List Addr) (pn : List (Addr × Obj)), PG (genCx X X.A.in1.in1 s H (genEnv scope (cloFrom X.env.cells scope.names []) C code builtinsNs X.env) fp pn) tg g)
    (he : ∀ (s : Shared) (H : Hp) (C : Addr) (code : Value) (fp : List Addr) (pn : List (Addr × Obj)), Room k (X.A.in1.in1.deeper (genEnv scope (cloFrom X.env.cells scope.names []) C code builtinsNs X.env)) → PE (genCx X X.A.in1.in1 s H (genEnv scope (cloFrom X.env.cells scope.names []) C code builtinsNs X.env) fp pn) elt te)
    (hs : ∀ x, genFold iter X.env x = pure x := by intro _; rfl)
    (hst : starEach [.GeneratorExp elt [⟨tg, iter, [], 0⟩] scope gpos] X.env = (false, eval (.GeneratorExp elt [⟨tg, iter, [], 0⟩] scope gpos) X.env) :: starEach [] X.env := by rfl) :
    PE X (.Call (.Name "any" p) [.GeneratorExp elt [⟨tg, iter, [], 0⟩] scope gpos] [] pos) (tAG true P q wi g te (own.map (·.2))) := by
  refine ⟨fun pins s σ H Q I h => ?_⟩
  refine wpAny_Call_Name_kw (ld_blt I hgl hm boot_any ?_)
  refine PyProof.Rows.callWith_builtin1 ?_ hst (by rfl)
  rw [hst]
  show wpAny _ _ (spliced ((false, eval (.GeneratorExp elt [⟨tg, iter, [], 0⟩] scope gpos) X.env) :: backTo pos (starEach [] X.env))) _ _ s
  refine Calls.spliced_cons (gen_any hq hr TB hcode hN hi ok hg he hs I h fun Y σ0 fp tn W ga gobj gi n s5 ep ew hpn hgo back al => ?_)
  refine Calls.spliced_nil ?_
  have hg5 : s5.heap.IsGen ga gi := al.1
  refine call_function_tree F.kind_any F.plain_any F.entry_any (F.args_any1 _) ?_
  unfold Builtin.«any»
  refine wpAny_bind (m := oneArg "any" _) (wpAny_pure ?_)
  refine wpAny_bind (wpAny_pyIter_gen hg5 ?_)
  refine wpAny_pure ⟨plainId_quiet F.plain_any_loop _, ?_⟩
  rw [← ep, ← ew]
  refine any_loop (X := X) (pins := pins) (σ := σ) (A := X.A) hr.hd (by have := hr.dp; omega) back hpn hgo (fun s' H' J e => ?_) (fun s' H' J e => ?_) n s5 al
  · exact ⟨.bl false, H', J, rfl, e⟩
  · exact ⟨.bl true, H', J, rfl, e⟩
theorem pe_allG {c P : Addr} {q : Str} {k : Nat} {elt tg iter : Expr} {scope : Scope} {own : List (Str × Nat)} {p gpos pos : Pos} {wi : TI} {g : TG} {te : TE}
    (hq : X.env.qual ++ Str.ofString "<genexpr>" = q) (hr : Room (k + 1) X.A) (hgl : Gl X "all") (hm : X.mg "all" = none) (TB : GxR.TabB X.base X.mg c P) (hcode : X.env.code = .ref c) (hN : X.N.Nodup) (hi : PI X tg iter wi) (ok : GOk X.N X.env.scope scope own)
    (hg : ∀ (s : Shared) (H : Hp) (C : Addr) (code : Value) (fp : List Addr) (pn : List (Addr × Obj)), PG (genCx X X.A.in1.in1 s H (genEnv scope (cloFrom X.env.cells scope.names []) C code builtinsNs X.env) fp pn) tg g)
    (he : ∀ (s : Shared) (H : Hp) (C : Addr) (code : Value) (fp : List Addr) (pn : List (Addr × Obj)), Room k (X.A.in1.in1.deeper (genEnv scope (cloFrom X.env.cells scope.names []) C code builtinsNs X.env)) → PE (genCx X X.A.in1.in1 s H (genEnv scope (cloFrom X.env.cells scope.names []) C code builtinsNs X.env) fp pn) elt te)
    (hb : bootBuiltins "all" = some (.builtin "all") := by decide +kernel)
    (hs : ∀ x, genFold iter X.env x = pure x := by intro _; rfl)
    (hst : starEach [.GeneratorExp elt [⟨tg, iter, [], 0⟩] scope gpos] X.env = (false, eval (.GeneratorExp elt [⟨tg, iter, [], 0⟩] scope gpos) X.env) :: starEach [] X.env := by rfl) :
    PE X (.Call (.Name "all" p) [.GeneratorExp elt [⟨tg, iter, [], 0⟩] scope gpos] [] pos) (tAG false P q wi g te (own.map (·.2))) := by
  refine ⟨fun pins s σ H Q I h => ?_⟩
  refine wpAny_Call_Name_kw (ld_blt I hgl hm hb ?_)
  refine PyProof.Rows.callWith_builtin1 ?_ hst (by rfl)
  rw [hst]
  show wpAny _ _ (spliced ((false, eval (.GeneratorExp elt [⟨tg, iter, [], 0⟩] scope gpos) X.env) :: backTo pos (starEach [] X.env))) _ _ s
  refine Calls.spliced_cons (gen_any hq hr TB hcode hN hi ok hg he hs I h fun Y σ0 fp tn W ga gobj gi n s5 ep ew hpn hgo back al => ?_)
  refine Calls.spliced_nil ?_
  have hg5 : s5.heap.IsGen ga gi := al.1
  refine call_function_tree F.kind_all F.plain_all F.entry_all (F.args_all1 _) ?_
  unfold Builtin.«all»
  refine wpAny_bind (m := oneArg "all" _) (wpAny_pure ?_)
  refine wpAny_bind (wpAny_pyIter_gen hg5 ?_)
  refine wpAny_pure ⟨plainId_quiet F.plain_all_loop _, ?_⟩
  rw [← ep, ← ew]
  refine all_loop (X := X) (pins := pins) (σ := σ) (A := X.A) hr.hd (by have := hr.dp; omega) back hpn hgo (fun s' H' J e => ?_) (fun s' H' J e => ?_) n s5 al
  · exact ⟨.bl true, H', J, rfl, e⟩
  · exact ⟨.bl false, H', J, rfl, e⟩
end
end GG
set_option Elab.async false
set_option linter.all false
set_option maxRecDepth 100000
set_option maxHeartbeats 2000000
namespace FM
open PySem PySem.Spec PyProof.Rows L2 LamX
def Fm (T : List (Addr × Str)) (S : Addr → Prop) (H H' : Hp) : Prop := Tabs T H' ∧ ∀ b o, ¬ S b → H b = some o → (∀ ps, o ≠ .tbl ps) → H' b = some o
def Uq (T : List (Addr × Str)) : Prop := ∀ p ∈ T, ∀ p' ∈ T, p.1 = p'.1 → p.2 = p'.2
abbrev N0 : Addr → Prop := fun _ => False
variable {T : List (Addr × Str)} {S S' : Addr → Prop} {H H' H1 H2 : Hp}
theorem Fm.refl (t : Tabs T H) : Fm T S H H := ⟨t, fun _ _ _ h _ => h⟩
theorem Fm.trans (a : Fm T S H H1) (b : Fm T S H1 H2) : Fm T S H H2 := ⟨b.1, fun x o n h t => b.2 x o n (a.2 x o n h t) t⟩
theorem Fm.mono (a : Fm T S H H1) (h : ∀ b, S b → S' b) : Fm T S' H H1 := ⟨a.1, fun x o n => a.2 x o fun z => n (h x z)⟩
theorem Fm.of0 (a : Fm T N0 H H1) : Fm T S H H1 := a.mono fun _ z => z.elim
theorem Fm.ex (t : Tabs T H) (e : KS.Ex H H') : Fm T S H H' := ⟨t.ext e, fun b o _ h _ => e b o h⟩
theorem Fm.shrink (a : Fm T S' H H1) (h : ∀ b, S' b → S b ∨ H b = none) : Fm T S H H1 := ⟨a.1, fun x o n e => a.2 x o (fun z => (h x z).elim n fun q => by rw [q] at e; cases e) e⟩
theorem Fm.shrinkT (a : Fm T S' H H1) (h : ∀ b, S' b → S b ∨ ∀ o, H b = some o → ∃ ps, o = .tbl ps) : Fm T S H H1 := ⟨a.1, fun x o n e nt => a.2 x o (fun z => (h x z).elim n fun q => (q o e).elim fun ps z => nt ps z) e nt⟩
theorem Fm.newT (a : Fm T S H H1) {b : Addr} (h : H1 b = none) (nS : ¬ S b) : ∀ o, H b = some o → ∃ ps, o = .tbl ps := fun o e => Classical.byContradiction fun n => by
  rw [a.2 b o nS e fun ps z => n ⟨ps, z⟩] at h; cases h
theorem Fm.tab {P : Addr} {q : Str} (u : Uq T) (hm : (P, q) ∈ T) (t : Tabs T H) (h1 : TabS H' P q) (h2 : ∀ b o, b ≠ P → H b = some o → H' b = some o) : Fm T S H H' := by
  obtain ⟨ps0, hP, _⟩ := t _ hm
  refine ⟨fun p hp => ?_, fun b o _ h n => h2 b o (fun z => n ps0 (Option.some.inj (by rw [← h, z]; exact hP))) h⟩
  by_cases c : p.1 = P
  · have e : p.2 = q := u p hp _ hm c
    rw [e, c]
    exact h1
  · obtain ⟨ps, a1, a2, a3⟩ := t p hp
    refine ⟨ps, h2 _ _ c a1, a2, fun pos cv hc => ?_⟩
    obtain ⟨c0, e1, e2⟩ := a3 pos cv hc
    exact ⟨c0, e1, h2 _ _ (fun z => by rw [z, hP] at e2; cases e2) e2⟩
theorem tabs_wr {r : Addr} {o u : HO} (t : Tabs T H) (h : H r = some o) (n1 : ∀ ps, o ≠ .tbl ps) (n2 : ∀ φ, o ≠ .ext φ) : Tabs T (upd H r u) := fun p hp => by
  obtain ⟨ps, a1, a2, a3⟩ := t p hp
  refine ⟨ps, by rw [L2.upd_ne (fun z => by rw [z, h] at a1; exact n1 _ (Option.some.inj a1))]; exact a1, a2, fun pos cv hc => ?_⟩
  obtain ⟨c0, e1, e2⟩ := a3 pos cv hc
  exact ⟨c0, e1, by rw [L2.upd_ne (fun z => by rw [z, h] at e2; exact n2 _ (Option.some.inj e2))]; exact e2⟩
theorem Fm.wr {r : Addr} {o u : HO} (t : Tabs T H) (h : H r = some o) (n1 : ∀ ps, o ≠ .tbl ps) (n2 : ∀ φ, o ≠ .ext φ) (hs : S r) : Fm T S H (upd H r u) :=
  ⟨tabs_wr t h n1 n2, fun b o' nb hb _ => by rw [L2.upd_ne (fun z => nb (by rw [z]; exact hs))]; exact hb⟩
theorem Fm.new {r : Addr} {u : HO} (t : Tabs T H) (h : H r = none) : Fm T S H (upd H r u) := Fm.ex t (KS.Ex.upd h)
theorem Fm.at' (a : Fm T S H H') {b : Addr} {o : HO} (h : H b = some o) (nS : ¬ S b) (n : ∀ ps, o ≠ .tbl ps := by intro _ z; cases z) : H' b = some o := a.2 b o nS h n
theorem Fm.at0 (a : Fm T N0 H H') {b : Addr} {o : HO} (h : H b = some o) (n : ∀ ps, o ≠ .tbl ps := by intro _ z; cases z) : H' b = some o := a.2 b o id h n
theorem Fm.exN (a : ExtN H H') (t : Tabs T H') : Fm T S H H' := ⟨t, fun b o _ h n => a b o h n⟩
theorem ne_tab {P : Addr} {q : Str} (t : TabS H P q) {b : Addr} {o : HO} (h : H b = some o) (n : ∀ ps, o ≠ .tbl ps := by intro _ z; cases z) : b ≠ P := fun z => by
  obtain ⟨ps, hp, _⟩ := t
  rw [z, hp] at h
  exact n ps (Option.some.inj h).symm
theorem Fm.none (a : Fm T S H H1) (h : H1 b = none) (n : ∀ ps, H b ≠ some (.tbl ps)) (nS : ¬ S b) : H b = none := by
  cases e : H b with
  | none => rfl
  | some o => rw [a.2 b o nS e (fun ps z => n ps (by rw [e, z]))] at h; cases h
theorem Fm.unlock {d : Addr} {od : Obj} {o : HO} (h : H d = some o) (f : Fm T N0 (upd H d (.frz od o)) H') : Fm T N0 H (upd H' d o) := by
  have hd : H' d = some (.frz od o) := f.at0 (b := d) L2.upd_same
  refine ⟨tabs_wr f.1 hd (by intro _ z; cases z) (by intro _ z; cases z), fun b o' _ hb n => ?_⟩
  by_cases c : b = d
  · rw [c, h] at hb
    rw [c, L2.upd_same]
    exact hb
  · rw [L2.upd_ne c]
    exact f.2 b o' id (by rw [L2.upd_ne c]; exact hb) n
end FM
set_option Elab.async false
set_option linter.all false
set_option maxRecDepth 100000
set_option maxHeartbeats 2000000
namespace FM
open PySem PySem.Spec PyProof.Rows L2 LamX
def TuZ (H : Hp) (t : Addr) (xs : List V) : Prop := ∃ o : Obj, o.dict = none ∧ H t = some (.frz o (.tup xs))
theorem TuZ.sq {K : PySem.W.Frag} {H : Hp} {t : Addr} {xs : List V} (h : TuZ H t xs) : SqT K H t xs := by
  obtain ⟨o, _, e⟩ := h
  exact .inl (.inr ⟨o, e⟩)
theorem TuZ.ex {H H' : Hp} {t : Addr} {xs : List V} (h : TuZ H t xs) (e : KS.Ex H H') : TuZ H' t xs := by
  obtain ⟨o, z, q⟩ := h
  exact ⟨o, z, e _ _ q⟩
theorem TuZ.fm {T : List (Addr × Str)} {S : Addr → Prop} {H H' : Hp} {t : Addr} {xs : List V} (h : TuZ H t xs) (e : Fm T S H H') (nS : ¬ S t) : TuZ H' t xs := by
  obtain ⟨o, z, q⟩ := h
  exact ⟨o, z, e.at' q nS⟩
theorem call_tupleZ {X : Cx} : CallR X (.type "tuple") (fun xs H Q => ∃ p ys, xs = [.ref p] ∧ SqL X.K H p ys ∧ ∀ l (o : Obj), H l = none → o.dict = none → Q (.ref l) (upd H l (.frz o (.tup ys)))) := by
  intro pins s σ H xs us Q I r h
  obtain ⟨p, ys, rfl, hq, q⟩ := h
  obtain ⟨u, rfl, rx⟩ := vals1 r
  cases rx
  obtain ⟨its, r', pl, hz⟩ := I.list hq
  have hlen := r'.length
  refine call_tuple_list pl.isList (fun h' kp => ?_) (by simp only [List.size_toArray] <;> omega)
  have I1 : Inv X pins σ H { s with heap := h' } := I.kept (t' := s.toks) kp
  have I2 : Inv X pins σ (upd H h'.objs.size (.frz { cls := .type "tuple", data := .seq its.toArray } (.tup ys))) { s with heap := h'.push { cls := .type "tuple", data := .seq its.toArray } } :=
    I1.laid (t' := s.toks) (fun b o e => Heap.get?_push_of_some _ e) (Nat.le_refl _) (show ObjOk X.prog X.w _ _ _ (.frz _ (.tup ys)) from ⟨Heap.get?_push_size _ rfl, hz, its, r', IsTup.new _ _⟩)
  exact ⟨.ref h'.objs.size, _, I2, rfl, q _ _ (I1.hok.fresh (Nat.le_refl _)) rfl⟩
def rDictTu : List V → Hp → VK → Prop := fun vs H Q => ∃ (a : Addr) (ps : List Addr) (kvs : List (Key × V)), vs = [.ref a] ∧ TuZ H a (ps.map V.ref) ∧ Paired (fun p kv => H p = some (.tup [kV kv.1, kv.2])) ps kvs ∧ ∀ p, H p = none → Q (.ref p) (upd H p (.dK (mergeK [] kvs)))
theorem pairsTu {X : Cx} {pins : List (Addr × Obj)} {σ : L2.St} {H : Hp} {s : Shared} (I : Inv X pins σ H s) : ∀ {ps : List Addr} {kvs : List (Key × V)}, Paired (fun p kv => H p = some (.tup [kV kv.1, kv.2])) ps kvs →
    ∃ prs : List (Key × Value), KV kvs prs ∧ prs.length = ps.length ∧ ∀ (j : Nat) (q : Key × Value), prs[j]? = some q → ∃ (b : Addr) (u : Value), ps[j]? = some b ∧ s.heap.IsTuple b #[u, q.2] ∧ (mixKind X.prog X.w).is q.1 u = true
  | _, _, .nil => ⟨[], .nil, rfl, fun j q e => by simp at e⟩
  | _, _, .cons (a := p) (b := kv) h t => by
    obtain ⟨prs, r, hl, hp⟩ := pairsTu I t
    obtain ⟨hz, its, rv, hraw⟩ := (show ObjOk X.prog X.w H s.heap p (.tup [kV kv.1, kv.2]) from I.hok p _ h)
    obtain ⟨u, y, ei, ru, ry⟩ := vals2 rv
    subst ei
    refine ⟨(kv.1, y) :: prs, .cons ⟨rfl, ry⟩ r, by rw [List.length_cons, List.length_cons, hl], fun j q e => ?_⟩
    cases j with
    | zero =>
      have e' : (kv.1, y) = q := Option.some.inj e
      subst e'
      refine ⟨p, u, rfl, ?_, kV_is (P := X.prog) (w := X.w) ru⟩
      obtain ⟨o, ho, hc, n, hd⟩ := hraw
      exact ⟨o, ho, hc, n, hd⟩
    | succ j =>
      obtain ⟨b, u', e1, e2, e3⟩ := hp j q (by simpa using e)
      exact ⟨b, u', by simpa using e1, e2, e3⟩
theorem call_dictTu {X : Cx} (hc : X.calm = true) : CallR X (.type "dict") rDictTu := by
  intro pins s σ H vs us Q I r h
  obtain ⟨a, ps, kvs, rfl, ⟨ot, hdn, ha⟩, hp, q⟩ := h
  obtain rfl := Vals.ref1 r
  obtain ⟨prs, rel, hl, hpr⟩ := pairsTu I hp
  obtain ⟨ho, hz, its, ri, hraw⟩ := (show ObjOk X.prog X.w H s.heap a (.frz ot (.tup (ps.map V.ref))) from I.hok a _ ha)
  have ei := refs_at ri
  subst ei
  rw [List.length_map] at hz
  obtain ⟨o', ho', hcl, n, hdat⟩ := hraw
  have e : o' = ot := Option.some.inj (ho'.symm.trans ho)
  subst e
  have key : ∃ uk : List Value, uk.length = prs.length ∧ ∀ (j : Nat) (q : Key × Value), prs[j]? = some q → ∃ (b : Addr) (u : Value), ps[j]? = some b ∧ uk[j]? = some u ∧ s.heap.IsTuple b #[u, q.2] ∧ (mixKind X.prog X.w).is q.1 u = true := by
    have all : ∀ j : Nat, ∃ u : Value, ∀ q : Key × Value, prs[j]? = some q → ∃ b : Addr, ps[j]? = some b ∧ s.heap.IsTuple b #[u, q.2] ∧ (mixKind X.prog X.w).is q.1 u = true := fun j => by
      cases hj : prs[j]? with
      | none => exact ⟨.none, fun q e => nomatch e⟩
      | some q =>
        obtain ⟨b, u, e1, e2, e3⟩ := hpr j q hj
        exact ⟨u, fun q' e => by cases e; exact ⟨b, e1, e2, e3⟩⟩
    obtain ⟨f, hf⟩ := Classical.axiomOfChoice all
    refine ⟨(List.range prs.length).map f, by simp, fun j q e => ?_⟩
    obtain ⟨b, e1, e2, e3⟩ := hf j q e
    have hj := (List.getElem?_eq_some_iff.mp e).1
    exact ⟨b, f j, e1, by simp [hj], e2, e3⟩
  obtain ⟨uk, ul, huk⟩ := key
  have pl : (uk.zip (prs.map (·.2))).length = ps.length := by simp [ul, hl]
  have get : ∀ (j : Nat) (k v : Value), (uk.zip (prs.map (·.2)))[j]? = some (k, v) → ∃ (q : Key × Value) (b : Addr), prs[j]? = some q ∧ q.2 = v ∧ ps[j]? = some b ∧ s.heap.IsTuple b #[k, v] ∧ (mixKind X.prog X.w).is q.1 k = true := fun j k v e => by
    rw [List.getElem?_zip_eq_some] at e
    obtain ⟨e1, e2⟩ := e
    rw [List.getElem?_map] at e2
    obtain ⟨q, e3, e4⟩ := Option.map_eq_some_iff.mp e2
    obtain ⟨b, u, z1, z2, z3, z4⟩ := huk j q e3
    rw [e1] at z2; cases z2
    have e4 : q.2 = v := e4
    exact ⟨q, b, e3, e4, z1, by rw [← e4]; exact z3, z4⟩
  have items : PairItems s.heap (ps.map Value.ref).toArray (fun j => ps.getD j 0) (uk.zip (prs.map (·.2))) := by
    refine ⟨by simp [ul, hl], fun j k v hj => ?_⟩
    obtain ⟨q, b, _, _, e3, e4, _⟩ := get j k v hj
    refine ⟨by simp [e3], .inl ?_⟩
    have e2 : ps.getD j 0 = b := by simp [List.getD, e3]
    show s.heap.IsTuple (ps.getD j 0) _
    rw [e2]
    exact e4
  have have_ : PairsHave (mixKind X.prog X.w) (uk.zip (prs.map (·.2))).length (PairRel (uk.zip (prs.map (·.2)))) prs := by
    refine ⟨by rw [pl, hl], fun i key v hj => ?_⟩
    obtain ⟨q, b, e1, e2, _, _, e5⟩ := get i key v hj
    exact ⟨q.1, by rw [e1, ← e2], e5⟩
  have hm : (s.heap.objs.size == sysModules) = false := beq_eq_false_iff_ne.mpr (Nat.ne_of_gt I.big)
  refine PySem.call_dict_pairs (knd := mixKind X.prog X.w) (PairArg.tuple a _ _ _) (I.ok.hd hc) ⟨⟨o', n, ho, hcl, hdn, hdat⟩, items⟩ have_ (by rw [pl]; exact hz) fun h' tk hd' k => ?_
  have hlen : (mergeK [] kvs).length ≤ sizeLine := by
    refine Nat.le_trans (length_mergeK kvs []) ?_
    rw [List.length_nil, Nat.zero_add, rel.length, hl]
    exact hz
  exact ⟨.ref s.heap.objs.size, upd H s.heap.objs.size (.dK (mergeK [] kvs)), I.laid (t' := tk) (fun b o e => k b o (by simp) e) (Nat.le_refl _) (show ObjOk X.prog X.w _ _ _ (.dK (mergeK [] kvs)) from ⟨hlen, hm, merged [] prs, KV.merge rel .nil, hd'⟩), rfl, q _ (I.hok.fresh (Nat.le_refl _))⟩
theorem merge_selfK : ∀ (B A : List (Key × V)), ((A ++ B).map (·.1)).Nodup → mergeK A B = A ++ B
  | [], A, _ => by simp [mergeK]
  | b :: B, A, h => by
    have hb : ¬ (A.any fun x => decide (x.1 = b.1)) = true := fun c => by
      obtain ⟨x, hx, e⟩ := List.any_eq_true.mp c
      have e : x.1 = b.1 := by simpa using e
      rw [List.map_append, List.nodup_append] at h
      exact h.2.2 x.1 (List.mem_map_of_mem hx) b.1 (List.mem_map_of_mem List.mem_cons_self) e
    have ep : putK A b.1 b.2 = A ++ [b] := by unfold putK; rw [if_neg hb]
    show mergeK (putK A b.1 b.2) B = _
    rw [ep, merge_selfK B (A ++ [b]) (by simpa using h)]
    simp
end FM
set_option Elab.async false
set_option linter.all false
set_option maxRecDepth 100000
set_option maxHeartbeats 4000000
namespace KL0
open PySem PySem.Spec PyProof.Rows L2 KB KC KS KN1 LamX K7
abbrev sSM (j : Nat) : Stmt := inClass sShape j
abbrev Co := List (Str × Str)
def placeIn (cols : Co) (n : Str) : Option Nat := cols.findIdx? fun p => decide (p.1 = n)
theorem paired_mono {α β : Type} {F G : α → β → Prop} (h : ∀ a b, F a b → G a b) : ∀ {xs : List α} {ys : List β}, Paired F xs ys → Paired G xs ys
  | _, _, .nil => .nil
  | _, _, .cons q r => .cons (h _ _ q) (paired_mono h r)
def Cols (H : Hp) : List Addr → Co → Prop := Paired fun t (x : Str × Str) => H t = some (.tup [.str x.1, .str x.2])
theorem Cols.ex {H H' : Hp} {ts : List Addr} {cs : Co} (h : Cols H ts cs) (e : KS.Ex H H') : Cols H' ts cs := paired_mono (fun t x q => e _ _ q) h
theorem take_snoc {α : Type} {l : List α} {i : Nat} {x : α} (h : l[i]? = some x) : l.take (i + 1) = l.take i ++ [x] := by rw [List.take_add_one, h]; rfl
def sF (t d : Addr) : List (Str × V) := [("columns", .ref t), ("places", .ref d)]
def ShA (CS c : Addr) (cols : Co) (H : Hp) : Prop := ∃ (dx t d : Addr) (ts : List Addr) (kvs : List (Key × V)), H c = some (.ins CS dx (sF t d)) ∧ FM.TuZ H t (ts.map V.ref) ∧ Cols H ts cols ∧ True ∧ True
theorem ShA.ex {CS c : Addr} {cols : Co} {H H' : Hp} (h : ShA CS c cols H) (e : KS.Ex H H') : ShA CS c cols H' := by
  obtain ⟨dx, t, d, ts, kvs, h1, h2, h3, h4, h5⟩ := h
  exact ⟨dx, t, d, ts, kvs, e _ _ h1, h2.ex e, h3.ex e, trivial, trivial⟩
structure TxtS (K : PySem.W.Frag) (mg : Str → Option Value) (CS : Addr) : Prop where
  cl : Cls K CS
  c : NoAttr K CS "columns"
  p : NoAttr K CS "places"
  g : mg "Shape" = some (.ref CS)
@[irreducible] def spKinds (CS : Addr) : Sp := fun vs H Q _ => ∃ (c : Addr) (cols : Co), vs = [.ref c] ∧ ShA CS c cols H ∧ cols.length ≤ 20 ∧ ∀ H' q, KS.Ex H H' → H' q = some (.tup (cols.map fun x => V.str x.2)) → Q (.ref q) H'
theorem kinds_step {CS c : Addr} {cols : Co} {H : Hp} {Q : VK} {E : XK} (x : ShA CS c cols H) (hl : cols.length ≤ 20) (fin : ∀ H' q, KS.Ex H H' → H' q = some (.tup (cols.map fun x => V.str x.2)) → Q (.ref q) H') : spKinds CS [.ref c] H Q E := by
  unfold spKinds
  exact ⟨c, cols, rfl, x, hl, fin⟩
section
variable {P : Program} {w : World} {K : PySem.W.Frag} {mg : Str → Option Value} {base : Heap} {f CS CR : Addr} {fd : FuncData}
def nKi : List Str := ["self", "name", "kind"]
theorem scKi : FnScope nKi ["self"] (defScope (sSM 2)) := ⟨rfl, rfl, rfl, by decide +kernel, rfl, by decide +kernel, by decide +kernel⟩
theorem ok_kinds (F : FnP K "kinds" "Shape.kinds" (sSM 2) [] f fd) (B : TxtS K mg CS) (T : TxtL mg) : FnOk P w K mg base CX0 1 f fd ["self"] (spKinds CS) := by
  refine F.ok scKi (fun vs H Q E h => ?_) (fun cdv A outer s H vs Q E hr h => ?_)
  · unfold spKinds at h
    obtain ⟨_, _, rfl, _⟩ := h; rfl
  · unfold spKinds at h
    obtain ⟨c, cols, rfl, ⟨dx, t, d, ts, kvs, h1, h2, h3, h4, h5⟩, hl, fin⟩ := h
    refine ⟨_, PSs.nox <| pss_one (ps_ret (pe_callTy call_tuple_of (by rfl) T.tuple (by decide +kernel) (pa_cons (pe_lc (own := [("name", 1), ("kind", 2)]) (g := gTup K 2 (gCons (gName 1) (gCons (gName 2) gNil))) (tt := tYes) (te := tVar 2) rfl scKi.nd (pi_tup (pf 0)) (blkOk_by (N := nKi) (sc := defScope (sSM 2)) (by decide +kernel))
        (fun _ _ _ _ _ => pg_tup rfl (pgs_cons (pg_name (i := 1) scKi.nd rfl (Or.inl rfl)) (pgs_cons (pg_name (i := 2) scKi.nd rfl (Or.inl rfl)) pgs_nil))) (fun _ _ _ _ _ => pts_nil) (fun _ _ _ _ _ => pv 2)) pa_nil))), ?_⟩
    refine ⟨_, rfl, c, CS, dx, _, _, rfl, h1, B.cl, B.c, rfl, t, rfl, ⟨_, h2.sq⟩, fun D hD => ?_⟩
    refine lc_tup (xs := ts.map V.ref) (fun i H2 => KS.Ex H H2 ∧ H2 D = some (.lst ((cols.take i).map fun x => V.str x.2))) ⟨Ex.upd hD, upd_same⟩ (fun i H2 _ ⟨e2, _⟩ => (h2.ex e2).sq) (fun i x H2 hx ⟨e2, k2⟩ => ?_) (fun H2 ⟨e2, k2⟩ => ?_)
    · rw [List.getElem?_map] at hx
      obtain ⟨b, hb, rfl⟩ := Option.map_eq_some_iff.mp hx
      obtain ⟨y, hy, ht⟩ := paired_get h3 hb
      have lt : i < cols.length := (List.getElem?_eq_some_iff.mp hy).1
      refine ⟨b, _, rfl, SqT.of (e2 _ _ ht), rfl, _, _, rfl, _, _, rfl, rfl, rfl, _, rfl, _, k2, ?_, Ex.on e2 hD, ?_⟩
      · rw [List.length_map, List.length_take]
        have : sizeLine = 16777216 := rfl
        omega
      · rw [upd_same, take_snoc hy, List.map_append]; rfl
    · refine ⟨D, _, rfl, .inl ⟨SqL.of k2, fun l hl' => ?_⟩⟩
      refine fin _ l (e2.trans (Ex.upd hl')) ?_
      rw [upd_same, List.length_map, paired_len h3, List.take_length]
end
end KL0
set_option Elab.async false
set_option linter.all false
set_option maxRecDepth 100000
set_option maxHeartbeats 4000000
namespace KL0
open PySem PySem.Spec PyProof.Rows L2 KB KC KS KN1 LamX K7
theorem Tb.keep {Ps : Addr} {H H' : Hp} (tab : TabS H Ps qK) (t : Tb Ps H H') {b : Addr} {o : HO} (h : H b = some o) (no : ∀ ps, o ≠ .tbl ps) : H' b = some o := by
  refine t.2 b o (fun z => ?_) h
  obtain ⟨ps, hp, _⟩ := tab
  rw [z, hp] at h
  exact no ps (Option.some.inj h).symm
theorem ShA.tb {CS c Ps : Addr} {cols : Co} {H H' : Hp} (x : ShA CS c cols H) (tab : TabS H Ps qK) (e : Tb Ps H H') : ShA CS c cols H' := by
  obtain ⟨dx, t, d, ts, kvs, h1, h2, h3, h4, h5⟩ := x
  exact ⟨dx, t, d, ts, kvs, e.keep tab h1 (by intro _ z; cases z), (let ⟨o, z1, z2⟩ := h2; ⟨o, z1, e.keep tab z2 (by intro _ z; cases z)⟩), paired_mono (fun _ _ q => e.keep tab q (by intro _ z; cases z)) h3, trivial, trivial⟩
def kd : V → Option Str
  | .int _ => some "int"
  | .str a => if badT a = true then none else some "text"
  | _ => none
def Rowy : V → Prop
  | .int _ => True
  | .str _ => True
  | .bl _ => True
  | _ => False
theorem kd_step {CR Ps : Addr} {H : Hp} {Q : VK} {E : XK} {v : V} (ry : Rowy v) (tab : TabS H Ps qK) (bad : kd v = none → ∀ H', Tb Ps H H' → E (.ref CR) none H') (good : ∀ k, kd v = some k → ∀ H', Tb Ps H H' → Q (.str k) H') : spKind CR Ps [v] H Q E := by
  refine kind_step ?_
  cases v with
  | int n => exact good _ rfl H (.refl tab)
  | bl b => exact bad rfl H (.refl tab)
  | str a =>
    refine ⟨tab, fun H' t => ?_⟩
    by_cases c : badT a = true
    · rw [if_pos c]; exact bad (if_pos c) H' t
    · rw [if_neg c]; exact good _ (if_neg c) H' t
  | _ => exact False.elim ry
def kindsOf (cols : Co) : List (Option Str) := cols.map fun x => some x.2
@[irreducible] def spCheck (CS CR Ps : Addr) : Sp := fun vs H Q E => ∃ (c r : Addr) (cols : Co), vs = [.ref c, .ref r] ∧ ShA CS c cols H ∧ cols.length ≤ 20 ∧ (∀ x ∈ cols, x.2 = "int" ∨ x.2 = "text") ∧ TabS H Ps qK ∧
  (((∃ xs, H r = some (.lst xs)) ∧ E (.ref CR) none H) ∨ ∃ xs, H r = some (.tup xs) ∧ (∀ v ∈ xs, Rowy v) ∧ xs.length ≤ 1000 ∧ (xs.map kd ≠ kindsOf cols → ∀ H', Tb Ps H H' → E (.ref CR) none H') ∧ (xs.map kd = kindsOf cols → ∀ H', Tb Ps H H' → Q (.ref r) H'))
theorem dp_strs {K : PySem.W.Frag} {H : Hp} : ∀ ns : List Str, DpAll K H (ns.map V.str) (ns.map PyData.str)
  | [] => .nil
  | n :: ns => .cons (.str _) (dp_strs ns)
theorem eqv_strsT (a b : List Str) : PyData.eqv (.tuple (a.map PyData.str)) (.tuple (b.map PyData.str)) = decide (a = b) := by
  show PyData.eqvAll _ _ = _
  induction a generalizing b with
  | nil => cases b <;> simp [PyData.eqvAll]
  | cons x r ih =>
    cases b with
    | nil => simp [PyData.eqvAll]
    | cons y q =>
      rw [List.map_cons, List.map_cons]
      unfold PyData.eqvAll
      rw [ih q]
      have e1 : PyData.eqv (.str x) (.str y) = decide (x = y) := by
        show (x == y) = _
        rw [Bool.eq_iff_iff, decide_eq_true_eq, beq_iff_eq]
      rw [e1, Bool.eq_iff_iff]
      simp
theorem lay_kinds : ∀ {ks : List Str}, (∀ k ∈ ks, k = "int" ∨ k = "text") → PyData.canLayAll0 (ks.map PyData.str) = true ∧ PyData.depthAll (ks.map PyData.str) ≤ 3
  | [], _ => ⟨rfl, by decide⟩
  | k :: ks, h => by
    obtain ⟨h1, h2⟩ := lay_kinds fun q hq => h q (List.mem_cons_of_mem _ hq)
    have a : PyData.canLay0 (.str k) = true := by
      rcases h k List.mem_cons_self with rfl | rfl
      · decide +kernel
      · decide +kernel
    constructor
    · show (PyData.canLay0 (.str k) && PyData.canLayAll0 (ks.map PyData.str)) = true
      rw [a, h1]; rfl
    · show max (PyData.depth (.str k)) (PyData.depthAll (ks.map PyData.str)) ≤ 3
      have : PyData.depth (.str k) ≤ 3 := by show 0 ≤ 3; decide
      omega
theorem shaped_kinds {ks : List Str} (h : ∀ k ∈ ks, k = "int" ∨ k = "text") : SeqAt.shaped (.tuple (ks.map PyData.str)) = true := by
  obtain ⟨h1, h2⟩ := lay_kinds h
  show (PyData.canLayAll0 (ks.map PyData.str) && decide (PyData.depthAll (ks.map PyData.str) + 1 ≤ 64)) = true
  rw [h1, decide_eq_true (by omega)]; rfl
theorem kd_kind {v : V} {k : Str} (h : kd v = some k) : k = "int" ∨ k = "text" := by
  cases v with
  | int n => left; exact (Option.some.inj h).symm
  | str a =>
    have h : (if badT a = true then none else some ("text" : Str)) = some k := h
    by_cases c : badT a = true
    · rw [if_pos c] at h; cases h
    · rw [if_neg c] at h; right; exact (Option.some.inj h).symm
  | _ => cases h
section
variable {P : Program} {w : World} {K : PySem.W.Frag} {mg : Str → Option Value} {base : Heap} {f fK fQ CS CR Ps : Addr} {fd fdK fdQ : FuncData}
def nCh : List Str := ["self", "row", "value"]
theorem scCh : FnScope nCh ["self", "row"] (defScope (sSM 3)) := ⟨rfl, rfl, rfl, by decide +kernel, rfl, by decide +kernel, by decide +kernel⟩
theorem ok_check (F : FnP K "check_row" "Shape.check_row" (sSM 3) [] f fd) (B : TxtS K mg CS) (T : TxtL mg) (J : TxtX K mg CR)
    (GK : FnOk P w K mg base (L2.CX P w) 1 fK fdK ["value"] (spKind CR Ps)) (gK : mg "kind_of" = some (.ref fK)) (kK : PySem.W.keepIn K (.ref fK) = true) (bK : Binds K fdK ["value"] [])
    (mQ : Meth K CS "kinds" fQ) (GQ : FnOk P w K mg base CX0 1 fQ fdQ ["self"] (spKinds CS)) (bQ : Binds K fdQ ["self"] []) : FnOk P w K mg base (L2.CX P w) 2 f fd ["self", "row"] (spCheck CS CR Ps) := by
  refine F.ok scCh (fun vs H Q E h => ?_) (fun cdv A outer s H vs Q E hr h => ?_)
  · unfold spCheck at h
    obtain ⟨_, _, _, rfl, _⟩ := h; rfl
  · unfold spCheck at h
    obtain ⟨c, r, cols, rfl, x, hl, hk, tab, hh⟩ := h
    have hu := hr.units
    refine ⟨_, pss_cons (ps_if (PW.pt (pw_or (pt_not (pt_val (pe_callB call_isiB (by rfl) T.isi PyProof.Rows.boot_isinstance (pa_cons (pv 1) (pa_cons (pe_bltn (v := .ty "tuple") (u := .type "tuple") (by rfl) T.tuple (by decide +kernel) rfl) pa_nil)))))
        (pw_or1 (pt_cmpR (op_neD hu) (pe_callTy call_tuple_of (by rfl) T.tuple (by decide +kernel) (pa_cons
          (RC.pe_lcX (own := [("value", 2)]) (g := gName 2) (tt := tYes) (te := tCall (spKind CR Ps) [] E (tCons (tVar 2) tNil)) (E := E) rfl scCh.nd rfl rfl (takes_of rfl rfl rfl rfl) (pi_tup (pv 1)) (blkOk_by (N := nCh) (sc := defScope (sSM 3)) (by decide +kernel))
            (fun _ _ _ _ _ _ _ => pg_name (i := 2) scCh.nd rfl (Or.inl rfl)) (fun _ _ _ _ _ _ _ => pts_nil)
            (fun _ _ _ _ _ _ hp => pe_call GK (hr.mono (by decide)) (by rfl) gK kK bK .nil hp (pa_cons (pv 2) pa_nil))) pa_nil))
          (pe_meth0 (pv 0) B.cl mQ GQ (hr.mono (by decide)) bQ .nil pass0) (nomark _)))))
        (pss_one (ps_raise rfl (takes_of rfl rfl rfl rfl) (pmk_own PySem.F.excBase_ValueError J.x J.g J.k (raises_own J.b J.t) rfl))) pss_nil)
      (pss_one (ps_ret (pv 1))), ?_⟩
    rcases hh with ⟨⟨xs, hr'⟩, e⟩ | ⟨xs, hr', ry, hx, bad, good⟩
    · refine ⟨_, rfl, ?_⟩
      show rIsiB K [_, .ty "tuple"] H _
      refine isi_ty (r := false) (.lst hr') (by decide +kernel) ⟨_, rfl, ?_⟩
      exact ifT rfl (ifT rfl e)
    · refine ⟨_, rfl, ?_⟩
      show rIsiB K [_, .ty "tuple"] H _
      refine isi_ty (r := true) (.tup hr') (by decide +kernel) ⟨_, rfl, ?_⟩
      refine ifF (by decide) ?_
      refine ⟨_, rfl, r, rfl, ⟨_, SqT.of hr'⟩, fun D hD => ?_⟩
      have nDr : D ≠ r := fun z => by rw [z, hr'] at hD; cases hD
      have nDP : D ≠ Ps := fun z => by
        obtain ⟨ps, hp, _⟩ := tab
        rw [z, hp] at hD; cases hD
      refine lc_tup (xs := xs) (fun i H2 => Tb Ps H H2 ∧ ∃ ks : List Str, H2 D = some (.lst (ks.map V.str)) ∧ (xs.take i).map kd = ks.map some) ⟨(Tb.refl tab).ex (Ex.upd hD), [], upd_same, rfl⟩ (fun i H2 _ ⟨t2, _⟩ => SqT.of (t2.keep tab hr' (by intro _ z; cases z))) (fun i v H2 hv ⟨t2, ks, k1, k2⟩ => ?_) (fun H2 ⟨t2, ks, k1, k2⟩ => ?_)
      · refine ⟨rfl, _, rfl, kd_step (ry v (List.mem_of_getElem? hv)) t2.1 (fun hn H' t' => bad (fun z => ?_) H' (t2.trans t')) fun k hk' H' t' => ?_⟩
        · have z1 := congrArg (fun l => l[i]?) z
          simp only [List.getElem?_map, hv, Option.map_some, hn, kindsOf] at z1
          cases q : cols[i]? with
          | none => rw [q] at z1; cases z1
          | some y => rw [q] at z1; cases z1
        · have lks : ks.length ≤ xs.length := by
            have := congrArg List.length k2
            rw [List.length_map, List.length_map, List.length_take] at this
            omega
          have k1' : H' D = some (.lst (ks.map V.str)) := t'.2 _ _ nDP k1
          have hz : sizeLine = 16777216 := rfl
          refine ⟨_, k1', by rw [List.length_map]; omega, ⟨?_, fun b o nb hb => ?_⟩, ks ++ [k], ?_, ?_⟩
          · exact tabS_lst t'.1 k1'
          · rw [L2.upd_ne fun z => by rw [z, hD] at hb; cases hb]
            exact (t2.trans t').2 b o nb hb
          · rw [upd_same, List.map_append]; rfl
          · rw [take_snoc hv, List.map_append, k2, List.map_append]
            show _ ++ [kd v] = _
            rw [hk']; rfl
      · rw [List.take_length] at k2
        refine ⟨D, _, rfl, .inl ⟨SqL.of k1, fun l hl' => ?_⟩⟩
        have x3 : ShA CS c cols (upd H2 l (.tup (ks.map V.str))) := (x.tb tab t2).ex (Ex.upd hl')
        obtain ⟨dx, t, d, ts, kvs, g1, _⟩ := id x3
        refine ⟨_, rfl, c, dx, _, rfl, g1, rfl, kinds_step x3 hl fun H4 q e4 hq => ?_⟩
        have hl4 : H4 l = some (.tup (ks.map V.str)) := e4 _ _ upd_same
        have t4 : Tb Ps H H4 := t2.ex ((Ex.upd hl').trans e4)
        have hkk : ∀ k ∈ ks, k = "int" ∨ k = "text" := fun k hk' => by
          have : some k ∈ xs.map kd := by rw [k2]; exact List.mem_map.mpr ⟨k, hk', rfl⟩
          obtain ⟨v, _, hv⟩ := List.mem_map.mp this
          exact kd_kind hv
        have hcc : ∀ k ∈ (cols.map (fun y : Str × Str => y.2) : List Str), k = ("int" : Str) ∨ k = ("text" : Str) := fun k hk' => by
          obtain ⟨y, hy, rfl⟩ := List.mem_map.mp hk'
          exact hk y hy
        have hq' : H4 q = some (.tup ((cols.map (fun y : Str × Str => y.2)).map V.str)) := by rw [List.map_map]; exact hq
        refine ⟨_, _, .tup (SqT.of hl4) (dp_strs ks), .tup (SqT.of hq') (dp_strs _), shaped_kinds hkk, shaped_kinds hcc, _, rfl, ?_⟩
        rw [eqv_strsT]
        have ek : xs.map kd = kindsOf cols ↔ ks = cols.map (fun y : Str × Str => y.2) := by
          rw [k2]
          have e2 : kindsOf cols = (cols.map (fun y : Str × Str => y.2)).map some := by rw [List.map_map]; rfl
          rw [e2]
          exact List.map_inj_right fun a b => Option.some.inj
        by_cases z : ks = cols.map (fun y : Str × Str => y.2)
        · refine ifF (by simp [z]) ?_
          exact ⟨_, rfl, good (ek.mpr z) H4 t4⟩
        · refine ifT (by simp [z]) ?_
          exact bad (fun y => z (ek.mp y)) H4 t4
end
end KL0
set_option Elab.async false
set_option linter.all false
set_option maxRecDepth 100000
set_option maxHeartbeats 4000000
namespace GT
open PySem PySem.Spec PyProof.Rows PySem.Calls L2 KB GxR
structure GenT (env : PySem.Env) (scope : Scope) (xa xb : Str) : Prop where
  kind : scope.kind = .function
  co : scope.isCoroutine = false
  cell : ∀ y ∈ scope.names, y.2 ≠ .cell
  dot : scope.names.lookup (".0" : Str) = some NameKind.local
  la : scope.names.lookup xa = some NameKind.local
  lb : scope.names.lookup xb = some NameKind.local
  ne : xa ≠ xb
  free : ∀ y ∈ scope.names, y.2 = .free → ∃ c, env.cells.lookup y.1 = some c
def TabbedS (P : Addr) (q : Str) (H H' : Hp) : Prop := LamX.TabS H' P q ∧ ∀ b o, b ≠ P → H b = some o → H' b = some o
def ReadyG (X : Cx) (pins : List (Addr × Obj)) (σ : L2.St) (H1 : Hp) (P : Addr) (q : Str) (n : Nat) (tr : Nat → Bool) (g : Addr) (s5 : Shared) : Prop :=
  ∃ (fp wr : List Addr) (G : Array GenState → Array GenState → Prop) (F : Nat → Value → Prop) (St : Nat → Shared → Prop),
    WalksS X.prog X.w X.A.in1 g fp wr G n F St ∧ St 0 s5 ∧ TruthOf X.prog X.w X.A.in1 F tr ∧ ∀ s', Moved wr G s5 s' → ∃ H2, TabbedS P q H1 H2 ∧ Inv X pins σ H2 s'
def EltC (X : Cx) (s1 : Shared) (P : Addr) (scope : Scope) (xa xb : Str) (elt : Expr) (Pv : Nat → Array Value → Prop) (tr : Nat → Bool) : Prop :=
  ∀ (cenv : PySem.Env) (A' : Around) (E' : Value → Shared → Prop) (i : Nat) (va vb : Value) (s₂ : Shared) (m₂ : Str → Option Value), cenv.scope = scope → cenv.cells = cloFrom X.env.cells scope.names [] → A'.handled = none → (∀ b u, b ≠ P → s1.heap.get? b = some u → s₂.heap.get? b = some u) → cenv.globals = mainGlobals → s₂.heap.Ns mainGlobals X.mg → X.K.In s₂.heap → Pv i #[va, vb] → s₂.heap.Ns cenv.locals m₂ → m₂ xa = some va → m₂ xb = some vb →
    wpAny (model X.prog X.w) A' (eval elt cenv) (fun y s₃ => y = .bool (tr i) ∧ Keeps s₂ s₃) E' s₂
structure Src (X : Cx) (pins : List (Addr × Obj)) (σ : L2.St) (P : Addr) (q : Str) (xa xb : Str) (elt : Expr) (scope : Scope) (Q' : Value → Shared → Prop) (it : Value) (sb : Shared) (s1 : Shared) (H1 : Hp) (J : Addr) (fp wr : List Addr) (n : Nat) (Pv : Nat → Array Value → Prop) (St : Nat → Heap → Prop) (Mid : Nat → Addr → Heap → Prop) (tr : Nat → Bool) : Prop where
  it : it = .ref J
  inv : Inv X pins σ H1 s1
  same : sb = { s1 with heap := sb.heap, toks := sb.toks }
  keep : ∀ b u, s1.heap.get? b = some u → sb.heap.get? b = some u
  size : s1.heap.objs.size ≤ sb.heap.objs.size
  walk : ∀ A' : Around, A'.handled = none → WalksU X.prog X.w A' J fp wr n Pv St Mid
  two : ∀ i vals, Pv i vals → ∃ va vb, vals = #[va, vb]
  st : St 0 sb.heap
  fps : ∀ b ∈ fp, b < sb.heap.objs.size ∧ b ≠ P
  wrs : ∀ b ∈ wr, s1.heap.objs.size ≤ b
  tab : LamX.TabS H1 P q
  elt : EltC X s1 P scope xa xb elt Pv tr
  next : ∀ g s5, ReadyG X pins σ H1 P q n tr g s5 → Q' (.ref g) s5
theorem lt_or {a b c d : Nat} (h1 : a ≤ b) (h2 : b ≤ c) (h3 : d < a) (e : d = c) : False := by omega
section
variable {X : Cx} {pins : List (Addr × Obj)} {σ : L2.St} {s : Shared}
theorem gen_C {c P : Addr} {q : Str} {elt iter : Expr} {xa xb : Str} {pa pb pt gpos : Pos} {kt : Nat} {scope : Scope} {k : Nat} {Q' : Value → Shared → Prop} (hq : X.env.qual ++ Str.ofString "<genexpr>" = q) (hr : Room k X.A) (TB : GxR.TabB X.base X.mg c P) (hcode : X.env.code = .ref c) (S : GenT X.env scope xa xb)
    (hs : ∀ v, genFold iter X.env v = pure v)
    (src : wpAny (model X.prog X.w) X.A (eval iter X.env) (fun xv sa => wpAny (model X.prog X.w) X.A (pyIter xv) (fun it sb => ∃ s1 H1 J fp wr n Pv St Mid tr, Src X pins σ P q xa xb elt scope Q' it sb s1 H1 J fp wr n Pv St Mid tr) X.xe sa) X.xe s) :
    wpAny (model X.prog X.w) X.A (eval (.GeneratorExp elt [⟨.Tuple [.Name xa pa, .Name xb pb] kt pt, iter, [], 0⟩] scope gpos) X.env) Q' X.xe s := by
  refine wpAny_GeneratorExp_walksQT hr.hd S.co (closure_ok S.free) S.cell S.dot S.la S.lb S.ne S.kind (by have := hr.dp; omega) (wpAny_mono src (fun xv sa h1 => wpAny_mono h1 (fun it sb h2 => ?_) fun _ _ e => e) fun _ _ e => e) hs
  obtain ⟨s1, H1, J, fp, wr, n, Pv, St, Mid, tr, Z⟩ := h2
  obtain ⟨ps, hP, ht, ha⟩ := Z.tab
  obtain ⟨hb, gb, db, kb, ob⟩ := sb
  have sm := Z.same
  have I1 := Z.inv
  have hPs : s1.heap.get? P = some { cls := .none, data := .fields ps } := I1.hok P _ hP
  have hPlt : P < s1.heap.objs.size := Heap.lt_size hPs
  have hP2 : hb.get? P = some { cls := .none, data := .fields ps } := Z.keep _ _ hPs
  have cd : PySem.W.CodeHd hb c P := TB.code.keeps fun b u e => Z.keep b u (I1.bk b u e)
  have lim2 : hb.NoLimit := I1.nolimit.keeps Z.keep
  rw [sm]
  refine ⟨lim2, ?_⟩
  have hsz2 : s1.heap.objs.size ≤ hb.objs.size := Z.size
  have cst : cStatics < s1.heap.objs.size := let ⟨_, hns, _⟩ := I1.nolimit; hns.lt
  have goOn : ∀ (code : Value) (h3 : Heap) (tk : Nat) (more : Array Value), Heap.ExtBut P hb h3 → hb.objs.size ≤ h3.objs.size → h3.get? P = some { cls := .none, data := .fields (ps ++ more) } → TriplesOk (ps ++ more).toList →
      ∀ co : Option Addr, (∀ p' cv, codeAmong p' (ps ++ more).toList = some cv → codeAmong p' ps.toList = some cv ∨ ∃ c', co = some c' ∧ cv = .ref c') → (∀ c', co = some c' → hb.objs.size ≤ c' ∧ c' < h3.objs.size ∧ h3.CodeRec (.ref c') q) →
      wpAny (model X.prog X.w) X.A (builtinsFor X.env.globals X.env.builtins) (fun bi s₄ => ∃ I fp wr n₀ Pt St₀ Mid pz F, it = .ref I ∧ (∀ A' : Around, A'.handled = none → WalksU X.prog X.w A' I fp wr n₀ Pt St₀ Mid) ∧ (∀ i vals, Pt i vals → ∃ va vb, vals = #[va, vb]) ∧ St₀ 0 s₄.heap ∧ (∀ b ∈ fp, b < s₄.heap.objs.size) ∧ s₄.heap.NoLimit ∧ cStatics ∉ wr ∧
          (∀ href : Heap, (∀ b o, s₄.heap.get? b = some o → href.get? b = some o) → QuietGenT X.prog X.w (genEnv scope (cloFrom X.env.cells scope.names []) s₄.heap.objs.size code bi X.env) xa xb [] elt (List.range s₄.heap.objs.size) wr Pt pz F href) ∧
          (∀ a h₅ tk gs, gs.bare = true → s₄.heap.objs.size < a → h₅.objs.size = a + 1 → (∀ b o, s₄.heap.get? b = some o → h₅.get? b = some o) →
            WalksS X.prog X.w X.A.in4 a (a :: s₄.heap.objs.size :: List.range s₄.heap.objs.size) (s₄.heap.objs.size :: wr) (GenOnlyQ s₄.gens.size) (passing pz n₀ 0).length
              (fun j y => ∃ i, (passing pz n₀ 0)[j]? = some i ∧ F i y) (GenAt X.prog X.w X.A.in4 a s₄.gens.size s₄.heap.objs.size (List.range s₄.heap.objs.size) wr pz n₀ F) →
            GenAt X.prog X.w X.A.in4 a s₄.gens.size s₄.heap.objs.size (List.range s₄.heap.objs.size) wr pz n₀ F 0 { s₄ with gens := s₄.gens.push gs, toks := tk, heap := h₅ } →
            Q' (.ref a) { s₄ with gens := s₄.gens.push gs, toks := tk, heap := h₅ })) X.xe { s1 with heap := h3, toks := tk } := by
    intro code h3 tk more hx3 hsz hP3 ht3 co hnew hco
    obtain ⟨bm, bo, e1, e2, e3, e4, e5, e6, e7, e8⟩ := TB.bm
    have hcP : cStatics ≠ P := fun e => by
      obtain ⟨_, hns, _⟩ := I1.nolimit
      obtain ⟨o', es', ep', ho', hd', _⟩ := hns
      rw [e, hPs] at ho'
      cases ho'
      cases hd'
    have keep3 : ∀ b u, b ≠ P → s1.heap.get? b = some u → h3.get? b = some u := fun b u n e => hx3 b u n (Z.keep b u e)
    have kin3 : X.K.In h3 := (inv_tab (more := more) (h' := h3) (g' := s1.gens) (d' := s1.drawn) (t' := s1.toks) I1 hP (fun b u n e => keep3 b u n e) hP3 I1.bare).kIn
    have nsG : h3.Ns mainGlobals X.mg := ((I1.mod.glob.keeps I1.bk).keeps Z.keep).extBut hx3 TB.gP
    have glt : mainGlobals < s1.heap.objs.size := (I1.mod.glob.keeps I1.bk).lt
    refine wpAny_builtinsFor (m := X.mg) (by rw [I1.ok.glob]; exact (((I1.mod.glob.keeps I1.bk).keeps Z.keep)).extBut hx3 TB.gP) e1 e2 (keep3 _ _ e4 (I1.bk _ _ e5)) e6 e7 e8 ?_
    refine ⟨J, fp, wr, n, Pv, St, Mid, (fun _ => true), (fun i y => y = .bool (tr i)), Z.it, Z.walk, Z.two, (Z.walk X.A hr.hd).frame _ _ _ Z.st fun b hbf u e => hx3 b u (Z.fps b hbf).2 e, fun b hbf => Nat.lt_of_lt_of_le (Z.fps b hbf).1 hsz, lim2.extBut hx3 hcP, fun z => Nat.lt_irrefl _ (Nat.lt_of_lt_of_le cst (Z.wrs _ z)), fun href hhr => ⟨fun A' E' i va vb s₂ m₂ _ _ _ _ _ _ => ?_, fun A' E' i va vb s₂ m₂ hA hPv _ hn hma hmb hk => Z.elt _ A' E' i va vb s₂ m₂ rfl rfl hA (fun b u nb e => hk _ (List.mem_range.mpr (Heap.lt_size (keep3 b u nb e))) (fun z => Nat.lt_irrefl _ (Nat.lt_of_lt_of_le (Heap.lt_size e) (Z.wrs _ z))) _ (hhr _ _ (keep3 b u nb e))) I1.ok.glob (nsG.at fun o e => hk _ (List.mem_range.mpr (Heap.lt_size e)) (fun z => Nat.lt_irrefl _ (Nat.lt_of_lt_of_le glt (Z.wrs _ z))) _ (hhr _ _ e)) (fun b u e => hk _ (List.mem_range.mpr (Heap.lt_size (kin3 b u e))) (fun z => Nat.lt_irrefl _ (Nat.lt_of_lt_of_le (Heap.lt_size (I1.kIn b u e)) (Z.wrs _ z))) _ (hhr _ _ (kin3 b u e))) hPv hn hma hmb⟩, ?_⟩
    · simp only [List.forIn_nil]
      exact wpAny_pure ⟨rfl, keeps_refl _⟩
    · intro g h5 tk5 gs hgb hag hsz5 hk5 W5 hat
      simp only [GxR.passing_true, List.length_range] at W5
      refine Z.next g _ ⟨_, _, _, _, _, W5.in4_1, hat, fun j y sj Qj Ej hy hQj => ?_, fun s' hmv => ?_⟩
      · obtain ⟨i, hij, hF⟩ := hy
        obtain ⟨hj, ej⟩ := List.getElem?_eq_some_iff.mp hij
        rw [List.getElem_range] at ej
        have hF' : y = .bool (tr i) := hF
        rw [hF', ← ej]
        exact wpAny_truthy_bool hQj
      · have apart : ∀ b u, s1.heap.get? b = some u → b ∉ h3.objs.size :: wr := fun b u e z => by
          have hl := Heap.lt_size e
          rcases List.mem_cons.mp z with z | z
          · exact lt_or hsz2 hsz hl z
          · exact Nat.lt_irrefl _ (Nat.lt_of_lt_of_le hl (Z.wrs _ z))
        have JJ := inv_tab (more := more) (h' := s'.heap) (g' := s'.gens) (d' := s'.drawn) (t' := s'.toks) I1 hP (fun b u n e => hmv.heap b u (apart b u e) (hk5 b u (keep3 b u n e)))
          (hmv.heap P _ (apart P _ hPs) (hk5 P _ hP3)) (AllBare.movedS (I1.bare.push hgb) hmv)
        rw [sh_eta s1 s' hmv.os] at JJ
        cases co with
        | none =>
          refine ⟨_, ⟨⟨ps ++ more, upd_same, ht3, fun p' cv hcv => ?_⟩, fun b o n e => by rw [upd_ne n]; exact e⟩, JJ⟩
          rcases hnew p' cv hcv with z | ⟨c', z, _⟩
          · obtain ⟨c0, y1, y2⟩ := ha p' cv z
            exact ⟨c0, y1, by rw [upd_ne (fun z => by rw [z, hP] at y2; cases y2)]; exact y2⟩
          · cases z
        | some c' =>
          obtain ⟨hge, hlt, cr⟩ := hco c' rfl
          obtain ⟨c2, oc, vs, t, y0, hoc, hd2, hv2⟩ := id cr
          cases y0
          have nC : H1 c' = none := I1.hok.fresh (Nat.le_trans hsz2 hge)
          have nPc : P ≠ c' := ne_of_none hP nC
          have nw : c' ∉ h3.objs.size :: wr := fun z => by
            rcases List.mem_cons.mp z with z | z
            · exact Nat.lt_irrefl _ (z ▸ hlt)
            · exact Nat.lt_irrefl _ (Nat.lt_of_lt_of_le (Z.fps c' ((Z.walk X.A hr.hd).sub c' z)).1 hge)
          have ho' : s'.heap.get? c' = some oc := hmv.heap c' _ nw (hk5 c' _ hoc)
          have nC2 : upd H1 P (.tbl (ps ++ more)) c' = none := by rw [upd_ne nPc.symm]; exact nC
          have J2 := JJ.take (h' := s'.heap) (t' := s'.toks) (o := LamX.CodeO c' q) (fun b ob _ e => e) (I1.fpOk (Nat.le_trans hsz2 hge) nC2)
            (show ObjOk X.prog X.w _ s'.heap c' (LamX.CodeO c' q) from ⟨⟨oc, vs, t, ho', hd2, hv2⟩, ⟨_, ho'⟩, fun k1 k2 ⟨o1, v1, t1, z1, z2, z3⟩ kk => ⟨o1, v1, t1, kk _ z1, z2, z3⟩⟩)
          refine ⟨_, ⟨⟨ps ++ more, by rw [upd_ne nPc, upd_same], ht3, fun p' cv hcv => ?_⟩, fun b o n e => by rw [upd_ne (ne_of_none e nC), upd_ne n]; exact e⟩, J2⟩
          rcases hnew p' cv hcv with z | ⟨c3, z, e3'⟩
          · obtain ⟨c0, y1, y2⟩ := ha p' cv z
            exact ⟨c0, y1, by rw [upd_ne (ne_of_none y2 nC), upd_ne (fun z => by rw [z, hP] at y2; cases y2)]; exact y2⟩
          · cases z
            exact ⟨c', e3', upd_same⟩
  cases hf : codeAmong gpos ps.toList with
  | none =>
    refine wpAny_genexprCodeX hcode (cd.code hP2 ht) (cd.tab hP2) hf fun c' h' tk hx3 hge hlt hco' hrec' htab' _ => ?_
    obtain ⟨o1, vs, f1, tf, fl, tg, inF, tx, tt, op, _, _, _, _, _, _, _, _, _, htr, _⟩ := hco'
    refine goOn _ h' tk _ hx3 (Nat.le_trans hge (Nat.le_of_lt hlt)) htab'.2 htr (some c') (fun p' cv hcv => ?_) fun c3 e => by cases e; exact ⟨hge, hlt, hq ▸ hrec'⟩
    have eL : (ps ++ #[rawInt gpos.line, rawInt gpos.col, .ref c']).toList = ps.toList ++ [rawInt gpos.line, rawInt gpos.col, .ref c'] := by simp
    rw [eL] at hcv
    exact (LamX.among_app _ ht hcv).elim .inl fun z => .inr ⟨c', rfl, z⟩
  | some cv =>
    refine wpAny_genexprCode_hit hcode (cd.code hP2 ht) hf ?_
    have e0 : ps ++ #[] = ps := by simp
    exact goOn cv hb kb #[] (Heap.ExtBut.refl _ _) (Nat.le_refl _) (by rw [e0]; exact hP2) (by rw [e0]; exact ht) none (fun p' v z => by rw [e0] at z; exact .inl z) (fun _ e => nomatch e)
end
end GT
set_option Elab.async false
set_option linter.all false
set_option maxRecDepth 100000
set_option maxHeartbeats 4000000
namespace GT
open PySem PySem.Spec PyProof.Rows PySem.Calls L2 KB GxR
def trG {α : Type} (l : List α) (f : α → Bool) (d : α) (i : Nat) : Bool := f (l.getD i d)
theorem any_rangeG {α : Type} (f : α → Bool) (d : α) (l : List α) : ((List.range l.length).any (trG l f d)) = l.any f := by
  rw [Bool.eq_iff_iff, List.any_eq_true, List.any_eq_true]
  constructor
  · rintro ⟨i, hi, h⟩
    have hlt := List.mem_range.mp hi
    unfold trG at h
    rw [List.getD_eq_getElem?_getD, List.getElem?_eq_getElem hlt] at h
    exact ⟨l[i], List.getElem_mem hlt, h⟩
  · rintro ⟨x, hx, h⟩
    obtain ⟨i, hi, rfl⟩ := List.getElem_of_mem hx
    refine ⟨i, List.mem_range.mpr hi, ?_⟩
    unfold trG
    rw [List.getD_eq_getElem?_getD, List.getElem?_eq_getElem hi]
    exact h
def EltP2 (X : Cx) (scope : Scope) (xa xb : Str) (elt : Expr) (pb : Str → Str → Bool) : Prop :=
  ∀ (cenv : PySem.Env) (A' : Around) (E' : Value → Shared → Prop) (n k : Str) (ta tb : Tok) (s₂ : Shared) (m₂ : Str → Option Value), cenv.scope = scope → cenv.globals = mainGlobals → A'.handled = none → s₂.heap.Ns mainGlobals X.mg → X.K.In s₂.heap → s₂.heap.Ns cenv.locals m₂ → m₂ xa = some (.str n ta) → m₂ xb = some (.str k tb) →
    wpAny (model X.prog X.w) A' (eval elt cenv) (fun y s₃ => y = .bool (pb n k) ∧ Keeps s₂ s₃) E' s₂
def PairsS (H : Hp) : List Addr → List (Str × Str) → Prop := Paired fun t (x : Str × Str) => H t = some (.tup [.str x.1, .str x.2])
def tAnyL (P : Addr) (q : Str) (pb : Str → Str → Bool) (te : TE) : TE := fun σ H Q => te σ H fun v H1 => ∃ (a : Addr) (ts : List Addr) (cols : List (Str × Str)), v = .ref a ∧ H1 a = some (.lst (ts.map V.ref)) ∧ PairsS H1 ts cols ∧ LamX.TabS H1 P q ∧ ∀ H2, TabbedS P q H1 H2 → Q (.bl (cols.any fun x => pb x.1 x.2)) H2
theorem pairs_len {H : Hp} {ts : List Addr} {cols : List (Str × Str)} (h : PairsS H ts cols) : ts.length = cols.length := K7.paired_len h
theorem vals_refs : ∀ {ts : List Addr} {its : List Value}, Vals (ts.map V.ref) its → its = ts.map Value.ref
  | [], [], _ => rfl
  | t :: ts, i :: its, h => by
    cases h with
    | cons h1 h2 =>
      cases h1
      rw [vals_refs h2]; rfl
theorem tup_at {X : Cx} {pins : List (Addr × Obj)} {σ : L2.St} {H : Hp} {s : Shared} {P : Addr} {q : Str} (I : Inv X pins σ H s) (tab : LamX.TabS H P q) {ts : List Addr} {cols : List (Str × Str)} (hcs : PairsS H ts cols) (j : Nat) :
    ∃ vals : Array Value, (∃ ta tb, vals = #[.str (cols.getD j ("", "")).1 ta, .str (cols.getD j ("", "")).2 tb]) ∧ (∀ x, cols[j]? = some x → s.heap.IsTuple (ts.getD j 0) vals ∧ ts.getD j 0 ≠ P) := by
  rw [List.getD_eq_getElem?_getD (l := cols)]
  cases hj : cols[j]? with
  | none => exact ⟨#[.str "" 0, .str "" 0], ⟨0, 0, rfl⟩, fun x hx => by cases hx⟩
  | some x =>
    obtain ⟨t, ht, hH⟩ : ∃ t, ts[j]? = some t ∧ H t = some (.tup [.str x.1, .str x.2]) := by
      have hlt : j < ts.length := by rw [pairs_len hcs]; exact (List.getElem?_eq_some_iff.mp hj).1
      obtain ⟨b, hb, hF⟩ := paired_get hcs (List.getElem?_eq_getElem hlt)
      rw [hj] at hb
      cases hb
      exact ⟨_, List.getElem?_eq_getElem hlt, hF⟩
    have eg : ts.getD j 0 = t := by rw [List.getD_eq_getElem?_getD, ht]; rfl
    obtain ⟨its2, rv2, hl, _⟩ := I.tuple (SqT.of hH)
    cases rv2 with
    | cons r1 r2 =>
      cases r2 with
      | cons r2 r3 =>
        cases r3
        obtain ⟨ta, rfl⟩ := id r1
        obtain ⟨tb, rfl⟩ := id r2
        refine ⟨#[.str x.1 ta, .str x.2 tb], ⟨ta, tb, rfl⟩, fun y hy => ?_⟩
        cases hy
        rw [eg]
        refine ⟨hl, fun z => ?_⟩
        obtain ⟨ps, hP, _⟩ := tab
        rw [z, hP] at hH
        cases hH
section
variable {X : Cx}
theorem pe_anyL {c P : Addr} {q : Str} {elt iter : Expr} {xa xb : Str} {pa pb' pt p pos gpos : Pos} {kt : Nat} {scope : Scope} {pb : Str → Str → Bool} {te : TE} {k : Nat}
    (hq : X.env.qual ++ Str.ofString "<genexpr>" = q) (hr : Room k X.A) (hg : Gl X "any") (hm : X.mg "any" = none) (TB : TabB X.base X.mg c P) (hcode : X.env.code = .ref c) (S : GenT X.env scope xa xb) (hi : PE X iter te) (hel : EltP2 X scope xa xb elt pb)
    (hs : ∀ v, genFold iter X.env v = pure v)
    (he : starEach [.GeneratorExp elt [⟨.Tuple [.Name xa pa, .Name xb pb'] kt pt, iter, [], 0⟩] scope gpos] X.env = (false, eval (.GeneratorExp elt [⟨.Tuple [.Name xa pa, .Name xb pb'] kt pt, iter, [], 0⟩] scope gpos) X.env) :: starEach [] X.env := by rfl) :
    PE X (.Call (.Name "any" p) [.GeneratorExp elt [⟨.Tuple [.Name xa pa, .Name xb pb'] kt pt, iter, [], 0⟩] scope gpos] [] pos) (tAnyL P q pb te) := by
  refine ⟨fun pins s σ H Q I h => ?_⟩
  refine wpAny_Call_Name_kw (ld_blt I hg hm boot_any ?_)
  refine PyProof.Rows.callWith_builtin1 ?_ he (by rfl)
  rw [he]
  refine Calls.spliced_cons (gen_C (pins := pins) (σ := σ) hq hr TB hcode S hs (thn (hi.run pins s σ H _ I h) fun xv s1 ⟨v, H1, I1, r1, q1⟩ => ?_))
  obtain ⟨a, ts, cols, rfl, ha, hcs, tab, q1⟩ := q1
  cases r1
  obtain ⟨hz, its, nn, rv, hlen, hraw⟩ := I1.lstM ha
  have hisl : s1.heap.IsList a its.toArray := ⟨_, hraw, rfl, nn, rfl⟩
  refine wpAny_pyIter_list hisl ?_
  have hPo : s1.heap.get? P = some { cls := .none, data := .fields tab.choose } := I1.hok P _ tab.choose_spec.1
  have hPlt : P < s1.heap.objs.size := Heap.lt_size hPo
  have halt : a < s1.heap.objs.size := Heap.lt_size hraw
  have naP : a ≠ P := fun z => by
    rw [z, hPo] at hraw
    cases hraw
  have hlc := pairs_len hcs
  have hit := vals_refs rv
  have hsz : its.toArray.size = cols.length := by rw [hit, List.size_toArray, List.length_map, hlc]
  obtain ⟨vals, tv⟩ : ∃ vals : Nat → Array Value, ∀ j, (∃ ta tb, vals j = #[.str (cols.getD j ("", "")).1 ta, .str (cols.getD j ("", "")).2 tb]) ∧ (∀ x, cols[j]? = some x → s1.heap.IsTuple (ts.getD j 0) (vals j) ∧ ts.getD j 0 ≠ P) := ⟨fun j => (tup_at I1 tab hcs j).choose, fun j => (tup_at I1 tab hcs j).choose_spec⟩
  have at_ : ∀ j, j < its.toArray.size → ∃ x, cols[j]? = some x := fun j hj => ⟨_, List.getElem?_eq_getElem (by omega)⟩
  have tlt : ∀ j, j < its.toArray.size → ts.getD j 0 < s1.heap.objs.size := fun j hj => by
    obtain ⟨x, hx⟩ := at_ j hj
    obtain ⟨o, ho, _⟩ := ((tv j).2 x hx).1
    exact Heap.lt_size ho
  refine ⟨s1, H1, s1.heap.objs.size, _, [s1.heap.objs.size], its.toArray.size, _, _, _, trG cols (fun x => pb x.1 x.2) ("", ""), rfl, I1, rfl, fun b u e => Heap.get?_push_of_some _ e, Nat.le_of_lt (by rw [Heap.size_push]; exact Nat.lt_succ_self _),
    fun A' hA => WalksU.listOfTuples hA s1.heap.objs.size a (Nat.ne_of_lt halt) its.toArray (fun j => ts.getD j 0) vals (fun j hj => ?_) (fun j hj => Nat.ne_of_lt (tlt j hj)), fun i vs e => by
      obtain ⟨ta, tb, z⟩ := (tv i).1
      exact ⟨_, _, e.trans z⟩, ⟨⟨_, Heap.get?_push_size _ rfl, rfl, rfl⟩, hisl.at fun o e => Heap.get?_push_of_some _ e, fun k hk => ?_⟩, fun b hb => ?_, fun b hb => ?_, tab, ?_, fun g s5 hG => ?_⟩
  · have hlt : j < ts.length := by rw [hlc, ← hsz]; exact hj
    rw [hit, List.getElem?_toArray, List.getElem?_map, List.getD_eq_getElem?_getD, List.getElem?_eq_getElem hlt]; rfl
  · obtain ⟨x, hx⟩ := at_ k hk
    exact ((tv k).2 x hx).1.push _
  · have sp : (s1.heap.push { cls := .type "list_iterator", data := .fields #[.ref a, .int 0 0] } : Heap).objs.size = s1.heap.objs.size + 1 := Heap.size_push _ _
    rcases List.mem_cons.mp hb with z | hb
    · rw [z]
      exact ⟨by show _ < (s1.heap.push _).objs.size; rw [sp]; exact Nat.lt_succ_self _, fun z => Nat.lt_irrefl _ (z ▸ hPlt)⟩
    rcases List.mem_cons.mp hb with z | hb
    · rw [z]
      exact ⟨by show _ < (s1.heap.push _).objs.size; rw [sp]; exact Nat.lt_succ_of_lt halt, naP⟩
    obtain ⟨j, hj, rfl⟩ := List.mem_map.mp hb
    have hj := List.mem_range.mp hj
    obtain ⟨x, hx⟩ := at_ j hj
    exact ⟨by show _ < (s1.heap.push _).objs.size; rw [sp]; exact Nat.lt_succ_of_lt (tlt j hj), ((tv j).2 x hx).2⟩
  · rw [List.mem_singleton.mp hb]
    exact Nat.le_refl _
  · intro cenv A' E' i va vb s₂ m₂ hsc _ hA _ hgl nsG kin hPv hn hma hmb
    obtain ⟨ta, tb, z⟩ := (tv i).1
    have e : #[va, vb] = (#[.str (cols.getD i ("", "")).1 ta, .str (cols.getD i ("", "")).2 tb] : Array Value) := Eq.trans hPv z
    have e2 := congrArg Array.toList e
    injection e2 with e3 e4
    injection e4 with e5 _
    exact hel cenv A' E' _ _ ta tb s₂ m₂ hsc hgl hA nsG kin hn (by rw [hma, e3]) (by rw [hmb, e5])
  · obtain ⟨fp, wr, G, F, St, W, hst, htr, hI⟩ := hG
    refine Calls.spliced_nil ?_
    refine call_any_walkS (W.self 0 _ _ _ hst ⟨g, fp, wr, G, _, F, St, _, rfl, W, hst, htr, fun s' hmv => ?_⟩)
    obtain ⟨H2, hT, J⟩ := hI s' hmv
    refine ⟨.bl _, H2, J, rfl, ?_⟩
    rw [hsz, any_rangeG]
    exact q1 H2 hT
end
end GT
set_option Elab.async false
set_option linter.all false
set_option maxRecDepth 100000
set_option maxHeartbeats 4000000
namespace GT
open PySem PySem.Spec PyProof.Rows PySem.Calls L2 KB GxR
def TupG (K : PySem.W.Frag) (mg : Str → Option Value) (g : Str) (ys : List Str) : Prop := ∃ aK o its n, mg g = some (.ref aK) ∧ K.lookup aK = some o ∧ o.cls = .type "tuple" ∧ o.data = .seq its n ∧ PyProof.Rows.StrsAre its.toList ys
theorem elt_kind {X : Cx} {scope : Scope} {xa xb g : Str} {ys : List Str} {j : Nat} {p1 p2 p3 p4 p5 p6 p7 : Pos} (hk : scope.kind = .function) (ha : scope.names.lookup xa = some .local) (hb : scope.names.lookup xb = some .local) (hg : scope.names.lookup g = some .globalImplicit) (hm : TupG X.K X.mg g ys)
    (d1 : (xa == ("__debug__" : Str)) = false := by decide +kernel) (d2 : (xb == ("__debug__" : Str)) = false := by decide +kernel) (d3 : (g == ("__debug__" : Str)) = false := by decide +kernel) :
    EltP2 X scope xa xb (.BoolOp .Or [.Compare (.Name xa p1) [.Eq] [.Constant (.str "") j p2] p3, .Compare (.Name xb p4) [.NotIn] [.Name g p5] p6] p7) (fun n k => (n == ("" : Str)) || !(ys.any fun y => y == k)) := by
  intro cenv A' E' n k ta tb s₂ m₂ hsc hgl hA nsG kin hn hma hmb
  obtain ⟨aK, o, its, nn, hmg, hl, hc, hd, hs⟩ := hm
  have kf : cenv.scope.kind = .function := by rw [hsc]; exact hk
  have keep1 : ∀ (k : Nat), Keeps s₂ { s₂ with toks := k } := fun k => keeps_tok _ _
  refine BoolOp_or (wpAny_Compare1 ?_)
  refine wpAny_Name (wpAny_loadName_local kf (show cenv.scope.names.lookup xa = some .local by rw [hsc]; exact ha) hn hma ?_) d1
  refine wpAny_Constant_str (PyProof.Rows.eq_str (wpAny_truthy_bool ?_))
  by_cases c : (n == ("" : Str)) = true
  · rw [if_pos c]
    refine ⟨congrArg Value.bool (by show (n == ("" : Str)) = ((n == ("" : Str)) || _); rw [c]; rfl), keep1 _⟩
  · rw [if_neg c]
    refine BoolOp_one (wpAny_Compare1 ?_)
    refine wpAny_Name (wpAny_loadName_local kf (show cenv.scope.names.lookup xb = some .local by rw [hsc]; exact hb) hn hmb ?_) d2
    refine Calls.Name_function_global kf (show cenv.scope.names.lookup g = some .globalImplicit by rw [hsc]; exact hg) (Calls.loadGlobal_global (by rw [hgl]; exact nsG) hmg ?_) d3
    refine PyProof.Rows.notin_tuple_strs ⟨o, kin _ _ hl, hc, nn, hd⟩ hs ⟨?_, keep1 _⟩
    have cf : (n == ("" : Str)) = false := by simpa using c
    show _ = Value.bool ((n == ("" : Str)) || _)
    rw [cf]; rfl
end GT
set_option Elab.async false
set_option linter.all false
set_option maxRecDepth 100000
set_option maxHeartbeats 4000000
namespace KL0
open PySem PySem.Spec PyProof.Rows L2 KB KC KS KN1 LamX K7
theorem eqI (a b : Int) : decide (V.int a = V.int b) = decide (a = b) := by simp
abbrev qSh : Str := "Shape.__init__.<locals>.<genexpr>"
def badCol (n k : Str) : Bool := (n == ("" : Str)) || !((["int", "text"] : List Str).any fun y => y == k)
def goodS (cols : Co) : Prop := cols.length ≤ 20 ∧ (cols.map fun y : Str × Str => y.1).Nodup ∧ (cols.any fun x => badCol x.1 x.2) = false
def ExB (c P : Addr) (H H' : Hp) : Prop := ∀ b o, b ≠ c → b ≠ P → H b = some o → H' b = some o
@[irreducible] def spSInit (CS CR Pi : Addr) : Sp := fun vs H Q E => ∃ (c dx a : Addr) (ts : List Addr) (cols : Co), vs = [.ref c, .ref a] ∧ H c = some (.ins CS dx []) ∧ H a = some (.lst (ts.map V.ref)) ∧ Cols H ts cols ∧ cols.length ≤ 1000 ∧ TabS H Pi qSh ∧
  (¬ goodS cols → ∀ H', ExB c Pi H H' → TabS H' Pi qSh → E (.ref CR) none H') ∧ (goodS cols → ∀ H', ExB c Pi H H' → TabS H' Pi qSh → ShA CS c cols H' → Q .non H')
theorem foldA_short {α : Type} : ∀ (es acc : List (Key × α)), (acc.map (·.1)).Nodup → ¬ ((acc ++ es).map (·.1)).Nodup → (es.foldl (fun acc e => putA acc e.1 e.2) acc).length < acc.length + es.length
  | [], acc, h, n => absurd (by simpa using h) n
  | e :: es, acc, h, n => by
    rw [List.foldl_cons, List.length_cons]
    by_cases c : (acc.any fun x => decide (x.1 = e.1)) = true
    · have l1 : (putA acc e.1 e.2).length = acc.length := by unfold putA; rw [if_pos c, List.length_map]
      have := foldA_len_go es (putA acc e.1 e.2)
      omega
    · have ep : putA acc e.1 e.2 = acc ++ [e] := by unfold putA; rw [if_neg c]
      rw [ep]
      have nd : ((acc ++ [e]).map (·.1)).Nodup := by
        rw [List.map_append, List.nodup_append]
        refine ⟨h, by simp, fun x hx y hy z => c ?_⟩
        obtain ⟨p, hp, rfl⟩ := List.mem_map.mp hx
        have hy : y = e.1 := by simpa using hy
        rw [List.any_eq_true]
        exact ⟨p, hp, decide_eq_true (z.trans hy)⟩
      have := foldA_short es (acc ++ [e]) nd (by simpa using n)
      rw [List.length_append] at this
      simp at this
      omega
theorem nodup_inr' {l : List Str} : (l.map fun n => (Sum.inr n : Key)).Nodup ↔ l.Nodup := by
  constructor
  · intro h
    induction l with
    | nil => exact List.nodup_nil
    | cons a l ih =>
      rw [List.map_cons, List.nodup_cons] at h
      rw [List.nodup_cons]
      exact ⟨fun hm => h.1 (List.mem_map.mpr ⟨a, hm, rfl⟩), ih h.2⟩
  · intro h
    induction l with
    | nil => exact List.nodup_nil
    | cons a l ih =>
      rw [List.nodup_cons] at h
      rw [List.map_cons, List.nodup_cons]
      refine ⟨fun hm => ?_, ih h.2⟩
      obtain ⟨b, hb, e⟩ := List.mem_map.mp hm
      cases e
      exact h.1 hb
theorem fold_names (l : List Str) : ((foldA (l.map fun n => ((Sum.inr n : Key), ()))).length = l.length) ↔ l.Nodup := by
  have e : ((l.map fun n => ((Sum.inr n : Key), ())).map (·.1)) = l.map fun n => (Sum.inr n : Key) := by rw [List.map_map]; rfl
  constructor
  · intro h
    refine Decidable.byContradiction fun n => ?_
    have := foldA_short (l.map fun n => ((Sum.inr n : Key), ())) [] List.nodup_nil (by rw [List.nil_append, e, nodup_inr']; exact n)
    rw [List.length_map] at this
    have h : (List.foldl (fun acc (e : Key × Unit) => putA acc e.1 e.2) [] (l.map fun n => ((Sum.inr n : Key), ()))).length = l.length := h
    simp at this
    omega
  · intro h
    rw [foldA_self (by rw [e, nodup_inr']; exact h), List.length_map]
theorem val_place : ∀ (cols : Co) (n : Str) (k : Nat), valV (((cols.map fun y : Str × Str => y.1).zipIdx k).map fun e => ((Sum.inr e.1 : Key), V.int ((e.2 : Nat) : Int))) (Sum.inr n) = (placeIn cols n).map fun i => V.int ((i + k : Nat) : Int)
  | [], n, k => rfl
  | x :: cols, n, k => by
    have ih := val_place cols n (k + 1)
    unfold placeIn at ih ⊢
    rw [List.findIdx?_cons]
    rw [List.map_cons, List.zipIdx_cons, List.map_cons]
    unfold valV at ih ⊢
    rw [List.find?_cons]
    by_cases c : x.1 = n
    · have e1 : decide ((Sum.inr x.1 : Key) = Sum.inr n) = true := decide_eq_true (by rw [c])
      rw [e1, if_pos (decide_eq_true c)]
      simp
    · have e1 : decide ((Sum.inr x.1 : Key) = Sum.inr n) = false := decide_eq_false fun z => c (Sum.inr.inj z)
      rw [e1, if_neg (by simpa using c)]
      rw [ih, Option.map_map]
      congr 1
      funext i
      show V.int _ = V.int _
      congr 1
      show ((i + (k + 1) : Nat) : Int) = (((i + 1) + k : Nat) : Int)
      congr 1
      omega
theorem paired_app {α β : Type} {F : α → β → Prop} : ∀ {xs xs' : List α} {ys ys' : List β}, Paired F xs ys → Paired F xs' ys' → Paired F (xs ++ xs') (ys ++ ys')
  | [], _, _, _, .nil, q => q
  | _ :: _, _, _, _, .cons h r, q => .cons h (paired_app r q)
theorem kvs_int {H : Hp} : ∀ {kvs : List (Key × V)} {es : List (Key × Int)}, KvR (fun _ v (i : Int) => v = .int i) H kvs es → kvs = es.map fun e => (e.1, V.int e.2)
  | [], _, .nil => rfl
  | p :: kvs, e :: es, .cons h r => by
    obtain ⟨h1, h2⟩ := h
    have h2 : p.2 = V.int e.2 := h2
    rw [List.map_cons, ← kvs_int (H := H) r, ← h1, ← h2]
theorem tabS_ins {H : Hp} {P c C dx : Addr} {q : Str} {fs : List (Str × V)} {o : HO} (t : TabS H P q) (h : H c = some (.ins C dx fs)) : TabS (upd H c o) P q := by
  obtain ⟨ps, hP, ht, ha⟩ := t
  refine ⟨ps, by rw [L2.upd_ne (fun z => by rw [z, h] at hP; cases hP)]; exact hP, ht, fun pos cv hcv => ?_⟩
  obtain ⟨c0, e, hc0⟩ := ha pos cv hcv
  refine ⟨c0, e, ?_⟩
  rw [L2.upd_ne (fun z => by rw [z, h] at hc0; cases hc0)]
  exact hc0
section
variable {P : Program} {w : World} {K : PySem.W.Frag} {mg : Str → Option Value} {base : Heap} {f cI Pi CS CR : Addr} {fd : FuncData}
def nSI : List Str := ["self", "columns", "names", "name", "kind", "place"]
theorem scSI : FnScope nSI ["self", "columns"] (defScope (sSM 0)) := ⟨rfl, rfl, rfl, by decide +kernel, rfl, by decide +kernel, by decide +kernel⟩
theorem ok_sinit (F : FnP K "__init__" "Shape.__init__" (sSM 0) [] f fd) (hc : fd.code = .ref cI) (TB : GxR.TabB base mg cI Pi) (B : TxtS K mg CS) (T : TxtL mg) (TK : TxtK mg) (J : TxtX K mg CR) (hM : ∃ tk, mg "MOST_COLUMNS" = some (.int 20 tk)) (hE : mg "enumerate" = none) (hKi : GT.TupG K mg "KINDS" ["int", "text"]) :
    FnOk P w K mg base (L2.CX P w) 1 f fd ["self", "columns"] (spSInit CS CR Pi) := by
  obtain ⟨tk, hM⟩ := hM
  refine okC F hc scSI (fun vs H Q E h => ?_) (fun A outer s H vs Q E hr h => ?_)
  · unfold spSInit at h
    obtain ⟨_, _, _, _, _, rfl, _⟩ := h; rfl
  · unfold spSInit at h
    obtain ⟨c, dx, a, ts, cols, rfl, h1, h2, h3, hl, tab, bad, good⟩ := h
    have pair : ∀ (X : Cx), X.N = nSI → True := fun _ _ => trivial
    refine ⟨_, pss_cons (ps_setLc (i := 2) (own := [("name", 3), ("kind", 4)]) (g := gTup K 2 (gCons (gName 3) (gCons (gName 4) gNil))) (tt := tYes) (te := tVar 3) rfl scSI.nd rfl rfl (sw_true rfl rfl rfl (by decide +kernel)) (pi_list (pv 1)) (blkOk_by (N := nSI) (sc := defScope (sSM 0)) (by decide +kernel))
        (fun _ _ _ _ _ => pg_tup rfl (pgs_cons (pg_name (i := 3) scSI.nd rfl (Or.inl rfl)) (pgs_cons (pg_name (i := 4) scSI.nd rfl (Or.inl rfl)) pgs_nil))) (fun _ _ _ _ _ => pts_nil) (fun _ _ _ _ _ => pv 3))
      (pss_cons (ps_if (PW.pt (pw_or (pt_cmpR op_gt (pe_callB call_len_seq (by rfl) T.len (by decide +kernel) (pa_cons (pv 1) pa_nil)) (pe_glob (v := .int 20) (by rfl) hM ⟨_, rfl⟩) (nomark _))
          (pw_or1 (pt_cmpR op_ne (pe_callB call_lenD (by rfl) T.len PySem.boot_len (pa_cons (pe_dc (own := [("name", 3)]) (g := gName 3) (tt := tYes) (tk := tVar 3) (tv := tC (.bl true)) rfl scSI.nd (pi_list (pv 2)) (blkOk_by (N := nSI) (sc := defScope (sSM 0)) (by decide +kernel))
            (fun _ _ _ _ _ => pg_name (i := 3) scSI.nd rfl (Or.inl rfl)) (fun _ _ _ _ _ => pts_nil) (fun _ _ _ _ _ => pv 3) (fun _ _ _ _ _ => pe_bl)) pa_nil)) (pe_callB call_len_seq (by rfl) T.len PySem.boot_len (pa_cons (pv 2) pa_nil)) (nomark _)))))
        (pss_one (ps_raise rfl (takes_of rfl rfl rfl rfl) (pmk_own PySem.F.excBase_ValueError J.x J.g J.k (raises_own J.b J.t) rfl))) pss_nil)
      (pss_cons (ps_if (pt_val (GT.pe_anyL (c := cI) (P := Pi) (q := qSh) (pb := badCol) (xa := "name") (xb := "kind") (show (Str.ofString "Shape.__init__" ++ Str.ofString ".<locals>.") ++ Str.ofString "<genexpr>" = qSh by decide +kernel) hr (by rfl) TK.any TB rfl
          ⟨rfl, rfl, by decide +kernel, rfl, rfl, rfl, by decide +kernel, fun y hy e => by
            rcases List.mem_cons.mp hy with rfl | hy
            · cases e
            · rcases List.mem_cons.mp hy with rfl | hy
              · cases e
              · rcases List.mem_cons.mp hy with rfl | hy
                · cases e
                · rcases List.mem_cons.mp hy with rfl | hy
                  · cases e
                  · cases hy⟩ (pv 1) (GT.elt_kind rfl rfl rfl rfl hKi) (fun _ => rfl)))
        (pss_one (ps_raise rfl (takes_of rfl rfl rfl rfl) (pmk_own PySem.F.excBase_ValueError J.x J.g J.k (raises_own J.b J.t) rfl))) pss_nil)
      (PSs.nox <| pss_cons (ps_fld (pv 0) (pe_callTy FM.call_tupleZ (by rfl) T.tuple (by decide +kernel) (pa_cons (pe_lc (own := [("name", 3), ("kind", 4)]) (g := gTup K 2 (gCons (gName 3) (gCons (gName 4) gNil))) (tt := tYes) (te := tTup (tCons (tVar 3) (tCons (tVar 4) tNil))) rfl scSI.nd (pi_list (pv 1)) (blkOk_by (N := nSI) (sc := defScope (sSM 0)) (by decide +kernel))
        (fun _ _ _ _ _ => pg_tup rfl (pgs_cons (pg_name (i := 3) scSI.nd rfl (Or.inl rfl)) (pgs_cons (pg_name (i := 4) scSI.nd rfl (Or.inl rfl)) pgs_nil))) (fun _ _ _ _ _ => pts_nil) (fun _ _ _ _ _ => pe_tup (pa_cons (pv 3) (pa_cons (pv 4) pa_nil)))) pa_nil)) (by rfl))
      (pss_one (ps_fld (pv 0) (pe_dc (own := [("name", 3), ("place", 5)]) (g := gTup K 2 (gCons (gName 5) (gCons (gName 3) gNil))) (tt := tYes) (tk := tVar 3) (tv := tVar 5) rfl scSI.nd (pi_enum (by rfl) hE (pa_cons (pv 2) pa_nil)) (blkOk_by (N := nSI) (sc := defScope (sSM 0)) (by decide +kernel))
        (fun _ _ _ _ _ => pg_tup rfl (pgs_cons (pg_name (i := 5) scSI.nd rfl (Or.inl rfl)) (pgs_cons (pg_name (i := 3) scSI.nd rfl (Or.inl rfl)) pgs_nil))) (fun _ _ _ _ _ => pts_nil) (fun _ _ _ _ _ => pv 3) (fun _ _ _ _ _ => pv 5)) (by rfl)))))), ?_⟩
    have hz : sizeLine = 16777216 := rfl
    have hlt : ts.length = cols.length := paired_len h3
    have exb : ∀ {H' : Hp}, KS.Ex H H' → ExB c Pi H H' := fun e b o _ _ h => e b o h
    have tabx : ∀ {H' : Hp}, KS.Ex H H' → TabS H' Pi qSh := fun e => tab.ext e
    refine ⟨_, rfl, a, rfl, ⟨_, SqL.of h2⟩, fun D hD => ?_⟩
    refine lc_list (xs := ts.map V.ref) (fun i H2 => KS.Ex H H2 ∧ H2 D = some (.lst ((cols.take i).map fun x => V.str x.1))) ⟨Ex.upd hD, upd_same⟩ (fun i H2 _ ⟨e2, _⟩ => SqL.of (e2 _ _ h2)) (fun i x H2 hx ⟨e2, k2⟩ => ?_) (fun H2 ⟨e2, k2⟩ => ?_)
    · rw [List.getElem?_map] at hx
      obtain ⟨b, hb, rfl⟩ := Option.map_eq_some_iff.mp hx
      obtain ⟨y, hy, ht⟩ := paired_get h3 hb
      refine ⟨b, _, rfl, SqT.of (e2 _ _ ht), rfl, _, _, rfl, _, _, rfl, rfl, rfl, _, rfl, _, k2, ?_, Ex.on e2 hD, ?_⟩
      · rw [List.length_map, List.length_take]
        omega
      · rw [upd_same, take_snoc hy, List.map_append]; rfl
    · rw [List.length_map, hlt, List.take_length] at k2
      have k2 : H2 D = some (.lst ((cols.map fun y : Str × Str => y.1).map V.str)) := by rw [List.map_map]; exact k2
      generalize hnm : (cols.map fun y : Str × Str => y.1) = names at *
      have lnm : names.length = cols.length := by rw [← hnm, List.length_map]
      refine ⟨_, rfl, a, _, rfl, .inl (SqL.of (e2 _ _ h2)), _, _, rfl, rfl, _, rfl, ?_⟩
      rw [List.length_map, hlt]
      by_cases c1 : 20 < cols.length
      · exact ifT (decide_eq_true (by omega)) (ifT rfl (bad (fun g => by have := g.1; omega) H2 (exb e2) (tabx e2)))
      refine ifF (by simp; omega) ?_
      refine ⟨_, rfl, D, rfl, ⟨_, SqL.of k2⟩, fun D2 hD2 => ?_⟩
      refine dcG (walk_list (K := K) (a := D) (xs := names.map V.str)) (fun _ v (_ : Unit) => v = .bl true) (fun j => names[j]?.bind fun n => some (Sum.inr n, ())) (fun _ _ _ _ _ h => h) hD2 (by rw [List.length_map]; omega) (fun H3 e3 => SqL.of (e3 _ _ k2)) (fun i H3 x H4 _ _ h => by obtain ⟨rfl, _⟩ := h; exact Ex.refl _) (fun j v H3 H4 R0 N0 hj e3 hy hno hsm => ?_) (fun H3 kvs e3 hx3 hps => ?_)
      · obtain ⟨rfl, hy⟩ := hy
        rw [List.getElem?_map] at hy
        obtain ⟨n, hn, rfl⟩ := Option.map_eq_some_iff.mp hy
        exact ⟨rfl, _, rfl, hsm (Sum.inr n) () (by rw [hn]; rfl) _ _ (Ex.refl _) rfl⟩
      · rw [List.length_map, range_fm, List.filterMap_eq_map'] at hps
        have lk : kvs.length = (foldA (names.map fun n => ((Sum.inr n : Key), ()))).length := paired_len hps
        have e03 : KS.Ex H H3 := e2.trans e3
        refine ⟨D2, _, rfl, hx3, _, rfl, D, _, rfl, .inl (SqL.of (e3 _ _ k2)), rfl, _, rfl, ?_⟩
        rw [List.length_map, eqI]
        by_cases nd : names.Nodup
        · have l2 := (fold_names names).mpr nd
          refine ifF (by simp; omega) ?_
          refine ⟨_, rfl, a, ts, cols, rfl, e03 _ _ h2, h3.ex e03, tabx e03, fun H5 t5 => ⟨_, rfl, ?_⟩⟩
          have x5 : ExB c Pi H H5 := fun b o _ nP h => t5.2 b o nP (e03 b o h)
          by_cases cb : (cols.any fun x => badCol x.1 x.2) = true
          · exact ifT cb (bad (fun g => by rw [g.2.2] at cb; cases cb) H5 x5 t5.1)
          refine ifF cb ?_
          have gd : goodS cols := ⟨by omega, by rw [hnm]; exact nd, by simpa using cb⟩
          have k3 := e3 _ _ k2
          have nb : ∀ {b : Addr} {o : HO}, H3 b = some o → (∀ ps, o ≠ .tbl ps) → H5 b = some o := fun {b o} h no => t5.2 b o (fun z => by
            obtain ⟨ps, hp, _⟩ := tabx e03
            rw [z, hp] at h
            exact no ps (Option.some.inj h).symm) h
          have k5 := nb k3 (by intro _ z; cases z)
          have a5 := nb (e03 _ _ h2) (by intro _ z; cases z)
          have cl5 : Cols H5 ts cols := paired_mono (fun _ _ q => nb q (by intro _ z; cases z)) (h3.ex e03)
          have c5 := nb (e03 _ _ h1) (by intro _ z; cases z)
          refine ⟨_, rfl, a, rfl, ⟨_, SqL.of a5⟩, fun D3 hD3 => ?_⟩
          refine lc_list (xs := ts.map V.ref) (fun i H6 => KS.Ex H5 H6 ∧ ∃ us : List Addr, H6 D3 = some (.lst (us.map V.ref)) ∧ Cols H6 us (cols.take i)) ⟨Ex.upd hD3, [], upd_same, .nil⟩ (fun i H6 _ ⟨e6, _⟩ => SqL.of (e6 _ _ a5)) (fun i x H6 hx ⟨e6, us, k6, cu⟩ => ?_) (fun H6 ⟨e6, us, k6, cu⟩ => ?_)
          · rw [List.getElem?_map] at hx
            obtain ⟨b, hb, rfl⟩ := Option.map_eq_some_iff.mp hx
            obtain ⟨y, hy, ht⟩ := paired_get cl5 hb
            refine ⟨b, _, rfl, SqT.of (e6 _ _ ht), rfl, _, _, rfl, _, _, rfl, rfl, rfl, _, rfl, _, rfl, (by show 2 ≤ sizeLine; decide), fun u hu => ?_⟩
            have nu : D3 ≠ u := fun z => by rw [z, hu] at k6; cases k6
            have lus := paired_len cu
            rw [List.length_take] at lus
            refine ⟨_, by rw [L2.upd_ne nu]; exact k6, by rw [List.length_map]; omega, ?_, us ++ [u], ?_, ?_⟩
            · exact Ex.on (e6.trans (Ex.upd hu)) hD3
            · rw [upd_same, List.map_append]; rfl
            · rw [take_snoc hy]
              refine paired_app (paired_mono (fun t x q => ?_) cu) (.cons ?_ .nil)
              · rw [L2.upd_ne (fun z => by rw [z, k6] at q; cases q), L2.upd_ne (fun z => by rw [z, hu] at q; cases q)]
                exact q
              · rw [L2.upd_ne nu.symm]; exact upd_same
          · rw [List.length_map, hlt, List.take_length] at cu
            refine ⟨D3, _, rfl, SqL.of k6, fun l ob hl' hob => ?_⟩
            have e57 := e6.trans (Ex.upd (o := .frz ob (.tup (us.map V.ref))) hl')
            have l7 : (upd H6 l (.frz ob (.tup (us.map V.ref)))) l = some (.frz ob (.tup (us.map V.ref))) := upd_same
            have cu7 : Cols (upd H6 l (.frz ob (.tup (us.map V.ref)))) us cols := cu.ex (Ex.upd hl')
            generalize upd H6 l (.frz ob (.tup (us.map V.ref))) = H7 at e57 l7 cu7
            refine ⟨_, rfl, c, CS, dx, _, rfl, e57 _ _ c5, B.cl, B.c, (by show 0 < 1000; decide), ?_⟩
            have c7 := e57 _ _ c5
            have keep8 : ∀ {b : Addr} {o : HO} (o' : HO), H7 b = some o → (∀ C' dx' fs', o ≠ .ins C' dx' fs') → (upd H7 c o') b = some o := fun {b o} o' h no => by
              rw [L2.upd_ne (fun z => by
                rw [z, c7] at h
                exact no _ _ _ (Option.some.inj h).symm)]
              exact h
            have k8 := keep8 (.ins CS dx (putF "columns" (.ref l) [])) (e57 _ _ k5) (by intro _ _ _ z; cases z)
            have l8 := keep8 (.ins CS dx (putF "columns" (.ref l) [])) l7 (by intro _ _ _ z; cases z)
            have cu8 : Cols (upd H7 c (.ins CS dx (putF "columns" (.ref l) []))) us cols := paired_mono (fun _ _ q => keep8 _ q (by intro _ _ _ z; cases z)) cu7
            have x8 : ExB c Pi H (upd H7 c (.ins CS dx (putF "columns" (.ref l) []))) := fun b o nc nP h => by
              rw [L2.upd_ne nc]
              exact e57 _ _ (x5 b o nc nP h)
            have t8 : TabS (upd H7 c (.ins CS dx (putF "columns" (.ref l) []))) Pi qSh := tabS_ins (t5.1.ext e57) c7
            have c8 : (upd H7 c (.ins CS dx (putF "columns" (.ref l) []))) c = some (.ins CS dx (putF "columns" (.ref l) [])) := upd_same
            generalize upd H7 c (.ins CS dx (putF "columns" (.ref l) [])) = H8 at k8 l8 cu8 x8 t8 c8
            refine ⟨_, rfl, D, _, rfl, SqL.of k8, fun D4 hD4 => ?_⟩
            refine dcG (walk_enum (K := K) (a := D) (xs := names.map V.str)) (fun _ v (i : Int) => v = .int i) (fun j => names.zipIdx[j]?.bind fun e => some ((Sum.inr e.1 : Key), ((e.2 : Nat) : Int))) (fun _ _ _ _ _ h => h) hD4 (by rw [List.length_map]; omega) (fun H9 e9 => SqL.of (e9 _ _ k8)) (fun i H9 x H10 _ _ h => by obtain ⟨T, x, y, _, hT, rfl, _⟩ := h; exact Ex.upd hT) (fun j v H9 H10 R0 N0 hj e9 hy hno hsm => ?_) (fun H9 kvs e9 hx9 hps => ?_)
            · obtain ⟨T1, x1, y1, rfl, hT, rfl, hx, hy⟩ := hy
              obtain rfl := Option.some.inj hx
              have hy : (names.map V.str)[j]? = some y1 := hy
              rw [List.getElem?_map] at hy
              obtain ⟨n, hn, rfl⟩ := Option.map_eq_some_iff.mp hy
              refine ⟨T1, _, rfl, SqT.of upd_same, rfl, _, _, rfl, _, _, rfl, rfl, rfl, _, rfl, _, rfl, ?_⟩
              exact hsm (Sum.inr n) (j : Int) (by rw [List.getElem?_zipIdx, hn]; simp) _ _ (Ex.refl _) rfl
            · have eo : (List.range (names.map V.str).length).filterMap (fun j => names.zipIdx[j]?.bind fun e => some ((Sum.inr e.1 : Key), ((e.2 : Nat) : Int))) = names.zipIdx.map fun e => ((Sum.inr e.1 : Key), ((e.2 : Nat) : Int)) := by
                have el : (names.map V.str).length = names.zipIdx.length := by rw [List.length_map, List.length_zipIdx]
                rw [el, range_fm, List.filterMap_eq_map']
              have ek : (names.zipIdx.map fun e => ((Sum.inr e.1 : Key), ((e.2 : Nat) : Int))).map (·.1) = names.map fun n => (Sum.inr n : Key) := by
                rw [List.map_map]
                have := congrArg (List.map fun n : Str => (Sum.inr n : Key)) (List.zipIdx_map_fst 0 names)
                rw [List.map_map] at this
                exact this
              rw [eo, foldA_self (by rw [ek, nodup_inr']; exact nd)] at hps
              have ev : kvs = names.zipIdx.map fun e => ((Sum.inr e.1 : Key), V.int ((e.2 : Nat) : Int)) := by
                rw [kvs_int hps, List.map_map]; rfl
              refine ⟨_, rfl, c, CS, dx, _, rfl, e9 _ _ c8, B.cl, B.p, (by show 1 < 1000; decide), ?_⟩
              have c9 := e9 _ _ c8
              have keep9 : ∀ {b : Addr} {o : HO} (o' : HO), H9 b = some o → (∀ C' dx' fs', o ≠ .ins C' dx' fs') → (upd H9 c o') b = some o := fun {b o} o' h no => by
                rw [L2.upd_ne (fun z => by
                  rw [z, c9] at h
                  exact no _ _ _ (Option.some.inj h).symm)]
                exact h
              refine good gd (upd H9 c (.ins CS dx (sF l D4))) (fun b o nc nP h => ?_) (tabS_ins (t8.ext e9) c9) ⟨dx, l, D4, us, kvs, upd_same, ⟨ob, hob, keep9 _ (e9 _ _ l8) (by intro _ _ _ z; cases z)⟩, paired_mono (fun _ _ q => keep9 _ q (by intro _ _ _ z; cases z)) (cu8.ex e9), trivial, trivial⟩
              rw [L2.upd_ne nc]
              exact e9 _ _ (x8 b o nc nP h)
        · have l2 : ¬ (foldA (names.map fun n => ((Sum.inr n : Key), ()))).length = names.length := fun z => nd ((fold_names names).mp z)
          exact ifT (by simp; omega) (bad (fun g => nd (by have := g.2.1; rw [hnm] at this; exact this)) H3 (exb e03) (tabx e03))
end
end KL0
set_option Elab.async false
set_option linter.all false
set_option maxRecDepth 100000
set_option maxHeartbeats 2000000
namespace FM
open PySem PySem.Spec PyProof.Rows L2 LamX GG K7
theorem anyW {J : It} {n : Nat} {G : Hp → Prop} {Y : Nat → Hp → V → Hp → Prop} (w : Walk J n G Y) {g : TG} {te : TE} {vs : List Nat} {σ : L2.St} {stop : Bool} {End Found : Hp → Prop} (p : Nat → Bool) (C : Hp → Prop) {H2 : Hp} (c0 : C H2) (hG : ∀ H, C H → G H)
    (turn : ∀ (i : Nat) (x : V) (H H1 : Hp) (R0 : V → Hp → Prop), i < n → C H → Y i H x H1 → (∀ H', C H' → R0 (.bl (p i)) H') → g x (wipe σ vs) H1 fun σ2 H2 => wipe σ2 vs = wipe σ vs ∧ te σ2 H2 fun y H4 => R0 y H4)
    (fin : ∀ H, C H → (∀ i, i < n → p i ≠ stop) → End H) (found : ∀ H i, C H → i < n → p i = stop → Found H) :
    ∃ W : Nat → Nat → Hp → Prop, (∃ m, W 0 m H2) ∧ TurnG J g te vs σ stop End Found W := by
  refine ⟨fun i m H => m = n - i ∧ i ≤ n ∧ C H ∧ ∀ j, j < i → p j ≠ stop, ⟨n, by simp, Nat.zero_le _, c0, fun j hj => absurd hj (Nat.not_lt_zero _)⟩, ?_⟩
  rintro i m H ⟨rfl, hi, c, hp⟩
  by_cases hlt : i < n
  · refine .inr ⟨w.goes i H hlt (hG H c), (fun H' => i + 1 ≤ n ∧ C H' ∧ ∀ j, j < i + 1 → p j ≠ stop), fun H' p' => ⟨n - (i + 1), by omega, rfl, p'⟩, fun x H1 y => ?_⟩
    have y := w.yields i H x H1 hlt (hG H c) y
    refine turn i x H H1 (fun y H4 => ∃ c : Bool, y = .bl c ∧ ((c = stop → Found H4) ∧ (c ≠ stop → _))) hlt c y fun H' c' => ⟨p i, rfl, fun e => found H' i c' hlt e, fun e => ⟨hlt, c', fun j hj => ?_⟩⟩
    rcases Nat.lt_or_ge j i with z | z
    · exact hp j z
    · have : j = i := by omega
      rw [this]; exact e
  · have e' : i = n := by omega
    subst e'
    exact .inl ⟨w.stops H (hG H c), fin H c hp⟩
theorem any_range {α : Type} {l : List α} {p : α → Bool} {f : Nat → Bool} (h : ∀ (i : Nat) a, l[i]? = some a → f i = p a) : ((∀ i, i < l.length → f i ≠ true) ↔ l.any p = false) ∧ ((∀ i, i < l.length → f i ≠ false) ↔ l.all p = true) := by
  constructor
  · constructor
    · intro q
      rw [List.any_eq_false]
      intro a ha
      obtain ⟨i, hi⟩ := List.mem_iff_getElem?.mp ha
      rw [← h i a hi]
      exact q i (List.getElem?_eq_some_iff.mp hi).1
    · intro q i hi
      rw [List.any_eq_false] at q
      have := q l[i] (List.getElem_mem hi)
      rw [← h i _ (List.getElem?_eq_getElem hi)] at this
      exact this
  · constructor
    · intro q
      rw [List.all_eq_true]
      intro a ha
      obtain ⟨i, hi⟩ := List.mem_iff_getElem?.mp ha
      rw [← h i a hi]
      have := q i (List.getElem?_eq_some_iff.mp hi).1
      simpa using this
    · intro q i hi
      rw [List.all_eq_true] at q
      have := q l[i] (List.getElem_mem hi)
      rw [← h i _ (List.getElem?_eq_getElem hi)] at this
      rw [this]; simp
end FM
set_option Elab.async false
set_option linter.all false
set_option maxRecDepth 100000
set_option maxHeartbeats 4000000
namespace FM
open PySem PySem.Spec PyProof.Rows PySem.Calls L2 KB KC KD KS LamX
def E0T (K : PySem.W.Frag) (a : Addr) : Prop := ∃ (n : Nat) (sl : Array (Option Value)), K.lookup a = some ⟨.type "tuple", none, .seq #[] n, sl⟩
theorem E0T.sq {K : PySem.W.Frag} {a : Addr} (h : E0T K a) (H : Hp) : SqT K H a [] := by
  obtain ⟨n, sl, e⟩ := h
  exact .inr ⟨_, #[], n, e, rfl, rfl, by show 0 ≤ sizeLine; decide, .nil⟩
theorem cr_dict00 {X : Cx} (hc : X.calm = true) (hu : X.A.units + 4 < cLine) : CallR X (.type "dict") (fun xs H Q => ∃ a, xs = [.ref a] ∧ E0T X.K a ∧ ∀ p, H p = none → Q (.ref p) (upd H p (.dK []))) := by
  intro pins s σ H vs us Q I r h
  obtain ⟨a, rfl, ⟨n, sl, lk⟩, q⟩ := h
  obtain rfl := Vals.ref1 r
  have hraw := I.kIn _ _ lk
  have items : PairItems s.heap (#[] : Array Value) (fun j => 0) ([] : List (Value × Value)) := ⟨rfl, fun j k v hj => by simp at hj⟩
  have hc2 : PairsHaveH (tupleKind (mixKind X.prog X.w)) 0 (PairRel ([] : List (Value × Value))) ([] : List (List Key × Addr × Value)) := ⟨rfl, fun i key v hj => by
    have hj : ([] : List (Value × Value))[i]? = some (key, v) := hj
    simp at hj⟩
  have hroom : (tupleKind (mixKind X.prog X.w)).room X.A.in1.in1 := tupleKind_room_in1 (by show X.A.units + 1 + 1 < cLine; omega)
  have hm : (s.heap.objs.size == sysModules) = false := beq_eq_false_iff_ne.mpr (Nat.ne_of_gt I.big)
  refine call_dict_pairsH (knd := tupleKind (mixKind X.prog X.w)) (PairArg.tuple a _ _ _) (I.ok.hd hc) hroom ⟨⟨_, n, hraw, rfl, rfl, rfl⟩, items⟩ hc2 (fun h' hk x hx => by cases hx) (by show 0 ≤ sizeLine; decide) fun h' tk hd hk => ?_
  refine ⟨.ref s.heap.objs.size, upd H s.heap.objs.size (.dK []), I.laid (t' := tk) (fun b o e => hk b o (by simp) e) (Nat.le_refl _) ⟨Nat.zero_le _, hm, [], .nil, ?_⟩, rfl, q _ (I.hok.fresh (Nat.le_refl _))⟩
  obtain ⟨o, es, ep, d1, d2, d3, d4, _, _⟩ := hd
  have e0 : es = #[] := by
    rw [← Array.toArray_toList (xs := es), d4]
    rfl
  subst e0
  exact ⟨o, #[], ep, d1, d2, d3, (fun e h => by simp at h), .nil, List.nodup_nil⟩
theorem cr_dictO {X : Cx} (hc : X.calm = true) (hu : X.A.units + 4 < cLine) : CallR X (.type "dict") (fun xs H Q => (∃ (a : Addr) (kvs : List (Key × V)), xs = [.ref a] ∧ Rd H a (.dK kvs) ∧ ∀ p, H p = none → Q (.ref p) (upd H p (.dK kvs))) ∨ ∃ a, xs = [.ref a] ∧ E0T X.K a ∧ ∀ p, H p = none → Q (.ref p) (upd H p (.dK []))) := by
  intro pins s σ H xs us Q I r h
  rcases h with h | h
  · exact call_dictD pins s σ H xs us Q I r h
  · exact cr_dict00 hc hu pins s σ H xs us Q I r h
end FM
set_option Elab.async false
set_option linter.all false
set_option maxRecDepth 100000
set_option maxHeartbeats 4000000
namespace KL0
open PySem PySem.Spec PyProof.Rows L2 KB KC KS KN1 LamX K7 FM GG
abbrev sSc (j : Nat) : Stmt := inClass sSchema j
abbrev Lk := List (Str × V)
abbrev Sc := Co × Lk
def kindAt (cols : Co) (n : Str) : Option Str := (cols.find? fun x => decide (x.1 = n)).map (·.2)
def lkAt (lk : Lk) (n : Str) : Option V := (lk.find? fun x => decide (x.1 = n)).map (·.2)
def kvC (cols : Co) : List (Key × V) := cols.map fun x => ((Sum.inr x.1 : Key), V.str x.2)
def kvL (lk : Lk) : List (Key × V) := lk.map fun x => ((Sum.inr x.1 : Key), x.2)
theorem val_kvC (cols : Co) (n : Str) : valV (kvC cols) (Sum.inr n) = (kindAt cols n).map V.str := by
  induction cols with
  | nil => rfl
  | cons x r ih =>
    unfold valV kindAt kvC at ih ⊢
    rw [List.map_cons, List.find?_cons, List.find?_cons]
    by_cases c : x.1 = n
    · have e : decide ((Sum.inr x.1 : Key) = Sum.inr n) = true := decide_eq_true (by rw [c])
      rw [e, decide_eq_true c]; rfl
    · have e : decide ((Sum.inr x.1 : Key) = Sum.inr n) = false := decide_eq_false fun z => c (Sum.inr.inj z)
      rw [e, decide_eq_false c]
      exact ih
theorem val_kvL (lk : Lk) (n : Str) : valV (kvL lk) (Sum.inr n) = lkAt lk n := by
  induction lk with
  | nil => rfl
  | cons x r ih =>
    unfold valV lkAt kvL at ih ⊢
    rw [List.map_cons, List.find?_cons, List.find?_cons]
    by_cases c : x.1 = n
    · have e : decide ((Sum.inr x.1 : Key) = Sum.inr n) = true := decide_eq_true (by rw [c])
      rw [e, decide_eq_true c]; rfl
    · have e : decide ((Sum.inr x.1 : Key) = Sum.inr n) = false := decide_eq_false fun z => c (Sum.inr.inj z)
      rw [e, decide_eq_false c]
      exact ih
theorem kvC_self {cols : Co} (h : (cols.map fun y : Str × Str => y.1).Nodup) : mergeK [] (kvC cols) = kvC cols := by
  rw [merge_selfK, List.nil_append]
  rw [List.nil_append]
  unfold kvC
  rw [List.map_map]
  have e : (Prod.fst ∘ fun x : Str × Str => ((Sum.inr x.1 : Key), V.str x.2)) = (fun n : Str => (Sum.inr n : Key)) ∘ fun y : Str × Str => y.1 := rfl
  rw [e, ← List.map_map, nodup_inr']
  exact h
theorem cols_pairs {H : Hp} : ∀ {ts : List Addr} {cols : Co}, Cols H ts cols → Paired (fun p kv => H p = some (.tup [kV kv.1, kv.2])) ts (kvC cols)
  | _, _, .nil => .nil
  | _, _, .cons h t => .cons h (cols_pairs t)
def SD (D S : Addr → Prop) (H : Hp) : Prop := ∀ b, S b → (D b ∧ ∃ kvs, H b = some (.dK kvs)) ∨ H b = none ∨ ∃ xs, H b = some (.lst xs)
theorem SD.of0 {D : Addr → Prop} {H : Hp} : SD D N0 H := fun _ z => z.elim
section
variable {CS CC : Addr} {T : List (Addr × Str)} {D D' S : Addr → Prop} {c : Addr} {cols : Co} {sc : Sc} {H H' : Hp}
theorem SD.nd (z : SD D S H) {b : Addr} {o : HO} (h : H b = some o) (n1 : ∀ kvs, o ≠ .dK kvs) (n2 : ∀ xs, o ≠ .lst xs) : ¬ S b := fun s => by
  rcases z b s with ⟨_, kvs, e⟩ | e | ⟨xs, e⟩ <;> rw [e] at h
  · exact n1 _ (Option.some.inj h).symm
  · cases h
  · exact n2 _ (Option.some.inj h).symm
theorem SD.dict (z : SD D S H) {b : Addr} {kvs : List (Key × V)} (h : H b = some (.dK kvs)) (n : ¬ D b) : ¬ S b := fun s => by
  rcases z b s with ⟨q, _⟩ | e | ⟨xs, e⟩
  · exact n q
  · rw [e] at h; cases h
  · rw [e] at h; cases h
theorem Cols.fm {ts : List Addr} (h : Cols H ts cols) (e : Fm T S H H') (z : SD D S H) : Cols H' ts cols := paired_mono (fun _ _ q => e.at' q (z.nd q (by intro _ z; cases z) (by intro _ z; cases z))) h
theorem ShA.fm (x : ShA CS c cols H) (e : Fm T S H H') (z : SD D S H) : ShA CS c cols H' := by
  obtain ⟨dx, t, d, ts, kvs, h1, h2, h3, h4, h5⟩ := x
  refine ⟨dx, t, d, ts, kvs, e.at' h1 (z.nd h1 (by intro _ z; cases z) (by intro _ z; cases z)), ?_, h3.fm e z, trivial, trivial⟩
  obtain ⟨o, q1, q2⟩ := h2
  exact ⟨o, q1, e.at' q2 (z.nd q2 (by intro _ z; cases z) (by intro _ z; cases z))⟩
def scF (sh dl : Addr) : List (Str × V) := [("shape", .ref sh), ("lacking", .ref dl)]
def SchA (CS CC : Addr) (D : Addr → Prop) (c : Addr) (sc : Sc) (H : Hp) : Prop := ∃ dx sh dl, H c = some (.ins CC dx (scF sh dl)) ∧ ShA CS sh sc.1 H ∧ H dl = some (.dK (kvL sc.2)) ∧ ¬ D dl
theorem SchA.fm (x : SchA CS CC D c sc H) (e : Fm T S H H') (z : SD D S H) : SchA CS CC D c sc H' := by
  obtain ⟨dx, sh, dl, h1, h2, h3, h4⟩ := x
  exact ⟨dx, sh, dl, e.at' h1 (z.nd h1 (by intro _ z; cases z) (by intro _ z; cases z)), h2.fm e z, e.at' h3 (z.dict h3 h4), h4⟩
theorem SchA.fm0 (x : SchA CS CC D c sc H) (e : Fm T N0 H H') : SchA CS CC D c sc H' := x.fm e SD.of0
theorem SchA.mono (x : SchA CS CC D c sc H) (h : ∀ b, D' b → D b) : SchA CS CC D' c sc H := by
  obtain ⟨dx, sh, dl, h1, h2, h3, h4⟩ := x
  exact ⟨dx, sh, dl, h1, h2, h3, fun z => h4 (h _ z)⟩
end
def WasD (H : Hp) : Addr → Prop := fun b => ∃ kvs, H b = some (.dK kvs)
def badP (cols : Co) (q : Str × V) : Bool := match kindAt cols q.1 with
  | none => true
  | some k => match kd q.2 with
    | none => true
    | some k2 => !decide (V.str k2 = V.str k)
theorem badP_iff {cols : Co} {q : Str × V} (h : kd q.2 ≠ none) : badP cols q = false ↔ kindAt cols q.1 = kd q.2 := by
  unfold badP
  cases e1 : kindAt cols q.1 with
  | none => simp; exact fun z => h z.symm
  | some k =>
    cases e2 : kd q.2 with
    | none => exact absurd e2 h
    | some k2 =>
      simp
      exact ⟨fun z => z.symm, fun z => z.symm⟩
def goodL (cols : Co) (lk : Lk) : Prop := ∀ p ∈ lk, kindAt cols p.1 = kd p.2
def goodC (sc : Sc) : Prop := goodS sc.1 ∧ goodL sc.1 sc.2
structure OkL (lk : Lk) : Prop where
  nd : (lk.map fun y : Str × V => y.1).Nodup
  len : lk.length ≤ 1000
  kd : ∀ p ∈ lk, Rowy p.2 ∧ KL0.kd p.2 ≠ none
abbrev qSi : Str := "Schema.__init__.<locals>.<genexpr>"
structure TxtC (K : PySem.W.Frag) (mg : Str → Option Value) (CC : Addr) : Prop where
  cl : Cls K CC
  sh : NoAttr K CC "shape"
  la : NoAttr K CC "lacking"
  g : mg "Schema" = some (.ref CC)
def LkArg (K : PySem.W.Frag) (H : Hp) (v : V) (lk : Lk) : Prop := ∃ d, v = .ref d ∧ (H d = some (.dK (kvL lk)) ∨ (lk = [] ∧ E0T K d))
@[irreducible] def spSch (K : PySem.W.Frag) (CS CC CR : Addr) (T : List (Addr × Str)) : Sp := fun vs H Q E => ∃ (c dx a : Addr) (v : V) (ts : List Addr) (cols : Co) (lk : Lk), vs = [.ref c, .ref a, v] ∧ H c = some (.ins CC dx []) ∧ H a = some (.lst (ts.map V.ref)) ∧ Cols H ts cols ∧ cols.length ≤ 1000 ∧ LkArg K H v lk ∧ OkL lk ∧ Tabs T H ∧
  (¬ goodC (cols, lk) → ∀ H', Fm T (fun b => b = c) H H' → E (.ref CR) none H') ∧ (goodC (cols, lk) → ∀ H', Fm T (fun b => b = c) H H' → SchA CS CC (WasD H) c (cols, lk) H' → Q .non H')
end KL0
set_option Elab.async false
set_option linter.all false
set_option maxRecDepth 100000
set_option maxHeartbeats 4000000
namespace KL0
open PySem PySem.Spec PyProof.Rows L2 KB KC KS KN1 LamX K7 FM GG
section
variable {P : Program} {w : World} {K : PySem.W.Frag} {mg : Str → Option Value} {base : Heap} {f fS fK cI Pi Ps Pj CS CC CR : Addr} {fd fdS fdK : FuncData} {T : List (Addr × Str)} {dvs : List V}
def nSch : List Str := ["self", "columns", "lacking", "kinds", "name", "value"]
theorem scSch : FnScope nSch ["self", "columns", "lacking"] (defScope (sSc 0)) := ⟨rfl, rfl, rfl, by decide +kernel, rfl, by decide +kernel, by decide +kernel⟩
theorem exB_fm {c Pi : Addr} {H H' : Hp} (u : Uq T) (hm : (Pi, qSh) ∈ T) (t : Tabs T H) (e : ExB c Pi H H') (h1 : TabS H' Pi qSh) {C dx : Addr} {fs : List (Str × V)} (hc : H c = some (.ins C dx fs)) : Fm T (fun b => b = c) H H' := by
  obtain ⟨ps0, hP, _⟩ := t _ hm
  refine ⟨fun p hp => ?_, fun b o nb h n => e b o nb (fun z => n ps0 (Option.some.inj (by rw [← h, z]; exact hP))) h⟩
  by_cases q : p.1 = Pi
  · have e : p.2 = qSh := u p hp _ hm q
    rw [e, q]; exact h1
  · obtain ⟨ps, a1, a2, a3⟩ := t p hp
    refine ⟨ps, e _ _ (fun z => by rw [z, hc] at a1; cases a1) q a1, a2, fun pos cv hcv => ?_⟩
    obtain ⟨c0, e1, e2⟩ := a3 pos cv hcv
    exact ⟨c0, e1, e _ _ (fun z => by rw [z, hc] at e2; cases e2) (fun z => by rw [z, hP] at e2; cases e2) e2⟩
theorem cr_dictL {X : Cx} (hc : X.calm = true) (hu : X.A.units + 4 < cLine) : CallR X (.type "dict") (fun xs H Q => ∃ v lk, xs = [v] ∧ LkArg X.K H v lk ∧ ∀ p, H p = none → Q (.ref p) (upd H p (.dK (kvL lk)))) := by
  intro pins s σ H xs us Q I r h
  obtain ⟨v, lk, rfl, ⟨d, rfl, hd⟩, q⟩ := h
  rcases hd with hd | ⟨rfl, h0⟩
  · exact cr_dictO hc hu pins s σ H _ us Q I r (.inl ⟨d, _, rfl, .inl hd, q⟩)
  · exact cr_dictO hc hu pins s σ H _ us Q I r (.inr ⟨d, rfl, h0, q⟩)
theorem ok_sch (F : FnP K "__init__" "Schema.__init__" (sSc 0) dvs f fd) (hc : fd.code = .ref cI) (TB : GxR.TabB base mg cI Pj) (B : TxtC K mg CC) (BS : TxtS K mg CS) (TL : TxtL mg) (TK : TxtK mg) (J : TxtX K mg CR) (uT : Uq T) (mi : (Pi, qSh) ∈ T) (mj : (Pj, qSi) ∈ T) (mk : (Ps, qK) ∈ T)
    (MS : Mk K CS fS) (GS : FnOk P w K mg base (L2.CX P w) 1 fS fdS ["self", "columns"] (spSInit CS CR Pi)) (bS : Binds K fdS ["self", "columns"] [])
    (GK : FnOk P w K mg base (L2.CX P w) 1 fK fdK ["value"] (spKind CR Ps)) (gK : mg "kind_of" = some (.ref fK)) (kK : PySem.W.keepIn K (.ref fK) = true) (bK : Binds K fdK ["value"] []) :
    FnOk P w K mg base (L2.CX P w) 4 f fd ["self", "columns", "lacking"] (spSch K CS CC CR T) := by
  refine okC F hc scSch (fun vs H Q E h => ?_) (fun A outer s H vs Q E hr h => ?_)
  · unfold spSch at h
    obtain ⟨_, _, _, _, _, _, _, rfl, _⟩ := h; rfl
  · unfold spSch at h
    obtain ⟨c, dx, a, v, ts, cols, lk, rfl, h1, h2, h3, hl, hv, okl, tab, bad, good⟩ := h
    have hu := hr.units
    have hu4 : (A.deeper (envOfC "Schema.__init__" (defScope (sSc 0)) s.heap.objs.size f (.ref cI))).units + 4 < cLine := Nat.lt_trans (Nat.add_lt_add_left (by decide : 4 < 64) _) hu
    refine ⟨_, pss_cons (ps_fld (pv 0) (pe_make MS GS (hr.mono (by decide)) (by rfl) BS.g bS .nil (passes_call (takes_of rfl rfl rfl rfl) (fun _ _ _ _ h => h)) (pa_cons (pv 1) pa_nil)) (by rfl))
      (pss_cons (ps_fld (pv 0) (pe_callTy (cr_dictL rfl hu4) (by rfl) TL.dict (by decide +kernel) (pa_cons (pv 2) pa_nil)) (by rfl))
      (pss_cons (ps_set (i := 3) scSch.nd rfl (Or.inr rfl) (pe_callTy (call_dictTu rfl) (by rfl) TL.dict (by decide +kernel) (pa_cons (pe_fld (pf 0) (by rfl)) pa_nil)))
      (pss_one (ps_if (pt_val (pe_lock (pe_anyG (k := 2) (c := cI) (P := Pj) (q := qSi) (own := [("name", 4), ("value", 5)]) (g := gTup K 2 (gCons (gName 4) (gCons (gName 5) gNil))) (show (Str.ofString "Schema.__init__" ++ Str.ofString ".<locals>.") ++ Str.ofString "<genexpr>" = qSi by decide +kernel) (hr.mono (by decide)) (by rfl) TK.any TB rfl scSch.nd (pi_items (pf 0))
          (gOk_by (N := nSch) (sc := defScope (sSc 0)) (by decide +kernel) rfl (by decide +kernel) (by decide +kernel))
          (fun _ _ _ _ _ _ => pg_tup rfl (pgs_cons (pg_name (i := 4) scSch.nd rfl (Or.inl rfl)) (pgs_cons (pg_name (i := 5) scSch.nd rfl (Or.inl rfl)) pgs_nil)))
          (fun _ _ _ _ _ _ hr2 => pe_or (pe_cmp (pc_dnotin (Nat.lt_trans (Nat.add_lt_add_left (by decide : 1 < 64) _) hr2.units) (pv 4) (pv 3)))
            (pe_one (pe_cmpR op_ne (pe_call GK (hr2.mono (by decide)) (by rfl) gK kK bK (E := fun _ _ _ => False) .nil (passes_call L2.takes0 (fun _ _ _ _ h => h)) (pa_cons (pv 5) pa_nil)) (pe_dget (Nat.lt_trans (Nat.add_lt_add_left (by decide : 1 < 64) _) hr2.units) (pv 3) (pv 4) (fun _ _ => rfl)) (nomark _)))))))
        (pss_one (ps_raise rfl (takes_of rfl rfl rfl rfl) (pmk_own PySem.F.excBase_ValueError J.x J.g J.k (raises_own J.b J.t) rfl))) pss_nil)))), ?_⟩
    have tS := tab _ mi
    refine ⟨_, rfl, fun x dxs nx nd ne => ?_⟩
    have e1 : KS.Ex H (upd (upd H dxs (.own x)) x (.ins CS dxs [])) := (Ex.upd nd).trans (Ex.upd (by rw [L2.upd_ne ne.symm]; exact nx))
    have x1 : (upd (upd H dxs (.own x)) x (.ins CS dxs [])) x = some (.ins CS dxs []) := upd_same
    have ncx : c ≠ x := ne_of_none h1 nx
    generalize upd (upd H dxs (.own x)) x (.ins CS dxs []) = H1 at e1 x1
    show spSInit CS CR Pi [.ref x, .ref a] H1 _ _
    unfold spSInit
    refine ⟨x, dxs, a, ts, cols, rfl, x1, e1 _ _ h2, h3.ex e1, hl, tS.ext e1, fun ng H2 b2 t2 => bad (fun z => ng z.1) H2 ?_, fun gs H2 b2 t2 sa => ⟨rfl, ?_⟩⟩
    · have f2 := exB_fm uT mi (tab.ext e1) b2 t2 x1
      exact ((Fm.ex tab e1).trans f2).shrink fun b hb => .inr (by rw [hb]; exact nx)
    · have f2 := exB_fm uT mi (tab.ext e1) b2 t2 x1
      have f02 : Fm T N0 H H2 := ((Fm.ex tab e1).trans f2).shrink fun b hb => .inr (by rw [hb]; exact nx)
      have c2 : H2 c = some (.ins CC dx []) := f02.at0 h1
      refine ⟨_, rfl, c, CC, dx, _, rfl, c2, B.cl, B.sh, (by show 0 < 1000; decide), ?_⟩
      have f03 : Fm T (fun b => b = c) H (upd H2 c (.ins CC dx [("shape", V.ref x)])) := f02.of0.trans (Fm.wr f02.1 c2 (by intro _ z; cases z) (by intro _ z; cases z) rfl)
      have sa3 : ShA CS x cols (upd H2 c (.ins CC dx [("shape", V.ref x)])) := by
        have fw : Fm T (fun b => b = c) H2 (upd H2 c (.ins CC dx [("shape", V.ref x)])) := Fm.wr f02.1 c2 (by intro _ z; cases z) (by intro _ z; cases z) rfl
        obtain ⟨dx', t', d', ts', kvs', q1, q2, q3, q4, q5⟩ := sa
        refine ⟨dx', t', d', ts', kvs', fw.at' q1 (fun z => ncx z.symm), q2.fm fw (fun z => ?_), paired_mono (fun t0 _ q => fw.at' q (fun z => by rw [z, c2] at q; cases q)) q3, trivial, trivial⟩
        obtain ⟨o, _, q⟩ := q2
        rw [z, c2] at q; cases q
      have c3 : (upd H2 c (.ins CC dx [("shape", V.ref x)])) c = some (.ins CC dx [("shape", V.ref x)]) := upd_same
      rw [show putF "shape" (V.ref x) [] = [(("shape" : Str), V.ref x)] from rfl]
      generalize upd H2 c (.ins CC dx [("shape", V.ref x)]) = H3 at f03 sa3 c3
      have lv3 : LkArg K H3 v lk := by
        obtain ⟨d, rfl, hd⟩ := hv
        refine ⟨d, rfl, hd.elim (fun q => .inl (f03.at' q (fun z => by rw [z, h1] at q; cases q))) .inr⟩
      refine ⟨_, rfl, v, lk, rfl, lv3, fun dl nl => ?_⟩
      have e4 : KS.Ex H3 (upd H3 dl (.dK (kvL lk))) := Ex.upd nl
      have l4 : (upd H3 dl (.dK (kvL lk))) dl = some (.dK (kvL lk)) := upd_same
      have f04 : Fm T (fun b => b = c) H (upd H3 dl (.dK (kvL lk))) := f03.trans (Fm.ex f03.1 e4)
      have nl0 : ¬ WasD H dl := fun ⟨kvs, q⟩ => by
        have z := f03.at' q (fun z => by rw [z, h1] at q; cases q)
        rw [nl] at z; cases z
      have c4 := e4 _ _ c3
      have sa4 : ShA CS x cols (upd H3 dl (.dK (kvL lk))) := sa3.ex e4
      have ncl : dl ≠ c := fun z => by rw [z, c3] at nl; cases nl
      generalize upd H3 dl (.dK (kvL lk)) = H4 at e4 l4 f04 c4 sa4
      refine ⟨_, rfl, c, CC, dx, _, rfl, c4, B.cl, B.la, (by show 1 < 1000; decide), ?_⟩
      rw [show putF "lacking" (V.ref dl) [(("shape" : Str), V.ref x)] = scF x dl from rfl]
      have fw : Fm T (fun b => b = c) H4 (upd H4 c (.ins CC dx (scF x dl))) := Fm.wr f04.1 c4 (by intro _ z; cases z) (by intro _ z; cases z) rfl
      have f05 := f04.trans fw
      have l5 := fw.at' l4 ncl
      have c5 : (upd H4 c (.ins CC dx (scF x dl))) c = some (.ins CC dx (scF x dl)) := upd_same
      have sa5 : ShA CS x cols (upd H4 c (.ins CC dx (scF x dl))) := by
        obtain ⟨dx', t', d', ts', kvs', q1, q2, q3, q4, q5⟩ := sa4
        refine ⟨dx', t', d', ts', kvs', fw.at' q1 (fun z => ncx z.symm), q2.fm fw (fun z => ?_), paired_mono (fun t0 _ q => fw.at' q (fun z => by rw [z, c4] at q; cases q)) q3, trivial, trivial⟩
        obtain ⟨o, _, q⟩ := q2
        rw [z, c4] at q; cases q
      generalize upd H4 c (.ins CC dx (scF x dl)) = H5 at fw f05 l5 c5 sa5
      obtain ⟨dxs', t', d', ts', kvs', q1, q2, q3, _, _⟩ := id sa5
      refine ⟨_, rfl, c, CC, dx, _, _, rfl, c5, B.cl, B.sh, rfl, x, CS, dxs', _, _, rfl, q1, BS.cl, BS.c, rfl, t', ts', kvC cols, rfl, q2, cols_pairs q3, fun dk nk => ?_⟩
      rw [kvC_self gs.2.1]
      have e6 : KS.Ex H5 (upd H5 dk (.dK (kvC cols))) := Ex.upd nk
      have k6 : (upd H5 dk (.dK (kvC cols))) dk = some (.dK (kvC cols)) := upd_same
      have f06 := f05.trans (Fm.ex f05.1 e6)
      have c6 := e6 _ _ c5
      have l6 := e6 _ _ l5
      have sa6 := sa5.ex e6
      have nkl : dk ≠ dl := fun z => by rw [z, l5] at nk; cases nk
      generalize upd H5 dk (.dK (kvC cols)) = H6 at e6 k6 f06 c6 l6 sa6
      refine ⟨dl, .dK (kvL lk), l6, trivial, fun od => ?_⟩
      have ncl' : c ≠ dl := ncl.symm
      have c7 : (upd H6 dl (.frz od (.dK (kvL lk)))) c = some (.ins CC dx (scF x dl)) := by rw [L2.upd_ne ncl']; exact c6
      have k7 : (upd H6 dl (.frz od (.dK (kvL lk)))) dk = some (.dK (kvC cols)) := by rw [L2.upd_ne nkl]; exact k6
      have t7 : Tabs T (upd H6 dl (.frz od (.dK (kvL lk)))) := tabs_wr f06.1 l6 (by intro _ z; cases z) (by intro _ z; cases z)
      have l7 : (upd H6 dl (.frz od (.dK (kvL lk)))) dl = some (.frz od (.dK (kvL lk))) := upd_same
      refine ⟨_, rfl, c, CC, dx, _, _, rfl, c7, B.cl, B.la, rfl, dl, od, _, rfl, l7, t7 _ mj, fun H8 tb8 => ?_⟩
      have f78 : Fm T N0 (upd H6 dl (.frz od (.dK (kvL lk)))) H8 := Fm.tab uT mj t7 tb8.1 tb8.2
      refine anyW walk_items (fun i => match lk[i]? with | some q => badP cols q | none => false) (fun H' => Fm T N0 (upd H6 dl (.frz od (.dK (kvL lk)))) H') f78 (fun H' q => q.at0 l7) (fun i x' H9 H10 R0 hi f9 hy hR => ?_) (fun H' f9 hp => ?_) (fun H' i f9 hi hp => ?_)
      · obtain ⟨T', x', y', rfl, hT, rfl, hx1, hy1⟩ := hy
        obtain ⟨q, hq⟩ : ∃ q, lk[i]? = some q := by
          have hi : i < (kvL lk).length := hi
          unfold kvL at hi
          rw [List.length_map] at hi
          exact ⟨_, List.getElem?_eq_getElem hi⟩
        have hk : (kvL lk)[i]? = some ((Sum.inr q.1 : Key), q.2) := by unfold kvL; rw [List.getElem?_map, hq]; rfl
        simp only [hk, Option.map_some, Option.some.injEq] at hx1 hy1
        subst hx1
        subst hy1
        have f10 : Fm T N0 (upd H6 dl (.frz od (.dK (kvL lk)))) (upd H9 T' (.tup [kV (Sum.inr q.1), q.2])) := f9.trans (Fm.new f9.1 hT)
        refine ⟨T', _, rfl, SqT.of upd_same, rfl, _, _, rfl, _, _, rfl, rfl, rfl, ?_⟩
        generalize upd H9 T' (.tup [kV (Sum.inr q.1), q.2]) = H10 at f10
        have k10 := f10.at0 k7
        have hR := hR
        simp only [hq] at hR
        refine ⟨_, rfl, _, rfl, dk, _, rfl, DGet.k (k := Sum.inr q.1) k10, _, rfl, ?_⟩
        rw [val_kvC]
        have okq := okl.kd q (List.mem_of_getElem? hq)
        cases ek : kindAt cols q.1 with
        | none =>
          refine ifT rfl ?_
          have z := hR H10 f10
          have e : badP cols q = true := by unfold badP; rw [ek]
          rw [e] at z
          exact z
        | some kk =>
          refine ifF (by simp) ?_
          refine ⟨_, rfl, ?_⟩
          refine kd_step okq.1 (f10.1 _ mk) (fun z => absurd z okq.2) fun k2 hk2 H11 tb11 => ?_
          have f11 := f10.trans (Fm.tab uT mk f10.1 tb11.1 tb11.2)
          refine ⟨_, rfl, _, rfl, dk, V.str kk, rfl, ?_, ?_⟩
          · have z := DGet.k (k := Sum.inr q.1) (f11.at0 k7)
            rw [val_kvC, ek] at z
            exact z
          · have z := hR H11 f11
            have e : badP cols q = !decide (V.str k2 = V.str kk) := by unfold badP; rw [ek, hk2]
            rw [e] at z
            exact ⟨rfl, z⟩
      · have ll : (kvL lk).length = lk.length := by unfold kvL; rw [List.length_map]
        have gl : goodL cols lk := fun q hq => by
          obtain ⟨i, hi⟩ := List.mem_iff_getElem?.mp hq
          have z := hp i (by rw [ll]; exact (List.getElem?_eq_some_iff.mp hi).1)
          simp only [hi] at z
          exact (badP_iff (okl.kd q hq).2).mp (by simpa using z)
        refine ⟨f9.at0 l7, _, rfl, ifF (by simp) ?_⟩
        have f12 : Fm T (fun b => b = c) H6 (upd H' dl (.dK (kvL lk))) := (Fm.unlock l6 f9).of0
        refine good ⟨gs, gl⟩ _ (f06.trans f12) ⟨dx, x, dl, (Fm.unlock l6 f9).at0 c6, sa6.fm (Fm.unlock l6 f9) SD.of0 (D := N0), L2.upd_same, nl0⟩
      · have ng : ¬ goodC (cols, lk) := fun g => by
          obtain ⟨q, hq⟩ : ∃ q, lk[i]? = some q := by
            unfold kvL at hi
            rw [List.length_map] at hi
            exact ⟨_, List.getElem?_eq_getElem hi⟩
          simp only [hq] at hp
          have z := (badP_iff (okl.kd q (List.mem_of_getElem? hq)).2).mpr (g.2 q (List.mem_of_getElem? hq))
          rw [z] at hp; cases hp
        refine ⟨f9.at0 l7, _, rfl, ifT rfl ?_⟩
        exact bad ng _ (f06.trans (Fm.unlock l6 f9).of0)
end
end KL0
set_option Elab.async false
set_option linter.all false
set_option maxRecDepth 100000
set_option maxHeartbeats 4000000
namespace KL0
open PySem PySem.Spec PyProof.Rows L2 KB KC KS KN1 LamX K7 FM GG
def fitP (lk : Lk) (cols : Co) (x : Str × Str) : Bool := match kindAt cols x.1 with
  | some k => decide (V.str k = V.str x.2)
  | none => (lkAt lk x.1).isSome
def readsP (one other : Sc) : Bool := one.1.all fun x => fitP one.2 other.1 x
@[irreducible] def spReads (CS CC : Addr) : Sp := fun vs H Q _ => ∃ (c c2 : Addr) (one other : Sc), vs = [.ref c, .ref c2] ∧ SchA CS CC N0 c one H ∧ SchA CS CC N0 c2 other H ∧ goodS other.1 ∧ ∀ H', KS.Ex H H' → Q (.bl (readsP one other)) H'
theorem reads_step {CS CC c c2 : Addr} {D D2 : Addr → Prop} {one other : Sc} {H : Hp} {Q : VK} {E : XK} (x : SchA CS CC D c one H) (y : SchA CS CC D2 c2 other H) (g : goodS other.1) (fin : ∀ H', KS.Ex H H' → Q (.bl (readsP one other)) H') : spReads CS CC [.ref c, .ref c2] H Q E := by
  unfold spReads
  exact ⟨c, c2, one, other, rfl, x.mono (fun _ z => z.elim), y.mono (fun _ z => z.elim), g, fin⟩
section
variable {P : Program} {w : World} {K : PySem.W.Frag} {mg : Str → Option Value} {base : Heap} {f CS CC CR : Addr} {fd : FuncData}
def nRe : List Str := ["self", "other", "kinds", "name", "kind", "fits"]
theorem scRe : FnScope nRe ["self", "other"] (defScope (sSc 1)) := ⟨rfl, rfl, rfl, by decide +kernel, rfl, by decide +kernel, by decide +kernel⟩
theorem ok_reads (F : FnP K "reads" "Schema.reads" (sSc 1) [] f fd) (B : TxtC K mg CC) (BS : TxtS K mg CS) (TL : TxtL mg) : FnOk P w K mg base CX0 1 f fd ["self", "other"] (spReads CS CC) := by
  refine F.ok scRe (fun vs H Q E h => ?_) (fun cdv A outer s H vs Q E hr h => ?_)
  · unfold spReads at h
    obtain ⟨_, _, _, _, rfl, _⟩ := h; rfl
  · unfold spReads at h
    obtain ⟨c, c2, one, other, rfl, ⟨dx, sh, dl, h1, ⟨dxs, t, d, ts, kvs, q1, q2, q3, _, _⟩, h3, _⟩, ⟨dx2, sh2, dl2, g1, ⟨dxs2, t2, d2, ts2, kvs2, p1, p2, p3, _, _⟩, g3, _⟩, gs, fin⟩ := h
    have hu := hr.units
    have hu1 := Nat.lt_trans (Nat.add_lt_add_left (by decide : 1 < 64) _) hu
    refine ⟨_, PSs.nox <| pss_cons (ps_set (i := 2) scRe.nd rfl (Or.inl rfl) (pe_callTy (call_dictTu rfl) (by rfl) TL.dict (by decide +kernel) (pa_cons (pe_fld (pf 1) (by rfl)) pa_nil)))
      (pss_cons (ps_for PassesOwn.never rfl (pi_tup (pe_fld (pf 0) (by rfl))) (pg_tup rfl (pgs_cons (pg_name (i := 3) scRe.nd rfl (Or.inl rfl)) (pgs_cons (pg_name (i := 4) scRe.nd rfl (Or.inl rfl)) pgs_nil)))
        (pss_cons (ps_set (i := 5) scRe.nd rfl (Or.inl rfl) (pe_ifExp (pt_cmp (pc_din hu1 (pv 3) (pv 2))) (pe_cmpR op_eq (pe_dget hu1 (pv 2) (pv 3) (fun _ _ => rfl)) (pv 4) (nomark _)) (pe_cmp (pc_din hu1 (pv 3) (pf 0)))))
          (pss_one (ps_if (pt_not (pt_val (pv 5))) (pss_one (ps_ret pe_bl)) pss_nil))))
      (pss_one (ps_ret pe_bl))), ?_⟩
    refine ⟨_, rfl, c2, CC, dx2, _, _, rfl, g1, B.cl, B.sh, rfl, sh2, CS, dxs2, _, _, rfl, p1, BS.cl, BS.c, rfl, t2, ts2, kvC other.1, rfl, p2, cols_pairs p3, fun dk nk => ?_⟩
    rw [kvC_self gs.2.1]
    have e6 : KS.Ex H (upd H dk (.dK (kvC other.1))) := Ex.upd nk
    have k6 : (upd H dk (.dK (kvC other.1))) dk = some (.dK (kvC other.1)) := upd_same
    generalize upd H dk (.dK (kvC other.1)) = H6 at e6 k6
    refine ⟨_, rfl, c, CC, dx, _, _, rfl, e6 _ _ h1, B.cl, B.sh, rfl, sh, CS, dxs, _, _, rfl, e6 _ _ q1, BS.cl, BS.c, rfl, t, rfl, ⟨_, (q2.ex e6).sq⟩, ?_⟩
    refine for_tup (xs := ts.map V.ref) (fun i σ H' => H' = H6 ∧ (∃ u v w, σ = [some (.ref c), some (.ref c2), some (.ref dk), u, v, w]) ∧ ((one.1.take i).all fun x => fitP one.2 other.1 x) = true) ⟨rfl, ⟨_, _, _, rfl⟩, rfl⟩ (fun i σ H' _ ⟨e, _⟩ => by rw [e]; exact (q2.ex e6).sq) (fun i x σ H' hx ⟨e, ⟨u, v, w', es⟩, hp⟩ => ?_) (fun σ H' ⟨e, ⟨u, v, w', es⟩, hp⟩ => ?_)
    · subst e
      subst es
      rw [List.getElem?_map] at hx
      obtain ⟨b, hb, rfl⟩ := Option.map_eq_some_iff.mp hx
      obtain ⟨y, hy, ht⟩ := paired_get q3 hb
      refine ⟨b, _, rfl, SqT.of (e6 _ _ ht), rfl, _, _, rfl, _, _, rfl, rfl, ?_⟩
      refine ⟨_, rfl, _, rfl, dk, _, rfl, DGet.k (k := Sum.inr y.1) k6, _, rfl, ?_⟩
      rw [val_kvC]
      have ta : one.1.take (i + 1) = one.1.take i ++ [y] := take_snoc hy
      have done : ∀ (bb : Bool), fitP one.2 other.1 y = bb → ∀ u v w' : Option V, if (!bb) = true then Q (.bl false) H' else H' = H' ∧ (∃ u' v' w1, [some (V.ref c), some (V.ref c2), some (V.ref dk), u, v, w'] = [some (V.ref c), some (V.ref c2), some (V.ref dk), u', v', w1]) ∧ ((one.1.take (i + 1)).all fun x => fitP one.2 other.1 x) = true := fun bb hb u v w' => by
        cases bb with
        | true => exact ifF (by simp) ⟨rfl, ⟨_, _, _, rfl⟩, by rw [ta, List.all_append, hp]; simp [hb]⟩
        | false =>
          refine ifT rfl ?_
          have z := fin H' e6
          have er : readsP one other = false := by
            unfold readsP
            rw [List.all_eq_false]
            exact ⟨y, List.mem_of_getElem? hy, by simp [hb]⟩
          rw [er] at z; exact z
      cases ek : kindAt other.1 y.1 with
      | some k =>
        refine ifT rfl ?_
        refine ⟨_, rfl, _, rfl, dk, V.str k, rfl, ?_, _, rfl, rfl, ?_⟩
        · have z := DGet.k (k := Sum.inr y.1) k6
          rw [val_kvC, ek] at z
          exact z
        · have ef : fitP one.2 other.1 y = decide (V.str k = V.str y.2) := by unfold fitP; rw [ek]
          rw [← ef]
          refine ⟨_, rfl, _, rfl, ?_⟩
          exact done _ rfl _ _ _
      | none =>
        refine ifF (by simp) ?_
        refine ⟨_, rfl, _, rfl, c, CC, dx, _, _, rfl, e6 _ _ h1, B.cl, B.la, rfl, dl, _, rfl, DGet.k (k := Sum.inr y.1) (e6 _ _ h3), _, rfl, ?_⟩
        rw [val_kvL]
        have ef : fitP one.2 other.1 y = (lkAt one.2 y.1).isSome := by unfold fitP; rw [ek]
        rw [← ef]
        refine ⟨_, rfl, ?_⟩
        exact done _ rfl _ _ _
    · subst e
      subst es
      rw [List.length_map, paired_len q3, List.take_length] at hp
      have z := fin H' e6
      unfold readsP at z
      rw [hp] at z
      exact z
end
end KL0
set_option Elab.async false
set_option linter.all false
set_option maxRecDepth 100000
set_option maxHeartbeats 2000000
namespace PySem
theorem meets_enum1 {v : Value} {o : Obj} {H : Heap → Prop} (B : Begins v o H) :
    Meets (Builtin.«enumerate.__new__» ⟨[.type "enumerate", v], []⟩) (fun _ R s => H s.heap ∧
      R (.ok (.ret (.ref (s.heap.push o).objs.size))) { s with heap := (s.heap.push o).push { cls := .type "enumerate", data := .fields #[.none, .bool false, .ref s.heap.objs.size, rawInt 0, .none, .none] } }) :=
  .of_wp fun prog w A R s h => by
    obtain ⟨hp, g, d, tk, os⟩ := s; obtain ⟨hH, hR⟩ := h
    have sub := sub_enumerate
    have go : ∀ {A' : Around} {E : Value → Shared → Prop} {Q : Value → Shared → Prop}, Q (.ref hp.objs.size) ⟨hp.push o, g, d, tk, os⟩ → wpAny (model prog w) A' (pyIter v) Q E ⟨hp, g, d, tk, os⟩ :=
      fun q => B.iter prog w _ _ ⟨hp, g, d, tk, os⟩ _ hH q
    wp_walk using go
    refine wpAny_stack_any fun st => wpAny_pure ?_
    split
    · rename_i c _ _ _ _ _
      cases (c == Value.type "enumerate") <;> (wp_walk using go; exact ⟨_, rfl, hR⟩)
    · wp_walk using go
      exact ⟨_, rfl, hR⟩
section
variable {prog : Program} {w : World} {A : Around} {E : Value → Shared → Prop} {s : Shared}
theorem call_enum1 {v : Value} {o : Obj} {H : Heap → Prop} {Q : Value → Shared → Prop} (B : Begins v o H) (hH : H s.heap)
    (h : ∀ h', IsEnum h' (s.heap.objs.size + 1) s.heap.objs.size 0 .none → h'.get? s.heap.objs.size = some o → h'.objs.size = s.heap.objs.size + 2 →
      (∀ b u, s.heap.get? b = some u → h'.get? b = some u) → Q (.ref (s.heap.objs.size + 1)) { s with heap := h' }) :
    wpAny (model prog w) A (call (.type "enumerate") [v]) Q E s := by
  refine callType_new F.called_enumerate (by decide) (F.typeCall_enumerate_1 _) (F.newCall_enumerate_1 _) (fun obj => F.args_object_init_2 obj _) F.entry_enumerate_new (meets_enum1 B) ⟨hH, ?_⟩
  have hz : (s.heap.push o).objs.size = s.heap.objs.size + 1 := Heap.size_push ..
  have he := Heap.get?_push_size (s.heap.push o) (o := { cls := .type "enumerate", data := .fields #[.none, .bool false, .ref s.heap.objs.size, rawInt 0, .none, .none] }) rfl
  show _ ∧ _
  rw [hz] at he ⊢
  exact ⟨⟨_, he, rfl⟩, h _ he (Heap.get?_push_of_some _ (Heap.get?_push_size _ B.free)) (by rw [Heap.size_push, hz]) fun b u x => Heap.get?_push_of_some _ (Heap.get?_push_of_some _ x)⟩
end
end PySem
namespace EN
open PySem PySem.Spec PyProof.Rows L2
def IteT (K : PySem.W.Frag) (a : Addr) : It :=
  ⟨fun i H => ∃ (xs : List V) (x : V), SqT K H a xs ∧ xs[i]? = some x, fun i H v H' => ∃ T x, v = .ref T ∧ H T = none ∧ H' = upd H T (.tup [.int (i : Nat), x]) ∧ ∀ xs, SqT K H a xs → xs[i]? = some x, fun i H => ∃ xs : List V, SqT K H a xs ∧ xs.length = i⟩
theorem turn_enumT {P : Program} {w : World} {K : PySem.W.Frag} {elts : List Expr} {kk : Nat} {tpos : Pos} (a e it : Addr) :
    Turn P w K (.Tuple elts kk tpos) (IteT K a) [e, it] e (fun i h => (∃ old, IsEnum h e it ((i : Nat) : Int) old) ∧ h.IsTupleIter it a i ∧ e ≠ it ∧ a ≠ e ∧ a ≠ it) where
  mem := by simp
  obj := fun i h st b hb => by
    obtain ⟨⟨old, he⟩, ⟨o, ho, hc, hd⟩, _⟩ := st
    rcases (by simpa using hb : b = e ∨ b = it) with z | z
    · rw [z]; exact ⟨_, he, fun v q => nomatch q⟩
    · rw [z]; exact ⟨o, ho, fun v q => by rw [hd] at q; cases q⟩
  keep := fun i h h' ⟨⟨old, he⟩, hi, hne⟩ k => ⟨⟨old, k e (by simp) _ he⟩, hi.at fun o q => k it (by simp) o q, hne⟩
  item := by
    intro X hP hw hK hc i pins s σ H E I hf st hg
    subst hP hw hK
    obtain ⟨⟨old, he⟩, hit, n1, n2, n3⟩ := st
    obtain ⟨xs, x, hq, hx⟩ := hg
    obtain ⟨its, rv, p, hz⟩ := I.tuple hq
    obtain ⟨u, hu, ru⟩ := rv.get hx
    have hl := Heap.lt_size he
    have hl2 : it < s.heap.objs.size := by obtain ⟨_, q, _⟩ := hit; exact Heap.lt_size q
    have D := Draws.tuple (prog := X.prog) (w := X.w) (A := X.A.in1) (show X.A.in1.handled = none from I.ok.hd hc) it a n3 its.toArray
    have hlt : i < its.toArray.size := by
      obtain ⟨h1, _⟩ := List.getElem?_eq_some_iff.mp hu
      simpa using h1
    refine wpAny_pyNext_enum_itemD D he ⟨hit, p⟩ hlt n1 (by simp [n1, n2.symm]) fun x' h' tk hP ho hs' hT hsz hk => ?_
    have ex : x' = u := by
      have hP : its.toArray[i]? = some x' := hP
      rw [List.getElem?_toArray, hu] at hP
      exact (Option.some.inj hP).symm
    subst ex
    refine ⟨_, rfl, wpAny_letOwnedTupleGo_enum (s := { s with heap := h', toks := tk + 1 }) ho fun h'' he' sb => ?_⟩
    have hT2 : h''.get? s.heap.objs.size = some { cls := .type "tuple", data := .seq #[.int i tk, x'] } := (sb.2 _ (Nat.ne_of_gt hl)).trans hT
    have new : ObjOk X.prog X.w (upd H s.heap.objs.size (.tup [.int (i : Nat), x])) h'' s.heap.objs.size (.tup [.int (i : Nat), x]) :=
      ⟨by show 2 ≤ sizeLine; decide, [.int i tk, x'], .cons ⟨_, rfl⟩ (.cons ru .nil), ⟨_, hT2, rfl, _, rfl⟩⟩
    have I1 : Inv X pins σ (upd H s.heap.objs.size (.tup [.int (i : Nat), x])) { s with heap := h'', toks := tk + 1 } :=
      I.turnedNew (ch := [e, it]) (fun b ob hb q => (sb.2 b (fun z => hb (by simp [z]))).trans (hk b ob (fun z => hb (by simp [z])) (fun z => hb (by simp [z])) q)) hf (Nat.le_refl _) new
    refine ⟨.ref s.heap.objs.size, _, I1, rfl, ⟨_, x, rfl, I.hok.fresh (Nat.le_refl _), rfl, fun ys hy => ?_⟩, ⟨⟨x', ?_⟩, hs'.1.at fun o q => (sb.2 it n1.symm).trans q, n1, n2, n3⟩, fun b hb => ?_⟩
    · rw [I.tuple_inj hy hq]; exact hx
    · have e1 : ((i + 1 : Nat) : Int) = (i : Int) + 1 := by omega
      rw [e1]; exact he'
    · have hb' : b < s.heap.objs.size := by
        rcases (by simpa using hb : b = e ∨ b = it) with z | z
        · rw [z]; exact hl
        · rw [z]; exact hl2
      rw [upd_ne (Nat.ne_of_lt hb')]
      exact (hf b hb).1
  done := by
    intro X hP hw hK hc i pins s σ H E I hf st hg
    subst hP hw hK
    obtain ⟨⟨old, he⟩, hit, n1, n2, n3⟩ := st
    obtain ⟨xs, hq, hx⟩ := hg
    obtain ⟨its, rv, p, hz⟩ := I.tuple hq
    obtain ⟨f0, f1, f2, f3, f4, f5⟩ := hf it (by simp)
    have hl := rv.length
    have D := Draws.tuple (prog := X.prog) (w := X.w) (A := X.A.in1) (show X.A.in1.handled = none from I.ok.hd hc) it a n3 its.toArray
    have hi : i = its.toArray.size := by
      rw [List.size_toArray]
      omega
    subst hi
    exact wpAny_pyNext_enum_endD D he ⟨hit, p⟩ fun h' eb => ⟨rfl, I.turned (t' := s.toks) (fun b o hb q => eb b o hb q) f0 f1 f3 f4 f5⟩
  self := fun A i s Q E ⟨⟨_, he⟩, _⟩ h => wpAny_pyIter_enum he h
def iEnumT (K : PySem.W.Frag) (ta : TA) : TI := fun σ H R => ta σ H fun vs H1 => ∃ a xs, vs = [.ref a] ∧ SqT K H1 a xs ∧ R (IteT K a) H1
theorem pi_enumT {X : Cx} {e : Expr} {ta : TA} {p pos tpos : Pos} {elts : List Expr} {kk : Nat} (hg : Gl X "enumerate") (hm : X.mg "enumerate" = none) (ha : PA X [e] ta) (hs : starEach [e] X.env = [(false, eval e X.env)] := by rfl) :
    PI X (.Tuple elts kk tpos) (.Call (.Name "enumerate" p) [e] [] pos) (iEnumT X.K ta) := by
  refine ⟨fun pins s σ H R I h => ?_⟩
  refine Call_ (ld_blt I hg hm boot_enumerate (PyProof.Rows.callWith_type1 (thn (ha.run pos pins s σ H _ I h) fun us s1 ⟨vs, H1, I1, r1, a, xs, ex, hq, q⟩ => ?_) hs rfl))
  subst ex
  cases r1 with
  | cons r rr =>
    cases rr
    cases r
    obtain ⟨its, rv, p', hz⟩ := I1.tuple hq
    have hl : a < s1.heap.objs.size := by obtain ⟨o, ho, _⟩ := p'; exact Heap.lt_size ho
    refine call_enum1 (begins_tuple a its.toArray) p' fun h' he hit hsz hk => wpAny_pyIter_enum he ?_
    have I2 : Inv X pins σ H1 { s1 with heap := h' } := I1.kept (t' := s1.toks) hk
    refine ⟨s1.heap.objs.size + 1, [s1.heap.objs.size + 1, s1.heap.objs.size], _, _, H1, rfl, I2, turn_enumT a (s1.heap.objs.size + 1) s1.heap.objs.size, ⟨⟨.none, he⟩, ⟨_, hit, rfl, rfl⟩, Nat.succ_ne_self _, Nat.ne_of_lt (Nat.lt_succ_of_lt hl), Nat.ne_of_lt hl⟩, fun b hb => ?_, q⟩
    have hle : s1.heap.objs.size ≤ b := by
      rcases (by simpa using hb : b = s1.heap.objs.size + 1 ∨ b = s1.heap.objs.size) with z | z
      · rw [z]; exact Nat.le_add_right _ _
      · rw [z]; exact Nat.le_refl _
    exact I1.fpOk hle (I1.hok.fresh hle)
theorem walk_enumT {K : PySem.W.Frag} {a : Addr} {xs : List V} : Walk (IteT K a) xs.length (fun H => SqT K H a xs) (YPair (fun i => some (.int (i : Nat))) (fun i => xs[i]?)) := by
  refine ⟨fun i _ hi q => ⟨xs, xs[i], q, by simp [hi]⟩, fun _ q => ⟨xs, q, rfl⟩, fun i H v H' _ q y => ?_⟩
  obtain ⟨T, x, h1, h2, h3, h4⟩ := y
  exact ⟨T, .int (i : Nat), x, h1, h2, h3, rfl, h4 xs q⟩
end EN
set_option Elab.async false
set_option linter.all false
set_option maxRecDepth 100000
set_option maxHeartbeats 4000000
namespace KL0
open PySem PySem.Spec PyProof.Rows L2 KB KC KS KN1 LamX K7 FM GG
def zipL (cols : Co) (xs : List V) : Lk := (cols.map fun y : Str × Str => y.1).zip xs
def cellP (one other : Sc) (xs : List V) (n : Str) : V := match lkAt (zipL other.1 xs) n with
  | some v => v
  | none => (lkAt one.2 n).getD .non
def rowP (one other : Sc) (xs : List V) : List V := one.1.map fun x => cellP one other xs x.1
def rowOk (one other : Sc) (xs : List V) : Prop := readsP one other = true ∧ xs.map kd = kindsOf other.1
theorem zip_none : ∀ {cols : Co} {xs : List V} {n : Str}, xs.length = cols.length → lkAt (zipL cols xs) n = none → kindAt cols n = none
  | [], _, _, _, _ => rfl
  | c :: cols, [], _, h, _ => by cases h
  | c :: cols, v :: xs, n, h, q => by
    have ih := @zip_none cols xs n (Nat.succ.inj h)
    unfold zipL lkAt kindAt at *
    rw [List.map_cons, List.zip_cons_cons, List.find?_cons] at q
    rw [List.find?_cons]
    by_cases e : c.1 = n
    · rw [decide_eq_true e] at q
      cases q
    · rw [decide_eq_false e] at q ⊢
      exact ih q
theorem good_kinds {cols : Co} (g : goodS cols) : ∀ x ∈ cols, x.2 = "int" ∨ x.2 = "text" := fun x hx => by
  have h := g.2.2
  rw [List.any_eq_false] at h
  have z := h x hx
  unfold badCol at z
  simp only [Bool.or_eq_true, Bool.not_eq_true', not_or, Bool.not_eq_true, List.any_cons, List.any_nil, Bool.or_false] at z
  have z2 := z.2
  simp at z2
  by_cases c : ("int" : Str) = x.2
  · exact .inl c.symm
  · exact .inr (z2 c).symm
@[irreducible] def spRowF (CS CC CR : Addr) (T : List (Addr × Str)) : Sp := fun vs H Q E => ∃ (c c2 r : Addr) (one other : Sc) (xs : List V), vs = [.ref c, .ref c2, .ref r] ∧ SchA CS CC N0 c one H ∧ SchA CS CC N0 c2 other H ∧ goodS one.1 ∧ goodS other.1 ∧ H r = some (.tup xs) ∧ (∀ v ∈ xs, Rowy v) ∧ xs.length ≤ 1000 ∧ Tabs T H ∧
  (¬ rowOk one other xs → ∀ H', Fm T N0 H H' → E (.ref CR) none H') ∧ (rowOk one other xs → ∀ H' q, Fm T N0 H H' → H' q = some (.tup (rowP one other xs)) → Q (.ref q) H')
section
variable {P : Program} {w : World} {K : PySem.W.Frag} {mg : Str → Option Value} {base : Heap} {f fR fC CS CC CR Ps : Addr} {fd fdR fdC : FuncData} {T : List (Addr × Str)}
def nRf : List Str := ["self", "other", "row", "told", "place", "name", "kind"]
theorem scRf : FnScope nRf ["self", "other", "row"] (defScope (sSc 2)) := ⟨rfl, rfl, rfl, by decide +kernel, rfl, by decide +kernel, by decide +kernel⟩
theorem ok_rowf (F : FnP K "row_from" "Schema.row_from" (sSc 2) [] f fd) (B : TxtC K mg CC) (BS : TxtS K mg CS) (TL : TxtL mg) (hEn : mg "enumerate" = none) (J : TxtX K mg CR) (uT : Uq T) (mk : (Ps, qK) ∈ T)
    (mR : Meth K CC "reads" fR) (GR : FnOk P w K mg base CX0 1 fR fdR ["self", "other"] (spReads CS CC)) (bR : Binds K fdR ["self", "other"] [])
    (mC : Meth K CS "check_row" fC) (GC : FnOk P w K mg base (L2.CX P w) 2 fC fdC ["self", "row"] (spCheck CS CR Ps)) (bC : Binds K fdC ["self", "row"] []) :
    FnOk P w K mg base (L2.CX P w) 3 f fd ["self", "other", "row"] (spRowF CS CC CR T) := by
  refine F.ok scRf (fun vs H Q E h => ?_) (fun cdv A outer s H vs Q E hr h => ?_)
  · unfold spRowF at h
    obtain ⟨_, _, _, _, _, _, rfl, _⟩ := h; rfl
  · unfold spRowF at h
    obtain ⟨c, c2, r, one, other, xs, rfl, x1, x2, gs1, gs2, hr1, ry, lx, tab, bad, good⟩ := h
    have hu := hr.units
    have hu1 := Nat.lt_trans (Nat.add_lt_add_left (by decide : 1 < 64) _) hu
    refine ⟨_, pss_cons (ps_if (pt_not (pt_val (pe_meth (pv 0) B.cl mR GR (hr.mono (by decide)) bR .nil pass0 (pa_cons (pv 1) pa_nil))))
        (pss_one (ps_raise rfl (takes_of rfl rfl rfl rfl) (pmk_own PySem.F.excBase_ValueError J.x J.g J.k (raises_own J.b J.t) rfl))) pss_nil)
      (pss_cons (ps_expr (pe_meth (pf 1) BS.cl mC GC hr bC .nil (passes_call (takes_of rfl rfl rfl rfl) (fun _ _ _ _ h => h)) (pa_cons (pv 2) pa_nil)))
      (PSs.nox <| pss_cons (ps_set (i := 3) scRf.nd rfl (Or.inr rfl) (pe_dc (own := [("place", 4), ("name", 5), ("kind", 6)]) (g := gTup K 2 (gCons (gName 4) (gCons (gTup K 2 (gCons (gName 5) (gCons (gName 6) gNil))) gNil))) (tt := tYes) (tk := tVar 5) (tv := tOp (rIxT K) (tVar 2) (tVar 4)) rfl scRf.nd (EN.pi_enumT (by rfl) hEn (pa_cons (pe_fld (pf 1) (by rfl)) pa_nil)) (blkOk_by (N := nRf) (sc := defScope (sSc 2)) (by decide +kernel))
        (fun _ _ _ _ _ => pg_tup rfl (pgs_cons (pg_name (i := 4) scRf.nd rfl (Or.inl rfl)) (pgs_cons (pg_tup rfl (pgs_cons (pg_name (i := 5) scRf.nd rfl (Or.inl rfl)) (pgs_cons (pg_name (i := 6) scRf.nd rfl (Or.inl rfl)) pgs_nil))) pgs_nil))) (fun _ _ _ _ _ => pts_nil) (fun _ _ _ _ _ => pv 5) (fun _ _ _ _ _ => pe_ix ix_tup (pv 2) (pv 4) (fun _ _ => rfl))))
      (pss_one (ps_ret (pe_callTy call_tuple_of (by rfl) TL.tuple (by decide +kernel) (pa_cons (pe_lc (own := [("name", 5), ("kind", 6)]) (g := gTup K 2 (gCons (gName 5) (gCons (gName 6) gNil))) (tt := tYes) (te := tIf (tB (tDIn (tVar 5) (tVar 3))) (tDGet (tVar 3) (tVar 5)) (tDGet (tFld K (tVar 0) "lacking") (tVar 5))) rfl scRf.nd (pi_tup (pe_fld (pf 0) (by rfl))) (blkOk_by (N := nRf) (sc := defScope (sSc 2)) (by decide +kernel))
        (fun _ _ _ _ _ => pg_tup rfl (pgs_cons (pg_name (i := 5) scRf.nd rfl (Or.inl rfl)) (pgs_cons (pg_name (i := 6) scRf.nd rfl (Or.inl rfl)) pgs_nil))) (fun _ _ _ _ _ => pts_nil)
        (fun _ _ _ _ _ => pe_ifExp (pt_cmp (pc_din hu1 (pv 5) (pv 3))) (pe_dget hu1 (pv 3) (pv 5) (fun _ _ => rfl)) (pe_dget hu1 (pf 0) (pv 5) (fun _ _ => rfl)))) pa_nil)))))), ?_⟩
    obtain ⟨dx, sh, dl, h1, sa1, h3, _⟩ := id x1
    obtain ⟨dx2, sh2, dl2, g1, sa2, g3, _⟩ := id x2
    refine ⟨_, rfl, c, dx, _, rfl, h1, rfl, _, rfl, ?_⟩
    refine reads_step x1 x2 gs2 fun H1 e1 => ?_
    refine ⟨_, rfl, ?_⟩
    cases hrd : readsP one other with
    | false =>
      refine ifT rfl ?_
      exact bad (fun z => by have z1 := z.1; rw [hrd] at z1; cases z1) H1 (Fm.ex tab e1)
    | true =>
      refine ifF (by simp) ?_
      have t1 := tab.ext e1
      refine ⟨_, rfl, c2, CC, dx2, _, _, rfl, e1 _ _ g1, B.cl, B.sh, rfl, ?_⟩
      obtain ⟨dxs, t, d, ts, kvs1, q1, q2, q3, _, _⟩ := id sa1
      obtain ⟨dxs2, t2, d2, ts2, kvs2, p1, p2, p3, _, _⟩ := id sa2
      refine ⟨sh2, dxs2, _, rfl, e1 _ _ p1, rfl, _, rfl, ?_⟩
      show spCheck CS CR Ps [.ref sh2, .ref r] H1 _ _
      unfold spCheck
      refine ⟨sh2, r, other.1, rfl, sa2.ex e1, gs2.1, good_kinds gs2, t1 _ mk, .inr ⟨xs, e1 _ _ hr1, ry, lx, fun nk H2 tb2 => ?_, fun ek H2 tb2 => ?_⟩⟩
      · exact bad (fun z => nk z.2) H2 ((Fm.ex tab e1).trans (Fm.tab uT mk t1 tb2.1 tb2.2))
      · have f2 : Fm T N0 H H2 := (Fm.ex tab e1).trans (Fm.tab uT mk t1 tb2.1 tb2.2)
        have ln : xs.length = other.1.length := by
          have z := congrArg List.length ek
          unfold kindsOf at z
          rw [List.length_map, List.length_map] at z
          exact z
        have lt2 := paired_len p3
        have lz : (zipL other.1 xs).length = other.1.length := by unfold zipL; rw [List.length_zip, List.length_map, ln, Nat.min_self]
        have hz : sizeLine = 16777216 := rfl
        have g201 := gs2.1
        refine ⟨_, rfl, c2, CC, dx2, _, _, rfl, f2.at0 g1, B.cl, B.sh, rfl, sh2, CS, dxs2, _, _, rfl, f2.at0 p1, BS.cl, BS.c, rfl, t2, ts2.map V.ref, rfl, (p2.fm f2 id).sq, fun D hD => ?_⟩
        have p3' : Cols H2 ts2 other.1 := p3.fm f2 (D := N0) SD.of0
        have hr2 := f2.at0 hr1
        refine dcG (EN.walk_enumT (K := K) (a := t2) (xs := ts2.map V.ref)) (fun _ v (a : V) => v = a) (fun j => (zipL other.1 xs)[j]?.bind fun e => some ((Sum.inr e.1 : Key), e.2)) (fun _ _ _ _ _ h => h) hD (by rw [List.length_map]; omega) (fun H9 e9 => ((p2.fm f2 id).ex e9).sq) (fun i H9 x H10 _ _ h => by obtain ⟨T, x, y, _, hT, rfl, _⟩ := h; exact Ex.upd hT) (fun j v H9 H10 R0 N0 hj e9 hy hno hsm => ?_) (fun H9 kvs e9 hx9 hps => ?_)
        · obtain ⟨T1, x1, y1, rfl, hT, rfl, hx, hy⟩ := hy
          obtain rfl := Option.some.inj hx
          have hy : (ts2.map V.ref)[j]? = some y1 := hy
          rw [List.getElem?_map] at hy
          obtain ⟨b, hb, rfl⟩ := Option.map_eq_some_iff.mp hy
          obtain ⟨y, hyy, hty⟩ := paired_get p3' hb
          have e10 : KS.Ex H2 (upd H9 T1 (.tup [.int (j : Nat), .ref b])) := e9.trans (Ex.upd hT)
          refine ⟨T1, _, rfl, SqT.of upd_same, rfl, _, _, rfl, ?_⟩
          obtain ⟨v, hv⟩ : ∃ v, xs[j]? = some v := ⟨_, List.getElem?_eq_getElem (by rw [ln]; exact (List.getElem?_eq_some_iff.mp hyy).1)⟩
          refine ⟨_, _, rfl, b, _, rfl, SqT.of (e10 _ _ hty), rfl, _, _, rfl, _, _, rfl, rfl, rfl, rfl, _, rfl, _, rfl, _, rfl, r, xs, _, v, rfl, rfl, SqT.of (e10 _ _ hr2), atI_nat hv, ?_⟩
          refine hsm (Sum.inr y.1) v ?_ _ _ (Ex.refl _) rfl
          have : (zipL other.1 xs)[j]? = some (y.1, v) := by
            unfold zipL
            rw [List.getElem?_zip_eq_some, List.getElem?_map, hyy]
            exact ⟨rfl, hv⟩
          rw [this]; rfl
        · have eo : (List.range (ts2.map V.ref).length).filterMap (fun j => (zipL other.1 xs)[j]?.bind fun e => some ((Sum.inr e.1 : Key), e.2)) = kvL (zipL other.1 xs) := by
            have el : (ts2.map V.ref).length = (zipL other.1 xs).length := by rw [List.length_map, lz, lt2]
            rw [el, range_fm, List.filterMap_eq_map']
            rfl
          have ek2 : (kvL (zipL other.1 xs)).map (·.1) = (other.1.map fun y : Str × Str => y.1).map fun n => (Sum.inr n : Key) := by
            unfold kvL zipL
            rw [List.map_map]
            have z := List.map_fst_zip (l₁ := other.1.map fun y : Str × Str => y.1) (l₂ := xs) (by rw [List.length_map]; omega)
            have z2 := congrArg (List.map fun n : Str => (Sum.inr n : Key)) z
            rw [List.map_map] at z2
            exact z2
          rw [eo, foldA_self (by rw [ek2, nodup_inr']; exact gs2.2.1)] at hps
          have ekv : kvs = kvL (zipL other.1 xs) := by
            have go : ∀ {kvs : List (Key × V)} {es : List (Key × V)}, KvR (fun _ v (a : V) => v = a) H9 kvs es → kvs = es := fun {kvs es} h => by
              induction h with
              | nil => rfl
              | cons h t ih => rw [ih, Prod.ext h.1 h.2]
            exact go hps
          rw [ekv] at hx9
          have e92 : KS.Ex H2 H9 := e9
          have q3' : Cols H9 ts one.1 := (q3.fm f2 (D := N0) SD.of0).ex e92
          refine ⟨_, rfl, c, CC, dx, _, _, rfl, e92 _ _ (f2.at0 h1), B.cl, B.sh, rfl, sh, CS, dxs, _, _, rfl, e92 _ _ (f2.at0 q1), BS.cl, BS.c, rfl, t, rfl, ⟨_, ((q2.fm f2 id).ex e92).sq⟩, fun D2 hD2 => ?_⟩
          refine lc_tup (xs := ts.map V.ref) (fun i H2 => KS.Ex H9 H2 ∧ H2 D2 = some (.lst ((one.1.take i).map fun x => cellP one other xs x.1))) ⟨Ex.upd hD2, upd_same⟩ (fun i H2 _ ⟨e2, _⟩ => (((q2.fm f2 id).ex e92).ex e2).sq) (fun i x H10 hx ⟨e2, k2⟩ => ?_) (fun H10 ⟨e2, k2⟩ => ?_)
          · rw [List.getElem?_map] at hx
            obtain ⟨b, hb, rfl⟩ := Option.map_eq_some_iff.mp hx
            obtain ⟨y, hy, ht⟩ := paired_get q3' hb
            have lt : i < one.1.length := (List.getElem?_eq_some_iff.mp hy).1
            refine ⟨b, _, rfl, SqT.of (e2 _ _ ht), rfl, _, _, rfl, _, _, rfl, rfl, rfl, ?_⟩
            refine ⟨_, rfl, _, rfl, D, _, rfl, DGet.k (k := Sum.inr y.1) (e2 _ _ hx9), _, rfl, ?_⟩
            rw [val_kvL]
            have fin : ∀ v, cellP one other xs y.1 = v → ∃ acc, H10 D2 = some (.lst acc) ∧ acc.length < sizeLine ∧ (KS.Ex H9 (upd H10 D2 (.lst (acc ++ [v]))) ∧ (upd H10 D2 (.lst (acc ++ [v]))) D2 = some (.lst ((one.1.take (i + 1)).map fun x => cellP one other xs x.1))) := fun v hv => by
              refine ⟨_, k2, ?_, Ex.on e2 hD2, ?_⟩
              · rw [List.length_map, List.length_take]
                have := gs1.1
                omega
              · rw [upd_same, take_snoc hy, List.map_append]
                simp [hv]
            cases ez : lkAt (zipL other.1 xs) y.1 with
            | some v =>
              refine ifT rfl ⟨_, rfl, _, rfl, D, v, rfl, ?_, fin v (by unfold cellP; rw [ez])⟩
              have z := DGet.k (k := Sum.inr y.1) (e2 _ _ hx9)
              rw [val_kvL, ez] at z
              exact z
            | none =>
              have hk : (lkAt one.2 y.1).isSome = true := by
                unfold readsP at hrd
                rw [List.all_eq_true] at hrd
                have z := hrd y (List.mem_of_getElem? hy)
                unfold fitP at z
                have en : kindAt other.1 y.1 = none := zip_none ln ez
                rw [en] at z
                exact z
              obtain ⟨v, ev⟩ := Option.isSome_iff_exists.mp hk
              refine ifF (by simp) ⟨_, rfl, c, CC, dx, _, _, rfl, e2 _ _ (e92 _ _ (f2.at0 h1)), B.cl, B.la, rfl, _, rfl, dl, v, rfl, ?_, fin v (by unfold cellP; rw [ez, ev]; rfl)⟩
              have z := DGet.k (k := Sum.inr y.1) (e2 _ _ (e92 _ _ (f2.at0 h3)))
              rw [val_kvL, ev] at z
              exact z
          · refine ⟨D2, _, rfl, .inl ⟨SqL.of k2, fun l hl' => ?_⟩⟩
            have k3 : H10 D2 = some (.lst (rowP one other xs)) := by
              rw [k2, List.length_map, paired_len q3', List.take_length]; rfl
            have ey : (one.1.take (ts.map V.ref).length).map (fun x => cellP one other xs x.1) = rowP one other xs := by
              rw [List.length_map, paired_len q3', List.take_length]; rfl
            rw [ey]
            exact good ⟨hrd, ek⟩ _ l (f2.trans (Fm.ex f2.1 ((e92.trans e2).trans (Ex.upd hl')))) upd_same
end
end KL0
set_option Elab.async false
set_option linter.all false
set_option maxRecDepth 100000
set_option maxHeartbeats 4000000
namespace FM
open PySem PySem.Spec PyProof.Rows L2 KB KC KS LamX K7
section
variable {κ α : Type} [DecidableEq κ]
structure Tab (nm : List κ) (kk : κ → Key) (R : κ → V → α → Prop) (kvs : List (Key × V)) (f : κ → Option α) : Prop where
  nd : (kvs.map (·.1)).Nodup
  ks : ∀ kv ∈ kvs, ∃ k ∈ nm, kv.1 = kk k
  at_ : ∀ k, (f k = none ∧ valV kvs (kk k) = none) ∨ ∃ a v, f k = some a ∧ valV kvs (kk k) = some v ∧ R k v a
def putG (f : κ → Option α) (n : κ) (x : Option α) : κ → Option α := fun j => if j = n then x else f j
theorem putG_same (f : κ → Option α) (n : κ) (x : Option α) : putG f n x n = x := if_pos rfl
theorem putG_ne (f : κ → Option α) {n j : κ} (x : Option α) (h : j ≠ n) : putG f n x j = f j := if_neg h
theorem valV_mem {kvs : List (Key × V)} (nd : (kvs.map (·.1)).Nodup) {kv : Key × V} (h : kv ∈ kvs) : valV kvs kv.1 = some kv.2 := by
  induction kvs with
  | nil => cases h
  | cons p r ih =>
    rw [List.map_cons, List.nodup_cons] at nd
    rcases List.mem_cons.mp h with z | z
    · rw [z]; exact valV_pos rfl
    · rw [valV_neg (fun e => nd.1 (by rw [e]; exact List.mem_map_of_mem z))]
      exact ih nd.2 z
theorem valV_key {kvs : List (Key × V)} {k : Key} {v : V} (h : valV kvs k = some v) : (k, v) ∈ kvs := by
  unfold valV at h
  obtain ⟨x, hx, rfl⟩ := Option.map_eq_some_iff.mp h
  have h1 := List.find?_some hx
  have h1 : x.1 = k := by simpa using h1
  rw [← h1]
  exact List.mem_of_find?_eq_some hx
theorem valV_dropK (kvs : List (Key × V)) (k j : Key) : valV (dropK kvs k) j = if j = k then none else valV kvs j := by
  induction kvs with
  | nil => unfold dropK; rw [List.filter_nil]; split <;> rfl
  | cons p r ih =>
    unfold dropK at ih ⊢
    by_cases c : p.1 = k
    · rw [List.filter_cons_of_neg (by simpa using c), ih]
      by_cases e : j = k
      · rw [if_pos e, if_pos e]
      · rw [if_neg e, if_neg e, valV_neg (fun z => e (z.symm.trans c))]
    · rw [List.filter_cons_of_pos (by simpa using c)]
      by_cases e : p.1 = j
      · rw [valV_pos e, valV_pos e, if_neg (fun z => c (e.trans z))]
      · rw [valV_neg e, valV_neg e, ih]
theorem nd_putK {kvs : List (Key × V)} {k : Key} {v : V} (h : (kvs.map (·.1)).Nodup) : ((putK kvs k v).map (·.1)).Nodup := by
  unfold putK
  split
  · rw [List.map_map]
    have e : (Prod.fst ∘ fun (kv : Key × V) => if kv.1 = k then (kv.1, v) else kv) = Prod.fst := by
      funext kv
      show (if kv.1 = k then (kv.1, v) else kv).1 = kv.1
      split <;> rfl
    rw [e]; exact h
  · rename_i c
    rw [List.map_append, List.nodup_append]
    refine ⟨h, by simp, fun a ha b hb z => ?_⟩
    rw [List.map_singleton, List.mem_singleton] at hb
    obtain ⟨kv, hkv, e⟩ := List.mem_map.mp ha
    refine c (List.any_eq_true.mpr ⟨kv, hkv, ?_⟩)
    rw [decide_eq_true_eq, e, z, hb]
variable {nm : List κ} {kk : κ → Key} {R : κ → V → α → Prop} {kvs : List (Key × V)} {f : κ → Option α}
theorem Tab.nil : Tab nm kk R [] (fun _ => none) := ⟨.nil, (fun _ h => nomatch h), fun _ => .inl ⟨rfl, rfl⟩⟩
theorem Tab.none (t : Tab nm kk R kvs f) {k : κ} (h : f k = Option.none) : valV kvs (kk k) = Option.none := by
  rcases t.at_ k with ⟨_, h2⟩ | ⟨a, v, h1, _⟩
  · exact h2
  · rw [h] at h1; cases h1
theorem Tab.some (t : Tab nm kk R kvs f) {k : κ} {a : α} (h : f k = Option.some a) : ∃ v, valV kvs (kk k) = Option.some v ∧ R k v a := by
  rcases t.at_ k with ⟨h1, _⟩ | ⟨a', v, h1, h2, h3⟩
  · rw [h] at h1; cases h1
  · rw [h] at h1
    cases h1
    exact ⟨v, h2, h3⟩
theorem Tab.isSome (t : Tab nm kk R kvs f) (k : κ) : (valV kvs (kk k)).isSome = (f k).isSome := by
  rcases t.at_ k with ⟨h1, h2⟩ | ⟨a, v, h1, h2, _⟩ <;> rw [h1, h2] <;> rfl
theorem Tab.mem (t : Tab nm kk R kvs f) {kv : Key × V} (h : kv ∈ kvs) : ∃ k a, k ∈ nm ∧ kv.1 = kk k ∧ f k = Option.some a ∧ R k kv.2 a := by
  obtain ⟨k, hk, e⟩ := t.ks kv h
  have hv := valV_mem t.nd h
  rw [e] at hv
  rcases t.at_ k with ⟨_, h2⟩ | ⟨a, v, h1, h2, h3⟩
  · rw [hv] at h2; cases h2
  · rw [hv] at h2
    cases h2
    exact ⟨k, a, hk, e, h1, h3⟩
theorem Tab.key (t : Tab nm kk R kvs f) (inj : ∀ a b, kk a = kk b → a = b) {k : κ} {a : α} (h : f k = Option.some a) : k ∈ nm := by
  obtain ⟨v, h1, _⟩ := t.some h
  obtain ⟨j, hj, e⟩ := t.ks _ (valV_key h1)
  rw [inj _ _ e]; exact hj
theorem nodup_len' {β : Type} [DecidableEq β] : ∀ {l m : List β}, l.Nodup → (∀ x ∈ l, x ∈ m) → l.length ≤ m.length
  | [], _, _, _ => Nat.zero_le _
  | x :: l, m, h, k => by
    rw [List.nodup_cons] at h
    have := nodup_len' (m := m.erase x) h.2 fun y hy => (List.mem_erase_of_ne (fun z => h.1 (by rw [← z]; exact hy))).mpr (k y (List.mem_cons_of_mem _ hy))
    rw [List.length_erase, if_pos (k x List.mem_cons_self)] at this
    have : 0 < m.length := List.length_pos_of_mem (k x List.mem_cons_self)
    rw [List.length_cons]
    omega
theorem Tab.len (t : Tab nm kk R kvs f) : kvs.length ≤ nm.length := by
  have := nodup_len' (m := nm.map kk) t.nd fun x hx => by
    obtain ⟨kv, hkv, rfl⟩ := List.mem_map.mp hx
    obtain ⟨k, hk, e⟩ := t.ks kv hkv
    rw [e]; exact List.mem_map_of_mem hk
  rw [List.length_map, List.length_map] at this
  exact this
theorem Tab.mono {R' : κ → V → α → Prop} (t : Tab nm kk R kvs f) (h : ∀ k v a, f k = Option.some a → R k v a → R' k v a) : Tab nm kk R' kvs f := ⟨t.nd, t.ks, fun k => by
  rcases t.at_ k with h1 | ⟨a, v, h1, h2, h3⟩
  · exact .inl h1
  · exact .inr ⟨a, v, h1, h2, h _ _ _ h1 h3⟩⟩
theorem Tab.put (inj : ∀ a b, kk a = kk b → a = b) {R' : κ → V → α → Prop} {k : κ} {v : V} {a : α} (t : Tab nm kk R kvs f) (hk : k ∈ nm) (hv : R' k v a) (h : ∀ j v a, j ≠ k → f j = Option.some a → R j v a → R' j v a) : Tab nm kk R' (putK kvs (kk k) v) (putG f k (Option.some a)) := by
  refine ⟨nd_putK t.nd, fun kv hkv => ?_, fun j => ?_⟩
  · have hx := valV_mem (nd_putK (k := kk k) (v := v) t.nd) hkv
    rw [valV_put] at hx
    by_cases c : kv.1 = kk k
    · exact ⟨k, hk, c⟩
    · rw [if_neg c] at hx
      exact t.ks _ (valV_key hx) 
  · rw [valV_put]
    by_cases c : j = k
    · subst c
      exact .inr ⟨a, v, putG_same _ _ _, if_pos rfl, hv⟩
    · rw [putG_ne _ _ c, if_neg (fun z => c (inj _ _ z))]
      rcases t.at_ j with h1 | ⟨a', v', h1, h2, h3⟩
      · exact .inl h1
      · exact .inr ⟨a', v', h1, h2, h _ _ _ c h1 h3⟩
theorem Tab.drop (inj : ∀ a b, kk a = kk b → a = b) {R' : κ → V → α → Prop} {k : κ} (t : Tab nm kk R kvs f) (h : ∀ j v a, j ≠ k → f j = Option.some a → R j v a → R' j v a) : Tab nm kk R' (dropK kvs (kk k)) (putG f k Option.none) := by
  refine ⟨?_, fun kv hkv => t.ks kv (List.mem_filter.mp hkv).1, fun j => ?_⟩
  · unfold dropK
    exact (List.Sublist.map _ (List.filter_sublist)).nodup t.nd
  · rw [valV_dropK]
    by_cases c : j = k
    · subst c
      exact .inl ⟨putG_same _ _ _, if_pos rfl⟩
    · rw [putG_ne _ _ c, if_neg (fun z => c (inj _ _ z))]
      rcases t.at_ j with h1 | ⟨a', v', h1, h2, h3⟩
      · exact .inl h1
      · exact .inr ⟨a', v', h1, h2, h _ _ _ c h1 h3⟩
end
def kS : Str → Key := Sum.inr
def kN : Nat → Key := fun n => Sum.inl (n : Int)
theorem kS_inj : ∀ a b, kS a = kS b → a = b := fun _ _ => Sum.inr.inj
theorem kN_inj : ∀ a b, kN a = kN b → a = b := fun _ _ h => Int.ofNat.inj (Sum.inl.inj h)
end FM
set_option Elab.async false
set_option linter.all false
set_option maxRecDepth 100000
set_option maxHeartbeats 2000000
namespace FM
open PySem PySem.Spec PyProof.Rows L2 LamX
def rEqNil : R2 := fun x y H Q => ∃ a b xs, x = .ref a ∧ y = .ref b ∧ H a = some (.lst xs) ∧ H b = some (.lst []) ∧ Q (.bl xs.isEmpty) H
theorem op_eqNil {X : Cx} (hu : X.A.units + 1 < cLine) : OpR X (compareOp .Eq) rEqNil := by
  intro pins s σ H x y v u Q I rx ry h
  obtain ⟨a, b, xs, rfl, rfl, ea, eb, q⟩ := h
  obtain rfl : v = Value.ref a := rx
  obtain rfl : u = Value.ref b := ry
  obtain ⟨hz, its, n, ri, ha⟩ := (show ObjOk X.prog X.w H s.heap a (.lst xs) from I.hok a _ ea)
  obtain ⟨hz2, its2, n2, ri2, hb⟩ := (show ObjOk X.prog X.w H s.heap b (.lst []) from I.hok b _ eb)
  cases ri2
  have la : s.heap.IsList a its.toArray := ⟨_, ha, rfl, n, rfl⟩
  have lb : s.heap.IsList b ([] : List Value).toArray := ⟨_, hb, rfl, n2, rfl⟩
  have hl := ri.length
  cases xs with
  | nil =>
    cases ri
    show wpAny _ _ (richCompare .Eq (.ref a) (.ref b)) _ _ s
    exact SeqAt.rcP_lists (e := fun _ => true) la lb rfl (by omega) (fun j h1 _ => absurd h1 (by simp)) _ _ ⟨.bl true, H, I, rfl, q⟩
  | cons z r =>
    show wpAny _ _ (richCompare .Eq (.ref a) (.ref b)) _ _ s
    have hsz : (its.toArray.size != ([] : List Value).toArray.size) = true := by
      rw [List.size_toArray]
      simp at hl
      simp [← hl]
    exact SeqAt.RcAt.lists_lengths la lb hsz (by omega) X.prog X.w _ _ ⟨.bl false, H, I, rfl, q⟩
def tIfT (tc ta tb : L2.TT) : L2.TT := fun σ H Q => tc σ H fun c H1 => if c = true then ta σ H1 Q else tb σ H1 Q
theorem pw_ifExp {X : Cx} {c a b : Expr} {pos : Pos} {tc ta tb : L2.TT} (hc : PT X c tc) (ha : PT X a ta) (hb : PT X b tb) : PW X (.IfExp c a b pos) (tIfT tc ta tb) := by
  refine ⟨fun wh pins s σ H Q I h => ?_⟩
  refine isTrue_IfExp (thn (hc.run pins s σ H _ I h) fun d s1 ⟨H1, I1, q1⟩ => ?_)
  cases d with
  | true => exact ha.run pins s1 σ H1 Q I1 q1
  | false => exact hb.run pins s1 σ H1 Q I1 q1
end FM
set_option Elab.async false
set_option linter.all false
set_option maxRecDepth 100000
set_option maxHeartbeats 4000000
namespace KL0
open PySem PySem.Spec PyProof.Rows L2 KB KC KS KN1 LamX K7 FM GG
abbrev sRg (j : Nat) : Stmt := inClass sReg j
abbrev Ent := Addr × List (Addr × Sc)
def rgF (rs rr : Addr) : List (Str × V) := [("schemas", .ref rs), ("rules", .ref rr)]
def REnt : Str → V → Ent → Prop := fun _ v e => v = .ref e.1
def RRul : Str → V → Str → Prop := fun _ v x => v = .str x
structure RegA (CS CC CG : Addr) (D : Addr → Prop) (nm : List Str) (g rs rr : Addr) (E : Str → Option Ent) (R : Str → Option Str) (H : Hp) : Prop where
  ob : ∃ dx, H g = some (.ins CG dx (rgF rs rr))
  t1 : ∃ kvs, H rs = some (.dK kvs) ∧ Tab nm kS REnt kvs E
  t2 : ∃ kvs, H rr = some (.dK kvs) ∧ Tab nm kS RRul kvs R
  ls : ∀ n l ss, E n = some (l, ss) → ss ≠ [] ∧ ss.length ≤ 1000 ∧ H l = some (.lst (ss.map fun e => V.ref e.1)) ∧ ∀ e ∈ ss, SchA CS CC D e.1 e.2 H ∧ goodC e.2
  ns : rs ≠ rr
  dd : D rs ∧ D rr
  inj : ∀ n m l ss l' ss', E n = some (l, ss) → E m = some (l', ss') → n ≠ m → l ≠ l'
def schs (E : Str → Option Ent) (n : Str) : List (Addr × Sc) := match E n with
  | some e => e.2
  | none => []
def ruleOf (R : Str → Option Str) (n : Str) : Str := (R n).getD "back"
def fitsP (rule : Str) (rows : List Sc) (fresh : Sc) : Bool := match rows.getLast? with
  | none => true
  | some last => if rule = "free" then true else if rule = "all" then rows.all (fun one => readsP fresh one) else (decide (rule = "forth") || readsP fresh last) && (decide (rule = "back") || readsP last fresh)
section
variable {CS CC CG : Addr} {T : List (Addr × Str)} {D S : Addr → Prop} {nm : List Str} {g rs rr : Addr} {E : Str → Option Ent} {R : Str → Option Str} {H H' : Hp}
theorem RegA.fm (x : RegA CS CC CG D nm g rs rr E R H) (e : Fm T S H H') (z : SD D S H) (h1 : ¬ S rs) (h2 : ¬ S rr) (h3 : ∀ n l ss, E n = some (l, ss) → ¬ S l) : RegA CS CC CG D nm g rs rr E R H' := by
  obtain ⟨dx, ob⟩ := x.ob
  obtain ⟨k1, g1, t1⟩ := x.t1
  obtain ⟨k2, g2, t2⟩ := x.t2
  refine ⟨⟨dx, e.at' ob (z.nd ob (by intro _ z; cases z) (by intro _ z; cases z))⟩, ⟨k1, e.at' g1 h1, t1⟩, ⟨k2, e.at' g2 h2, t2⟩, fun n l ss q => ?_, x.ns, x.dd, x.inj⟩
  obtain ⟨a1, a2, a3, a4⟩ := x.ls n l ss q
  exact ⟨a1, a2, e.at' a3 (h3 n l ss q), fun y hy => ⟨(a4 y hy).1.fm e z, (a4 y hy).2⟩⟩
theorem RegA.fm0 (x : RegA CS CC CG D nm g rs rr E R H) (e : Fm T N0 H H') : RegA CS CC CG D nm g rs rr E R H' := x.fm e SD.of0 id id fun _ _ _ _ => id
theorem RegA.mem (x : RegA CS CC CG D nm g rs rr E R H) {n : Str} {e : Addr × Sc} (h : e ∈ schs E n) : SchA CS CC D e.1 e.2 H ∧ goodC e.2 := by
  unfold schs at h
  cases q : E n with
  | none => rw [q] at h; cases h
  | some en =>
    rw [q] at h
    obtain ⟨l, ss⟩ := en
    exact (x.ls n l ss q).2.2.2 e h
theorem RegA.len (x : RegA CS CC CG D nm g rs rr E R H) (n : Str) : (schs E n).length ≤ 1000 := by
  unfold schs
  cases q : E n with
  | none => exact Nat.zero_le _
  | some en =>
    obtain ⟨l, ss⟩ := en
    exact (x.ls n l ss q).2.1
end
theorem tabs0 (H : Hp) : Tabs [] H := fun _ h => nomatch h
theorem RegA.putR {CS CC CG : Addr} {D : Addr → Prop} {nm : List Str} {g rs rr : Addr} {E : Str → Option Ent} {R : Str → Option Str} {H : Hp} (x : RegA CS CC CG D nm g rs rr E R H) {n r : Str} (hn : n ∈ nm) {kvs : List (Key × V)} (h : H rr = some (.dK kvs)) : RegA CS CC CG D nm g rs rr E (putG R n (some r)) (upd H rr (.dK (putK kvs (Sum.inr n) (.str r)))) := by
  obtain ⟨dx, ob⟩ := x.ob
  obtain ⟨k1, g1, t1⟩ := x.t1
  obtain ⟨k2, g2, t2⟩ := x.t2
  rw [h] at g2
  cases g2
  have e : Fm [] (fun b => b = rr) H (upd H rr (.dK (putK kvs (Sum.inr n) (.str r)))) := Fm.wr (tabs0 H) h (by intro _ z; cases z) (by intro _ z; cases z) rfl
  have z : SD D (fun b => b = rr) H := fun b hb => .inl ⟨by rw [hb]; exact x.dd.2, kvs, by rw [hb]; exact h⟩
  refine ⟨⟨dx, e.at' ob (fun z => by rw [z, h] at ob; cases ob)⟩, ⟨k1, e.at' g1 x.ns, t1⟩, ⟨_, L2.upd_same, t2.put kS_inj hn rfl fun _ _ _ _ _ q => q⟩, fun m l ss q => ?_, x.ns, x.dd, x.inj⟩
  obtain ⟨a1, a2, a3, a4⟩ := x.ls m l ss q
  exact ⟨a1, a2, e.at' a3 (fun z => by rw [z, h] at a3; cases a3), fun y hy => ⟨(a4 y hy).1.fm e z, (a4 y hy).2⟩⟩
structure TxtG (K : PySem.W.Frag) (mg : Str → Option Value) (CG : Addr) : Prop where
  cl : Cls K CG
  s : NoAttr K CG "schemas"
  r : NoAttr K CG "rules"
  g : mg "Registry" = some (.ref CG)
@[irreducible] def spGInit (CS CC CG : Addr) (nm : List Str) : Sp := fun vs H Q _ => ∃ (g dx : Addr), vs = [.ref g] ∧ H g = some (.ins CG dx []) ∧ ∀ H' rs rr, (∀ b o, b ≠ g → H b = some o → H' b = some o) → H rs = none → H rr = none →
  (∀ D : Addr → Prop, D rs → D rr → RegA CS CC CG D nm g rs rr (fun _ => none) (fun _ => none) H') → Q .non H'
section
variable {P : Program} {w : World} {K : PySem.W.Frag} {mg : Str → Option Value} {base : Heap} {f CS CC CG CR : Addr} {fd : FuncData} {nm : List Str}
theorem scGi : FnScope ["self"] ["self"] (defScope (sRg 0)) := ⟨rfl, rfl, rfl, by decide +kernel, rfl, by decide +kernel, by decide +kernel⟩
theorem ok_ginit (F : FnP K "__init__" "Registry.__init__" (sRg 0) [] f fd) (B : TxtG K mg CG) : FnOk P w K mg base CX0 1 f fd ["self"] (spGInit CS CC CG nm) := by
  refine F.ok scGi (fun vs H Q E h => ?_) (fun cdv A outer s H vs Q E hr h => ?_)
  · unfold spGInit at h
    obtain ⟨_, _, rfl, _⟩ := h; rfl
  · unfold spGInit at h
    obtain ⟨g, dx, rfl, h1, fin⟩ := h
    refine ⟨_, PSs.nox <| pss_cons (ps_fld (pv 0) pe_dnewK (by rfl)) (pss_one (ps_fld (pv 0) pe_dnewK (by rfl))), ?_⟩
    intro rs n1
    have g1 : g ≠ rs := ne_of_none h1 n1
    refine ⟨_, rfl, g, CG, dx, _, rfl, by rw [L2.upd_ne g1]; exact h1, B.cl, B.s, (by show 0 < 1000; decide), ?_⟩
    intro rr n2
    have g2 : g ≠ rr := fun z => by rw [← z, L2.upd_same] at n2; cases n2
    have r12 : rs ≠ rr := fun z => by rw [← z, L2.upd_ne g1.symm, L2.upd_same] at n2; cases n2
    refine ⟨_, rfl, g, CG, dx, _, rfl, by rw [L2.upd_ne g2]; exact L2.upd_same, B.cl, B.r, (by show 1 < 1000; decide), ?_⟩
    have n2' : H rr = none := by
      rw [L2.upd_ne g2.symm, L2.upd_ne r12.symm] at n2; exact n2
    refine fin _ rs rr (fun b o nb h => ?_) n1 n2' fun D d1 d2 => ⟨⟨dx, L2.upd_same⟩, ⟨[], by rw [L2.upd_ne g1.symm, L2.upd_ne r12, L2.upd_ne g1.symm]; exact L2.upd_same, Tab.nil⟩, ⟨[], by rw [L2.upd_ne g2.symm]; exact L2.upd_same, Tab.nil⟩, fun _ _ _ z => (nomatch z), r12, ⟨d1, d2⟩, fun _ _ _ _ _ _ z => (nomatch z)⟩
    rw [L2.upd_ne nb, L2.upd_ne (ne_of_none h n2'), L2.upd_ne nb, L2.upd_ne (ne_of_none h n1)]
    exact h
end
end KL0
set_option Elab.async false
set_option linter.all false
set_option maxRecDepth 100000
set_option maxHeartbeats 4000000
namespace KL0
open PySem PySem.Spec PyProof.Rows L2 KB KC KS KN1 LamX K7 FM GG
def rulesL : List Str := ["back", "forth", "both", "all", "free"]
@[irreducible] def spPut (CS CC CG CR : Addr) (nm : List Str) : Sp := fun vs H Q E0 => ∃ (g rs rr : Addr) (D : Addr → Prop) (E : Str → Option Ent) (R : Str → Option Str) (n r : Str), vs = [.ref g, .str n, .str r] ∧ RegA CS CC CG D nm g rs rr E R H ∧ n ∈ nm ∧ nm.length ≤ 1000 ∧ r.length ≤ 900 ∧
  (r ∉ rulesL → E0 (.ref CR) none H) ∧ (r ∈ rulesL → ∀ H', (∃ kvs, H' = upd H rr (.dK kvs)) → RegA CS CC CG D nm g rs rr E (putG R n (some r)) H' → Q .non H')
@[irreducible] def spFits (CS CC CG : Addr) (nm : List Str) (T : List (Addr × Str)) : Sp := fun vs H Q _ => ∃ (g rs rr c : Addr) (D D2 : Addr → Prop) (E : Str → Option Ent) (R : Str → Option Str) (n : Str) (sc : Sc), vs = [.ref g, .str n, .ref c] ∧ RegA CS CC CG D nm g rs rr E R H ∧ SchA CS CC D2 c sc H ∧ goodC sc ∧ Tabs T H ∧
  ∀ H', Fm T N0 H H' → Q (.bl (fitsP (ruleOf R n) ((schs E n).map (·.2)) sc)) H'
section
variable {P : Program} {w : World} {K : PySem.W.Frag} {mg : Str → Option Value} {base : Heap} {f fR cI Pf CS CC CG CR : Addr} {fd fdR : FuncData} {T : List (Addr × Str)} {nm : List Str}
theorem tupG_sq {g : Str} {ys : List Str} {aK : Addr} (H : Hp) (h : GT.TupG K mg g ys) (e : mg g = some (.ref aK)) (hl : ys.length ≤ 100) : SqT K H aK (ys.map V.str) := by
  obtain ⟨a2, o, its, n, e2, lk, hc, hd, hs⟩ := h
  rw [e] at e2
  cases e2
  have go : ∀ {vs : List Value} {ys : List Str}, PyProof.Rows.StrsAre vs ys → Vals (ys.map V.str) vs ∧ vs.length = ys.length := fun {vs ys} h => by
    induction h with
    | nil => exact ⟨.nil, rfl⟩
    | cons y t h ih => exact ⟨.cons ⟨_, rfl⟩ ih.1, by rw [List.length_cons, List.length_cons, ih.2]⟩
  have hz : sizeLine = 16777216 := rfl
  obtain ⟨v1, v2⟩ := go hs
  rw [Array.length_toList] at v2
  exact .inr ⟨o, its, n, lk, hc, hd, by omega, v1⟩
theorem scPu : FnScope ["self", "subject", "rule"] ["self", "subject", "rule"] (defScope (sRg 1)) := ⟨rfl, rfl, rfl, by decide +kernel, rfl, by decide +kernel, by decide +kernel⟩
theorem ok_put (F : FnP K "put_rule" "Registry.put_rule" (sRg 1) [] f fd) (B : TxtG K mg CG) (J : TxtX K mg CR) (hR : GT.TupG K mg "RULES" rulesL) : FnOk P w K mg base (L2.CX P w) 1 f fd ["self", "subject", "rule"] (spPut CS CC CG CR nm) := by
  refine F.ok scPu (fun vs H Q E h => ?_) (fun cdv A outer s H vs Q E hr h => ?_)
  · unfold spPut at h
    obtain ⟨_, _, _, _, _, _, _, _, rfl, _⟩ := h; rfl
  · unfold spPut at h
    obtain ⟨g, rs, rr, D, En, R, n, r, rfl, x, hn, hnm, hrl, bad, good⟩ := h
    have hu := hr.units
    have hu1 := Nat.lt_trans (Nat.add_lt_add_left (by decide : 1 < 64) _) hu
    obtain ⟨aK, o, its, nn, hmg, rest⟩ := id hR
    refine ⟨_, pss_cons (ps_if (pt_cmpR op_notIn_seq (pv 2) (pe_glob (v := .ref aK) (by rfl) hmg rfl) (by rfl)) (pss_one (ps_raise rfl (takes_of rfl rfl rfl rfl) (SkE.pmk_own1 PySem.F.excBase_ValueError J.x J.g J.k (raises_own J.b J.t) rfl (pe_joined (.cons pe_str (.cons (pe_fmt (pv 2)) .nil)))))) pss_nil)
      (pss_one (ps_dput hu1 (pf 0) (pv 1) (pv 2) rfl)), ?_⟩
    obtain ⟨dx, ob⟩ := x.ob
    obtain ⟨k2, g2, t2⟩ := x.t2
    refine ⟨_, rfl, aK, rulesL.map V.str, rfl, .inr (tupG_sq H hR hmg (by decide)), rfl, rfl, ?_⟩
    refine ⟨_, rfl, ?_⟩
    have ei : inV (.str r) (rulesL.map V.str) = decide (r ∈ rulesL) := by
      unfold inV
      rw [Bool.eq_iff_iff, List.any_eq_true, decide_eq_true_eq]
      constructor
      · rintro ⟨y, hy, e⟩
        obtain ⟨z, hz, rfl⟩ := List.mem_map.mp hy
        have e : (z == r) = true := e
        rw [beq_iff_eq] at e
        rw [← e]; exact hz
      · intro h
        exact ⟨.str r, List.mem_map.mpr ⟨r, h, rfl⟩, by show (r == r) = true; simp⟩
    show if (!inV (.str r) (rulesL.map V.str)) = true then _ else _
    rw [ei]
    by_cases c : r ∈ rulesL
    · refine ifF (by simp [c]) ?_
      refine ⟨_, rfl, _, rfl, g, CG, dx, _, _, rfl, ob, B.cl, B.r, rfl, _, rfl, rr, _, rfl, DPut.k (k := Sum.inr n) g2 (by have := t2.len; have hz : sizeLine = 16777216 := rfl; omega), ?_⟩
      refine good c _ ⟨_, rfl⟩ ?_
      exact x.putR hn g2
    · refine ifT (by simp [c]) ?_
      have h1 : r.length ≤ sizeLine := Nat.le_trans hrl (by decide)
      refine ⟨_, rfl, by decide +kernel, _, rfl, .inl ⟨r, rfl, h1, r, rfl, ?_, bad c⟩⟩
      have e : (Str.empty ++ Str.ofString "no rule " ++ r).length = 8 + r.length := by
        show (Str.empty.cps ++ _ ++ r.cps).size = _
        rw [Array.size_append]
        rfl
      rw [e]
      have : sizeLine = 16777216 := rfl
      omega
end
end KL0
set_option Elab.async false
set_option linter.all false
set_option maxRecDepth 100000
set_option maxHeartbeats 4000000
namespace KL0
open PySem PySem.Spec PyProof.Rows L2 KB KC KS KN1 LamX K7 FM GG
section
variable {P : Program} {w : World} {K : PySem.W.Frag} {mg : Str → Option Value} {base : Heap} {f fR cI Pf CS CC CG CR : Addr} {fd fdR : FuncData} {T : List (Addr × Str)} {nm : List Str}
abbrev qFi : Str := "Registry.fits.<locals>.<genexpr>"
def nFi : List Str := ["self", "subject", "schema", "before", "rule", "back", "forth", "one"]
theorem scFi : FnScope nFi ["self", "subject", "schema"] (defScope (sRg 2)) := ⟨rfl, rfl, rfl, by decide +kernel, rfl, by decide +kernel, by decide +kernel⟩
theorem eqS (a b : Str) : decide (V.str a = V.str b) = decide (a = b) := by simp
theorem last_ref {ss : List (Addr × Sc)} (h : ss ≠ []) : ∃ e, ss.getLast? = some e ∧ e ∈ ss ∧ atI (ss.map fun e => V.ref e.1) (-1) = some (.ref e.1) := by
  obtain ⟨ys, e, rfl⟩ : ∃ ys e, ss = ys ++ [e] := ⟨ss.dropLast, ss.getLast h, (List.dropLast_concat_getLast h).symm⟩
  refine ⟨e, by simp, by simp, ?_⟩
  rw [List.map_append]
  exact atI_last _ _
theorem or1 {wd rl : Str} {σ : L2.St} {H2 : Hp} {Q : VK} {q c l : Addr} {xs : List V} {D D2 : Addr → Prop} {sc sl : Sc} (h4 : σ[4]? = some (some (.str rl))) (h3 : σ[3]? = some (some (.ref q))) (h2 : σ[2]? = some (some (.ref c))) (hq : H2 q = some (.lst xs)) (hl : atI xs (-1) = some (.ref l)) (xc : SchA CS CC D c sc H2) (xl : SchA CS CC D2 l sl H2) (gl : goodS sl.1)
    (fin : ∀ H', KS.Ex H2 H' → Q (.bl (decide (rl = wd) || readsP sc sl)) H') : tOrV (tOp rEq (tVar 4) (tC (V.str wd))) (tMeth CC "reads" (spReads CS CC) [] E0 (tVar 2) (tCons (tOp (rIxL K) (tVar 3) (tUn (rU fun i => V.int (-i)) (tC (.int 1)))) tNil)) σ H2 Q := by
  refine ⟨_, h4, rfl, _, rfl, ?_⟩
  rw [eqS]
  by_cases e : rl = wd
  · refine ifT (decide_eq_true e) ?_
    have z := fin H2 (Ex.refl _)
    rw [decide_eq_true e] at z
    exact z
  · refine ifF (by simpa using e) ?_
    obtain ⟨dx, sh, dl, hc, _⟩ := id xc
    refine ⟨_, h2, c, dx, _, rfl, hc, rfl, _, h3, _, rfl, q, xs, _, _, rfl, rfl, SqL.of hq, hl, ?_⟩
    refine reads_step xc xl gl fun H' e' => ?_
    have z := fin H' e'
    rw [decide_eq_false e] at z
    exact z
theorem or2 {wd rl : Str} {σ : L2.St} {H2 : Hp} {Q : VK} {q c l : Addr} {xs : List V} {D D2 : Addr → Prop} {sc sl : Sc} (h4 : σ[4]? = some (some (.str rl))) (h3 : σ[3]? = some (some (.ref q))) (h2 : σ[2]? = some (some (.ref c))) (hq : H2 q = some (.lst xs)) (hl : atI xs (-1) = some (.ref l)) (xc : SchA CS CC D c sc H2) (xl : SchA CS CC D2 l sl H2) (gl : goodS sc.1)
    (fin : ∀ H', KS.Ex H2 H' → Q (.bl (decide (rl = wd) || readsP sl sc)) H') : tOrV (tOp rEq (tVar 4) (tC (V.str wd))) (tMeth CC "reads" (spReads CS CC) [] E0 (tOp (rIxL K) (tVar 3) (tUn (rU fun i => V.int (-i)) (tC (.int 1)))) (tCons (tVar 2) tNil)) σ H2 Q := by
  refine ⟨_, h4, rfl, _, rfl, ?_⟩
  rw [eqS]
  by_cases e : rl = wd
  · refine ifT (decide_eq_true e) ?_
    have z := fin H2 (Ex.refl _)
    rw [decide_eq_true e] at z
    exact z
  · refine ifF (by simpa using e) ?_
    obtain ⟨dx, sh, dl, hc, _⟩ := id xl
    refine ⟨_, h3, _, rfl, q, xs, _, _, rfl, rfl, SqL.of hq, hl, l, dx, _, rfl, hc, rfl, _, h2, ?_⟩
    refine reads_step xl xc gl fun H' e' => ?_
    have z := fin H' e'
    rw [decide_eq_false e] at z
    exact z
theorem ok_fits (F : FnP K "fits" "Registry.fits" (sRg 2) [] f fd) (hc : fd.code = .ref cI) (TB : GxR.TabB base mg cI Pf) (B : TxtG K mg CG) (BC : TxtC K mg CC) (TL : TxtL mg) (uT : Uq T) (mf : (Pf, qFi) ∈ T)
    (mR : Meth K CC "reads" fR) (GR : FnOk P w K mg base CX0 1 fR fdR ["self", "other"] (spReads CS CC)) (bR : Binds K fdR ["self", "other"] []) :
    FnOk P w K mg base CX0 4 f fd ["self", "subject", "schema"] (spFits CS CC CG nm T) := by
  refine okC F hc scFi (fun vs H Q E h => ?_) (fun A outer s H vs Q E hr h => ?_)
  · unfold spFits at h
    obtain ⟨_, _, _, _, _, _, _, _, _, _, rfl, _⟩ := h; rfl
  · unfold spFits at h
    obtain ⟨g, rs, rr, c, D, D2, En, R, n, sc, rfl, x, xc, gc, tab, fin⟩ := h
    have hu := hr.units
    have hu1 := Nat.lt_trans (Nat.add_lt_add_left (by decide : 1 < 64) _) hu
    refine ⟨_, PSs.nox <| pss_cons (ps_set (i := 3) scFi.nd rfl (Or.inl rfl) (pe_dget2 hu1 (pf 0) (pv 1) (pe_lst pa_nil) ⟨rfl, rfl, rfl, rfl⟩))
      (pss_cons (ps_set (i := 4) scFi.nd rfl (Or.inl rfl) (pe_dget2 hu1 (pf 0) (pv 1) pe_str ⟨rfl, rfl, rfl, rfl⟩))
      (pss_cons (ps_if (PW.pt (pw_or (pt_cmpR (op_eqNil hu1) (pv 3) (pe_lst pa_nil) (nomark _)) (pw_or1 (pt_cmpR op_eq (pv 4) pe_str (nomark _))))) (pss_one (ps_ret pe_bl)) pss_nil)
      (pss_cons (ps_if (pt_cmpR op_eq (pv 4) pe_str (nomark _)) (pss_one (ps_ret
          (pe_allG (k := 2) (c := cI) (P := Pf) (q := qFi) (own := [("one", 7)]) (g := gName 7) (show (Str.ofString "Registry.fits" ++ Str.ofString ".<locals>.") ++ Str.ofString "<genexpr>" = qFi by decide +kernel) hr (by rfl) TL.all TB rfl scFi.nd (pi_list (pv 3))
            (gOk_by (N := nFi) (sc := defScope (sRg 2)) (by decide +kernel) rfl (by decide +kernel) (by decide +kernel))
            (fun _ _ _ _ _ _ => pg_name (i := 7) scFi.nd rfl (Or.inl rfl))
            (fun _ _ _ _ _ _ hr2 => pe_meth (pv 2) BC.cl mR GR (hr2.mono (by decide)) bR .nil pass0 (pa_cons (pv 7) pa_nil))))) pss_nil)
      (pss_cons (ps_set (i := 5) scFi.nd rfl (Or.inl rfl) (pe_or (pe_cmpR op_eq (pv 4) pe_str (nomark _)) (pe_one (pe_meth (pv 2) BC.cl mR GR (hr.mono (by decide)) bR .nil pass0 (pa_cons (pe_ix ix_list (pv 3) (pe_un un_neg pe_int) (fun _ _ => rfl)) pa_nil)))))
      (pss_cons (ps_set (i := 6) scFi.nd rfl (Or.inl rfl) (pe_or (pe_cmpR op_eq (pv 4) pe_str (nomark _)) (pe_one (pe_meth (pe_ix ix_list (pv 3) (pe_un un_neg pe_int) (fun _ _ => rfl)) BC.cl mR GR (hr.mono (by decide)) bR .nil pass0 (pa_cons (pv 2) pa_nil)))))
      (pss_one (ps_ret (pe_and (pv 5) (pe_one (pv 6)))))))))), ?_⟩
    obtain ⟨dx, ob⟩ := x.ob
    obtain ⟨k1, g1, t1⟩ := x.t1
    obtain ⟨k2, g2, t2⟩ := x.t2
    refine ⟨_, rfl, g, CG, dx, _, _, rfl, ob, B.cl, B.s, rfl, rs, rfl, .inl ⟨_, .inl g1⟩, _, rfl, (by decide), fun p hp => ?_⟩
    have e1 : KS.Ex H (upd H p (.lst [])) := Ex.upd hp
    have hb : ∃ q, (valV k1 (kS n)).getD (.ref p) = .ref q ∧ (upd H p (.lst [])) q = some (.lst ((schs En n).map fun e => V.ref e.1)) := by
      unfold schs
      rcases t1.at_ n with ⟨q1, q2⟩ | ⟨en, v, q1, q2, q3⟩
      · exact ⟨p, by rw [q2]; rfl, by rw [q1]; exact L2.upd_same⟩
      · obtain ⟨l, ss⟩ := en
        have q3 : v = .ref l := q3
        exact ⟨l, by rw [q2, q3]; rfl, by rw [q1]; exact e1 _ _ (x.ls n l ss q1).2.2.1⟩
    have hrl : (valV k2 (kS n)).getD (.str "back") = .str (ruleOf R n) := by
      unfold ruleOf
      rcases t2.at_ n with ⟨q1, q2⟩ | ⟨r, v, q1, q2, q3⟩
      · rw [q1, q2]; rfl
      · have q3 : v = .str r := q3
        rw [q1, q2, q3]; rfl
    refine ⟨_, DGet.k (k := Sum.inr n) (e1 _ _ g1), ?_⟩
    obtain ⟨q, eq, hq⟩ := hb
    show gName 3 ((valV k1 (kS n)).getD (.ref p)) _ _ _
    rw [eq]
    generalize upd H p (.lst []) = H1 at e1 hq
    refine ⟨_, rfl, g, CG, dx, _, _, rfl, e1 _ _ ob, B.cl, B.r, rfl, rr, rfl, .inl ⟨_, .inl (e1 _ _ g2)⟩, _, rfl, _, DGet.k (k := Sum.inr n) (e1 _ _ g2), ?_⟩
    show gName 4 ((valV k2 (kS n)).getD (.str "back")) _ _ _
    rw [hrl]
    generalize ruleOf R n = rl at fin
    have hmem : ∀ e ∈ schs En n, SchA CS CC D e.1 e.2 H ∧ goodC e.2 := fun e he => x.mem he
    have hlen := x.len n
    generalize schs En n = ss at fin hq hmem hlen
    refine ⟨_, rfl, (by decide), fun p2 hp2 => ⟨q, p2, _, rfl, rfl, by rw [L2.upd_ne (ne_of_none hq hp2)]; exact hq, L2.upd_same, _, rfl, ?_⟩⟩
    have e2 : KS.Ex H (upd H1 p2 (.lst [])) := e1.trans (Ex.upd hp2)
    have hq2 : (upd H1 p2 (.lst [])) q = some (.lst (ss.map fun e => V.ref e.1)) := by rw [L2.upd_ne (ne_of_none hq hp2)]; exact hq
    generalize upd H1 p2 (.lst []) = H2 at e2 hq2
    have f2 : Fm T N0 H H2 := Fm.ex tab e2
    by_cases c0 : ss = []
    · refine ifT (by rw [c0]; rfl) (ifT rfl ?_)
      have z := fin H2 f2
      rw [c0] at z
      exact z
    obtain ⟨le, hl1, hl2, hl3⟩ := last_ref c0
    have eft : ∀ (fr : Sc), fitsP rl (ss.map (·.2)) fr = if rl = "free" then true else if rl = "all" then (ss.map (·.2)).all (fun one => readsP fr one) else (decide (rl = "forth") || readsP fr le.2) && (decide (rl = "back") || readsP le.2 fr) := fun fr => by
      unfold fitsP
      rw [List.getLast?_map, hl1]; rfl
    rw [eft] at fin
    refine ifF (by cases ss with | nil => exact absurd rfl c0 | cons a r => simp) ?_
    refine ⟨_, rfl, rfl, _, rfl, ?_⟩
    have mem2 : ∀ e ∈ ss, ∀ {H' : Hp}, Fm T N0 H H' → SchA CS CC D e.1 e.2 H' ∧ goodC e.2 := fun e he H' fm => ⟨(hmem e he).1.fm0 fm, (hmem e he).2⟩
    have insC : ∀ {H' : Hp} {D : Addr → Prop} {c : Addr} {sc : Sc}, SchA CS CC D c sc H' → ∃ dx sh dl, H' c = some (.ins CC dx (scF sh dl)) := fun ⟨dx, sh, dl, h, _⟩ => ⟨dx, sh, dl, h⟩
    show if decide (V.str rl = V.str "free") = true then _ else _
    rw [eqS]
    by_cases c1 : rl = "free"
    · refine ifT (decide_eq_true c1) ?_
      have z := fin H2 f2
      rw [if_pos c1] at z
      exact z
    refine ifF (by simpa using c1) ?_
    rw [if_neg c1] at fin
    refine ⟨_, rfl, rfl, _, rfl, ?_⟩
    show if decide (V.str rl = V.str "all") = true then _ else _
    rw [eqS]
    by_cases c2 : rl = "all"
    · refine ifT (decide_eq_true c2) ?_
      rw [if_pos c2] at fin
      refine ⟨_, rfl, q, rfl, ⟨_, SqL.of hq2⟩, f2.1 _ mf, fun H3 tb3 => ?_⟩
      have f3 : Fm T N0 H H3 := f2.trans (Fm.tab uT mf f2.1 tb3.1 tb3.2)
      have f23 : Fm T N0 H2 H3 := Fm.tab uT mf f2.1 tb3.1 tb3.2
      have ra := any_range (l := ss) (p := fun e => readsP sc e.2) (f := fun i => match ss[i]? with | some e => readsP sc e.2 | none => true) (fun i a hi => by simp only [hi])
      refine anyW (walk_list (K := K) (a := q) (xs := ss.map fun e => V.ref e.1)) (fun i => match ss[i]? with | some e => readsP sc e.2 | none => true) (fun H' => Fm T N0 H2 H') f23 (fun H' q => SqL.of (q.at0 hq2)) (fun i x' H9 H10 R0 hi f9 hy hR => ?_) (fun H' f9 hp => ?_) (fun H' i f9 hi hp => ?_)
      · obtain ⟨rfl, hy⟩ := hy
        rw [List.getElem?_map] at hy
        obtain ⟨e, he, rfl⟩ := Option.map_eq_some_iff.mp hy
        simp only [he] at hR
        have xc9 := xc.fm0 (f2.trans f9)
        obtain ⟨dxc, shc, dlc, hcc⟩ := insC xc9
        obtain ⟨m1, m2⟩ := mem2 e (List.mem_of_getElem? he) (f2.trans f9)
        refine ⟨rfl, _, rfl, c, dxc, _, rfl, hcc, rfl, _, rfl, ?_⟩
        exact reads_step xc9 m1 m2.1 fun H11 e11 => hR H11 (f9.trans (Fm.ex f9.1 e11))
      · have z := fin H' (f2.trans f9)
        have e0 : ((ss.map (·.2)).all fun one => readsP sc one) = true := by
          rw [List.all_map]
          exact ra.2.mp (by simpa using hp)
        rw [e0] at z
        exact z
      · have z := fin H' (f2.trans f9)
        have e0 : ((ss.map (·.2)).all fun one => readsP sc one) = false := by
          rw [List.all_map]
          cases q : ss.all ((fun one => readsP sc one) ∘ fun x => x.2) with
          | false => rfl
          | true =>
            have := ra.2.mpr q i (by simpa using hi)
            exact absurd hp this
        rw [e0] at z
        exact z
    refine ifF (by simpa using c2) ?_
    rw [if_neg c2] at fin
    obtain ⟨l1, l2⟩ := mem2 le hl2 f2
    dsimp only [tNext, tSeq, tAsg]
    refine or1 (K := K) rfl rfl rfl hq2 hl3 (xc.fm0 f2) l1 l2.1 fun H3 e3 => ?_
    have f3 := f2.trans (Fm.ex f2.1 e3)
    obtain ⟨l1, l2⟩ := mem2 le hl2 f3
    dsimp only [gName]
    refine or2 (K := K) rfl rfl rfl (e3 _ _ hq2) hl3 (xc.fm0 f3) l1 gc.1 fun H4 e4 => ?_
    have z := fin H4 (f3.trans (Fm.ex f3.1 e4))
    refine ⟨_, rfl, _, rfl, ?_⟩
    cases hb1 : (decide (rl = "forth") || readsP sc le.2) with
    | false =>
      rw [hb1] at z
      exact ifF (by simp) z
    | true =>
      rw [hb1, Bool.true_and] at z
      exact ifT rfl ⟨_, rfl, z⟩
end
end KL0
set_option Elab.async false
set_option linter.all false
set_option maxRecDepth 100000
set_option maxHeartbeats 4000000
namespace KL0
open PySem PySem.Spec PyProof.Rows L2 KB KC KS KN1 LamX K7 FM GG
section
variable {CS CC CG : Addr} {D : Addr → Prop} {nm : List Str} {g rs rr : Addr} {E : Str → Option Ent} {R : Str → Option Str} {H : Hp}
theorem RegA.addOld (x : RegA CS CC CG D nm g rs rr E R H) {n : Str} {l c : Addr} {ss : List (Addr × Sc)} {sc : Sc} (q : E n = some (l, ss)) (hn : n ∈ nm) (xc : SchA CS CC D c sc H) (gc : goodC sc) (hl : ss.length < 1000) :
    RegA CS CC CG D nm g rs rr (putG E n (some (l, ss ++ [(c, sc)]))) R (upd H l (.lst ((ss ++ [(c, sc)]).map fun e => V.ref e.1))) := by
  obtain ⟨dx, ob⟩ := x.ob
  obtain ⟨k1, g1, t1⟩ := x.t1
  obtain ⟨k2, g2, t2⟩ := x.t2
  obtain ⟨b1, b2, b3, b4⟩ := x.ls n l ss q
  have e : Fm [] (fun b => b = l) H (upd H l (.lst ((ss ++ [(c, sc)]).map fun e => V.ref e.1))) := Fm.wr (tabs0 H) b3 (by intro _ z; cases z) (by intro _ z; cases z) rfl
  have z : SD D (fun b => b = l) H := fun b hb => by
    have hb : b = l := hb
    subst hb
    exact .inr (.inr ⟨_, b3⟩)
  refine ⟨⟨dx, e.at' ob (fun z => by rw [z, b3] at ob; cases ob)⟩, ⟨k1, e.at' g1 (fun z => by rw [z, b3] at g1; cases g1), ⟨t1.nd, t1.ks, fun m => ?_⟩⟩, ⟨k2, e.at' g2 (fun z => by rw [z, b3] at g2; cases g2), t2⟩, fun m l' ss' q' => ?_, x.ns, x.dd, fun m m' l1 s1 l2 s2 q1 q2 ne => ?_⟩
  · by_cases c0 : m = n
    · subst c0
      rcases t1.at_ m with ⟨h1, _⟩ | ⟨a, v, h1, h2, h3⟩
      · rw [q] at h1; cases h1
      · rw [q] at h1; cases h1
        exact .inr ⟨_, v, putG_same _ _ _, h2, h3⟩
    · rw [putG_ne _ _ c0]
      exact t1.at_ m
  · by_cases c0 : m = n
    · subst c0
      rw [putG_same] at q'
      cases q'
      refine ⟨by simp, by rw [List.length_append]; simp; omega, L2.upd_same, fun y hy => ?_⟩
      rcases List.mem_append.mp hy with hy | hy
      · exact ⟨(b4 y hy).1.fm e z, (b4 y hy).2⟩
      · rw [List.mem_singleton.mp hy]
        exact ⟨xc.fm e z, gc⟩
    · rw [putG_ne _ _ c0] at q'
      obtain ⟨a1, a2, a3, a4⟩ := x.ls m l' ss' q'
      exact ⟨a1, a2, e.at' a3 (fun z => x.inj m n l' ss' l ss q' q c0 z), fun y hy => ⟨(a4 y hy).1.fm e z, (a4 y hy).2⟩⟩
  · have back : ∀ {m : Str} {l1 : Addr} {s1 : List (Addr × Sc)}, putG E n (some (l, ss ++ [(c, sc)])) m = some (l1, s1) → ∃ s0, E m = some (l1, s0) := fun {m l1 s1} h => by
      by_cases c0 : m = n
      · subst c0
        rw [putG_same] at h
        cases h
        exact ⟨_, q⟩
      · rw [putG_ne _ _ c0] at h
        exact ⟨_, h⟩
    obtain ⟨s1', h1⟩ := back q1
    obtain ⟨s2', h2⟩ := back q2
    exact x.inj m m' l1 s1' l2 s2' h1 h2 ne
theorem RegA.addNew (x : RegA CS CC CG D nm g rs rr E R H) {n : Str} {p c : Addr} {sc : Sc} {k1 : List (Key × V)} (q : E n = none) (hn : n ∈ nm) (hp : H p = none) (hk : H rs = some (.dK k1)) (xc : SchA CS CC D c sc H) (gc : goodC sc) :
    RegA CS CC CG D nm g rs rr (putG E n (some (p, [(c, sc)]))) R (upd (upd (upd H p (.lst [])) rs (.dK (putK k1 (Sum.inr n) (.ref p)))) p (.lst [.ref c])) := by
  obtain ⟨dx, ob⟩ := x.ob
  obtain ⟨k1', g1, t1⟩ := x.t1
  rw [hk] at g1
  cases g1
  obtain ⟨k2, g2, t2⟩ := x.t2
  have nps : p ≠ rs := fun z => by rw [z, hk] at hp; cases hp
  have e : Fm [] (fun b => b = rs) H (upd (upd (upd H p (.lst [])) rs (.dK (putK k1 (Sum.inr n) (.ref p)))) p (.lst [.ref c])) := ⟨tabs0 _, fun b o nb h _ => by rw [L2.upd_ne (ne_of_none h hp), L2.upd_ne nb, L2.upd_ne (ne_of_none h hp)]; exact h⟩
  have z : SD D (fun b => b = rs) H := fun b hb => by
    have hb : b = rs := hb
    subst hb
    exact .inl ⟨x.dd.1, _, hk⟩
  refine ⟨⟨dx, e.at' ob (fun z => by rw [z, hk] at ob; cases ob)⟩, ⟨_, by rw [L2.upd_ne nps.symm]; exact L2.upd_same, t1.put kS_inj hn rfl fun _ _ _ _ _ q => q⟩, ⟨k2, e.at' g2 x.ns.symm, t2⟩, fun m l' ss' q' => ?_, x.ns, x.dd, fun m m' l1 s1 l2 s2 q1 q2 ne => ?_⟩
  · by_cases c0 : m = n
    · subst c0
      rw [putG_same] at q'
      cases q'
      refine ⟨by simp, by simp, L2.upd_same, fun y hy => ?_⟩
      rw [List.mem_singleton.mp hy]
      exact ⟨xc.fm e z, gc⟩
    · rw [putG_ne _ _ c0] at q'
      obtain ⟨a1, a2, a3, a4⟩ := x.ls m l' ss' q'
      exact ⟨a1, a2, e.at' a3 (fun z => by rw [z, hk] at a3; cases a3), fun y hy => ⟨(a4 y hy).1.fm e z, (a4 y hy).2⟩⟩
  · have there : ∀ {m : Str} {l1 : Addr} {s1 : List (Addr × Sc)}, E m = some (l1, s1) → l1 ≠ p := fun {m l1 s1} h z => by
      obtain ⟨_, _, a3, _⟩ := x.ls m l1 s1 h
      rw [z, hp] at a3; cases a3
    by_cases c0 : m = n
    · subst c0
      rw [putG_same] at q1
      cases q1
      rw [putG_ne _ _ (Ne.symm ne)] at q2
      exact (there q2).symm
    · rw [putG_ne _ _ c0] at q1
      by_cases c1 : m' = n
      · subst c1
        rw [putG_same] at q2
        cases q2
        exact there q1
      · rw [putG_ne _ _ c1] at q2
        exact x.inj m m' l1 s1 l2 s2 q1 q2 ne
end
theorem fits_step {CS CC CG : Addr} {nm : List Str} {T : List (Addr × Str)} {g rs rr c : Addr} {D D2 : Addr → Prop} {En : Str → Option Ent} {R : Str → Option Str} {n : Str} {sc : Sc} {H : Hp} {Q : VK} {E : XK} (x : RegA CS CC CG D nm g rs rr En R H) (xc : SchA CS CC D2 c sc H) (gc : goodC sc) (tab : Tabs T H)
    (fin : ∀ H', Fm T N0 H H' → Q (.bl (fitsP (ruleOf R n) ((schs En n).map (·.2)) sc)) H') : spFits CS CC CG nm T [.ref g, .str n, .ref c] H Q E := by
  unfold spFits
  exact ⟨g, rs, rr, c, D, D2, En, R, n, sc, rfl, x, xc, gc, tab, fin⟩
def AddS (rs : Addr) (En : Str → Option Ent) (n : Str) : Addr → Prop := fun b => b = rs ∨ ∃ ss, En n = some (b, ss)
@[irreducible] def spAdd (CS CC CG CR : Addr) (nm : List Str) (T : List (Addr × Str)) : Sp := fun vs H Q E0 => ∃ (g rs rr c : Addr) (D : Addr → Prop) (E : Str → Option Ent) (R : Str → Option Str) (n : Str) (sc : Sc), vs = [.ref g, .str n, .ref c] ∧ RegA CS CC CG D nm g rs rr E R H ∧ SchA CS CC D c sc H ∧ goodC sc ∧ n ∈ nm ∧ nm.length ≤ 1000 ∧ n.length ≤ 900 ∧ (schs E n).length < 1000 ∧ Tabs T H ∧
  (fitsP (ruleOf R n) ((schs E n).map (·.2)) sc = false → ∀ H', Fm T N0 H H' → E0 (.ref CR) none H') ∧
  (fitsP (ruleOf R n) ((schs E n).map (·.2)) sc = true → ∀ H' l, Fm T (AddS rs E n) H H' → ((∃ ss, E n = some (l, ss)) ∨ (E n = none ∧ ∀ o, H l = some o → ∃ ps, o = .tbl ps)) → RegA CS CC CG D nm g rs rr (putG E n (some (l, schs E n ++ [(c, sc)]))) R H' → Q (.int ((schs E n).length : Nat)) H')
section
variable {P : Program} {w : World} {K : PySem.W.Frag} {mg : Str → Option Value} {base : Heap} {f fF CS CC CG CR : Addr} {fd fdF : FuncData} {T : List (Addr × Str)} {nm : List Str}
theorem scAd : FnScope ["self", "subject", "schema"] ["self", "subject", "schema"] (defScope (sRg 3)) := ⟨rfl, rfl, rfl, by decide +kernel, rfl, by decide +kernel, by decide +kernel⟩
theorem ok_add (F : FnP K "add" "Registry.add" (sRg 3) [] f fd) (B : TxtG K mg CG) (TL : TxtL mg) (J : TxtX K mg CR)
    (mF : Meth K CG "fits" fF) (GF : FnOk P w K mg base CX0 4 fF fdF ["self", "subject", "schema"] (spFits CS CC CG nm T)) (bF : Binds K fdF ["self", "subject", "schema"] []) :
    FnOk P w K mg base (L2.CX P w) 5 f fd ["self", "subject", "schema"] (spAdd CS CC CG CR nm T) := by
  refine F.ok scAd (fun vs H Q E h => ?_) (fun cdv A outer s H vs Q E hr h => ?_)
  · unfold spAdd at h
    obtain ⟨_, _, _, _, _, _, _, _, _, rfl, _⟩ := h; rfl
  · unfold spAdd at h
    obtain ⟨g, rs, rr, c, D, En, R, n, sc, rfl, x, xc, gc, hn, hnm, hnl, hss, tab, bad, good⟩ := h
    have hu := hr.units
    have hu1 := Nat.lt_trans (Nat.add_lt_add_left (by decide : 1 < 64) _) hu
    refine ⟨_, pss_cons (ps_if (pt_not (pt_val (pe_meth (pv 0) B.cl mF GF hr bF .nil pass0 (pa_cons (pv 1) (pa_cons (pv 2) pa_nil)))))
        (pss_one (ps_raise rfl (takes_of rfl rfl rfl rfl) (SkE.pmk_own1 PySem.F.excBase_ValueError J.x J.g J.k (raises_own J.b J.t) rfl (pe_joined (.cons pe_str (.cons (pe_fmt (pv 1)) .nil)))))) pss_nil)
      (PSs.nox <| pss_cons (ps_expr (pe_bm PySem.F.plainAttrs_list PySem.F.slot_list_append PySem.F.type_list_append mt_append (pe_dsetd (pf 0) (pv 1) (pe_lst pa_nil) ⟨rfl, rfl, rfl, rfl⟩) (pa_cons (pv 2) pa_nil)))
      (pss_one (ps_ret (pe_op op_sub (pe_callB call_len_seq (by rfl) TL.len PySem.boot_len (pa_cons (pe_dget hu1 (pf 0) (pv 1) (fun _ _ => rfl)) pa_nil)) pe_int)))), ?_⟩
    obtain ⟨dx, ob⟩ := x.ob
    refine ⟨_, rfl, g, dx, _, rfl, ob, rfl, _, rfl, _, rfl, ?_⟩
    refine fits_step x xc gc tab fun H1 f1 => ⟨_, rfl, ?_⟩
    cases hft : fitsP (ruleOf R n) ((schs En n).map (·.2)) sc with
    | false =>
      refine ifT rfl ?_
      have h1 : n.length ≤ sizeLine := Nat.le_trans hnl (by decide)
      refine ⟨_, rfl, by decide +kernel, _, rfl, .inl ⟨n, rfl, h1, n, rfl, ?_, bad hft H1 f1⟩⟩
      have e : (Str.empty ++ Str.ofString "the schema does not fit " ++ n).length = 24 + n.length := by
        show (Str.empty.cps ++ _ ++ n.cps).size = _
        rw [Array.size_append]
        rfl
      rw [e]
      have : sizeLine = 16777216 := rfl
      omega
    | true =>
      refine ifF (by simp) ?_
      have good := good hft
      have x1 := x.fm0 f1
      obtain ⟨k1, g1, t1⟩ := x1.t1
      refine ⟨_, rfl, g, CG, dx, _, _, rfl, f1.at0 ob, B.cl, B.s, rfl, rs, rfl, .inl ⟨_, .inl g1⟩, _, rfl, (by decide), fun p hp => ?_⟩
      have hz : sizeLine = 16777216 := rfl
      have lk1 : k1.length < sizeLine := by have := t1.len; omega
      have g1' : (upd H1 p (.lst [])) rs = some (.dK k1) := by rw [L2.upd_ne (ne_of_none g1 hp)]; exact g1
      have f12 : Fm T N0 H (upd H1 p (.lst [])) := f1.trans (Fm.new f1.1 hp)
      have xc1 := xc.fm0 f1
      have ob1 := f1.at0 ob
      refine ⟨k1, Sum.inr n, g1', rfl, lk1, fun v hv => ?_, fun hv => ?_⟩
      · rcases t1.at_ n with ⟨q1, q2⟩ | ⟨en, v', q1, q2, q3⟩
        · have q2 : valV k1 (Sum.inr n) = none := q2
          rw [q2] at hv; cases hv
        · obtain ⟨l, ss⟩ := en
          have q2 : valV k1 (Sum.inr n) = some v' := q2
          have q3 : v' = .ref l := q3
          rw [q2, q3] at hv
          cases hv
          have es : schs En n = ss := by unfold schs; rw [q1]
          rw [es] at good hss
          have x2 := x.fm0 f12
          have hl2 := (x2.ls n l ss q1).2.2.1
          refine ⟨Or.inl ⟨rfl, _, SqL.of hl2⟩, _, rfl, l, _, _, rfl, rfl, hl2, by rw [List.length_map]; omega, ?_⟩
          have xx := x2.addOld q1 hn (xc.fm0 f12) gc hss
          have ea : (ss.map fun e => V.ref e.1) ++ [V.ref c] = (ss ++ [(c, sc)]).map fun e => V.ref e.1 := by rw [List.map_append]; rfl
          rw [ea]
          have f3 : Fm T (AddS rs En n) H (upd (upd H1 p (.lst [])) l (.lst ((ss ++ [(c, sc)]).map fun e => V.ref e.1))) := f12.of0.trans (Fm.wr f12.1 hl2 (by intro _ z; cases z) (by intro _ z; cases z) (.inr ⟨ss, q1⟩))
          have hl3 : (upd (upd H1 p (.lst [])) l (.lst ((ss ++ [(c, sc)]).map fun e => V.ref e.1))) l = some (.lst ((ss ++ [(c, sc)]).map fun e => V.ref e.1)) := L2.upd_same
          generalize upd (upd H1 p (.lst [])) l (.lst ((ss ++ [(c, sc)]).map fun e => V.ref e.1)) = H3 at xx f3 hl3
          obtain ⟨dx3, ob3⟩ := xx.ob
          obtain ⟨k3, g3, t3⟩ := xx.t1
          have v3 : valV k3 (Sum.inr n) = some (.ref l) := by
            obtain ⟨v, h1, h2⟩ := t3.some (putG_same En n _)
            have h2 : v = .ref l := h2
            rw [← h2]; exact h1
          refine ⟨_, rfl, g, CG, dx3, _, _, rfl, ob3, B.cl, B.s, rfl, _, rfl, rs, .ref l, rfl, ?_, l, _, rfl, .inl (SqL.of hl3), _, _, rfl, rfl, ?_⟩
          · have z := DGet.k (k := Sum.inr n) g3
            rw [v3] at z
            exact z
          · have z := good H3 l f3 (.inl ⟨ss, q1⟩) xx
            rw [List.length_map, List.length_append]
            have e1 : ((ss.length + [(c, sc)].length : Nat) : Int) - 1 = ((ss.length : Nat) : Int) := by simp
            show Q (.int (((ss.length + [(c, sc)].length : Nat) : Int) - 1)) H3
            rw [e1]
            exact z
      · have qn : En n = none := by
          rcases t1.at_ n with ⟨q1, q2⟩ | ⟨en, v', q1, q2, q3⟩
          · exact q1
          · have q2 : valV k1 (Sum.inr n) = some v' := q2
            rw [q2] at hv; cases hv
        have es : schs En n = [] := by unfold schs; rw [qn]
        rw [es] at good
        have nps : p ≠ rs := (ne_of_none g1 hp).symm
        have hl2 : (upd (upd H1 p (.lst [])) rs (.dK (putK k1 (Sum.inr n) (.ref p)))) p = some (.lst []) := by rw [L2.upd_ne nps]; exact L2.upd_same
        refine ⟨Or.inl ⟨rfl, _, SqL.of hl2⟩, _, rfl, p, _, _, rfl, rfl, hl2, (by decide), ?_⟩
        have xx := x1.addNew qn hn hp g1 xc1 gc
        have f3 : Fm T (AddS rs En n) H (upd (upd (upd H1 p (.lst [])) rs (.dK (putK k1 (Sum.inr n) (.ref p)))) p (.lst ([] ++ [.ref c]))) := by
          have fa : Fm T (AddS rs En n) H (upd (upd H1 p (.lst [])) rs (.dK (putK k1 (Sum.inr n) (.ref p)))) := f12.of0.trans (Fm.wr f12.1 g1' (by intro _ z; cases z) (by intro _ z; cases z) (.inl rfl))
          refine ⟨tabs_wr fa.1 hl2 (by intro _ z; cases z) (by intro _ z; cases z), fun b o nb h nt => ?_⟩
          have hb := f1.2 b o id h nt
          rw [L2.upd_ne (ne_of_none hb hp)]
          exact fa.2 b o nb h nt
        have hl3 : (upd (upd (upd H1 p (.lst [])) rs (.dK (putK k1 (Sum.inr n) (.ref p)))) p (.lst ([] ++ [.ref c]))) p = some (.lst [.ref c]) := L2.upd_same
        have xx : RegA CS CC CG D nm g rs rr (putG En n (some (p, [(c, sc)]))) R (upd (upd (upd H1 p (.lst [])) rs (.dK (putK k1 (Sum.inr n) (.ref p)))) p (.lst ([] ++ [.ref c]))) := xx
        generalize upd (upd (upd H1 p (.lst [])) rs (.dK (putK k1 (Sum.inr n) (.ref p)))) p (.lst ([] ++ [.ref c])) = H3 at xx f3 hl3
        obtain ⟨dx3, ob3⟩ := xx.ob
        obtain ⟨k3, g3, t3⟩ := xx.t1
        have v3 : valV k3 (Sum.inr n) = some (.ref p) := by
          obtain ⟨v, h1, h2⟩ := t3.some (putG_same En n _)
          have h2 : v = .ref p := h2
          rw [← h2]; exact h1
        refine ⟨_, rfl, g, CG, dx3, _, _, rfl, ob3, B.cl, B.s, rfl, _, rfl, rs, .ref p, rfl, ?_, p, _, rfl, .inl (SqL.of hl3), _, _, rfl, rfl, ?_⟩
        · have z := DGet.k (k := Sum.inr n) g3
          rw [v3] at z
          exact z
        · refine good H3 p f3 (.inr ⟨qn, fun o ho => ?_⟩) xx
          by_cases ht : ∃ ps, o = .tbl ps
          · exact ht
          · have z := f1.2 p o id ho fun ps e => ht ⟨ps, e⟩
            rw [z] at hp; cases hp
end
end KL0
set_option Elab.async false
set_option linter.all false
set_option maxRecDepth 100000
set_option maxHeartbeats 4000000
namespace KL0
open PySem PySem.Spec PyProof.Rows L2 KB KC KS KN1 LamX K7 FM GG
def readOk (ss : List Sc) (k j : Int) (xs out : List V) : Prop := ∃ (kn jn : Nat) (one other : Sc), k = (kn : Int) ∧ j = (jn : Int) ∧ ss[jn]? = some one ∧ ss[kn]? = some other ∧ rowOk one other xs ∧ out = rowP one other xs
@[irreducible] def spRead (CS CC CG CR : Addr) (nm : List Str) (T : List (Addr × Str)) : Sp := fun vs H Q E0 => ∃ (g rs rr r : Addr) (D : Addr → Prop) (E : Str → Option Ent) (R : Str → Option Str) (n : Str) (k j : Int) (xs : List V), vs = [.ref g, .str n, .int k, .ref r, .int j] ∧ RegA CS CC CG D nm g rs rr E R H ∧ H r = some (.tup xs) ∧ (∀ v ∈ xs, Rowy v) ∧ xs.length ≤ 1000 ∧ Tabs T H ∧
  ((∀ out, ¬ readOk ((schs E n).map (·.2)) k j xs out) → ∀ H', Fm T N0 H H' → E0 (.ref CR) none H') ∧ (∀ out, readOk ((schs E n).map (·.2)) k j xs out → ∀ H' q, Fm T N0 H H' → H' q = some (.tup out) → Q (.ref q) H')
theorem rowf_step {CS CC CR : Addr} {T : List (Addr × Str)} {c c2 r : Addr} {D D2 : Addr → Prop} {one other : Sc} {xs : List V} {H : Hp} {Q : VK} {E : XK} (x : SchA CS CC D c one H) (y : SchA CS CC D2 c2 other H) (g1 : goodS one.1) (g2 : goodS other.1) (hr : H r = some (.tup xs)) (ry : ∀ v ∈ xs, Rowy v) (hl : xs.length ≤ 1000) (tab : Tabs T H)
    (bad : ¬ rowOk one other xs → ∀ H', Fm T N0 H H' → E (.ref CR) none H') (good : rowOk one other xs → ∀ H' q, Fm T N0 H H' → H' q = some (.tup (rowP one other xs)) → Q (.ref q) H') : spRowF CS CC CR T [.ref c, .ref c2, .ref r] H Q E := by
  unfold spRowF
  exact ⟨c, c2, r, one, other, xs, rfl, x.mono (fun _ z => z.elim), y.mono (fun _ z => z.elim), g1, g2, hr, ry, hl, tab, bad, good⟩
section
variable {P : Program} {w : World} {K : PySem.W.Frag} {mg : Str → Option Value} {base : Heap} {f fF CS CC CG CR : Addr} {fd fdF : FuncData} {T : List (Addr × Str)} {nm : List Str}
def nRd : List Str := ["self", "subject", "number", "row", "wanted", "found"]
theorem scRd : FnScope nRd ["self", "subject", "number", "row", "wanted"] (defScope (sRg 4)) := ⟨rfl, rfl, rfl, by decide +kernel, rfl, by decide +kernel, by decide +kernel⟩
abbrev lenR (K : PySem.W.Frag) : List V → Hp → VK → Prop := fun xs H Q => ∃ p ys, xs = [.ref p] ∧ (SqL K H p ys ∨ SqT K H p ys) ∧ Q (.int (ys.length : Nat)) H
theorem idx_step {σ : L2.St} {i : Nat} {k : Int} {q : Addr} {ys : List V} {H : Hp} {Q : Bool → Hp → Prop} (hi : σ[i]? = some (some (.int k))) (h5 : σ[5]? = some (some (.ref q))) (hq : H q = some (.lst ys)) (fin : Q (!(decide (0 ≤ k) && decide (k < (ys.length : Int)))) H) :
    tNot (tTest (tChain (rI0 fun i j => V.bl (decide (i ≤ j))) (rI0 fun i j => V.bl (decide (i < j))) (tC (V.int 0)) (tVar i) (tCB (lenR K) (tCons (tVar 5) tNil)))) σ H Q := by
  refine ⟨_, hi, _, _, rfl, rfl, _, rfl, ?_⟩
  by_cases c : 0 ≤ k
  · refine ifT (decide_eq_true c) ⟨_, h5, q, ys, rfl, .inl (SqL.of hq), _, _, rfl, rfl, _, rfl, ?_⟩
    rw [decide_eq_true c, Bool.true_and] at fin
    exact fin
  · refine ifF (by simpa using c) ⟨_, rfl, ?_⟩
    rw [decide_eq_false c, Bool.false_and] at fin
    exact fin
theorem ok_read (F : FnP K "read" "Registry.read" (sRg 4) [] f fd) (B : TxtG K mg CG) (BC : TxtC K mg CC) (TL : TxtL mg) (J : TxtX K mg CR)
    (mF : Meth K CC "row_from" fF) (GF : FnOk P w K mg base (L2.CX P w) 3 fF fdF ["self", "other", "row"] (spRowF CS CC CR T)) (bF : Binds K fdF ["self", "other", "row"] []) :
    FnOk P w K mg base (L2.CX P w) 4 f fd ["self", "subject", "number", "row", "wanted"] (spRead CS CC CG CR nm T) := by
  refine F.ok scRd (fun vs H Q E h => ?_) (fun cdv A outer s H vs Q E hr h => ?_)
  · unfold spRead at h
    obtain ⟨_, _, _, _, _, _, _, _, _, _, _, rfl, _⟩ := h; rfl
  · unfold spRead at h
    obtain ⟨g, rs, rr, r, D, En, R, n, k, j, xs, rfl, x, hr1, ry, lx, tab, bad, good⟩ := h
    have hu := hr.units
    have hu1 := Nat.lt_trans (Nat.add_lt_add_left (by decide : 1 < 64) _) hu
    refine ⟨_, pss_cons (ps_set (i := 5) scRd.nd rfl (Or.inl rfl) (pe_dget2 hu1 (pf 0) (pv 1) (pe_lst pa_nil) ⟨rfl, rfl, rfl, rfl⟩))
      (pss_cons (ps_if (PW.pt (pw_or (pt_not (pt_chain op_le op_lt pe_int (pv 2) (pe_callB call_len_seq (by rfl) TL.len PySem.boot_len (pa_cons (pv 5) pa_nil)))) (pw_or1 (pt_not (pt_chain op_le op_lt pe_int (pv 4) (pe_callB call_len_seq (by rfl) TL.len PySem.boot_len (pa_cons (pv 5) pa_nil)))))))
        (pss_one (ps_raise rfl (takes_of rfl rfl rfl rfl) (pmk_own PySem.F.excBase_ValueError J.x J.g J.k (raises_own J.b J.t) rfl))) pss_nil)
      (pss_one (ps_ret (pe_meth (pe_ix ix_list (pv 5) (pv 4) (fun _ _ => rfl)) BC.cl mF GF hr bF .nil (passes_call (takes_of rfl rfl rfl rfl) (fun _ _ _ _ h => h)) (pa_cons (pe_ix ix_list (pv 5) (pv 2) (fun _ _ => rfl)) (pa_cons (pv 3) pa_nil)))))), ?_⟩
    obtain ⟨dx, ob⟩ := x.ob
    obtain ⟨k1, g1, t1⟩ := x.t1
    refine ⟨_, rfl, g, CG, dx, _, _, rfl, ob, B.cl, B.s, rfl, rs, rfl, .inl ⟨_, .inl g1⟩, _, rfl, (by decide), fun p hp => ?_⟩
    have e1 : KS.Ex H (upd H p (.lst [])) := Ex.upd hp
    have hb : ∃ q, (valV k1 (kS n)).getD (.ref p) = .ref q ∧ (upd H p (.lst [])) q = some (.lst ((schs En n).map fun e => V.ref e.1)) := by
      unfold schs
      rcases t1.at_ n with ⟨q1, q2⟩ | ⟨en, v, q1, q2, q3⟩
      · exact ⟨p, by rw [q2]; rfl, by rw [q1]; exact L2.upd_same⟩
      · obtain ⟨l, ss⟩ := en
        have q3 : v = .ref l := q3
        exact ⟨l, by rw [q2, q3]; rfl, by rw [q1]; exact e1 _ _ (x.ls n l ss q1).2.2.1⟩
    refine ⟨_, DGet.k (k := Sum.inr n) (e1 _ _ g1), ?_⟩
    obtain ⟨q, eq, hq⟩ := hb
    show gName 5 ((valV k1 (kS n)).getD (.ref p)) _ _ _
    rw [eq]
    generalize upd H p (.lst []) = H1 at e1 hq
    have hmem : ∀ e ∈ schs En n, SchA CS CC D e.1 e.2 H ∧ goodC e.2 := fun e he => x.mem he
    have hlen := x.len n
    generalize schs En n = ss at bad good hq hmem hlen
    have f1 : Fm T N0 H H1 := Fm.ex tab e1
    have ll : (ss.map fun e => V.ref e.1).length = ss.length := List.length_map _
    dsimp only [tSeq, tIfS, gName]
    refine idx_step (K := K) rfl rfl hq ?_
    rw [ll]
    by_cases ck : 0 ≤ k ∧ k < (ss.length : Int)
    · have e0 : (!(decide (0 ≤ k) && decide (k < (ss.length : Int)))) = false := by rw [decide_eq_true ck.1, decide_eq_true ck.2]; rfl
      rw [e0]
      refine ifF (by simp) ?_
      refine idx_step (K := K) rfl rfl hq ?_
      rw [ll]
      by_cases cj : 0 ≤ j ∧ j < (ss.length : Int)
      · have e0 : (!(decide (0 ≤ j) && decide (j < (ss.length : Int)))) = false := by rw [decide_eq_true cj.1, decide_eq_true cj.2]; rfl
        rw [e0]
        refine ifF (by simp) ?_
        obtain ⟨kn, rfl⟩ := Int.eq_ofNat_of_zero_le ck.1
        obtain ⟨jn, rfl⟩ := Int.eq_ofNat_of_zero_le cj.1
        have hkn : kn < ss.length := by have := ck.2; omega
        have hjn : jn < ss.length := by have := cj.2; omega
        have k1 : ss[kn]? = some ss[kn] := List.getElem?_eq_getElem hkn
        have j1 : ss[jn]? = some ss[jn] := List.getElem?_eq_getElem hjn
        generalize ss[kn] = ek at k1
        generalize ss[jn] = ej at j1
        obtain ⟨m1, m2⟩ := hmem ej (List.mem_of_getElem? j1)
        obtain ⟨m3, m4⟩ := hmem ek (List.mem_of_getElem? k1)
        have mj := m1.fm0 f1
        obtain ⟨dxj, shj, dlj, hj1, _⟩ := id mj
        refine ⟨_, rfl, _, rfl, q, _, _, .ref ej.1, rfl, rfl, SqL.of hq, atI_nat (by rw [List.getElem?_map, j1]; rfl), ej.1, dxj, _, rfl, hj1, rfl, _, rfl, _, rfl, q, _, _, .ref ek.1, rfl, rfl, SqL.of hq, atI_nat (by rw [List.getElem?_map, k1]; rfl), _, rfl, ?_⟩
        refine rowf_step mj (m3.fm0 f1) m2.1 m4.1 (f1.at0 hr1) ry lx f1.1 (fun nr H2 f2 => bad (fun out ho => ?_) H2 (f1.trans f2)) (fun or H2 q2 f2 hq2 => good (rowP ej.2 ek.2 xs) ⟨kn, jn, ej.2, ek.2, rfl, rfl, by rw [List.getElem?_map, j1]; rfl, by rw [List.getElem?_map, k1]; rfl, or, rfl⟩ H2 q2 (f1.trans f2) hq2)
        obtain ⟨kn', jn', one, other, z1, z2, z3, z4, z5, _⟩ := ho
        have z1 : kn = kn' := Int.ofNat.inj z1
        have z2 : jn = jn' := Int.ofNat.inj z2
        subst z1
        subst z2
        rw [List.getElem?_map, j1] at z3
        rw [List.getElem?_map, k1] at z4
        cases z3
        cases z4
        exact nr z5
      · have e0 : (!(decide (0 ≤ j) && decide (j < (ss.length : Int)))) = true := by
          rw [Bool.not_eq_true', Bool.and_eq_false_iff]
          by_cases c : 0 ≤ j
          · right; rw [decide_eq_false_iff_not]; exact fun z => cj ⟨c, z⟩
          · left; rw [decide_eq_false_iff_not]; exact c
        rw [e0]
        refine ifT rfl (bad (fun out ho => ?_) H1 f1)
        obtain ⟨kn', jn', one, other, z1, z2, z3, _⟩ := ho
        have := (List.getElem?_eq_some_iff.mp z3).1
        rw [List.length_map] at this
        exact cj ⟨by omega, by omega⟩
    · have e0 : (!(decide (0 ≤ k) && decide (k < (ss.length : Int)))) = true := by
        rw [Bool.not_eq_true', Bool.and_eq_false_iff]
        by_cases c : 0 ≤ k
        · right; rw [decide_eq_false_iff_not]; exact fun z => ck ⟨c, z⟩
        · left; rw [decide_eq_false_iff_not]; exact c
      rw [e0]
      refine ifT rfl (ifT rfl (bad (fun out ho => ?_) H1 f1))
      obtain ⟨kn', jn', one, other, z1, z2, z3, z4, _⟩ := ho
      have := (List.getElem?_eq_some_iff.mp z4).1
      rw [List.length_map] at this
      exact ck ⟨by omega, by omega⟩
end
end KL0
set_option Elab.async false
set_option linter.all false
set_option maxRecDepth 100000
set_option maxHeartbeats 4000000
namespace KL0
open PySem PySem.Spec PyProof.Rows L2 KB KC KS KN1 LamX K7 FM GG
theorem IsDice.ex' {H H' : Hp} {d : Addr} (h : IsDice H d) (e : KS.Ex H H') : IsDice H' d := by
  obtain ⟨x, y, z, q⟩ := h
  exact ⟨x, y, z, e _ _ q⟩
def abcdL : List Str := ["a", "b", "c", "d"]
theorem abcd_at {i c : Nat} (h : ("abcd" : Str).cps[i]? = some c) : abcdL[i]? = some ⟨#[c]⟩ := by
  have e : ("abcd" : Str).cps = #[97, 98, 99, 100] := by decide +kernel
  rw [e] at h
  match i, h with
  | 0, h => cases h; decide +kernel
  | 1, h => cases h; decide +kernel
  | 2, h => cases h; decide +kernel
  | 3, h => cases h; decide +kernel
  | n + 4, h => simp at h
def lkOf (x : Str × Str) : Str × V := (x.1, if x.2 = "int" then .int 7 else .str "none")
structure DrS (sc : Sc) : Prop where
  g : goodC sc
  o : OkL sc.2
  l : sc.1.length ≤ 4
theorem kindAt_mem : ∀ {cols : Co}, (cols.map fun y : Str × Str => y.1).Nodup → ∀ x ∈ cols, kindAt cols x.1 = some x.2
  | [], _, _, h => nomatch h
  | c :: cols, nd, x, h => by
    rw [List.map_cons, List.nodup_cons] at nd
    unfold kindAt
    rw [List.find?_cons]
    rcases List.mem_cons.mp h with rfl | h
    · rw [decide_eq_true rfl]; rfl
    · have ne : c.1 ≠ x.1 := fun z => nd.1 (by rw [z]; exact List.mem_map_of_mem h)
      rw [decide_eq_false ne]
      exact kindAt_mem nd.2 x h
theorem drS_of {cols : Co} {lk : Lk} (hs : (cols.map fun y : Str × Str => y.1).Sublist abcdL) (hk : ∀ x ∈ cols, x.2 = "int" ∨ x.2 = "text") (hl : lk.Sublist (cols.map lkOf)) : DrS (cols, lk) := by
  have len4 : cols.length ≤ 4 := by
    have := hs.length_le
    rw [List.length_map] at this
    exact this
  have nd : (cols.map fun y : Str × Str => y.1).Nodup := hs.nodup (by decide +kernel)
  have gs : goodS cols := by
    refine ⟨by omega, nd, ?_⟩
    rw [List.any_eq_false]
    intro x hx
    have hn : x.1 ∈ abcdL := hs.subset (List.mem_map_of_mem hx)
    have hne : (x.1 == ("" : Str)) = false := by
      have all : ∀ y ∈ abcdL, (y == ("" : Str)) = false := by decide +kernel
      exact all _ hn
    unfold badCol
    rw [hne]
    rcases hk x hx with e | e <;> rw [e] <;> decide +kernel
  have mem : ∀ p ∈ lk, ∃ x ∈ cols, p = lkOf x := fun p hp => by
    obtain ⟨x, hx, e⟩ := List.mem_map.mp (hl.subset hp)
    exact ⟨x, hx, e.symm⟩
  have kdl : ∀ x ∈ cols, kd (lkOf x).2 = some x.2 := fun x hx => by
    rcases hk x hx with e | e
    · unfold lkOf; rw [if_pos e, e]; rfl
    · have ne : ¬ x.2 = "int" := by rw [e]; decide +kernel
      unfold lkOf; rw [if_neg ne, e]; show kd (.str "none") = some "text"; decide +kernel
  refine ⟨⟨gs, fun p hp => ?_⟩, ⟨?_, ?_, fun p hp => ?_⟩, len4⟩
  · obtain ⟨x, hx, rfl⟩ := mem p hp
    rw [kdl x hx]
    exact kindAt_mem nd x hx
  · have e : (cols.map lkOf).map (fun y : Str × V => y.1) = cols.map fun y : Str × Str => y.1 := by rw [List.map_map]; rfl
    exact (hl.map _).nodup (by rw [e]; exact nd)
  · have := hl.length_le
    rw [List.length_map] at this
    show lk.length ≤ 1000
    omega
  · obtain ⟨x, hx, rfl⟩ := mem p hp
    refine ⟨?_, by rw [kdl x hx]; simp⟩
    unfold lkOf
    split <;> exact trivial
theorem roll_fm {T : List (Addr × Str)} {d : Addr} {m : Int} {H : Hp} {Q : VK} {E : XK} (i : IsDice H d) (t : Tabs T H) (h0 : 0 < m) (h1 : m ≤ 100000000) (fin : ∀ r H', 0 ≤ r → r < m → Fm T (fun b => b = d) H H' → IsDice H' d → Q (.int r) H') : spRoll [.ref d, .int m] H Q E := by
  unfold spRoll
  refine ⟨d, m, rfl, i, h0, h1, fun r a b k hr1 hr2 => ?_⟩
  obtain ⟨x, y, z, hd⟩ := i
  exact fin r _ hr1 hr2 (Fm.wr t hd (by intro _ z; cases z) (by intro _ z; cases z) rfl) ⟨a, b, k, L2.upd_same⟩
@[irreducible] def spLSch (T : List (Addr × Str)) : Sp := fun vs H Q _ => ∃ (d : Addr), vs = [.ref d] ∧ IsDice H d ∧ Tabs T H ∧ ∀ H' q cl dl ts cols lk, Fm T (fun b => b = d) H H' → IsDice H' d → H' q = some (.tup [.ref cl, .ref dl]) → H' cl = some (.lst (ts.map V.ref)) → Cols H' ts cols → H' dl = some (.dK (kvL lk)) → DrS (cols, lk) → ¬ WasD H dl → Q (.ref q) H'
section
variable {P : Program} {w : World} {K : PySem.W.Frag} {mg : Str → Option Value} {base : Heap} {f fR : Addr} {fd fdR : FuncData} {T : List (Addr × Str)}
def nLs : List Str := ["dice", "cols", "name", "kind"]
theorem scLs : FnScope nLs ["dice"] (defScope sLSch) := ⟨rfl, rfl, rfl, by decide +kernel, rfl, by decide +kernel, by decide +kernel⟩
theorem ok_lsch (F : FnP K "_law_schema" "_law_schema" sLSch [] f fd) (TL : TxtL mg) (GR : FnOk P w K mg base CX0 1 fR fdR ["dice", "many"] spRoll) (gR : mg "_law_roll" = some (.ref fR)) (kR : PySem.W.keepIn K (.ref fR) = true) (bR : Binds K fdR ["dice", "many"] []) :
    FnOk P w K mg base CX0 2 f fd ["dice"] (spLSch T) := by
  refine F.ok scLs (fun vs H Q E h => ?_) (fun cdv A outer s H vs Q E hr h => ?_)
  · unfold spLSch at h
    obtain ⟨_, rfl, _⟩ := h; rfl
  · unfold spLSch at h
    obtain ⟨d, rfl, di, tab, fin⟩ := h
    have hu := hr.units
    have roll : ∀ (Y : Cx), True := fun _ => trivial
    refine ⟨_, PSs.nox <| pss_cons (ps_setLc (i := 1) (own := [("name", 2)]) (g := gName 2) (tt := tTest (tOp rEq (tCall spRoll [] E0 (tCons (tVar 0) (tCons (tC (.int 2)) tNil))) (tC (.int 0)))) rfl scLs.nd rfl rfl (sw_true rfl rfl rfl (by decide +kernel)) (pi_str pe_str) (blkOk_by (N := nLs) (sc := defScope sLSch) (by decide +kernel))
        (fun _ _ _ _ _ => pg_name (i := 2) scLs.nd rfl (Or.inl rfl)) (fun _ _ _ _ _ => pts_one (pt_cmpR op_eq (pe_call GR (hr.mono (by decide)) (by rfl) gR kR bR .nil pass0 (pa_cons (pv 0) (pa_cons pe_int pa_nil))) pe_int (nomark _)))
        (fun _ _ _ _ _ => pe_tup (pa_cons (pv 2) (pa_cons (pe_ix ix_listD (pe_lst (pa_cons pe_str (pa_cons pe_str pa_nil))) (pe_callTy call_int1 (by rfl) TL.int (by decide +kernel) (pa_cons (pe_cmpR op_eq (pe_call GR (hr.mono (by decide)) (by rfl) gR kR bR .nil pass0 (pa_cons (pv 0) (pa_cons pe_int pa_nil))) pe_int (nomark _)) pa_nil)) (fun _ _ => rfl)) pa_nil))))
      (pss_one (ps_ret (pe_tup (pa_cons (pv 1) (pa_cons (pe_callTy (call_dictP rfl) (by rfl) TL.dict (by decide +kernel) (pa_cons (pe_lc (own := [("name", 2), ("kind", 3)]) (g := gTup K 2 (gCons (gName 2) (gCons (gName 3) gNil))) rfl scLs.nd (pi_list (pv 1)) (blkOk_by (N := nLs) (sc := defScope sLSch) (by decide +kernel))
        (fun _ _ _ _ _ => pg_tup rfl (pgs_cons (pg_name (i := 2) scLs.nd rfl (Or.inl rfl)) (pgs_cons (pg_name (i := 3) scLs.nd rfl (Or.inl rfl)) pgs_nil)))
        (fun _ _ _ _ _ => pts_one (pt_cmpR op_gt (pe_call GR (hr.mono (by decide)) (by rfl) gR kR bR .nil pass0 (pa_cons (pv 0) (pa_cons pe_int pa_nil))) pe_int (nomark _)))
        (fun _ _ _ _ _ => pe_tup (pa_cons (pv 2) (pa_cons (pe_ifExp (pt_cmpR op_eq (pv 3) pe_str (nomark _)) pe_int pe_str) pa_nil)))) pa_nil)) pa_nil))))), ?_⟩
    have hz : sizeLine = 16777216 := rfl
    refine ⟨_, rfl, fun D hD => ?_⟩
    obtain ⟨x0, y0, z0, hd0⟩ := id di
    have nDd : D ≠ d := fun z => by rw [z, hd0] at hD; cases hD
    refine lc_it walk_str (fun i H2 => Fm T (fun b => b = d ∨ b = D) H H2 ∧ IsDice H2 d ∧ ∃ ts cols, H2 D = some (.lst (ts.map V.ref)) ∧ Cols H2 ts cols ∧ (cols.map fun y : Str × Str => y.1).Sublist (abcdL.take i) ∧ ∀ x ∈ cols, x.2 = "int" ∨ x.2 = "text")
      ⟨Fm.new tab hD, di.upd_ne hD, [], [], L2.upd_same, .nil, List.nil_sublist _, fun _ h => nomatch h⟩ (fun _ _ _ _ => trivial) (fun i x H3 H4 hi p y => ?_) (fun H3 p => ?_)
    · obtain ⟨rfl, c, hc, rfl⟩ := y
      obtain ⟨f3, d3, ts, cols, hD3, c3, s3, k3⟩ := p
      have ha := abcd_at hc
      have te : abcdL.take (i + 1) = abcdL.take i ++ [⟨#[c]⟩] := take_snoc ha
      refine ⟨rfl, _, rfl, ?_⟩
      refine roll_fm d3 f3.1 (by decide) (by decide) fun r H5 _ _ f5 d5 => ⟨rfl, _, rfl, ?_⟩
      have f5' : Fm T (fun b => b = d ∨ b = D) H H5 := f3.trans (f5.mono fun _ z => .inl z)
      have hD5 := f5.at' hD3 nDd
      have c5 : Cols H5 ts cols := c3.fm f5 (D := N0) (fun b hb => by
        have hb : b = d := hb
        subst hb
        obtain ⟨x1, y1, z1, hd1⟩ := d3
        exact .inr (.inr ⟨_, hd1⟩))
      show if decide (V.int r = V.int 0) = true then _ else _
      by_cases r0 : decide (V.int r = V.int 0) = true
      · refine ifT r0 ?_
        refine ⟨_, rfl, (by decide), fun l hl => ⟨_, rfl, ?_⟩⟩
        have i5 : IsDice (upd H5 l (.lst [.str "int", .str "text"])) d := d5.upd_ne hl
        refine roll_fm i5 (f5.1.ext (Ex.upd hl)) (by decide) (by decide) fun r2 H7 _ _ f7 d7 => ⟨rfl, .inr ⟨_, rfl, ?_⟩⟩
        have nld : l ≠ d := fun z => by
          obtain ⟨x1, y1, z1, hd1⟩ := d5
          rw [z, hd1] at hl; cases hl
        have l7 : H7 l = some (.lst [.str "int", .str "text"]) := f7.at' L2.upd_same nld
        have f7' : Fm T (fun b => b = d ∨ b = D) H H7 := (f5'.trans (Fm.new f5.1 hl)).trans (f7.mono fun _ z => .inl z)
        have hD7 : H7 D = some (.lst (ts.map V.ref)) := f7.at' (Ex.upd hl _ _ hD5) nDd
        have c7 : Cols H7 ts cols := (c5.ex (Ex.upd hl)).fm f7 (D := N0) (fun b hb => by
          have hb : b = d := hb
          subst hb
          obtain ⟨x1, y1, z1, hd1⟩ := i5
          exact .inr (.inr ⟨_, hd1⟩))
        obtain ⟨kd0, hkd, hkk⟩ : ∃ kk : Str, atI [V.str "int", V.str "text"] (if decide (V.int r2 = V.int 0) = true then (1 : Int) else 0) = some (.str kk) ∧ (kk = "int" ∨ kk = "text") := by
          by_cases c : decide (V.int r2 = V.int 0) = true
          · rw [if_pos c]; exact ⟨"text", rfl, .inr rfl⟩
          · rw [if_neg c]; exact ⟨"int", rfl, .inl rfl⟩
        refine ⟨l, _, _, .str kd0, rfl, rfl, l7, hkd, (by show 2 ≤ sizeLine; decide), fun q hq => ?_⟩
        have nqD : D ≠ q := fun z => by rw [← z, hD7] at hq; cases hq
        have lts := paired_len c7
        have lcs : cols.length ≤ 4 := by
          have := s3.length_le
          rw [List.length_map, List.length_take] at this
          have e4 : abcdL.length = 4 := rfl
          omega
        refine ⟨_, by rw [L2.upd_ne nqD]; exact hD7, by rw [List.length_map]; omega, ?_, ?_, ts ++ [q], cols ++ [(⟨#[c]⟩, kd0)], ?_, ?_, ?_, ?_⟩
        · exact (f7'.trans (Fm.new f7.1 hq)).trans (Fm.wr (f7.1.ext (Ex.upd hq)) (by rw [L2.upd_ne nqD]; exact hD7) (by intro _ z; cases z) (by intro _ z; cases z) (.inr rfl))
        · obtain ⟨x1, y1, z1, hd1⟩ := d7
          exact ⟨x1, y1, z1, by rw [L2.upd_ne nDd.symm, L2.upd_ne (ne_of_none hd1 hq)]; exact hd1⟩
        · rw [L2.upd_same, List.map_append]; rfl
        · refine paired_app (paired_mono (fun t x q0 => ?_) c7) (.cons ?_ .nil)
          · rw [L2.upd_ne (fun z => by rw [z, hD7] at q0; cases q0), L2.upd_ne (ne_of_none q0 hq)]; exact q0
          · rw [L2.upd_ne nqD.symm]; exact L2.upd_same
        · rw [List.map_append, te]
          exact s3.append (List.Sublist.refl _)
        · intro x hx
          rcases List.mem_append.mp hx with hx | hx
          · exact k3 x hx
          · rw [List.mem_singleton.mp hx]; exact hkk
      · refine ifF r0 ⟨f5', d5, ts, cols, hD5, c5, ?_, k3⟩
        rw [te]
        exact s3.trans (List.sublist_append_left _ _)
    · obtain ⟨f3, d3, ts, cols, hD3, c3, s3, k3⟩ := p
      have s3 : (cols.map fun y : Str × Str => y.1).Sublist abcdL := s3.trans (List.take_sublist _ _)
      have nDd3 : ∀ {H' : Hp} {b : Addr} {o : HO}, IsDice H' d → H' b = some o → (∀ x y z, o ≠ .lst [.int x, .int y, .int z]) → b ≠ d := fun {H' b o} i h n z => by
        obtain ⟨x, y, k, q⟩ := i
        rw [z, q] at h
        exact n _ _ _ (Option.some.inj h).symm
      refine ⟨_, rfl, _, rfl, D, rfl, ⟨_, SqL.of hD3⟩, fun D2 hD2 => ?_⟩
      have n2D : D2 ≠ D := fun z => by rw [z, hD3] at hD2; cases hD2
      have n2d : D2 ≠ d := fun z => by
        obtain ⟨x1, y1, z1, hd1⟩ := d3
        rw [z, hd1] at hD2; cases hD2
      have lts := paired_len c3
      have lcs : cols.length ≤ 4 := by
        have := s3.length_le
        rw [List.length_map] at this
        exact this
      refine lc_it (walk_list (K := K) (a := D) (xs := ts.map V.ref)) (fun i H5 => Fm T (fun b => b = d ∨ b = D2) H3 H5 ∧ IsDice H5 d ∧ ∃ tsl lk, H5 D2 = some (.lst (tsl.map V.ref)) ∧ Paired (fun p kv => H5 p = some (.tup [kV kv.1, kv.2])) tsl (kvL lk) ∧ lk.Sublist ((cols.take i).map lkOf))
        ⟨Fm.new f3.1 hD2, d3.upd_ne hD2, [], [], L2.upd_same, .nil, List.nil_sublist _⟩ (fun i H5 _ p => SqL.of (p.1.at' hD3 (fun z => z.elim (fun z => nDd z) fun z => n2D z.symm))) (fun i x H6 H5 hi p y => ?_) (fun H5 p => ?_)
      · obtain ⟨rfl, hy⟩ := y
        obtain ⟨f5, d5, tsl, lk, h5, p5, s5⟩ := p
        have cc5 : Cols H5 ts cols := c3.fm f5 (D := N0) (fun b hb => by
          rcases hb with hb | hb
          · subst hb
            obtain ⟨x1, y1, z1, hd1⟩ := d3
            exact .inr (.inr ⟨_, hd1⟩)
          · subst hb
            exact .inr (.inl hD2))
        rw [List.getElem?_map] at hy
        obtain ⟨b, hb, rfl⟩ := Option.map_eq_some_iff.mp hy
        obtain ⟨y, hy2, ht⟩ := paired_get cc5 hb
        have te : cols.take (i + 1) = cols.take i ++ [y] := take_snoc hy2
        refine ⟨b, _, rfl, SqT.of ht, rfl, _, _, rfl, _, _, rfl, rfl, rfl, _, rfl, ?_⟩
        refine roll_fm d5 f5.1 (by decide) (by decide) fun r H7 _ _ f7 d7 => ⟨_, _, rfl, rfl, _, rfl, ?_⟩
        have f7' : Fm T (fun b => b = d ∨ b = D2) H3 H7 := f5.trans (f7.mono fun _ z => .inl z)
        have h7 := f7.at' h5 n2d
        have p7 : Paired (fun p kv => H7 p = some (.tup [kV kv.1, kv.2])) tsl (kvL lk) := paired_mono (fun t x q => f7.at' q (fun z => by
          obtain ⟨x1, y1, z1, hd1⟩ := d5
          rw [z, hd1] at q; cases q)) p5
        by_cases r0 : decide (0 < r) = true
        · refine ifT r0 ?_
          refine ⟨_, rfl, _, rfl, rfl, _, rfl, ?_⟩
          have go : ∀ v, (lkOf y).2 = v → (∀ p, H7 p = none → ∃ acc, (upd H7 p (.tup [.str y.1, v])) D2 = some (.lst acc) ∧ acc.length < sizeLine ∧ Fm T (fun b => b = d ∨ b = D2) H3 (upd (upd H7 p (.tup [.str y.1, v])) D2 (.lst (acc ++ [.ref p]))) ∧ IsDice (upd (upd H7 p (.tup [.str y.1, v])) D2 (.lst (acc ++ [.ref p]))) d ∧ ∃ tsl lk, (upd (upd H7 p (.tup [.str y.1, v])) D2 (.lst (acc ++ [.ref p]))) D2 = some (.lst (tsl.map V.ref)) ∧ Paired (fun p0 kv => (upd (upd H7 p (.tup [.str y.1, v])) D2 (.lst (acc ++ [.ref p]))) p0 = some (.tup [kV kv.1, kv.2])) tsl (kvL lk) ∧ lk.Sublist ((cols.take (i + 1)).map lkOf)) := fun v hv q hq => by
            have nqD : D2 ≠ q := fun z => by rw [← z, h7] at hq; cases hq
            have lsl := paired_len p7
            have lk4 : lk.length ≤ 4 := by
              have := s5.length_le
              rw [List.length_map, List.length_take] at this
              omega
            have lkk : (kvL lk).length = lk.length := by unfold kvL; rw [List.length_map]
            refine ⟨_, by rw [L2.upd_ne nqD]; exact h7, by rw [List.length_map]; omega, (f7'.trans (Fm.new f7.1 hq)).trans (Fm.wr (f7.1.ext (Ex.upd hq)) (by rw [L2.upd_ne nqD]; exact h7) (by intro _ z; cases z) (by intro _ z; cases z) (.inr rfl)), ?_, tsl ++ [q], lk ++ [(y.1, v)], ?_, ?_, ?_⟩
            · obtain ⟨x1, y1, z1, hd1⟩ := d7
              exact ⟨x1, y1, z1, by rw [L2.upd_ne n2d.symm, L2.upd_ne (ne_of_none hd1 hq)]; exact hd1⟩
            · rw [L2.upd_same, List.map_append]; rfl
            · have e : kvL (lk ++ [(y.1, v)]) = kvL lk ++ [((Sum.inr y.1 : Key), v)] := by unfold kvL; rw [List.map_append]; rfl
              rw [e]
              refine paired_app (paired_mono (fun t x q0 => ?_) p7) (.cons ?_ .nil)
              · rw [L2.upd_ne (fun z => by rw [z, h7] at q0; cases q0), L2.upd_ne (ne_of_none q0 hq)]; exact q0
              · rw [L2.upd_ne nqD.symm]; exact L2.upd_same
            · rw [te, List.map_append]
              have e2 : [lkOf y] = [(y.1, v)] := by rw [← hv]; rfl
              show (lk ++ [(y.1, v)]).Sublist (List.map lkOf (cols.take i) ++ [lkOf y])
              rw [e2]
              exact s5.append (List.Sublist.refl _)
          show if decide (V.str y.2 = V.str "int") = true then _ else _
          rw [eqS]
          by_cases ci : y.2 = "int"
          · exact ifT (decide_eq_true ci) ⟨(by show 2 ≤ sizeLine; decide), go (.int 7) (by unfold lkOf; rw [if_pos ci])⟩
          · exact ifF (by simpa using ci) ⟨(by show 2 ≤ sizeLine; decide), go (.str "none") (by unfold lkOf; rw [if_neg ci])⟩
        · refine ifF r0 ⟨f7', d7, tsl, lk, h7, p7, ?_⟩
          rw [te, List.map_append]
          exact s5.trans (List.sublist_append_left _ _)
      · obtain ⟨f5, d5, tsl, lk, h5, p5, s5⟩ := p
        rw [List.length_map, lts, List.take_length] at s5
        have ds : DrS (cols, lk) := drS_of s3 k3 s5
        refine ⟨D2, tsl, kvL lk, rfl, SqL.of h5, paired_mono (fun _ _ q => SqT.of q) p5, fun dl hdl => ⟨(by show 2 ≤ sizeLine; decide), fun q hq => ?_⟩⟩
        have em : mergeK [] (kvL lk) = kvL lk := by
          rw [merge_selfK, List.nil_append]
          rw [List.nil_append]
          unfold kvL
          rw [List.map_map]
          have e : (Prod.fst ∘ fun x : Str × V => ((Sum.inr x.1 : Key), x.2)) = (fun n : Str => (Sum.inr n : Key)) ∘ fun y : Str × V => y.1 := rfl
          rw [e, ← List.map_map, nodup_inr']
          exact ds.o.nd
        rw [em] at hq ⊢
        have e7 : KS.Ex H5 (upd (upd H5 dl (.dK (kvL lk))) q (.tup [.ref D, .ref dl])) := (Ex.upd hdl).trans (Ex.upd hq)
        have hD5 : H5 D = some (.lst (ts.map V.ref)) := f5.at' hD3 (fun z => z.elim (fun z => nDd z) fun z => n2D z.symm)
        have cc5 : Cols H5 ts cols := c3.fm f5 (D := N0) (fun b hb => by
          rcases hb with hb | hb
          · subst hb
            obtain ⟨x1, y1, z1, hd1⟩ := d3
            exact .inr (.inr ⟨_, hd1⟩)
          · subst hb
            exact .inr (.inl hD2))
        have t2 := f3.newT hD2 (fun z => z.elim (fun z => n2d z) fun z => n2D z)
        have fHH : Fm T (fun b => b = d) H (upd (upd H5 dl (.dK (kvL lk))) q (.tup [.ref D, .ref dl])) := by
          have f35 : Fm T (fun b => b = d ∨ b = D ∨ b = D2) H H5 := (f3.mono fun _ z => z.elim .inl fun z => .inr (.inl z)).trans (f5.mono fun _ z => z.elim .inl fun z => .inr (.inr z))
          refine (f35.trans (Fm.ex f5.1 e7)).shrinkT fun b hb => ?_
          rcases hb with hb | hb | hb
          · exact .inl hb
          · rw [hb]; exact .inr fun o e => by rw [hD] at e; cases e
          · rw [hb]; exact .inr t2
        refine fin _ q D dl ts cols lk fHH (IsDice.ex' d5 e7) L2.upd_same (e7 _ _ hD5) (cc5.ex e7) ((Ex.upd hq) _ _ L2.upd_same) ds fun ⟨kvs, hk⟩ => ?_
        have hk3 : H5 dl = some (.dK kvs) := by
          have f35 : Fm T (fun b => b = d ∨ b = D ∨ b = D2) H H5 := (f3.mono fun _ z => z.elim .inl fun z => .inr (.inl z)).trans (f5.mono fun _ z => z.elim .inl fun z => .inr (.inr z))
          refine f35.at' hk fun z => ?_
          rcases z with z | z | z
          · rw [z, hd0] at hk; cases hk
          · rw [z, hD] at hk; cases hk
          · rw [z] at hk
            obtain ⟨ps, e⟩ := t2 _ hk
            cases e
        rw [hk3] at hdl; cases hdl
end
end KL0
set_option Elab.async false
set_option linter.all false
set_option maxRecDepth 100000
set_option maxHeartbeats 4000000
namespace KL0
open PySem PySem.Spec PyProof.Rows L2 KB KC KS KN1 LamX K7 FM GG
def LT (H : Hp) (a : Addr) (sc : Sc) : Prop := ∃ cl dl ts, H a = some (.tup [.ref cl, .ref dl]) ∧ H cl = some (.lst (ts.map V.ref)) ∧ Cols H ts sc.1 ∧ H dl = some (.dK (kvL sc.2))
theorem LT.ex {H H' : Hp} {a : Addr} {sc : Sc} (h : LT H a sc) (e : KS.Ex H H') : LT H' a sc := by
  obtain ⟨cl, dl, ts, h1, h2, h3, h4⟩ := h
  exact ⟨cl, dl, ts, e _ _ h1, e _ _ h2, h3.ex e, e _ _ h4⟩
def rDP (K : PySem.W.Frag) : List V → Hp → VK → Prop := fun xs H Q => ∃ (a : Addr) (ps : List Addr) (kvs : List (Key × V)), xs = [.ref a] ∧ SqL K H a (ps.map V.ref) ∧ Paired (fun p kv => SqT K H p [kV kv.1, kv.2]) ps kvs ∧ ∀ p, H p = none → Q (.ref p) (upd H p (.dK (mergeK [] kvs)))
theorem cr_dictP {X : Cx} (hc : X.calm = true) : CallR X (.type "dict") (rDP X.K) := call_dictP hc
@[irreducible] def spLReads : Sp := fun vs H Q _ => ∃ (a b : Addr) (one other : Sc), vs = [.ref a, .ref b] ∧ LT H a one ∧ LT H b other ∧ (other.1.map fun y : Str × Str => y.1).Nodup ∧ one.1.length ≤ 20 ∧ ∀ H', KS.Ex H H' → Q (.bl (readsP one other)) H'
theorem lreads_step {a b : Addr} {one other : Sc} {H : Hp} {Q : VK} {E : XK} (x : LT H a one) (y : LT H b other) (nd : (other.1.map fun y : Str × Str => y.1).Nodup) (l : one.1.length ≤ 20) (fin : ∀ H', KS.Ex H H' → Q (.bl (readsP one other)) H') : spLReads [.ref a, .ref b] H Q E := by
  unfold spLReads
  exact ⟨a, b, one, other, rfl, x, y, nd, l, fin⟩
section
variable {P : Program} {w : World} {K : PySem.W.Frag} {mg : Str → Option Value} {base : Heap} {f fR : Addr} {fd fdR : FuncData} {T : List (Addr × Str)}
def nLr : List Str := ["one", "other", "name", "kind"]
theorem scLr : FnScope nLr ["one", "other"] (defScope sLReads) := ⟨rfl, rfl, rfl, by decide +kernel, rfl, by decide +kernel, by decide +kernel⟩
def tD0 (K : PySem.W.Frag) : TE := tCB (rDP K) (tCons (tOp (rIxT K) (tVar 1) (tC (.int 0))) tNil)
theorem d0_step {σ : L2.St} {H : Hp} {Q : VK} {b : Addr} {other : Sc} (h1 : σ[1]? = some (some (.ref b))) (x : LT H b other) (nd : (other.1.map fun y : Str × Str => y.1).Nodup) (fin : ∀ p, H p = none → Q (.ref p) (upd H p (.dK (kvC other.1)))) : tD0 K σ H Q := by
  obtain ⟨cl, dl, ts, q1, q2, q3, q4⟩ := x
  refine ⟨_, h1, b, _, _, _, rfl, rfl, SqT.of q1, rfl, cl, ts, kvC other.1, rfl, SqL.of q2, paired_mono (fun _ _ q => SqT.of q) (cols_pairs q3), fun p hp => ?_⟩
  rw [kvC_self nd]
  exact fin p hp
theorem ok_lreads (F : FnP K "_law_reads" "_law_reads" sLReads [] f fd) (TL : TxtL mg) : FnOk P w K mg base CX0 1 f fd ["one", "other"] spLReads := by
  refine F.ok scLr (fun vs H Q E h => ?_) (fun cdv A outer s H vs Q E hr h => ?_)
  · unfold spLReads at h
    obtain ⟨_, _, _, _, rfl, _⟩ := h; rfl
  · unfold spLReads at h
    obtain ⟨a, b, one, other, rfl, x, y, nd, hl, fin⟩ := h
    have hu := hr.units
    have hu1 := Nat.lt_trans (Nat.add_lt_add_left (by decide : 1 < 64) _) hu
    have pd : ∀ (Y : Cx), True := fun _ => trivial
    refine ⟨_, PSs.nox <| pss_one (ps_ret (pe_cmpR (op_eqNil hu1) (pe_lc (own := [("name", 2), ("kind", 3)]) (g := gTup K 2 (gCons (gName 2) (gCons (gName 3) gNil))) (te := tVar 2)
        (tt := tIfT (tB (tDIn (tVar 2) (tD0 K))) (tTest (tOp rNe (tDGet (tD0 K) (tVar 2)) (tVar 3))) (tB (tDNotIn (tVar 2) (tOp (rIxT K) (tVar 0) (tC (.int 1)))))) rfl scLr.nd (pi_list (pe_ix ix_tup (pv 0) pe_int (fun _ _ => rfl))) (blkOk_by (N := nLr) (sc := defScope sLReads) (by decide +kernel))
        (fun _ _ _ _ _ => pg_tup rfl (pgs_cons (pg_name (i := 2) scLr.nd rfl (Or.inl rfl)) (pgs_cons (pg_name (i := 3) scLr.nd rfl (Or.inl rfl)) pgs_nil)))
        (fun _ _ _ _ _ => pts_one (PW.pt (pw_ifExp (pt_cmp (pc_din hu1 (pv 2) (pe_callTy (cr_dictP rfl) (by rfl) TL.dict (by decide +kernel) (pa_cons (pe_ix ix_tup (pv 1) pe_int (fun _ _ => rfl)) pa_nil)))) (pt_cmpR op_ne (pe_dget hu1 (pe_callTy (cr_dictP rfl) (by rfl) TL.dict (by decide +kernel) (pa_cons (pe_ix ix_tup (pv 1) pe_int (fun _ _ => rfl)) pa_nil)) (pv 2) (fun _ _ => rfl)) (pv 3) (nomark _)) (pt_cmp (pc_dnotin hu1 (pv 2) (pe_ix ix_tup (pv 0) pe_int (fun _ _ => rfl)))))))
        (fun _ _ _ _ _ => pv 2)) (pe_lst pa_nil) (nomark _))), ?_⟩
    have hz : sizeLine = 16777216 := rfl
    obtain ⟨cl, dl, ts, h1, h2, h3, h4⟩ := id x
    refine ⟨_, rfl, a, _, _, _, rfl, rfl, SqT.of h1, rfl, cl, rfl, ⟨_, SqL.of h2⟩, fun D hD => ?_⟩
    refine lc_it (walk_list (K := K) (a := cl) (xs := ts.map V.ref)) (fun i H2 => KS.Ex H H2 ∧ H2 D = some (.lst (((one.1.take i).filter fun x => !fitP one.2 other.1 x).map fun x => V.str x.1)))
      ⟨Ex.upd hD, L2.upd_same⟩ (fun i H5 _ p => SqL.of (p.1 _ _ h2)) (fun i x' H6 H5 hi p yy => ?_) (fun H5 p => ?_)
    · obtain ⟨rfl, hy⟩ := yy
      obtain ⟨e5, h5⟩ := p
      rw [List.getElem?_map] at hy
      obtain ⟨b', hb, rfl⟩ := Option.map_eq_some_iff.mp hy
      obtain ⟨z, hz2, ht⟩ := paired_get h3 hb
      have ta : one.1.take (i + 1) = one.1.take i ++ [z] := take_snoc hz2
      refine ⟨b', _, rfl, SqT.of (e5 _ _ ht), rfl, _, _, rfl, _, _, rfl, rfl, rfl, ?_⟩
      refine ⟨_, rfl, d0_step rfl (y.ex e5) nd fun p hp => ⟨p, _, rfl, DGet.k (k := Sum.inr z.1) L2.upd_same, _, rfl, ?_⟩⟩
      rw [val_kvC]
      have e6 : KS.Ex H (upd H5 p (.dK (kvC other.1))) := e5.trans (Ex.upd hp)
      have h6 := (Ex.upd (o := .dK (kvC other.1)) hp) _ _ h5
      have k6 : (upd H5 p (.dK (kvC other.1))) p = some (.dK (kvC other.1)) := L2.upd_same
      generalize upd H5 p (.dK (kvC other.1)) = H6 at e6 h6 k6
      have fin2 : ∀ (bb : Bool), (!fitP one.2 other.1 z) = bb → ∀ {H7 : Hp}, KS.Ex H H7 → H7 D = some (.lst (((one.1.take i).filter fun x => !fitP one.2 other.1 x).map fun x => V.str x.1)) → if bb = true then (∃ v, some (some (V.str z.1)) = some (some v) ∧ ∃ acc, H7 D = some (.lst acc) ∧ acc.length < sizeLine ∧ (KS.Ex H (upd H7 D (.lst (acc ++ [v]))) ∧ (upd H7 D (.lst (acc ++ [v]))) D = some (.lst (((one.1.take (i + 1)).filter fun x => !fitP one.2 other.1 x).map fun x => V.str x.1)))) else (KS.Ex H H7 ∧ H7 D = some (.lst (((one.1.take (i + 1)).filter fun x => !fitP one.2 other.1 x).map fun x => V.str x.1))) := fun bb hbb H7 e7 h7 => by
        cases bb with
        | true =>
          refine ifT rfl ⟨_, rfl, _, h7, ?_, Ex.on e7 hD, ?_⟩
          · rw [List.length_map]
            have l1 := List.length_filter_le (fun x => !fitP one.2 other.1 x) (one.1.take i)
            rw [List.length_take] at l1
            omega
          · rw [L2.upd_same, ta, List.filter_append, List.filter_cons_of_pos (p := fun x => !fitP one.2 other.1 x) hbb, List.filter_nil, List.map_append]; rfl
        | false =>
          refine ifF (by simp) ⟨e7, ?_⟩
          rw [h7, ta, List.filter_append, List.filter_cons_of_neg (p := fun x => !fitP one.2 other.1 x) (by rw [hbb]; simp), List.filter_nil, List.append_nil]
      cases ek : kindAt other.1 z.1 with
      | some k =>
        refine ifT rfl ?_
        refine d0_step rfl (y.ex e6) nd fun p2 hp2 => ⟨_, rfl, p2, .str k, rfl, ?_, _, rfl, rfl, _, rfl, ?_⟩
        · have q := DGet.k (k := Sum.inr z.1) (H := upd H6 p2 (.dK (kvC other.1))) (a := p2) L2.upd_same
          rw [val_kvC, ek] at q
          exact q
        · have ef : fitP one.2 other.1 z = decide (V.str k = V.str z.2) := by unfold fitP; rw [ek]
          rw [← ef]
          exact fin2 _ rfl (e6.trans (Ex.upd hp2)) ((Ex.upd hp2) _ _ h6)
      | none =>
        refine ifF (by simp) ?_
        refine ⟨_, rfl, _, rfl, a, _, _, _, rfl, rfl, SqT.of (e6 _ _ h1), rfl, dl, _, rfl, DGet.k (k := Sum.inr z.1) (e6 _ _ h4), _, rfl, ?_⟩
        rw [val_kvL]
        have ef : fitP one.2 other.1 z = (lkAt one.2 z.1).isSome := by unfold fitP; rw [ek]
        rw [← ef]
        exact fin2 _ rfl e6 h6
    · obtain ⟨e5, h5⟩ := p
      refine ⟨(by decide), fun p2 hp2 => ⟨D, p2, _, rfl, rfl, (Ex.upd hp2) _ _ h5, L2.upd_same, ?_⟩⟩
      rw [List.length_map, paired_len h3, List.take_length]
      have er : (List.map (fun x : Str × Str => V.str x.1) (one.1.filter fun x => !fitP one.2 other.1 x)).isEmpty = readsP one other := by
        unfold readsP
        rw [Bool.eq_iff_iff, List.isEmpty_iff, List.map_eq_nil_iff, List.filter_eq_nil_iff, List.all_eq_true]
        constructor
        · intro h y hy
          have := h y hy
          simpa using this
        · intro h y hy
          rw [h y hy]; simp
      rw [er]
      exact fin _ (e5.trans (Ex.upd hp2))
end
end KL0
set_option Elab.async false
set_option linter.all false
set_option maxRecDepth 100000
set_option maxHeartbeats 4000000
namespace KL0
open PySem PySem.Spec PyProof.Rows L2 KB KC KS KN1 LamX K7 FM GG
def LTs (H : Hp) : List Addr → List Sc → Prop := Paired fun a sc => LT H a sc
theorem LTs.ex {H H' : Hp} {as : List Addr} {scs : List Sc} (h : LTs H as scs) (e : KS.Ex H H') : LTs H' as scs := paired_mono (fun _ _ q => q.ex e) h
@[irreducible] def spLFits : Sp := fun vs H Q _ => ∃ (rl : Str) (l fr : Addr) (as : List Addr) (scs : List Sc) (fresh : Sc), vs = [.str rl, .ref l, .ref fr] ∧ H l = some (.lst (as.map V.ref)) ∧ LTs H as scs ∧ LT H fr fresh ∧ (∀ s ∈ scs, goodS s.1) ∧ goodS fresh.1 ∧ scs.length ≤ 1000 ∧ ∀ H', KS.Ex H H' → Q (.bl (fitsP rl scs fresh)) H'
theorem lfits_step {rl : Str} {l fr : Addr} {as : List Addr} {scs : List Sc} {fresh : Sc} {H : Hp} {Q : VK} {E : XK} (hl : H l = some (.lst (as.map V.ref))) (xs : LTs H as scs) (y : LT H fr fresh) (gs : ∀ s ∈ scs, goodS s.1) (gf : goodS fresh.1) (len : scs.length ≤ 1000) (fin : ∀ H', KS.Ex H H' → Q (.bl (fitsP rl scs fresh)) H') : spLFits [.str rl, .ref l, .ref fr] H Q E := by
  unfold spLFits
  exact ⟨rl, l, fr, as, scs, fresh, rfl, hl, xs, y, gs, gf, len, fin⟩
section
variable {P : Program} {w : World} {K : PySem.W.Frag} {mg : Str → Option Value} {base : Heap} {f fR : Addr} {fd fdR : FuncData}
def nLf : List Str := ["rule", "rows", "fresh", "last", "one"]
theorem scLf : FnScope nLf ["rule", "rows", "fresh"] (defScope sLFits) := ⟨rfl, rfl, rfl, by decide +kernel, rfl, by decide +kernel, by decide +kernel⟩
theorem orL {i j : Nat} {wd rl : Str} {σ : L2.St} {H2 : Hp} {Q : VK} {a b : Addr} {sa sb : Sc} (h0 : σ[0]? = some (some (.str rl))) (hi : σ[i]? = some (some (.ref a))) (hj : σ[j]? = some (some (.ref b))) (xa : LT H2 a sa) (xb : LT H2 b sb) (gb : goodS sb.1) (ga : goodS sa.1)
    (fin : ∀ H', KS.Ex H2 H' → Q (.bl (decide (rl = wd) || readsP sa sb)) H') : tOrV (tOp rEq (tVar 0) (tC (V.str wd))) (tCall spLReads [] E0 (tCons (tVar i) (tCons (tVar j) tNil))) σ H2 Q := by
  refine ⟨_, h0, rfl, _, rfl, ?_⟩
  rw [eqS]
  by_cases e : rl = wd
  · refine ifT (decide_eq_true e) ?_
    have z := fin H2 (Ex.refl _)
    rw [decide_eq_true e] at z
    exact z
  · refine ifF (by simpa using e) ⟨_, hi, _, hj, ?_⟩
    refine lreads_step xa xb gb.2.1 ga.1 fun H' e' => ?_
    have z := fin H' e'
    rw [decide_eq_false e] at z
    exact z
theorem ok_lfits (F : FnP K "_law_fits" "_law_fits" sLFits [] f fd) (TL : TxtL mg) (GR : FnOk P w K mg base CX0 1 fR fdR ["one", "other"] spLReads) (gR : mg "_law_reads" = some (.ref fR)) (kR : PySem.W.keepIn K (.ref fR) = true) (bR : Binds K fdR ["one", "other"] []) : FnOk P w K mg base CX0 2 f fd ["rule", "rows", "fresh"] spLFits := by
  refine F.ok scLf (fun vs H Q E h => ?_) (fun cdv A outer s H vs Q E hr h => ?_)
  · unfold spLFits at h
    obtain ⟨_, _, _, _, _, _, rfl, _⟩ := h; rfl
  · unfold spLFits at h
    obtain ⟨rl, l, fr, as, scs, fresh, rfl, hl, xs, y, gs, gf, len, fin⟩ := h
    have hu := hr.units
    have hu1 := Nat.lt_trans (Nat.add_lt_add_left (by decide : 1 < 64) _) hu
    refine ⟨_, PSs.nox <| pss_cons (ps_if (PW.pt (pw_or (pt_cmpR (op_eqNil hu1) (pv 1) (pe_lst pa_nil) (nomark _)) (pw_or1 (pt_cmpR op_eq (pv 0) pe_str (nomark _))))) (pss_one (ps_ret pe_bl)) pss_nil)
      (pss_cons (ps_set (i := 3) scLf.nd rfl (Or.inl rfl) (pe_ix ix_list (pv 1) (pe_op op_sub (pe_callB call_len_seq (by rfl) TL.len PySem.boot_len (pa_cons (pv 1) pa_nil)) pe_int) (fun _ _ => rfl)))
      (pss_cons (ps_if (pt_cmpR op_eq (pv 0) pe_str (nomark _)) (pss_one (ps_ret (pe_cmpR (op_eqNil hu1) (pe_lc (own := [("one", 4)]) (g := gName 4) (te := tVar 4) rfl scLf.nd (pi_list (pv 1)) (blkOk_by (N := nLf) (sc := defScope sLFits) (by decide +kernel))
          (fun _ _ _ _ _ => pg_name (i := 4) scLf.nd rfl (Or.inl rfl)) (fun _ _ _ _ _ => pts_one (pt_not (pt_val (pe_call GR (hr.mono (by decide)) (by rfl) gR kR bR .nil pass0 (pa_cons (pv 2) (pa_cons (pv 4) pa_nil)))))) (fun _ _ _ _ _ => pv 4)) (pe_lst pa_nil) (nomark _)))) pss_nil)
      (pss_one (ps_ret (pe_and (pe_or (pe_cmpR op_eq (pv 0) pe_str (nomark _)) (pe_one (pe_call GR (hr.mono (by decide)) (by rfl) gR kR bR .nil pass0 (pa_cons (pv 2) (pa_cons (pv 3) pa_nil)))))
        (pe_one (pe_or (pe_cmpR op_eq (pv 0) pe_str (nomark _)) (pe_one (pe_call GR (hr.mono (by decide)) (by rfl) gR kR bR .nil pass0 (pa_cons (pv 3) (pa_cons (pv 2) pa_nil))))))))))), ?_⟩
    have hz : sizeLine = 16777216 := rfl
    have la := paired_len xs
    refine ⟨_, rfl, (by decide), fun p2 hp2 => ⟨l, p2, _, rfl, rfl, (Ex.upd hp2) _ _ hl, L2.upd_same, _, rfl, ?_⟩⟩
    have e2 : KS.Ex H (upd H p2 (.lst [])) := Ex.upd hp2
    generalize upd H p2 (.lst []) = H2 at e2
    by_cases c0 : scs = []
    · have a0 : as = [] := List.length_eq_zero_iff.mp (by rw [la, c0]; rfl)
      refine ifT (by rw [a0]; rfl) (ifT rfl ?_)
      have z := fin H2 e2
      rw [c0] at z
      exact z
    have a0 : as ≠ [] := fun z => c0 (List.length_eq_zero_iff.mp (by rw [← la, z]; rfl))
    refine ifF (by cases as with | nil => exact absurd rfl a0 | cons a r => simp) ?_
    obtain ⟨sl, hsl⟩ : ∃ sl, scs.getLast? = some sl := ⟨scs.getLast c0, List.getLast?_eq_some_getLast c0⟩
    obtain ⟨al, hal, xl⟩ : ∃ al, as[scs.length - 1]? = some al ∧ LT H al sl := by
      have lt : scs.length - 1 < as.length := by
        have := List.length_pos_iff.mpr c0
        omega
      obtain ⟨y', hy', hR⟩ := paired_get xs (List.getElem?_eq_getElem lt)
      rw [List.getLast?_eq_getElem?, hy'] at hsl
      cases hsl
      exact ⟨_, List.getElem?_eq_getElem lt, hR⟩
    have gl : goodS sl.1 := gs sl (List.mem_of_getLast? hsl)
    have eft : fitsP rl scs fresh = if rl = "free" then true else if rl = "all" then scs.all (fun one => readsP fresh one) else (decide (rl = "forth") || readsP fresh sl) && (decide (rl = "back") || readsP sl fresh) := by
      unfold fitsP
      rw [hsl]
    rw [eft] at fin
    refine ⟨_, rfl, rfl, _, rfl, ?_⟩
    show if decide (V.str rl = V.str "free") = true then _ else _
    rw [eqS]
    by_cases c1 : rl = "free"
    · refine ifT (decide_eq_true c1) ?_
      have z := fin H2 e2
      rw [if_pos c1] at z
      exact z
    refine ifF (by simpa using c1) ?_
    rw [if_neg c1] at fin
    have hl2 := e2 _ _ hl
    have aix : atI (as.map V.ref) (((as.map V.ref).length : Nat) - 1 : Int) = some (.ref al) := by
      have n1 : 0 < scs.length := List.length_pos_iff.mpr c0
      have e : (((as.map V.ref).length : Nat) - 1 : Int) = ((scs.length - 1 : Nat) : Int) := by
        rw [List.length_map, la]; omega
      rw [e]
      exact atI_nat (by rw [List.getElem?_map, hal]; rfl)
    refine ⟨_, rfl, _, rfl, l, _, rfl, .inl (SqL.of hl2), _, _, rfl, rfl, l, _, _, .ref al, rfl, rfl, SqL.of hl2, aix, ?_⟩
    refine ⟨_, rfl, rfl, _, rfl, ?_⟩
    show if decide (V.str rl = V.str "all") = true then _ else _
    rw [eqS]
    by_cases c2 : rl = "all"
    · refine ifT (decide_eq_true c2) ?_
      rw [if_pos c2] at fin
      refine ⟨_, rfl, l, rfl, ⟨_, SqL.of hl2⟩, fun D hD => ?_⟩
      refine lc_it (walk_list (K := K) (a := l) (xs := as.map V.ref)) (fun i H5 => KS.Ex H2 H5 ∧ ∃ us : List Addr, H5 D = some (.lst (us.map V.ref)) ∧ us.length ≤ i ∧ (us = [] ↔ (scs.take i).all (fun one => readsP fresh one) = true))
        ⟨Ex.upd hD, [], L2.upd_same, Nat.zero_le _, by simp⟩ (fun i H5 _ p => SqL.of (p.1 _ _ hl2)) (fun i x' H6 H5 hi p yy => ?_) (fun H5 p => ?_)
      · obtain ⟨rfl, hy⟩ := yy
        obtain ⟨e5, us, h5, lu, iu⟩ := p
        rw [List.getElem?_map] at hy
        obtain ⟨b', hb, rfl⟩ := Option.map_eq_some_iff.mp hy
        obtain ⟨z, hz2, ht⟩ := paired_get xs hb
        have ta : scs.take (i + 1) = scs.take i ++ [z] := take_snoc hz2
        have lti : i < scs.length := (List.getElem?_eq_some_iff.mp hz2).1
        refine ⟨rfl, _, rfl, _, rfl, ?_⟩
        refine lreads_step (y.ex (e2.trans e5)) (ht.ex (e2.trans e5)) (gs z (List.mem_of_getElem? hz2)).2.1 gf.1 fun H7 e7 => ⟨_, rfl, ?_⟩
        have h7 := e7 _ _ h5
        cases hrd : readsP fresh z with
        | true =>
          refine ifF (by simp) ⟨e5.trans e7, us, h7, by omega, ?_⟩
          rw [ta, List.all_append, iu]
          simp [hrd]
        | false =>
          refine ifT rfl ⟨_, rfl, _, h7, by rw [List.length_map]; omega, Ex.on (e5.trans e7) hD, us ++ [b'], by rw [L2.upd_same, List.map_append]; rfl, by rw [List.length_append]; simp; omega, ?_⟩
          rw [ta, List.all_append]
          simp [hrd]
      · obtain ⟨e5, us, h5, lu, iu⟩ := p
        refine ⟨(by decide), fun p3 hp3 => ⟨D, p3, _, rfl, rfl, (Ex.upd hp3) _ _ h5, L2.upd_same, ?_⟩⟩
        have z := fin _ ((e2.trans e5).trans (Ex.upd (o := .lst []) hp3))
        rw [List.length_map, la, List.take_length] at iu
        have er : (us.map V.ref).isEmpty = scs.all (fun one => readsP fresh one) := by
          rw [Bool.eq_iff_iff, List.isEmpty_iff, List.map_eq_nil_iff]
          exact iu
        rw [er]
        exact z
    refine ifF (by simpa using c2) ?_
    rw [if_neg c2] at fin
    dsimp only [tNext, tRet]
    refine orL (i := 2) (j := 3) rfl rfl rfl (y.ex e2) (xl.ex e2) gl gf fun H3 e3 => ?_
    refine ⟨_, rfl, ?_⟩
    cases hb1 : (decide (rl = "forth") || readsP fresh sl) with
    | false =>
      have z := fin H3 (e2.trans e3)
      rw [hb1] at z
      exact ifF (by simp) z
    | true =>
      refine ifT rfl ?_
      refine orL (i := 3) (j := 2) rfl rfl rfl (xl.ex (e2.trans e3)) (y.ex (e2.trans e3)) gf gl fun H4 e4 => ?_
      have z := fin H4 ((e2.trans e3).trans e4)
      rw [hb1, Bool.true_and] at z
      exact z
end
end KL0
set_option Elab.async false
set_option linter.all false
set_option maxRecDepth 100000
set_option maxHeartbeats 2000000
namespace FZ
open PySem PySem.Spec PyProof.Rows L2
section
variable {prog : Program} {w : World} {A : Around} {E : Value → Shared → Prop} {s : Shared} {z TI TO i1 i2 T : Addr} {fp1 fp2 : List Addr} {n1 n2 i : Nat} {P1 P2 : Nat → Value → Prop} {St1 St2 : Nat → Heap → Prop} {f : Bool} {oT : Obj}
theorem next_heldD {Q : Value → Shared → Prop} (S : ZipSep2 z TI TO i1 i2 fp1 fp2) (D1 : Draws prog w A i1 fp1 n1 P1 St1) (D2 : Draws prog w A i2 fp2 n2 P2 St2)
    (hz : IsZipHeld s.heap z TI TO T f) (hT : s.heap.get? T = some oT) (hTI : IsTupOf2 s.heap TI (.ref i1) (.ref i2)) (st1 : St1 i s.heap) (st2 : St2 i s.heap) (hlt1 : i < n1) (hlt2 : i < n2)
    (hQ : ∀ x1 x2 h' tk, P1 i x1 → P2 i x2 → IsZipHeld h' z TI TO T true → St1 (i + 1) h' → St2 (i + 1) h' → IsTupOf2 h' s.heap.objs.size x1 x2 → h'.objs.size = s.heap.objs.size + 1 →
      (∀ c o, c ≠ z → c ≠ i1 → c ≠ i2 → s.heap.get? c = some o → h'.get? c = some o) → Q (.ref s.heap.objs.size) { s with heap := h', toks := tk }) :
    wpAny (model prog w) A (Builtin.«zip.__next__» ⟨[.ref z], []⟩) (fun fin s' => ∃ v, fin = .done (.ret v) ∧ Q v s') E s := by
  obtain ⟨hp, g, d, tk0, os⟩ := s
  show wpAny _ _ (field (.ref z) 2 >>= _) _ _ _
  refine wpAny_bind (wpAny_field hz rfl (x := .bool false) rfl ?_)
  show wpAny _ _ (field (.ref z) 3 >>= _) _ _ _
  refine wpAny_bind (wpAny_field hz rfl (x := .ref TI) rfl ?_)
  refine wpAny_bind (wpAny_seqItems hTI rfl ?_)
  show wpAny _ _ (Builtin.SmallTypes.ownedTupleIsFree (.ref z) >>= _) _ _ _
  refine wpAny_bind (wpAny_tupleHeld_zip hz hT fun h₁ hz₁ hs₁ => ?_)
  replace hs₁ : Heap.SameBut z hp h₁ := hs₁
  simp only [Bool.false_eq_true, if_false]
  refine wpAny_bind ?_
  rw [← Array.forIn_toList]
  simp only [List.forIn_cons, List.forIn_nil]
  refine wpAny_bind (wpAny_bind (wpAny_holding ?_))
  show wpAny _ _ (Builtin.SmallTypes.nextOf (.ref i1) >>= _) _ _ _
  have s1 : St1 i h₁ := D1.over st1 hs₁ S.zf1
  have s2 : St2 i h₁ := D2.over st2 hs₁ S.zf2
  refine wpAny_bind (D1.item i ⟨h₁, g, d, tk0, os⟩ _ _ hlt1 s1 fun x1 h₂ tk1 p1 s1' hs₂ => wpAny_pure ?_)
  replace hs₂ : Heap.SameBut i1 h₁ h₂ := hs₂
  refine wpAny_pure ?_
  refine wpAny_bind (wpAny_bind (wpAny_holding ?_))
  show wpAny _ _ (Builtin.SmallTypes.nextOf (.ref i2) >>= _) _ _ _
  have s2' : St2 i h₂ := D2.over s2 hs₂ S.sep1_2
  refine wpAny_bind (D2.item i ⟨h₂, g, d, tk1, os⟩ _ _ hlt2 s2' fun x2 h₃ tk2 p2 s2'' hs₃ => wpAny_pure ?_)
  replace hs₃ : Heap.SameBut i2 h₂ h₃ := hs₃
  refine wpAny_pure (wpAny_pure ?_)
  show wpAny _ _ (newTuple [x1, x2] >>= _) _ _ _
  refine wpAny_bind (wpAny_newTuple ?_)
  have hsz : h₃.objs.size = hp.objs.size := by rw [hs₃.1, hs₂.1, hs₁.1]
  have hz₃ : IsZipHeld h₃ z TI TO T true := hs₃.extBut _ _ S.zi2 (hs₂.extBut _ _ S.zi1 hz₁)
  have hk : ∀ c o, c ≠ z → c ≠ i1 → c ≠ i2 → hp.get? c = some o → h₃.get? c = some o := fun c o c1 c2 c3 e => hs₃.extBut _ _ c3 (hs₂.extBut _ _ c2 (hs₁.extBut _ _ c1 e))
  have s1₃ : St1 (i + 1) h₃ := D1.over s1' hs₃ S.sep2_1
  refine wpAny_pure ⟨_, rfl, ?_⟩
  show Q (.ref h₃.objs.size) _
  have hp' : IsTupOf2 (h₃.push { cls := .type "tuple", data := .seq #[x1, x2] }) h₃.objs.size x1 x2 := Heap.get?_push_size _ rfl
  have hz4 : (h₃.push { cls := .type "tuple", data := .seq #[x1, x2] }).objs.size = h₃.objs.size + 1 := Heap.size_push ..
  rw [hsz] at hp' hz4 ⊢
  exact hQ x1 x2 _ _ p1 p2 (Heap.get?_push_of_some _ hz₃) (D1.frame _ _ _ s1₃ fun b _ o e => Heap.get?_push_of_some _ e) (D2.frame _ _ _ s2'' fun b _ o e => Heap.get?_push_of_some _ e) hp' hz4 fun c o c1 c2 c3 e => Heap.get?_push_of_some _ (hk c o c1 c2 c3 e)
theorem end_heldD {Q : Fin → Shared → Prop} (S : ZipSep2 z TI TO i1 i2 fp1 fp2) (D1 : Draws prog w A i1 fp1 n1 P1 St1) (D2 : Draws prog w A i2 fp2 n2 P2 St2)
    (hz : IsZipHeld s.heap z TI TO T f) (hT : s.heap.get? T = some oT) (hTI : IsTupOf2 s.heap TI (.ref i1) (.ref i2)) (st1 : St1 i s.heap) (st2 : St2 i s.heap) (hle1 : i ≤ n1) (hle2 : i ≤ n2) (hend : i = n1 ∨ i = n2)
    (hE : ∀ h' tk e, (∀ c o, c ≠ z → c ≠ i1 → c ≠ i2 → s.heap.get? c = some o → h'.get? c = some o) → (∃ o, h'.get? e = some o ∧ o.cls = .type "StopIteration") → E (.ref e) { s with heap := h', toks := tk }) :
    wpAny (model prog w) A (Builtin.«zip.__next__» ⟨[.ref z], []⟩) Q E s := by
  obtain ⟨hp, g, d, tk0, os⟩ := s
  show wpAny _ _ (field (.ref z) 2 >>= _) _ _ _
  refine wpAny_bind (wpAny_field hz rfl (x := .bool false) rfl ?_)
  show wpAny _ _ (field (.ref z) 3 >>= _) _ _ _
  refine wpAny_bind (wpAny_field hz rfl (x := .ref TI) rfl ?_)
  refine wpAny_bind (wpAny_seqItems hTI rfl ?_)
  show wpAny _ _ (Builtin.SmallTypes.ownedTupleIsFree (.ref z) >>= _) _ _ _
  refine wpAny_bind (wpAny_tupleHeld_zip hz hT fun h₁ hz₁ hs₁ => ?_)
  replace hs₁ : Heap.SameBut z hp h₁ := hs₁
  simp only [Bool.false_eq_true, if_false]
  refine wpAny_bind ?_
  rw [← Array.forIn_toList]
  simp only [List.forIn_cons, List.forIn_nil]
  refine wpAny_bind (wpAny_bind (wpAny_holding ?_))
  show wpAny _ _ (Builtin.SmallTypes.nextOf (.ref i1) >>= _) _ _ _
  have s1 : St1 i h₁ := D1.over st1 hs₁ S.zf1
  have s2 : St2 i h₁ := D2.over st2 hs₁ S.zf2
  by_cases e1 : i = n1
  · rw [e1] at s1
    refine wpAny_bind (D1.done ⟨h₁, g, d, tk0, os⟩ _ _ s1 fun h₂ e hs₂ he => ?_)
    exact hE h₂ tk0 e (fun c o c1 c2 _ x => hs₂ _ _ c2 (hs₁.extBut _ _ c1 x)) he
  · have e2 : i = n2 := hend.resolve_left e1
    refine wpAny_bind (D1.item i ⟨h₁, g, d, tk0, os⟩ _ _ (by omega) s1 fun x1 h₂ tk1 p1 s1' hs₂ => wpAny_pure ?_)
    replace hs₂ : Heap.SameBut i1 h₁ h₂ := hs₂
    refine wpAny_pure ?_
    refine wpAny_bind (wpAny_bind (wpAny_holding ?_))
    show wpAny _ _ (Builtin.SmallTypes.nextOf (.ref i2) >>= _) _ _ _
    have s2' : St2 i h₂ := D2.over s2 hs₂ S.sep1_2
    rw [e2] at s2'
    refine wpAny_bind (D2.done ⟨h₂, g, d, tk1, os⟩ _ _ s2' fun h₃ e hs₃ he => ?_)
    exact hE h₃ tk1 e (fun c o c1 c2 c3 x => hs₃ _ _ c3 (hs₂.extBut _ _ c2 (hs₁.extBut _ _ c1 x))) he
theorem pyNext_heldD {Q : Option Value → Shared → Prop} (S : ZipSep2 z TI TO i1 i2 fp1 fp2) (D1 : Draws prog w A.in1 i1 fp1 n1 P1 St1) (D2 : Draws prog w A.in1 i2 fp2 n2 P2 St2)
    (hz : IsZipHeld s.heap z TI TO T f) (hT : s.heap.get? T = some oT) (hTI : IsTupOf2 s.heap TI (.ref i1) (.ref i2)) (st1 : St1 i s.heap) (st2 : St2 i s.heap) (hlt1 : i < n1) (hlt2 : i < n2)
    (hQ : ∀ x1 x2 h' tk, P1 i x1 → P2 i x2 → IsZipHeld h' z TI TO T true → St1 (i + 1) h' → St2 (i + 1) h' → IsTupOf2 h' s.heap.objs.size x1 x2 → h'.objs.size = s.heap.objs.size + 1 →
      (∀ c o, c ≠ z → c ≠ i1 → c ≠ i2 → s.heap.get? c = some o → h'.get? c = some o) → Q (some (.ref s.heap.objs.size)) { s with heap := h', toks := tk }) :
    wpAny (model prog w) A (pyNext (.ref z)) Q E s := by
  have hTy : s.TypeIs (.ref z) "zip" := ⟨_, hz, rfl⟩
  unfold pyNext
  exact wpAny_bind (wpAny_attempt (wpAny_callSpecial?_slot (name := Str.ofString "__next__") hTy F.slot_zip_next
    (wpAny_call_entry F.slot_zip_next hTy F.entry_zip_next
      (next_heldD S D1 D2 hz hT hTI st1 st2 hlt1 hlt2 fun x1 x2 h' tk y1 y2 b1 d1 d2 b5 b6 b7 => wpAny_pure (hQ x1 x2 h' tk y1 y2 b1 d1 d2 b5 b6 b7)) (F.args_zip_next_1 _))))
theorem pyEnd_heldD {Q : Option Value → Shared → Prop} (S : ZipSep2 z TI TO i1 i2 fp1 fp2) (D1 : Draws prog w A.in1 i1 fp1 n1 P1 St1) (D2 : Draws prog w A.in1 i2 fp2 n2 P2 St2)
    (hz : IsZipHeld s.heap z TI TO T f) (hT : s.heap.get? T = some oT) (hTI : IsTupOf2 s.heap TI (.ref i1) (.ref i2)) (st1 : St1 i s.heap) (st2 : St2 i s.heap) (hle1 : i ≤ n1) (hle2 : i ≤ n2) (hend : i = n1 ∨ i = n2)
    (hQ : ∀ h' tk, (∀ c o, c ≠ z → c ≠ i1 → c ≠ i2 → s.heap.get? c = some o → h'.get? c = some o) → Q none { s with heap := h', toks := tk }) : wpAny (model prog w) A (pyNext (.ref z)) Q E s := by
  have hTy : s.TypeIs (.ref z) "zip" := ⟨_, hz, rfl⟩
  unfold pyNext
  refine wpAny_bind (wpAny_attempt (wpAny_callSpecial?_slot (name := Str.ofString "__next__") hTy F.slot_zip_next
    (wpAny_call_entry F.slot_zip_next hTy F.entry_zip_next (end_heldD S D1 D2 hz hT hTI st1 st2 hle1 hle2 hend fun h' tk e hk he => ?_) (F.args_zip_next_1 _))))
  obtain ⟨o, ho, hc⟩ := he
  refine wpAny_bind (wpAny_isInstance (T := "StopIteration") (b := true) ⟨o, ho, hc⟩ isSubtype_stop ?_)
  exact wpAny_pure (hQ _ _ hk)
end
section
variable {prog : Program} {w : World}
theorem argZipD (z TI TO i1 i2 : Addr) (fp1 fp2 : List Addr) {n1 n2 : Nat} {P1 P2 : Nat → Value → Prop} {St1 St2 : Nat → Heap → Prop} (S : ZipSep2 z TI TO i1 i2 fp1 fp2)
    (D1 : ∀ A : Around, A.handled = none → Draws prog w A i1 fp1 n1 P1 St1) (D2 : ∀ A : Around, A.handled = none → Draws prog w A i2 fp2 n2 P2 St2) (t1 : ∀ h, St1 0 h → ∀ b ∈ fp1, ∃ o, h.get? b = some o) (t2 : ∀ h, St2 0 h → ∀ b ∈ fp2, ∃ o, h.get? b = some o) :
    PairArg prog w "zip" z (z :: TI :: TO :: (fp1 ++ fp2)) [z, TO, i1, i2] (min n1 n2) (fun i k v => P1 i k ∧ P2 i v)
      (fun h => IsZip h z TI TO .none ∧ IsTupOf2 h TI (.ref i1) (.ref i2) ∧ (∃ a b, IsTupOf2 h TO a b) ∧ St1 0 h ∧ St2 0 h) where
  type := fun s ok => ⟨_, ok.1, rfl⟩
  notDict := by decide
  keep := fun h h' ok hk => by
    obtain ⟨hz, hTI, ⟨a, b, hTO⟩, h1, h2⟩ := ok
    exact ⟨hk _ _ hz, hk _ _ hTI, ⟨a, b, hk _ _ hTO⟩, (D1 ⟨none, 0, none, none, 0⟩ rfl).frame _ _ _ h1 fun b _ o e => hk _ o e, (D2 ⟨none, 0, none, none, 0⟩ rfl).frame _ _ _ h2 fun b _ o e => hk _ o e⟩
  there := fun h ok b hb => by
    obtain ⟨hz, hTI, ⟨a, c, hTO⟩, h1, h2⟩ := ok
    rcases List.mem_cons.mp hb with rfl | hb
    · exact ⟨_, hz⟩
    rcases List.mem_cons.mp hb with rfl | hb
    · exact ⟨_, hTI⟩
    rcases List.mem_cons.mp hb with rfl | hb
    · exact ⟨_, hTO⟩
    rcases List.mem_append.mp hb with hb | hb
    · exact t1 h h1 b hb
    · exact t2 h h2 b hb
  sub := fun b hb => by
    simp only [List.mem_cons, List.not_mem_nil, or_false] at hb
    rcases hb with rfl | rfl | rfl | rfl
    · simp
    · simp
    · simp [S.mem1]
    · simp [S.mem2]
  noKeys := fun A s Q E hA ok h => getAttrOr_miss_zip ok.1 rfl rfl rfl zip_no_keys (by decide +kernel) hA h
  iter := fun A s d Q E hA ok hd hdf h => by
    obtain ⟨hz, hTI, ⟨a, b, hTO⟩, h1, h2⟩ := ok
    have dz : d ≠ z := fun e => hdf (by rw [e]; simp)
    have dTI : d ≠ TI := fun e => hdf (by rw [e]; simp)
    have dTO : d ≠ TO := fun e => hdf (by rw [e]; simp)
    have df1 : d ∉ fp1 := fun e => hdf (by simp [e])
    have df2 : d ∉ fp2 := fun e => hdf (by simp [e])
    have di1 : d ≠ i1 := fun e => df1 (by rw [e]; exact S.mem1)
    have di2 : d ≠ i2 := fun e => df2 (by rw [e]; exact S.mem2)
    refine wpAny_pyIter_zip hz (h z [z, TO, i1, i2] (fun i h => IsTupOf2 h TI (.ref i1) (.ref i2) ∧ St1 i h ∧ St2 i h ∧
      ((IsZip h z TI TO .none ∧ ∃ a b, IsTupOf2 h TO a b) ∨ ∃ T f oT, IsZipHeld h z TI TO T f ∧ h.get? T = some oT ∧ T ≠ z ∧ T ≠ i1 ∧ T ≠ i2 ∧ T ≠ d)) s.heap s.toks ?_
      ⟨hTI, h1, h2, .inl ⟨hz, a, b, hTO⟩⟩ (fun _ _ e => e) fun b hb => .inl hb)
    exact {
      off := fun hm => by
        simp only [List.mem_cons, List.not_mem_nil, or_false] at hm
        rcases hm with e | e | e | e
        · exact dz e
        · exact dTO e
        · exact di1 e
        · exact di2 e
      frame := fun i h₁ h₂ st hk => by
        obtain ⟨hTI, h1, h2, hz⟩ := st
        refine ⟨hk _ _ (Ne.symm dTI) hTI, (D1 A hA).frame _ _ _ h1 fun b hb o e => hk _ o (fun z => df1 (by rw [← z]; exact hb)) e, (D2 A hA).frame _ _ _ h2 fun b hb o e => hk _ o (fun z => df2 (by rw [← z]; exact hb)) e, ?_⟩
        rcases hz with ⟨hz, a, b, hTO⟩ | ⟨T, f, oT, hz, hT, r1, r2, r3, r4⟩
        · exact .inl ⟨hk _ _ (Ne.symm dz) hz, a, b, hk _ _ (Ne.symm dTO) hTO⟩
        · exact .inr ⟨T, f, oT, hk _ _ (Ne.symm dz) hz, hk _ _ r4 hT, r1, r2, r3, r4⟩
      item := fun i s₁ Q₁ E₁ hi st hds hQ => by
        obtain ⟨hTI, h1, h2, hz⟩ := st
        have hi1 : i < n1 := Nat.lt_of_lt_of_le hi (Nat.min_le_left ..)
        have hi2 : i < n2 := Nat.lt_of_lt_of_le hi (Nat.min_le_right ..)
        have lt : ∀ {c o}, s₁.heap.get? c = some o → s₁.heap.objs.size ≠ c := fun e => Nat.ne_of_gt (Heap.lt_size e)
        have q1 : s₁.heap.objs.size ≠ i1 := let ⟨_, e⟩ := (D1 A hA).live _ _ h1; lt e
        have q2 : s₁.heap.objs.size ≠ i2 := let ⟨_, e⟩ := (D2 A hA).live _ _ h2; lt e
        rcases hz with ⟨hz, a, b, hTO⟩ | ⟨T, f, oT, hz, hT, r1, r2, r3, r4⟩
        · refine wpAny_pyNext_zipD2_item S (D1 A.in1 hA) (D2 A.in1 hA) hz hTI hTO h1 h2 hi1 hi2 fun x1 x2 h' tk p1 p2 a1 a2 a3 a4 a5 a6 hk => ?_
          exact hQ s₁.heap.objs.size _ _ h' tk ⟨p1, p2⟩ (.inl ⟨_, a5, rfl, _, rfl⟩)
            ⟨hk _ _ S.TIz S.TITO S.TIi1 S.TIi2 hTI, a3, a4, .inr ⟨s₁.heap.objs.size, false, _, a1, a5, lt hz, q1, q2, Nat.ne_of_gt hds⟩⟩
            fun c o hc e => hk c o (fun x => hc (by simp [x])) (fun x => hc (by simp [x])) (fun x => hc (by simp [x])) (fun x => hc (by simp [x])) e
        · refine pyNext_heldD S (D1 A.in1 hA) (D2 A.in1 hA) hz hT hTI h1 h2 hi1 hi2 fun x1 x2 h' tk p1 p2 a1 a3 a4 a5 a6 hk => ?_
          exact hQ s₁.heap.objs.size _ _ h' tk ⟨p1, p2⟩ (.inl ⟨_, a5, rfl, _, rfl⟩)
            ⟨hk _ _ S.TIz S.TIi1 S.TIi2 hTI, a3, a4, .inr ⟨T, true, oT, a1, hk _ _ r1 r2 r3 hT, r1, r2, r3, r4⟩⟩
            fun c o hc e => hk c o (fun x => hc (by simp [x])) (fun x => hc (by simp [x])) (fun x => hc (by simp [x])) e
      done := fun s₁ Q₁ E₁ st hQ => by
        obtain ⟨hTI, h1, h2, hz⟩ := st
        have hend : min n1 n2 = n1 ∨ min n1 n2 = n2 := by
          rcases Nat.le_total n1 n2 with h | h
          · exact .inl (Nat.min_eq_left h)
          · exact .inr (Nat.min_eq_right h)
        rcases hz with ⟨hz, a, b, hTO⟩ | ⟨T, f, oT, hz, hT, r1, r2, r3, r4⟩
        · exact wpAny_pyNext_zipD2_end S (D1 A.in1 hA) (D2 A.in1 hA) hz hTI hTO h1 h2 (Nat.min_le_left ..) (Nat.min_le_right ..) hend fun h' tk hk => hQ h' tk fun c o hc e => hk c o (fun x => hc (by simp [x])) (fun x => hc (by simp [x])) (fun x => hc (by simp [x])) (fun x => hc (by simp [x])) e
        · exact pyEnd_heldD S (D1 A.in1 hA) (D2 A.in1 hA) hz hT hTI h1 h2 (Nat.min_le_left ..) (Nat.min_le_right ..) hend fun h' tk hk => hQ h' tk fun c o hc e => hk c o (fun x => hc (by simp [x])) (fun x => hc (by simp [x])) (fun x => hc (by simp [x])) e }
end
end FZ
set_option Elab.async false
set_option linter.all false
set_option maxRecDepth 100000
set_option maxHeartbeats 2000000
namespace FZ
open PySem PySem.Spec PyProof.Rows L2
def zipkv (ns : List Str) (xs : List V) : List (Key × V) := (ns.zip xs).map fun e => ((Sum.inr e.1 : Key), e.2)
def tDZ (K : PySem.W.Frag) (ta : TA) : TE := fun σ H Q => ta σ H fun vs H1 => ∃ (a b : Addr) (ns : List Str) (xs : List V), vs = [.ref a, .ref b] ∧ SqL K H1 a (ns.map V.str) ∧ SqT K H1 b xs ∧ ∀ p, H1 p = none → Q (.ref p) (upd H1 p (.dK (mergeK [] (zipkv ns xs))))
theorem zip_rel : ∀ {ns : List Str} {xs : List V} {us vs : List Value}, Vals (ns.map V.str) us → Vals xs vs → ∃ prs : List (Key × Value), KV (zipkv ns xs) prs ∧ prs.length = min us.length vs.length ∧ ∀ (i : Nat) (k v : Value), us[i]? = some k → vs[i]? = some v → ∃ key, prs[i]? = some (key, v) ∧ ∃ n t, key = Sum.inr n ∧ k = .str n t
  | [], xs, us, vs, h1, h2 => by
    cases h1
    exact ⟨[], .nil, by simp, fun i k v e _ => by simp at e⟩
  | n :: ns, [], us, vs, h1, h2 => by
    cases h2
    exact ⟨[], .nil, by simp, fun i k v _ e => by simp at e⟩
  | n :: ns, x :: xs, us, vs, h1, h2 => by
    cases h1 with
    | cons a1 t1 =>
      cases h2 with
      | cons a2 t2 =>
        obtain ⟨prs, r, l, at_⟩ := zip_rel t1 t2
        obtain ⟨t, rfl⟩ := a1
        refine ⟨((Sum.inr n : Key), _) :: prs, .cons ⟨rfl, a2⟩ r, by simp only [List.length_cons, l]; omega, fun i k v e1 e2 => ?_⟩
        cases i with
        | zero =>
          simp only [List.getElem?_cons_zero, Option.some.injEq] at e1 e2
          subst e1
          subst e2
          exact ⟨_, rfl, n, t, rfl, rfl⟩
        | succ i => exact at_ i k v (by simpa using e1) (by simpa using e2)
theorem pe_dictZip {X : Cx} {e e2 : Expr} {ta : TA} {p p2 pos pos2 : Pos} (hg : Gl X "dict") (hm : X.mg "dict" = none) (hgz : Gl X "zip") (hmz : X.mg "zip" = none) (ha : PA X [e, e2] ta) (hc : X.calm = true)
    (hs : starEach [e, e2] X.env = (false, eval e X.env) :: starEach [e2] X.env := by rfl) (hpl : (backTo pos2 (starEach [e2] X.env)).any (·.1) = false := by rfl)
    (he : starEach [.Call (.Name "zip" p2) [e, e2] [] pos2] X.env = (false, eval (.Call (.Name "zip" p2) [e, e2] [] pos2) X.env) :: starEach [] X.env := by rfl) :
    PE X (.Call (.Name "dict" p) [.Call (.Name "zip" p2) [e, e2] [] pos2] [] pos) (tDZ X.K ta) := by
  refine ⟨fun pins s σ H Q I h => ?_⟩
  refine wpAny_Call_Name_kw (ld_blt I hg hm (u := .type "dict") (by decide +kernel) ?_ (by decide) (by decide))
  refine PyProof.Rows.callWith_type1 ?_ he (by rfl)
  rw [he]
  show wpAny _ _ (spliced ((false, eval (.Call (.Name "zip" p2) [e, e2] [] pos2) X.env) :: backTo pos (starEach [] X.env))) _ _ s
  refine Calls.spliced_cons (Call_ (ld_blt I hgz hmz PyProof.Rows.boot_zip (PyProof.Rows.callWith_type1 (thn (ha.run pos2 pins s σ H _ I h) fun us s1 ⟨vs, H1, I1, r1, q1⟩ => ?_) hs hpl)))
  obtain ⟨a, b, ns, xs, ex, hq1, hq2, q⟩ := q1
  subst ex
  cases r1 with
  | cons r rr =>
    cases rr with
    | cons r' rr =>
      cases rr
      cases r
      cases r'
      obtain ⟨its, rv, pl, hz1⟩ := I1.list hq1
      obtain ⟨its2, rv2, pl2, hz2⟩ := I1.tuple hq2
      have la : a < s1.heap.objs.size := by
        obtain ⟨o, ho, _⟩ := pl.isList
        exact Heap.lt_size ho
      have lb : b < s1.heap.objs.size := by
        obtain ⟨o, ho, _⟩ := pl2
        exact Heap.lt_size ho
      refine zip_begins2 (begins_list a its.toArray) (begins_tuple b its2.toArray) pl.isList pl2 fun h' g1 g2 g3 g4 g5 g6 kp => ?_
      refine Calls.spliced_nil ?_
      have I2 : Inv X pins σ H1 { s1 with heap := h' } := I1.kept (t' := s1.toks) kp
      obtain ⟨prs, rel, hl, hat⟩ := zip_rel rv rv2
      have S := zip_sep2 (N := s1.heap.objs.size) (fp1 := [a]) (fp2 := [b]) (fun c hc => by rw [List.mem_singleton.mp hc]; exact la) (fun c hc => by rw [List.mem_singleton.mp hc]; exact lb)
      have na : a ≠ s1.heap.objs.size := Nat.ne_of_lt la
      have nb : b ≠ s1.heap.objs.size + 1 := Nat.ne_of_lt (Nat.lt_succ_of_lt lb)
      have hll : h'.IsList a its.toArray := pl.isList.at fun o e => kp _ o e
      have hlt : h'.IsTuple b its2.toArray := let ⟨o, ho, r⟩ := pl2; ⟨o, kp _ o ho, r⟩
      have hm' : (h'.objs.size == sysModules) = false := beq_eq_false_iff_ne.mpr (Nat.ne_of_gt (I2.big))
      have hlen : (mergeK [] (zipkv ns xs)).length ≤ sizeLine := by
        refine Nat.le_trans (length_mergeK _ []) ?_
        unfold zipkv
        rw [List.length_nil, Nat.zero_add, List.length_map, List.length_zip]
        exact Nat.le_trans (Nat.min_le_right ..) hz2
      refine PySem.call_dict_pairs (knd := mixKind X.prog X.w) (kvs := prs) (argZipD (s1.heap.objs.size + 4) (s1.heap.objs.size + 2) (s1.heap.objs.size + 3) s1.heap.objs.size (s1.heap.objs.size + 1) [s1.heap.objs.size, a] [s1.heap.objs.size + 1, b] S
        (fun A hA => Draws.list hA _ a na its.toArray) (fun A hA => Draws.tuple hA _ b nb its2.toArray) (fun hh st c hc => ?_) (fun hh st c hc => ?_)) (I.ok.hd hc) ⟨g1, g2, ⟨_, _, g3⟩, ⟨⟨_, g4, rfl, rfl⟩, hll⟩, ⟨_, g5, rfl, rfl⟩, hlt⟩ ⟨?_, fun i key v hR => ?_⟩ ?_ fun h2 tk hd' k => ?_
      · obtain ⟨⟨o1, q1, _⟩, ⟨o2, q2, _⟩⟩ := st
        simp only [List.mem_cons, List.not_mem_nil, or_false] at hc
        rcases hc with rfl | rfl
        · exact ⟨_, q1⟩
        · exact ⟨_, q2⟩
      · obtain ⟨⟨o1, q1, _⟩, ⟨o2, q2, _⟩⟩ := st
        simp only [List.mem_cons, List.not_mem_nil, or_false] at hc
        rcases hc with rfl | rfl
        · exact ⟨_, q1⟩
        · exact ⟨_, q2⟩
      · rw [hl]; simp
      · obtain ⟨e1, e2⟩ := hR
        obtain ⟨kk, z1, n, t, rfl, rfl⟩ := hat i key v (by simpa using e1) (by simpa using e2)
        exact ⟨_, z1, kV_is (P := X.prog) (w := X.w) (k := Sum.inr n) (show RelV (.str n) (.str n t) from ⟨t, rfl⟩)⟩
      · have e1 := rv2.length
        refine Nat.le_trans (Nat.min_le_right ..) ?_
        simp only [List.size_toArray]
        omega
      · refine ⟨.ref h'.objs.size, upd H1 h'.objs.size (.dK (mergeK [] (zipkv ns xs))), ?_, rfl, q _ (I2.hok.fresh (Nat.le_refl _))⟩
        have fresh4 : ∀ c ∈ [s1.heap.objs.size + 4, s1.heap.objs.size + 3, s1.heap.objs.size, s1.heap.objs.size + 1], FpOk X pins H1 c := fun c hc => by
          have hle : s1.heap.objs.size ≤ c := by
            simp only [List.mem_cons, List.not_mem_nil, or_false] at hc
            rcases hc with rfl | rfl | rfl | rfl
            · exact Nat.le_add_right _ _
            · exact Nat.le_add_right _ _
            · exact Nat.le_refl _
            · exact Nat.le_add_right _ _
          exact I1.fpOk hle (I1.hok.fresh hle)
        exact I2.turnedNew (t' := tk) (ch := [s1.heap.objs.size + 4, s1.heap.objs.size + 3, s1.heap.objs.size, s1.heap.objs.size + 1]) (fun b o hb e => k b o hb e) fresh4 (Nat.le_refl _) (show ObjOk X.prog X.w _ _ _ (.dK (mergeK [] (zipkv ns xs))) from ⟨hlen, hm', merged [] prs, KV.merge rel .nil, hd'⟩)
end FZ
set_option Elab.async false
set_option linter.all false
set_option maxRecDepth 100000
set_option maxHeartbeats 4000000
namespace KL0
open PySem PySem.Spec PyProof.Rows L2 KB KC KS KN1 LamX K7 FM GG
abbrev qL : Str := "law.<locals>.<lambda>"
theorem qLe : (Str.ofString "law" ++ Str.ofString ".<locals>.") ++ Str.ofString "<lambda>" = qL := by decide +kernel
def Cal (P : Program) (w : World) (K : PySem.W.Frag) (mg : Str → Option Value) (base : Heap) (CX : CXT) (k : Nat) (x : Str) (ps : List Str) (sp : Sp) : Prop :=
  ∃ f fd, FnOk P w K mg base CX k f fd ps sp ∧ mg x = some (.ref f) ∧ PySem.W.keepIn K (.ref f) = true ∧ Binds K fd ps []
def CalM (P : Program) (w : World) (K : PySem.W.Frag) (mg : Str → Option Value) (base : Heap) (C : Addr) (CX : CXT) (k : Nat) (m : Str) (ps : List Str) (sp : Sp) : Prop :=
  ∃ f fd, FnOk P w K mg base CX k f fd ps sp ∧ Meth K C m f ∧ Binds K fd ps []
def CalI (P : Program) (w : World) (K : PySem.W.Frag) (mg : Str → Option Value) (base : Heap) (C : Addr) (CX : CXT) (k : Nat) (ps : List Str) (sp : Sp) : Prop :=
  ∃ f fd, FnOk P w K mg base CX k f fd ps sp ∧ Mk K C f ∧ Binds K fd ps []
structure LawE (P : Program) (w : World) (K : PySem.W.Frag) (mg : Str → Option Value) (base : Heap) (CS CC CG CR Pl cL fTo : Addr) (fdTo : FuncData) (T : List (Addr × Str)) : Prop where
  X : TxtL mg
  C : TxtC K mg CC
  G : TxtG K mg CG
  J : TxtX K mg CR
  TB : LamX.TabB base mg cL Pl
  u : Uq T
  ml : (Pl, qL) ∈ T
  rounds : Cal P w K mg base CX0 2 "_law_rounds" ["script", "most"] (spRounds K)
  roll : Cal P w K mg base CX0 1 "_law_roll" ["dice", "many"] spRoll
  lsch : Cal P w K mg base CX0 2 "_law_schema" ["dice"] (spLSch T)
  lreads : Cal P w K mg base CX0 1 "_law_reads" ["one", "other"] spLReads
  lfits : Cal P w K mg base CX0 2 "_law_fits" ["rule", "rows", "fresh"] spLFits
  sch : ∃ f fd e0 u0, FnOk P w K mg base (L2.CX P w) 4 f fd ["self", "columns", "lacking"] (spSch K CS CC CR T) ∧ Mk K CC f ∧ Binds K fd ["self", "columns", "lacking"] [] ∧ Binds K fd ["self", "columns", "lacking"] [u0] ∧ Vals [V.ref e0] [u0] ∧ E0T K e0
  reads : CalM P w K mg base CC CX0 1 "reads" ["self", "other"] (spReads CS CC)
  rowf : CalM P w K mg base CC (L2.CX P w) 3 "row_from" ["self", "other", "row"] (spRowF CS CC CR T)
  ginit : ∀ nm, CalI P w K mg base CG CX0 1 ["self"] (spGInit CS CC CG nm)
  put : ∀ nm, CalM P w K mg base CG (L2.CX P w) 1 "put_rule" ["self", "subject", "rule"] (spPut CS CC CG CR nm)
  fits : ∀ nm, CalM P w K mg base CG CX0 4 "fits" ["self", "subject", "schema"] (spFits CS CC CG nm T)
  add : ∀ nm, CalM P w K mg base CG (L2.CX P w) 5 "add" ["self", "subject", "schema"] (spAdd CS CC CG CR nm T)
  read : ∀ nm, CalM P w K mg base CG (L2.CX P w) 4 "read" ["self", "subject", "number", "row", "wanted"] (spRead CS CC CG CR nm T)
  told : FnP K "_law_told" "_law_told" sTold [] fTo fdTo
  gTold : mg "_law_told" = some (.ref fTo)
abbrev nLaw : List Str := ["script", "dice", "registry", "rules", "own", "step", "subject", "fresh", "schema", "fits", "rows", "k", "row", "values", "j", "good", "due", "one", "other", "two", "bad", "name", "kind", "f"]
theorem scLaw : FnScope nLaw ["script"] (defScope sLaw) := ⟨rfl, rfl, rfl, by decide +kernel, rfl, by decide +kernel, by decide +kernel⟩
abbrev pS : Stmt := .Pass ⟨0, 0, 0, 0⟩
def forBody : Stmt → List Stmt
  | .For _ _ b _ _ => b
  | _ => []
def ifBody : Stmt → List Stmt
  | .If _ b _ _ => b
  | _ => []
abbrev law0 : List Stmt := forBody ((defBody sLaw).getD 0 pS)
abbrev lS (i : Nat) : Stmt := law0.getD i pS
abbrev dBody : List Stmt := forBody (lS 1)
abbrev dS (i : Nat) : Stmt := dBody.getD i pS
abbrev rlB : List Stmt := ifBody (dS 1)
abbrev sBody : List Stmt := forBody (lS 2)
abbrev sS (i : Nat) : Stmt := sBody.getD i pS
abbrev kBody : List Stmt := forBody (sS 1)
abbrev kS' (i : Nat) : Stmt := kBody.getD i pS
abbrev jBody : List Stmt := forBody (kS' 2)
abbrev jS (i : Nat) : Stmt := jBody.getD i pS
theorem lens_ok : (defBody sLaw).length = 8 ∧ law0.length = 3 ∧ dBody.length = 7 ∧ rlB.length = 4 ∧ sBody.length = 2 ∧ kBody.length = 3 ∧ jBody.length = 4 := by decide +kernel
abbrev xLaw (P : Program) (w : World) (K : PySem.W.Frag) (mg : Str → Option Value) (base : Heap) (fL cL : Addr) (A : Around) (outer : List PySem.Env) (s : Shared) (H0 : Hp) (E0' : XK) : Cx := (cxOf CX0 P w K mg base nLaw "law" (defScope sLaw) fL (.ref cL) A outer s H0 E0').nox
theorem mem_Pl {T : List (Addr × Str)} {Pl : Addr} (h : (Pl, qL) ∈ T) : (Pl, (Str.ofString "law" ++ Str.ofString ".<locals>.") ++ Str.ofString "<lambda>") ∈ T := by rw [qLe]; exact h
theorem only_Pl {T : List (Addr × Str)} {Pl : Addr} (u : Uq T) (h : (Pl, qL) ∈ T) : ∀ p ∈ T, p.1 = Pl → p.2 = (Str.ofString "law" ++ Str.ofString ".<locals>.") ++ Str.ofString "<lambda>" := by
  rw [qLe]
  exact fun p hp e => u p hp _ h e
abbrev nmL : List Str := ["p", "q"]
structure LA where
  d : Addr
  g : Addr
  rs : Addr
  rr : Addr
  ru : Addr
  ow : Addr
  rp : Addr
def DD (a : LA) : Addr → Prop := fun b => b = a.rs ∨ b = a.rr ∨ b = a.ru ∨ b = a.ow
def SW (D S : Addr → Prop) (H : Hp) : Prop := ∀ b, S b → (D b ∧ ∃ kvs, H b = some (.dK kvs)) ∨ H b = none ∨ ∃ xs x, H b = some (.lst xs) ∧ x ∈ xs ∧ ∀ c ts, x = .ref c → H c ≠ some (.tup ts)
section
variable {D S : Addr → Prop} {H H' : Hp} {T : List (Addr × Str)}
theorem SW.sd (z : SW D S H) : SD D S H := fun b hb => (z b hb).elim .inl fun h => .inr (h.elim .inl fun ⟨xs, _, h, _⟩ => .inr ⟨xs, h⟩)
theorem SW.nl (z : SW D S H) {b : Addr} {ts : List Addr} (h : H b = some (.lst (ts.map V.ref))) (ht : ∀ t ∈ ts, ∃ xs, H t = some (.tup xs)) : ¬ S b := fun hb => by
  rcases z b hb with ⟨_, kvs, e⟩ | e | ⟨xs, x, e, hx, n⟩
  · rw [e] at h; cases h
  · rw [e] at h; cases h
  · rw [e] at h
    cases h
    obtain ⟨t, ht', rfl⟩ := List.mem_map.mp hx
    obtain ⟨us, hu⟩ := ht t ht'
    exact n t us rfl hu
theorem SW.of0 : SW D N0 H := fun _ z => z.elim
theorem cols_tup {ts : List Addr} {cols : Co} (h : Cols H ts cols) : ∀ t ∈ ts, ∃ xs, H t = some (.tup xs) := by
  induction h with
  | nil => intro t ht; cases ht
  | cons h _ ih =>
    intro t ht
    rcases List.mem_cons.mp ht with rfl | ht
    · exact ⟨_, h⟩
    · exact ih t ht
def LTd (D : Addr → Prop) (H : Hp) (a : Addr) (sc : Sc) : Prop := ∃ cl dl ts, H a = some (.tup [.ref cl, .ref dl]) ∧ H cl = some (.lst (ts.map V.ref)) ∧ Cols H ts sc.1 ∧ H dl = some (.dK (kvL sc.2)) ∧ ¬ D dl
theorem LTd.lt {a : Addr} {sc : Sc} (h : LTd D H a sc) : LT H a sc := by
  obtain ⟨cl, dl, ts, h1, h2, h3, h4, _⟩ := h
  exact ⟨cl, dl, ts, h1, h2, h3, h4⟩
theorem LTd.fm {a : Addr} {sc : Sc} (h : LTd D H a sc) (e : Fm T S H H') (z : SW D S H) : LTd D H' a sc := by
  obtain ⟨cl, dl, ts, h1, h2, h3, h4, h5⟩ := h
  exact ⟨cl, dl, ts, e.at' h1 (z.sd.nd h1 (by intro _ z; cases z) (by intro _ z; cases z)), e.at' h2 (z.nl h2 (cols_tup h3)), h3.fm e z.sd, e.at' h4 (z.sd.dict h4 h5), h5⟩
def LTds (D : Addr → Prop) (H : Hp) : List Addr → List Sc → Prop := Paired fun a sc => LTd D H a sc
theorem LTds.lts {as : List Addr} {scs : List Sc} (h : LTds D H as scs) : LTs H as scs := by
  induction h with
  | nil => exact .nil
  | cons h _ ih => exact .cons h.lt ih
theorem LTds.fm {as : List Addr} {scs : List Sc} (h : LTds D H as scs) (e : Fm T S H H') (z : SW D S H) : LTds D H' as scs := paired_mono (fun _ _ q => q.fm e z) h
theorem LTds.tup {as : List Addr} {scs : List Sc} (h : LTds D H as scs) : ∀ t ∈ as, ∃ xs, H t = some (.tup xs) := by
  induction h with
  | nil => intro t ht; cases ht
  | cons h _ ih =>
    intro t ht
    rcases List.mem_cons.mp ht with rfl | ht
    · obtain ⟨_, _, _, h, _⟩ := h
      exact ⟨_, h⟩
    · exact ih t ht
end
def kvO (la : Str → Addr) : List (Key × V) := [(kS "p", .ref (la "p")), (kS "q", .ref (la "q"))]
structure LwA (T : List (Addr × Str)) (a : LA) (OO : HO) (la : Str → Addr) (W : Str → List Sc) (R : Str → Option Str) (H : Hp) : Prop where
  tb : Tabs T H
  di : IsDice H a.d
  rp : H a.rp = some (.lst [.ref a.d])
  ow : H a.ow = some OO
  ls : ∀ n ∈ nmL, ∃ as, H (la n) = some (.lst (as.map V.ref)) ∧ LTds (DD a) H as (W n)
  ru : ∃ kvs, H a.ru = some (.dK kvs) ∧ Tab nmL kS RRul kvs R
  dr : ∀ n ∈ nmL, ∀ s ∈ W n, DrS s
theorem LwA.fm {T : List (Addr × Str)} {a : LA} {OO : HO} {la : Str → Addr} {W : Str → List Sc} {R : Str → Option Str} {S : Addr → Prop} {H H' : Hp} (x : LwA T a OO la W R H) (e : Fm T S H H') (z : SW (DD a) S H) (nt : ∀ ps, OO ≠ .tbl ps) (di : IsDice H' a.d) (h1 : ¬ S a.rp) (h2 : ¬ S a.ow) (h3 : ¬ S a.ru) : LwA T a OO la W R H' := by
  obtain ⟨kvs, g1, g2⟩ := x.ru
  refine ⟨e.1, di, e.at' x.rp h1, e.2 _ _ h2 x.ow nt, fun n hn => ?_, ⟨kvs, e.at' g1 h3, g2⟩, x.dr⟩
  obtain ⟨as, q1, q2⟩ := x.ls n hn
  exact ⟨as, e.at' q1 (z.nl q1 q2.tup), q2.fm e z⟩
structure IL (CS CC CG : Addr) (T : List (Addr × Str)) (a : LA) (OO : HO) (la : Str → Addr) (E : Str → Option Ent) (R : Str → Option Str) (i : Nat) (H : Hp) : Prop where
  lw : LwA T a OO la (fun n => (schs E n).map (·.2)) R H
  rg : RegA CS CC CG (DD a) nmL a.g a.rs a.rr E R H
  len : ∀ n, (schs E n).length ≤ i
  ns : a.ru ≠ a.ow ∧ a.ru ≠ a.rs ∧ a.ru ≠ a.rr ∧ a.ow ≠ a.rs ∧ a.ow ≠ a.rr
section
variable {CS CC CG : Addr} {T : List (Addr × Str)} {a : LA} {OO : HO} {la : Str → Addr} {E : Str → Option Ent} {R : Str → Option Str} {i : Nat} {S : Addr → Prop} {H H' : Hp}
theorem IL.fm (x : IL CS CC CG T a OO la E R i H) (e : Fm T S H H') (z : SW (DD a) S H) (nt : ∀ ps, OO ≠ .tbl ps) (di : IsDice H' a.d) (h1 : ¬ S a.rp) (h2 : ¬ S a.ow) (h3 : ¬ S a.ru) (h4 : ¬ S a.rs) (h5 : ¬ S a.rr) (h6 : ∀ n l ss, E n = some (l, ss) → ¬ S l) : IL CS CC CG T a OO la E R i H' :=
  ⟨x.lw.fm e z nt di h1 h2 h3, x.rg.fm e z.sd h4 h5 h6, x.len, x.ns⟩
theorem dice0 (i : IsDice H a.d) (e : Fm T N0 H H') : IsDice H' a.d := by
  obtain ⟨x, y, k, q⟩ := i
  exact ⟨x, y, k, e.at0 q⟩
theorem IL.fm0 (x : IL CS CC CG T a OO la E R i H) (e : Fm T N0 H H') (nt : ∀ ps, OO ≠ .tbl ps) : IL CS CC CG T a OO la E R i H' :=
  x.fm e SW.of0 nt (dice0 x.lw.di e) id id id id id fun _ _ _ _ => id
theorem IL.ex (x : IL CS CC CG T a OO la E R i H) (e : KS.Ex H H') (nt : ∀ ps, OO ≠ .tbl ps) : IL CS CC CG T a OO la E R i H' := x.fm0 (Fm.ex x.lw.tb e) nt
theorem RegA.head {D : Addr → Prop} {nm : List Str} {g rs rr : Addr} (x : RegA CS CC CG D nm g rs rr E R H) {n : Str} {l : Addr} {ss : List (Addr × Sc)} (h : E n = some (l, ss)) : ∃ e r, H l = some (.lst (.ref e :: r)) ∧ (V.ref e :: r = ss.map fun e => V.ref e.1) ∧ ∃ C dx fs, H e = some (.ins C dx fs) := by
  obtain ⟨h1, _, h3, h4⟩ := x.ls n l ss h
  cases ss with
  | nil => exact absurd rfl h1
  | cons e r =>
    obtain ⟨⟨dx, sh, dl, q, _⟩, _⟩ := h4 e List.mem_cons_self
    exact ⟨e.1, _, h3, rfl, _, _, _, q⟩
theorem IL.dices (x : IL CS CC CG T a OO la E R i H) (nl : ∀ ys, OO ≠ .lst ys) : SW (DD a) (fun b => b = a.d) H ∧ a.rp ≠ a.d ∧ a.ow ≠ a.d ∧ a.ru ≠ a.d ∧ a.rs ≠ a.d ∧ a.rr ≠ a.d ∧ ∀ n l ss, E n = some (l, ss) → l ≠ a.d := by
  obtain ⟨u, v, k, q⟩ := x.lw.di
  obtain ⟨k0, g0, _⟩ := x.lw.ru
  obtain ⟨k1, g1, _⟩ := x.rg.t1
  obtain ⟨k2, g2, _⟩ := x.rg.t2
  refine ⟨fun b hb => .inr (.inr ⟨[.int u, .int v, .int k], .int u, (show b = a.d from hb) ▸ q, List.mem_cons_self, fun _ _ z => nomatch z⟩), fun z => ?_, fun z => ?_, fun z => ?_, fun z => ?_, fun z => ?_, fun n l ss h z => ?_⟩
  · have h := x.lw.rp
    rw [z, q] at h; cases h
  · have h := x.lw.ow
    rw [z, q] at h; exact nl _ (Option.some.inj h).symm
  · rw [z, q] at g0; cases g0
  · rw [z, q] at g1; cases g1
  · rw [z, q] at g2; cases g2
  · obtain ⟨e, r, h1, _⟩ := x.rg.head h
    rw [z, q] at h1; cases h1
theorem IL.roll (x : IL CS CC CG T a OO la E R i H) (nt : ∀ ps, OO ≠ .tbl ps) (nl : ∀ ys, OO ≠ .lst ys) (e : Fm T (fun b => b = a.d) H H') (di : IsDice H' a.d) : IL CS CC CG T a OO la E R i H' := by
  obtain ⟨z, h1, h2, h3, h4, h5, h6⟩ := x.dices nl
  exact x.fm e z nt di h1 h2 h3 h4 h5 h6
end
end KL0
set_option Elab.async false
set_option linter.all false
set_option maxRecDepth 100000
set_option maxHeartbeats 4000000
namespace KL0
open PySem PySem.Spec PyProof.Rows L2 KB KC KS KN1 LamX K7 FM GG
theorem pq_at {r : Nat} (h : r < 2) : ∃ c, atI ("pq" : Str).cps.toList (r : Int) = some c ∧ (⟨#[c]⟩ : Str) ∈ nmL := by
  have : r = 0 ∨ r = 1 := by omega
  rcases this with rfl | rfl
  · exact ⟨112, by decide +kernel, by decide +kernel⟩
  · exact ⟨113, by decide +kernel, by decide +kernel⟩
theorem rl_at {r : Nat} (h : r < 5) : ∃ x, atI [V.str "back", V.str "forth", V.str "both", V.str "all", V.str "free"] (r : Int) = some (.str x) ∧ x ∈ rulesL ∧ x.length ≤ 900 := by
  have : r = 0 ∨ r = 1 ∨ r = 2 ∨ r = 3 ∨ r = 4 := by omega
  rcases this with rfl | rfl | rfl | rfl | rfl
  · exact ⟨"back", rfl, by decide +kernel, by decide +kernel⟩
  · exact ⟨"forth", rfl, by decide +kernel, by decide +kernel⟩
  · exact ⟨"both", rfl, by decide +kernel, by decide +kernel⟩
  · exact ⟨"all", rfl, by decide +kernel, by decide +kernel⟩
  · exact ⟨"free", rfl, by decide +kernel, by decide +kernel⟩
theorem nm_cases {n : Str} (h : n ∈ nmL) : n = "p" ∨ n = "q" := by
  simp only [List.mem_cons, List.not_mem_nil, or_false] at h
  exact h
theorem valO {la : Str → Addr} {n : Str} (h : n ∈ nmL) : valV (kvO la) (kS n) = some (.ref (la n)) := by
  rcases nm_cases h with rfl | rfl <;> rfl
theorem putO {la : Str → Addr} {n : Str} (h : n ∈ nmL) (z : Addr) : putK (kvO la) (kS n) (.ref z) = kvO (fun m => if m = n then z else la m) := by
  rcases nm_cases h with rfl | rfl <;> rfl
theorem putO_same {la : Str → Addr} {n : Str} (h : n ∈ nmL) : putK (kvO la) (kS n) (.ref (la n)) = kvO la := by
  rcases nm_cases h with rfl | rfl <;> rfl
theorem upd_self {H : Hp} {b : Addr} {o : HO} (h : H b = some o) : upd H b o = H := by
  funext c
  by_cases e : c = b
  · rw [e, L2.upd_same, h]
  · rw [L2.upd_ne e]
section
variable {CS CC CG : Addr} {T : List (Addr × Str)} {a : LA} {OO : HO} {la : Str → Addr} {E : Str → Option Ent} {R : Str → Option Str} {i : Nat} {H : Hp}
theorem IL.rule (x : IL CS CC CG T a (.dK (kvO la)) la E R i H) {n r : Str} (hn : n ∈ nmL) {k0 k2 : List (Key × V)} (g0 : H a.ru = some (.dK k0)) (rg' : RegA CS CC CG (DD a) nmL a.g a.rs a.rr E (putG R n (some r)) (upd (upd H a.ru (.dK (putK k0 (kS n) (.str r)))) a.rr (.dK k2))) :
    IL CS CC CG T a (.dK (kvO la)) la E (putG R n (some r)) i (upd (upd H a.ru (.dK (putK k0 (kS n) (.str r)))) a.rr (.dK k2)) := by
  obtain ⟨k0', g0', t0⟩ := x.lw.ru
  rw [g0] at g0'
  cases g0'
  obtain ⟨n1, n2, n3, n4, n5⟩ := x.ns
  have g0 : H a.ru = some (.dK k0) := g0
  have e1 : Fm T (fun b => b = a.ru) H (upd H a.ru (.dK (putK k0 (kS n) (.str r)))) := Fm.wr x.lw.tb g0 (by intro _ z; cases z) (by intro _ z; cases z) rfl
  have z1 : SW (DD a) (fun b => b = a.ru) H := fun b hb => by
    have hb : b = a.ru := hb
    subst hb
    exact .inl ⟨.inr (.inr (.inl rfl)), _, g0⟩
  have nd : ∀ {b : Addr} {kvs : List (Key × V)}, H b = some (.dK kvs) → a.d ≠ b := fun {b kvs} h z => by
    obtain ⟨u, v, k, q⟩ := x.lw.di
    rw [← z, q] at h; cases h
  have nrp : ∀ {b : Addr} {kvs : List (Key × V)}, H b = some (.dK kvs) → a.rp ≠ b := fun {b kvs} h z => by
    have q := x.lw.rp
    rw [z, h] at q; cases q
  have nls : ∀ {b : Addr} {kvs : List (Key × V)}, H b = some (.dK kvs) → ∀ n l ss, E n = some (l, ss) → l ≠ b := fun {b kvs} h n l ss q z => by
    obtain ⟨e, r, h1, _⟩ := x.rg.head q
    rw [z, h] at h1; cases h1
  obtain ⟨kr, g2, _⟩ := x.rg.t2
  have g2' : (upd H a.ru (.dK (putK k0 (kS n) (.str r)))) a.rr = some (.dK kr) := by rw [L2.upd_ne n3.symm]; exact g2
  have e2 : Fm T (fun b => b = a.ru ∨ b = a.rr) H (upd (upd H a.ru (.dK (putK k0 (kS n) (.str r)))) a.rr (.dK k2)) := (e1.mono fun _ z => .inl z).trans (Fm.wr e1.1 g2' (by intro _ z; cases z) (by intro _ z; cases z) (.inr rfl))
  have z2 : SW (DD a) (fun b => b = a.ru ∨ b = a.rr) H := fun b hb => by
    rcases hb with hb | hb
    · exact z1 b hb
    · subst hb
      exact .inl ⟨.inr (.inl rfl), _, g2⟩
  refine ⟨⟨e2.1, ?_, ?_, ?_, fun m hm => ?_, ⟨_, by rw [L2.upd_ne n3]; exact L2.upd_same, t0.put kS_inj hn rfl fun _ _ _ _ _ q => q⟩, x.lw.dr⟩, rg', x.len, x.ns⟩
  · obtain ⟨u, v, k, q⟩ := x.lw.di
    exact ⟨u, v, k, e2.at' q (fun z => z.elim (nd g0) (nd g2))⟩
  · exact e2.at' x.lw.rp (fun z => z.elim (nrp g0) (nrp g2))
  · exact e2.at' x.lw.ow (fun z => z.elim (fun z => n1 z.symm) n5)
  · obtain ⟨as, q1, q2⟩ := x.lw.ls m hm
    exact ⟨as, e2.at' q1 (z2.nl q1 q2.tup), q2.fm e2 z2⟩
end
section
variable {P : Program} {w : World} {K : PySem.W.Frag} {mg : Str → Option Value} {base : Heap} {CS CC CG CR Pl cL fTo fL : Addr} {fdTo : FuncData} {T : List (Addr × Str)} {A : Around} {outer : List PySem.Env} {s : Shared} {H0 : Hp} {E0' : XK}
theorem g_rule (ve : LawE P w K mg base CS CC CG CR Pl cL fTo fdTo T) (hr : Room 9 (xLaw P w K mg base fL cL A outer s H0 E0').A) :
    ∃ t0 t1, L2.PS (xLaw P w K mg base fL cL A outer s H0 E0') (dS 0) t0 ∧ L2.PS (xLaw P w K mg base fL cL A outer s H0 E0') (dS 1) t1 ∧
      ∀ (D : Ends) (H : Hp) (a : LA) (la : Str → Addr) (E : Str → Option Ent) (R : Str → Option Str) (i : Nat) (tr : TS) (a0 a5 a6 a7 a8 a9 a10 a11 a12 a13 a14 a15 a16 a17 a18 a19 a20 a21 a22 a23 : Option V), IL CS CC CG T a (.dK (kvO la)) la E R i H →
      (∀ (H' : Hp) (n : Str) (R' : Str → Option Str), n ∈ nmL → IL CS CC CG T a (.dK (kvO la)) la E R' i H' → D.ct [a0, some (.ref a.d), some (.ref a.g), some (.ref a.ru), some (.ref a.ow), a5, some (.str n), a7, a8, a9, a10, a11, a12, a13, a14, a15, a16, a17, a18, a19, a20, a21, a22, a23] H') →
      (∀ (H' : Hp) (n : Str), n ∈ nmL → IL CS CC CG T a (.dK (kvO la)) la E R i H' → tr D [a0, some (.ref a.d), some (.ref a.g), some (.ref a.ru), some (.ref a.ow), a5, some (.str n), a7, a8, a9, a10, a11, a12, a13, a14, a15, a16, a17, a18, a19, a20, a21, a22, a23] H') →
      tSeq t0 (tSeq t1 tr) D [a0, some (.ref a.d), some (.ref a.g), some (.ref a.ru), some (.ref a.ow), a5, a6, a7, a8, a9, a10, a11, a12, a13, a14, a15, a16, a17, a18, a19, a20, a21, a22, a23] H := by
  obtain ⟨fR, fdR, GR, gR, kR, bR⟩ := ve.roll
  obtain ⟨fP, fdP, GP, mP, bP⟩ := ve.put nmL
  have hu := hr.units
  have hu1 := Nat.lt_trans (Nat.add_lt_add_left (by decide : 1 < 64) _) hu
  have hz0 : sizeLine = 16777216 := rfl
  refine ⟨_, _, ps_set (i := 6) scLaw.nd rfl (Or.inr rfl) (pe_ix ix_str pe_str (pe_call GR (hr.mono (by decide)) (by rfl) gR kR bR .nil pass0 (pa_cons (pv 1) (pa_cons pe_int pa_nil))) (fun _ _ => rfl)),
    ps_if (pt_cmpR op_eq (pe_call GR (hr.mono (by decide)) (by rfl) gR kR bR .nil pass0 (pa_cons (pv 1) (pa_cons pe_int pa_nil))) pe_int (nomark _))
      (pss_cons (ps_dput hu1 (pv 3) (pv 6) (pe_ix ix_listD (pe_lst (pa_cons pe_str (pa_cons pe_str (pa_cons pe_str (pa_cons pe_str (pa_cons pe_str pa_nil)))))) (pe_call GR (hr.mono (by decide)) (by rfl) gR kR bR .nil pass0 (pa_cons (pv 1) (pa_cons pe_int pa_nil))) (fun _ _ => rfl)) rfl)
      (pss_cons (ps_expr (pe_meth (pv 2) ve.G.cl mP GP (hr.mono (by decide)) bP (E := fun _ _ _ => False) .nil (passes_call L2.takes0 (fun _ _ _ _ h => h)) (pa_cons (pv 6) (pa_cons (pe_dget hu1 (pv 3) (pv 6) (fun _ _ => rfl)) pa_nil))))
      (pss_cons (ps_dput hu1 (pv 4) (pv 6) (pe_dget hu1 (pv 4) (pv 6) (fun _ _ => rfl)) rfl) (pss_one ps_continue)))) pss_nil, ?_⟩
  intro D H a la E R i tr a0 a5 a6 a7 a8 a9 a10 a11 a12 a13 a14 a15 a16 a17 a18 a19 a20 a21 a22 a23 y con fin
  have nt : ∀ ps, HO.dK (kvO la) ≠ .tbl ps := fun _ z => nomatch z
  have nl : ∀ ys, HO.dK (kvO la) ≠ .lst ys := fun _ z => nomatch z
  refine ⟨_, rfl, roll_fm y.lw.di y.lw.tb (by decide) (by decide) fun r H1 r0 r1 e1 d1 => ?_⟩
  have y1 := y.roll nt nl e1 d1
  obtain ⟨rn, rfl⟩ : ∃ rn : Nat, r = (rn : Int) := ⟨r.toNat, by omega⟩
  obtain ⟨c, hc, hcn⟩ := pq_at (r := rn) (by omega)
  refine ⟨_, _, c, rfl, rfl, by decide, hc, ?_⟩
  generalize (⟨#[c]⟩ : Str) = n at hcn
  show tSeq _ _ _ [a0, some (.ref a.d), some (.ref a.g), some (.ref a.ru), some (.ref a.ow), a5, some (.str n), a7, a8, a9, a10, a11, a12, a13, a14, a15, a16, a17, a18, a19, a20, a21, a22, a23] H1
  refine ⟨_, rfl, roll_fm y1.lw.di y1.lw.tb (by decide) (by decide) fun r H2 _ _ e2 d2 => ⟨rfl, _, rfl, ?_⟩⟩
  have y2 := y1.roll nt nl e2 d2
  show if decide (V.int r = V.int 0) = true then _ else _
  by_cases q : decide (V.int r = V.int 0) = true
  · refine ifT q ?_
    refine ⟨(by show 5 ≤ sizeLine; decide), fun l hl => ⟨_, rfl, ?_⟩⟩
    have el : KS.Ex H2 (upd H2 l (.lst [V.str "back", V.str "forth", V.str "both", V.str "all", V.str "free"])) := Ex.upd hl
    have hl3 : (upd H2 l (.lst [V.str "back", V.str "forth", V.str "both", V.str "all", V.str "free"])) l = some (.lst [V.str "back", V.str "forth", V.str "both", V.str "all", V.str "free"]) := L2.upd_same
    have y3 := y2.ex el nt
    have nld : l ≠ a.d := fun z => by
      obtain ⟨u, v, k, q⟩ := y2.lw.di
      rw [z, q] at hl; cases hl
    generalize upd H2 l (.lst [V.str "back", V.str "forth", V.str "both", V.str "all", V.str "free"]) = H3 at y3 hl3
    refine roll_fm y3.lw.di y3.lw.tb (by decide) (by decide) fun r H4 q0 q1 e4 d4 => ?_
    have y4 := y3.roll nt nl e4 d4
    obtain ⟨rn, rfl⟩ : ∃ rn : Nat, r = (rn : Int) := ⟨r.toNat, by omega⟩
    obtain ⟨x, hx, hx2, hx3⟩ := rl_at (r := rn) (by omega)
    obtain ⟨k0, g0, t0⟩ := y4.lw.ru
    refine ⟨l, _, _, .str x, rfl, rfl, e4.at' hl3 nld, hx, _, rfl, _, rfl, a.ru, _, rfl, DPut.k (k := kS n) g0 (by have := t0.len; have h3 : nmL.length = 2 := rfl; omega), ?_⟩
    obtain ⟨k2, g2, t2⟩ := y4.rg.t2
    have n3 := y4.ns.2.2.1
    obtain ⟨dx, ob⟩ := y4.rg.ob
    have z1 : SD (DD a) (fun b => b = a.ru) H4 := fun b hb => by
      have hb : b = a.ru := hb
      subst hb
      exact .inl ⟨.inr (.inr (.inl rfl)), _, g0⟩
    have e5 : Fm T (fun b => b = a.ru) H4 (upd H4 a.ru (.dK (putK k0 (kS n) (.str x)))) := Fm.wr y4.lw.tb g0 (by intro _ z; cases z) (by intro _ z; cases z) rfl
    have rg5 := y4.rg.fm e5 z1 y4.ns.2.1.symm n3.symm fun n l ss q z => by
      obtain ⟨e, r, h1, _⟩ := y4.rg.head q
      rw [show l = a.ru from z, g0] at h1; cases h1
    have h5 : (upd H4 a.ru (.dK (putK k0 (kS n) (.str x)))) a.ru = some (.dK (putK k0 (kS n) (.str x))) := L2.upd_same
    obtain ⟨dx5, ob5⟩ := rg5.ob
    refine ⟨_, rfl, a.g, dx5, _, rfl, ob5, rfl, _, rfl, _, rfl, _, rfl, a.ru, .str x, rfl, ?_, ?_⟩
    · have z := DGet.k (k := kS n) h5
      rw [valV_put, if_pos rfl] at z
      exact z
    show spPut CS CC CG CR nmL [.ref a.g, .str n, .str x] _ _ _
    unfold spPut
    refine ⟨a.g, a.rs, a.rr, DD a, E, R, n, x, rfl, rg5, hcn, by decide, hx3, fun c => absurd hx2 c, fun _ H6 ⟨kv6, e6⟩ rg6 => ?_⟩
    subst e6
    have y6 := y4.rule (r := x) hcn g0 rg6
    generalize upd (upd H4 a.ru (.dK (putK k0 (kS n) (.str x)))) a.rr (.dK kv6) = H6 at y6
    refine ⟨_, rfl, _, rfl, a.ow, .ref (la n), rfl, ?_, _, rfl, _, rfl, a.ow, _, rfl, DPut.k (k := kS n) y6.lw.ow (by show 2 < sizeLine; decide), ?_⟩
    · have z := DGet.k (k := kS n) y6.lw.ow
      rw [valO hcn] at z
      exact z
    rw [putO_same hcn, upd_self y6.lw.ow]
    exact con H6 n _ hcn y6
  · refine ifF q ?_
    exact fin H2 n hcn y2
end
end KL0
set_option Elab.async false
set_option linter.all false
set_option maxRecDepth 100000
set_option maxHeartbeats 4000000
namespace KL0
open PySem PySem.Spec PyProof.Rows L2 KB KC KS KN1 LamX K7 FM GG
section
variable {CS CC CG : Addr} {T : List (Addr × Str)} {a : LA} {OO : HO} {la : Str → Addr} {E : Str → Option Ent} {R : Str → Option Str} {i : Nat} {H H' : Hp}
theorem IL.wasD (x : IL CS CC CG T a (.dK (kvO la)) la E R i H) : ∀ b, DD a b → WasD H b := by
  obtain ⟨k0, g0, _⟩ := x.lw.ru
  obtain ⟨k1, g1, _⟩ := x.rg.t1
  obtain ⟨k2, g2, _⟩ := x.rg.t2
  rintro b (rfl | rfl | rfl | rfl)
  · exact ⟨_, g1⟩
  · exact ⟨_, g2⟩
  · exact ⟨_, g0⟩
  · exact ⟨_, x.lw.ow⟩
theorem IL.adds (x : IL CS CC CG T a OO la E R i H) (nl : ∀ ys, OO ≠ .lst ys) (n : Str) : SW (DD a) (AddS a.rs E n) H ∧ ¬ AddS a.rs E n a.rp ∧ ¬ AddS a.rs E n a.ow ∧ ¬ AddS a.rs E n a.ru ∧ ¬ AddS a.rs E n a.d := by
  obtain ⟨u, v, k, qd⟩ := x.lw.di
  obtain ⟨k0, g0, _⟩ := x.lw.ru
  obtain ⟨k1, g1, _⟩ := x.rg.t1
  obtain ⟨n1, n2, n3, n4, n5⟩ := x.ns
  have hp := x.lw.rp
  have ho := x.lw.ow
  refine ⟨fun b hb => ?_, fun hb => ?_, fun hb => ?_, fun hb => ?_, fun hb => ?_⟩
  · rcases hb with rfl | ⟨ss, q⟩
    · exact .inl ⟨.inl rfl, _, g1⟩
    · obtain ⟨e, r, h1, _, C, dx, fs, h2⟩ := x.rg.head q
      refine .inr (.inr ⟨_, .ref e, h1, List.mem_cons_self, fun c ts z hc => ?_⟩)
      cases z
      rw [h2] at hc; cases hc
  · rcases hb with z | ⟨ss, q⟩
    · rw [z, g1] at hp; cases hp
    · obtain ⟨e, r, h1, _, C, dx, fs, h2⟩ := x.rg.head q
      rw [h1] at hp
      cases hp
      rw [h2] at qd; cases qd
  · rcases hb with z | ⟨ss, q⟩
    · exact n4 z
    · obtain ⟨e, r, h1, _⟩ := x.rg.head q
      rw [h1] at ho; exact nl _ (Option.some.inj ho).symm
  · rcases hb with z | ⟨ss, q⟩
    · exact n2 z
    · obtain ⟨e, r, h1, _⟩ := x.rg.head q
      rw [h1] at g0; cases g0
  · rcases hb with z | ⟨ss, q⟩
    · rw [z, g1] at qd; cases qd
    · obtain ⟨e, r, h1, _⟩ := x.rg.head q
      rw [h1] at qd; cases qd
theorem schs_put {n m : Str} {l : Addr} {ss : List (Addr × Sc)} : schs (putG E n (some (l, ss))) m = if m = n then ss else schs E m := by
  unfold schs
  by_cases c : m = n
  · rw [if_pos c, c, putG_same]
  · rw [if_neg c, putG_ne _ _ c]
theorem IL.own {E' : Str → Option Ent} (x : LwA T a (.dK (kvO la)) la (fun m => (schs E m).map (·.2)) R H) (rg : RegA CS CC CG (DD a) nmL a.g a.rs a.rr E' R H) (len : ∀ m, (schs E m).length ≤ i) (ns : a.ru ≠ a.ow ∧ a.ru ≠ a.rs ∧ a.ru ≠ a.rr ∧ a.ow ≠ a.rs ∧ a.ow ≠ a.rr) {n : Str} {z : Addr} {as : List Addr} {nw : List (Addr × Sc)} (hn : n ∈ nmL) (hz : H z = some (.lst (as.map V.ref))) (hs : LTds (DD a) H as ((schs E n ++ nw).map (·.2))) (hd : ∀ e ∈ nw, DrS e.2) (hl : nw.length ≤ 1) (hE : ∀ m, schs E' m = if m = n then schs E n ++ nw else schs E m) :
    IL CS CC CG T a (.dK (kvO fun m => if m = n then z else la m)) (fun m => if m = n then z else la m) E' R (i + 1) (upd H a.ow (.dK (kvO fun m => if m = n then z else la m))) := by
  have e1 : Fm T (fun b => b = a.ow) H (upd H a.ow (.dK (kvO fun m => if m = n then z else la m))) := Fm.wr x.tb x.ow (by intro _ z; cases z) (by intro _ z; cases z) rfl
  have z1 : SW (DD a) (fun b => b = a.ow) H := fun b hb => by
    have hb : b = a.ow := hb
    subst hb
    exact .inl ⟨.inr (.inr (.inr rfl)), _, x.ow⟩
  obtain ⟨u, v, k, qd⟩ := x.di
  obtain ⟨k0, g0, t0⟩ := x.ru
  obtain ⟨n1, n2, n3, n4, n5⟩ := ns
  have ho := x.ow
  refine ⟨⟨e1.1, ⟨u, v, k, e1.at' qd (fun z => by rw [z, ho] at qd; cases qd)⟩, e1.at' x.rp (fun z => by have q := x.rp; rw [z, ho] at q; cases q), L2.upd_same, fun m hm => ?_, ⟨k0, e1.at' g0 n1, t0⟩, fun m hm s hs' => ?_⟩, rg.fm e1 z1.sd n4.symm n5.symm (fun m l ss q z => ?_), fun m => ?_, ⟨n1, n2, n3, n4, n5⟩⟩
  · have hE := hE m
    by_cases c : m = n
    · rw [if_pos c] at hE
      refine ⟨as, ?_, ?_⟩
      · rw [if_pos c]; exact e1.at' hz (z1.nl hz hs.tup)
      · rw [hE]; exact hs.fm e1 z1
    · rw [if_neg c] at hE
      obtain ⟨bs, q1, q2⟩ := x.ls m hm
      refine ⟨bs, ?_, ?_⟩
      · rw [if_neg c]; exact e1.at' q1 (z1.nl q1 q2.tup)
      · rw [hE]; exact q2.fm e1 z1
  · rw [hE m] at hs'
    by_cases c : m = n
    · rw [if_pos c, List.map_append] at hs'
      rcases List.mem_append.mp hs' with hs' | hs'
      · exact x.dr n hn s hs'
      · obtain ⟨e, he, rfl⟩ := List.mem_map.mp hs'
        exact hd e he
    · rw [if_neg c] at hs'
      exact x.dr m hm s hs'
  · obtain ⟨e, r, h1, _⟩ := rg.head q
    rw [show l = a.ow from z, ho] at h1; cases h1
  · rw [hE m]
    have h1 := len m
    have h2 := len n
    split
    · rw [List.length_append]; omega
    · omega
end
theorem LTds.app {D : Addr → Prop} {H : Hp} {as : List Addr} {ss : List Sc} {q : Addr} {sc : Sc} (h : LTds D H as ss) (x : LTd D H q sc) : LTds D H (as ++ [q]) (ss ++ [sc]) := paired_app h (.cons x .nil)
end KL0
set_option Elab.async false
set_option linter.all false
set_option maxRecDepth 100000
set_option maxHeartbeats 4000000
namespace KL0
open PySem PySem.Spec PyProof.Rows L2 KB KC KS KN1 LamX K7 FM GG
theorem paired_last {α β : Type} : True := trivial
section
variable {P : Program} {w : World} {K : PySem.W.Frag} {mg : Str → Option Value} {base : Heap} {CS CC CG CR Pl cL fTo fL : Addr} {fdTo : FuncData} {T : List (Addr × Str)} {A : Around} {outer : List PySem.Env} {s : Shared} {H0 : Hp} {E0' : XK}
theorem mk_step {c dx cl dl : Addr} {ts : List Addr} {sc : Sc} {H1 : Hp} {Q : VK} {Xe : XK} {D : Addr → Prop} (nx : H1 c = none) (nd : H1 dx = none) (ne : c ≠ dx) (h2 : H1 cl = some (.lst (ts.map V.ref))) (h3 : Cols H1 ts sc.1) (h4 : H1 dl = some (.dK (kvL sc.2))) (ds : DrS sc) (tab : Tabs T H1) (hD : ∀ b, D b → WasD H1 b)
    (fin : ∀ H', Fm T N0 H1 H' → SchA CS CC D c sc H' → Q .non H') : spSch K CS CC CR T [.ref c, .ref cl, .ref dl] (upd (upd H1 dx (.own c)) c (.ins CC dx [])) Q Xe := by
  have e1 : KS.Ex H1 (upd (upd H1 dx (.own c)) c (.ins CC dx [])) := (Ex.upd nd).trans (Ex.upd (by rw [L2.upd_ne ne]; exact nx))
  have x1 : (upd (upd H1 dx (.own c)) c (.ins CC dx [])) c = some (.ins CC dx []) := L2.upd_same
  generalize upd (upd H1 dx (.own c)) c (.ins CC dx []) = H2 at e1 x1
  unfold spSch
  refine ⟨c, dx, cl, .ref dl, ts, sc.1, sc.2, rfl, x1, e1 _ _ h2, h3.ex e1, ?_, ⟨dl, rfl, .inl (e1 _ _ h4)⟩, ds.o, tab.ext e1, fun ng => absurd ds.g ng, fun _ H3 f3 sa => ?_⟩
  · have := ds.l
    omega
  · refine fin H3 (((Fm.ex tab e1).trans f3).shrink fun b hb => .inr (by rw [show b = c from hb]; exact nx)) (sa.mono fun b hb => ?_)
    obtain ⟨kvs, q⟩ := hD b hb
    exact ⟨kvs, e1 _ _ q⟩
theorem g_fresh (ve : LawE P w K mg base CS CC CG CR Pl cL fTo fdTo T) (hr : Room 9 (xLaw P w K mg base fL cL A outer s H0 E0').A) :
    ∃ t2 t3 t4, L2.PS (xLaw P w K mg base fL cL A outer s H0 E0') (dS 2) t2 ∧ L2.PS (xLaw P w K mg base fL cL A outer s H0 E0') (dS 3) t3 ∧ L2.PS (xLaw P w K mg base fL cL A outer s H0 E0') (dS 4) t4 ∧
      ∀ (D : Ends) (H : Hp) (a : LA) (la : Str → Addr) (E : Str → Option Ent) (R : Str → Option Str) (i : Nat) (n : Str) (tr : TS) (a0 a5 a7 a8 a9 a10 a11 a12 a13 a14 a15 a16 a17 a18 a19 a20 a21 a22 a23 : Option V), IL CS CC CG T a (.dK (kvO la)) la E R i H → n ∈ nmL → i ≤ 80 →
      (∀ (H' : Hp) (q c : Addr) (sc : Sc), IL CS CC CG T a (.dK (kvO la)) la E R i H' → LTd (DD a) H' q sc → DrS sc → SchA CS CC (DD a) c sc H' → tr D [a0, some (.ref a.d), some (.ref a.g), some (.ref a.ru), some (.ref a.ow), a5, some (.str n), some (.ref q), some (.ref c), some (.bl (fitsP (ruleOf R n) ((schs E n).map (·.2)) sc)), a10, a11, a12, a13, a14, a15, a16, a17, a18, a19, a20, a21, a22, a23] H') →
      tSeq t2 (tSeq t3 (tSeq t4 tr)) D [a0, some (.ref a.d), some (.ref a.g), some (.ref a.ru), some (.ref a.ow), a5, some (.str n), a7, a8, a9, a10, a11, a12, a13, a14, a15, a16, a17, a18, a19, a20, a21, a22, a23] H := by
  obtain ⟨fD, fdD, GD, gD, kD, bD⟩ := ve.lsch
  obtain ⟨fF, fdF, GF, gF, kF, bF⟩ := ve.lfits
  obtain ⟨fS, fdS, e0, u0, GS, MS, bS, _, _, _⟩ := ve.sch
  have hu := hr.units
  have hu1 := Nat.lt_trans (Nat.add_lt_add_left (by decide : 1 < 64) _) hu
  have hz0 : sizeLine = 16777216 := rfl
  refine ⟨_, _, _, ps_set (i := 7) scLaw.nd rfl (Or.inl rfl) (pe_call GD (hr.mono (by decide)) (by rfl) gD kD bD .nil pass0 (pa_cons (pv 1) pa_nil)),
    ps_set (i := 8) scLaw.nd rfl (Or.inr rfl) (pe_make (CX := L2.CX P w) MS GS (hr.mono (by decide)) (by rfl) ve.C.g bS (E := fun _ _ _ => False) .nil (passes_call L2.takes0 (fun _ _ _ _ h => h)) (pa_cons (pe_ix ix_tup (pv 7) pe_int (fun _ _ => rfl)) (pa_cons (pe_ix ix_tup (pv 7) pe_int (fun _ _ => rfl)) pa_nil))),
    ps_set (i := 9) scLaw.nd rfl (Or.inl rfl) (pe_call GF (hr.mono (by decide)) (by rfl) gF kF bF .nil pass0 (pa_cons (pe_dget2 hu1 (pv 3) (pv 6) pe_str ⟨rfl, rfl, rfl, rfl⟩) (pa_cons (pe_dget hu1 (pv 4) (pv 6) (fun _ _ => rfl)) (pa_cons (pv 7) pa_nil)))), ?_⟩
  intro D H a la E R i n tr a0 a5 a7 a8 a9 a10 a11 a12 a13 a14 a15 a16 a17 a18 a19 a20 a21 a22 a23 y hn hi fin
  have nt : ∀ ps, HO.dK (kvO la) ≠ .tbl ps := fun _ z => nomatch z
  have nl : ∀ ys, HO.dK (kvO la) ≠ .lst ys := fun _ z => nomatch z
  refine ⟨_, rfl, ?_⟩
  show spLSch T [.ref a.d] H _ _
  unfold spLSch
  refine ⟨a.d, rfl, y.lw.di, y.lw.tb, fun H1 q cl dl ts cols lk f1 d1 hq hc cs hd ds nw => ?_⟩
  have wd := y.wasD
  have y1 := y.roll nt nl f1 d1
  have ltd : LTd (DD a) H1 q (cols, lk) := ⟨cl, dl, ts, hq, hc, cs, hd, fun z => nw (wd _ z)⟩
  show tSeq _ _ _ [a0, some (.ref a.d), some (.ref a.g), some (.ref a.ru), some (.ref a.ow), a5, some (.str n), some (.ref q), a8, a9, a10, a11, a12, a13, a14, a15, a16, a17, a18, a19, a20, a21, a22, a23] H1
  refine ⟨_, rfl, q, _, _, _, rfl, rfl, SqT.of hq, rfl, _, rfl, q, _, _, _, rfl, rfl, SqT.of hq, rfl, fun c dx nx nd ne => ?_⟩
  refine mk_step (sc := (cols, lk)) (D := DD a) nx nd ne.symm hc cs hd ds y1.lw.tb y1.wasD fun H2 f2 sa => ⟨rfl, ?_⟩
  have y2 := y1.fm0 f2 nt
  have ltd2 := ltd.fm f2 SW.of0
  show tSeq _ _ _ [a0, some (.ref a.d), some (.ref a.g), some (.ref a.ru), some (.ref a.ow), a5, some (.str n), some (.ref q), some (.ref c), a9, a10, a11, a12, a13, a14, a15, a16, a17, a18, a19, a20, a21, a22, a23] H2
  obtain ⟨k0, g0, t0⟩ := y2.lw.ru
  obtain ⟨as, hl, hs⟩ := y2.lw.ls n hn
  refine ⟨_, rfl, a.ru, rfl, .inl ⟨_, .inl g0⟩, _, rfl, _, DGet.k (k := kS n) g0, ?_⟩
  have hrl : (valV k0 (kS n)).getD (.str "back") = .str (ruleOf R n) := by
    unfold ruleOf
    rcases t0.at_ n with ⟨q1, q2⟩ | ⟨r, v, q1, q2, q3⟩
    · rw [q1, q2]; rfl
    · have q3 : v = .str r := q3
      rw [q1, q2, q3]; rfl
  rw [hrl]
  refine ⟨_, rfl, _, rfl, a.ow, .ref (la n), rfl, ?_, _, rfl, ?_⟩
  · have z := DGet.k (k := kS n) y2.lw.ow
    rw [valO hn] at z
    exact z
  refine lfits_step hl hs.lts ltd2.lt (fun s hs' => (y2.lw.dr n hn s hs').g.1) ds.g.1 (by rw [List.length_map]; have := y2.len n; omega) fun H3 e3 => ?_
  exact fin H3 q c (cols, lk) (y2.ex e3 nt) (ltd2.fm (Fm.ex y2.lw.tb e3) SW.of0) ds (sa.fm0 (Fm.ex y2.lw.tb e3))
end
end KL0
set_option Elab.async false
set_option linter.all false
set_option maxRecDepth 100000
set_option maxHeartbeats 4000000
namespace KL0
open PySem PySem.Spec PyProof.Rows L2 KB KC KS KN1 LamX K7 FM GG
def rInt1 : List V → Hp → VK → Prop := fun xs H Q => (∃ i, xs = [.int i] ∧ Q (.int i) H) ∨ ∃ k, xs = [.bl k] ∧ Q (.int (if k then 1 else 0)) H
theorem nm_len {n : Str} (h : n ∈ nmL) : n.length ≤ 900 := by
  rcases nm_cases h with rfl | rfl <;> decide
section
variable {P : Program} {w : World} {K : PySem.W.Frag} {mg : Str → Option Value} {base : Heap} {CS CC CG CR Pl cL fTo fL : Addr} {fdTo : FuncData} {T : List (Addr × Str)} {A : Around} {outer : List PySem.Env} {s : Shared} {H0 : Hp} {E0' : XK}
theorem g_add (ve : LawE P w K mg base CS CC CG CR Pl cL fTo fdTo T) (hr : Room 9 (xLaw P w K mg base fL cL A outer s H0 E0').A) :
    ∃ t5 t6, L2.PS (xLaw P w K mg base fL cL A outer s H0 E0') (dS 5) t5 ∧ L2.PS (xLaw P w K mg base fL cL A outer s H0 E0') (dS 6) t6 ∧
      ∀ (D : Ends) (H : Hp) (a : LA) (la : Str → Addr) (E : Str → Option Ent) (R : Str → Option Str) (i : Nat) (n : Str) (q c : Addr) (sc : Sc) (a0 a5 a10 a11 a12 a13 a14 a15 a16 a17 a18 a19 a20 a21 a22 a23 : Option V), IL CS CC CG T a (.dK (kvO la)) la E R i H → n ∈ nmL → i ≤ 80 → LTd (DD a) H q sc → DrS sc → SchA CS CC (DD a) c sc H →
      (∀ (H' : Hp) (la' : Str → Addr) (E' : Str → Option Ent), IL CS CC CG T a (.dK (kvO la')) la' E' R (i + 1) H' → D.nx [a0, some (.ref a.d), some (.ref a.g), some (.ref a.ru), some (.ref a.ow), a5, some (.str n), some (.ref q), some (.ref c), some (.bl (fitsP (ruleOf R n) ((schs E n).map (·.2)) sc)), a10, a11, a12, a13, a14, a15, a16, a17, a18, a19, a20, a21, a22, a23] H') →
      tSeq t5 t6 D [a0, some (.ref a.d), some (.ref a.g), some (.ref a.ru), some (.ref a.ow), a5, some (.str n), some (.ref q), some (.ref c), some (.bl (fitsP (ruleOf R n) ((schs E n).map (·.2)) sc)), a10, a11, a12, a13, a14, a15, a16, a17, a18, a19, a20, a21, a22, a23] H := by
  obtain ⟨fA, fdA, GA, mA, bA⟩ := ve.add nmL
  obtain ⟨fF, fdF, GF, mF, bF⟩ := ve.fits nmL
  obtain ⟨oc, od, dV, kVs, doc, pm, an, cdv, ct, osl, rfl, lk, hcd, _, _⟩ := ve.told.ex
  have bTo := ve.told.bindsN (ps := ["what"]) fun _ _ _ _ _ _ us hl => match us, hl with | [_], _ => rfl
  have hu := hr.units
  have hu1 := Nat.lt_trans (Nat.add_lt_add_left (by decide : 1 < 64) _) hu
  have hz0 : sizeLine = 16777216 := rfl
  refine ⟨_, _, ps_if (PW.pt (pw_or (pt_cmpR op_ne (pe_meth (pv 2) ve.G.cl mF GF (hr.mono (by decide)) bF .nil pass0 (pa_cons (pv 6) (pa_cons (pv 8) pa_nil))) (pv 9) (nomark _))
      (pw_or1 (pt_cmpR op_ne (pe_lamcall (T := T) (P := Pl) (c := cL) (k := 7) (t := fun E => tMeth CG "add" (spAdd CS CC CG CR nmL T) [] E (tVar 2) (tCons (tVar 6) (tCons (tVar 8) tNil))) (by rfl) ve.gTold ve.told.kp lk hcd bTo (Ng := ["what"]) (sg := defScope sTold) ⟨rfl, rfl, rfl, by decide +kernel, rfl, by decide +kernel, by decide +kernel⟩ rfl (Or.inl rfl)
        (told_gives (by rfl) ve.J.g (by decide +kernel) (fun f => rfl)) ve.TB rfl (mem_Pl ve.ml) (only_Pl ve.u ve.ml) hr (lamS_by (by show lamSB (defScope sLaw) _ = true; decide +kernel)) rfl (fun _ _ _ _ _ => rfl)
        (fun A outer s H E f c' hr' => pe_meth (pv 2) ve.G.cl mA GA (hr'.mono (by decide)) bA .nil (passes_call (takes_of rfl rfl rfl rfl) (fun _ _ _ _ h => h)) (pa_cons (pv 6) (pa_cons (pv 8) pa_nil))))
      (pe_ifExp (pt_val (pv 9)) (pe_callB call_len_seq (by rfl) ve.X.len PySem.boot_len (pa_cons (pe_dget hu1 (pv 4) (pv 6) (fun _ _ => rfl)) pa_nil)) pe_str) (nomark _))))) (pss_one (ps_ret pe_bl)) pss_nil,
    ps_dput hu1 (pv 4) (pv 6) (pe_op op_cat (pe_dget hu1 (pv 4) (pv 6) (fun _ _ => rfl)) (pe_op op_rep (pe_lst (pa_cons (pv 7) pa_nil)) (pe_callTy call_int1 (by rfl) ve.X.int (by decide +kernel) (pa_cons (pv 9) pa_nil)))) rfl, ?_⟩
  intro D H a la E R i n q c sc a0 a5 a10 a11 a12 a13 a14 a15 a16 a17 a18 a19 a20 a21 a22 a23 y hn hi ltd ds sa fin
  have nt : ∀ ps, HO.dK (kvO la) ≠ .tbl ps := fun _ z => nomatch z
  have nl : ∀ ys, HO.dK (kvO la) ≠ .lst ys := fun _ z => nomatch z
  obtain ⟨dx, ob⟩ := y.rg.ob
  have own : ∀ {H' : Hp}, H' a.ow = some (.dK (kvO la)) → DGet H' a.ow (kV (kS n)) (some (.ref (la n))) := fun {H'} h => by
    have z := DGet.k (k := kS n) h
    rw [valO hn] at z
    exact z
  refine ⟨_, rfl, a.g, dx, _, rfl, ob, rfl, _, rfl, _, rfl, fits_step y.rg sa ds.g y.lw.tb fun H1 f1 => ⟨_, rfl, rfl, _, rfl, ifF (by simp) ?_⟩⟩
  have y1 := y.fm0 f1 nt
  have sa1 := sa.fm0 f1
  have ltd1 := ltd.fm f1 SW.of0
  refine ⟨y1.lw.tb, fun H2 e2 t2 => ?_⟩
  have f2 : Fm T N0 H1 H2 := Fm.exN e2 t2
  have y2 := y1.fm0 f2 nt
  have sa2 := sa1.fm0 f2
  have ltd2 := ltd1.fm f2 SW.of0
  obtain ⟨dx2, ob2⟩ := y2.rg.ob
  have rest : ∀ (F : Bool) (H3 : Hp) (E' : Str → Option Ent) (nw : List (Addr × Sc)), LwA T a (.dK (kvO la)) la (fun m => (schs E m).map (·.2)) R H3 → RegA CS CC CG (DD a) nmL a.g a.rs a.rr E' R H3 → LTd (DD a) H3 q sc → ((F = true ∧ ∃ e, nw = [e] ∧ e.2 = sc) ∨ (F = false ∧ nw = [])) → (∀ m, schs E' m = if m = n then schs E n ++ nw else schs E m) → F = fitsP (ruleOf R n) ((schs E n).map (·.2)) sc →
      sDPut (tVar 4) (tVar 6) (tOp rCat (tDGet (tVar 4) (tVar 6)) (tOp rRep (tLst (tCons (tVar 7) tNil)) (tCB rInt1 (tCons (tVar 9) tNil)))) D [a0, some (.ref a.d), some (.ref a.g), some (.ref a.ru), some (.ref a.ow), a5, some (.str n), some (.ref q), some (.ref c), some (.bl (fitsP (ruleOf R n) ((schs E n).map (·.2)) sc)), a10, a11, a12, a13, a14, a15, a16, a17, a18, a19, a20, a21, a22, a23] H3 := by
    intro F H3 E' nw lw rg lt3 hnw hE hF
    obtain ⟨as, hl, hs⟩ := lw.ls n hn
    refine ⟨_, rfl, _, rfl, a.ow, .ref (la n), rfl, own lw.ow, _, rfl, (by show 1 ≤ sizeLine; decide), fun l0 hl0 => ⟨_, rfl, ?_⟩⟩
    have ex0 : KS.Ex H3 (upd H3 l0 (.lst [V.ref q])) := Ex.upd hl0
    have h0 : (upd H3 l0 (.lst [V.ref q])) l0 = some (.lst [V.ref q]) := L2.upd_same
    generalize upd H3 l0 (.lst [V.ref q]) = H4 at ex0 h0
    have lw4 := lw.fm (Fm.ex (S := N0) lw.tb ex0) SW.of0 nt (dice0 lw.di (Fm.ex (S := N0) lw.tb ex0)) id id id
    have rg4 := rg.fm0 (Fm.ex (T := T) lw.tb ex0)
    have lt4 := lt3.fm (Fm.ex (S := N0) lw.tb ex0) SW.of0
    have hl4 := ex0 _ _ hl
    have hs4 := hs.fm (Fm.ex (S := N0) lw.tb ex0) SW.of0
    have las := paired_len hs
    rw [List.length_map] at las
    have l80 := y.len n
    refine .inr ⟨_, rfl, ?_⟩
    have go : ∀ (k : Int) (qs : List Addr), (List.replicate k.toNat [V.ref q]).flatten = qs.map V.ref → 0 ≤ k → k ≤ 1 → qs.length ≤ 1 → LTds (DD a) H4 (as ++ qs) ((schs E n ++ nw).map (·.2)) → (∀ e ∈ nw, DrS e.2) → nw.length ≤ 1 →
        rRep (.ref l0) (.int k) H4 (fun v H' => rCat (.ref (la n)) v H' fun v' H'' => ∃ y, ([a0, some (.ref a.d), some (.ref a.g), some (.ref a.ru), some (.ref a.ow), a5, some (.str n), some (.ref q), some (.ref c), some (.bl (fitsP (ruleOf R n) ((schs E n).map (·.2)) sc)), a10, a11, a12, a13, a14, a15, a16, a17, a18, a19, a20, a21, a22, a23] : L2.St)[4]? = some (some y) ∧ ∃ z, ([a0, some (.ref a.d), some (.ref a.g), some (.ref a.ru), some (.ref a.ow), a5, some (.str n), some (.ref q), some (.ref c), some (.bl (fitsP (ruleOf R n) ((schs E n).map (·.2)) sc)), a10, a11, a12, a13, a14, a15, a16, a17, a18, a19, a20, a21, a22, a23] : L2.St)[6]? = some (some z) ∧ ∃ b H3, y = .ref b ∧ DPut H'' b z v' H3 ∧ D.nx [a0, some (.ref a.d), some (.ref a.g), some (.ref a.ru), some (.ref a.ow), a5, some (.str n), some (.ref q), some (.ref c), some (.bl (fitsP (ruleOf R n) ((schs E n).map (·.2)) sc)), a10, a11, a12, a13, a14, a15, a16, a17, a18, a19, a20, a21, a22, a23] H3) := by
      intro k qs hk k0 k1 lqs hls hdr hnl
      refine ⟨l0, _, _, rfl, rfl, h0, by omega, by omega, by show 1 * k.toNat ≤ _; omega, fun l1 hl1 => ?_⟩
      rw [hk]
      have ex1 : KS.Ex H4 (upd H4 l1 (.lst (qs.map V.ref))) := Ex.upd hl1
      have h1 : (upd H4 l1 (.lst (qs.map V.ref))) l1 = some (.lst (qs.map V.ref)) := L2.upd_same
      generalize upd H4 l1 (.lst (qs.map V.ref)) = H5 at ex1 h1
      refine ⟨la n, l1, _, _, rfl, rfl, ex1 _ _ hl4, h1, by rw [List.length_map, List.length_map]; omega, fun z hz => ?_⟩
      rw [← List.map_append]
      have ex2 : KS.Ex H4 (upd H5 z (.lst ((as ++ qs).map V.ref))) := ex1.trans (Ex.upd hz)
      have h2 : (upd H5 z (.lst ((as ++ qs).map V.ref))) z = some (.lst ((as ++ qs).map V.ref)) := L2.upd_same
      generalize upd H5 z (.lst ((as ++ qs).map V.ref)) = H6 at ex2 h2
      have lw6 := lw4.fm (Fm.ex (S := N0) lw4.tb ex2) SW.of0 nt (dice0 lw4.di (Fm.ex (S := N0) lw4.tb ex2)) id id id
      have rg6 := rg4.fm0 (Fm.ex (T := T) lw4.tb ex2)
      refine ⟨_, rfl, _, rfl, a.ow, _, rfl, DPut.k (k := kS n) lw6.ow (by show 2 < sizeLine; decide), ?_⟩
      rw [putO hn z]
      exact fin _ _ E' (IL.own lw6 rg6 y.len y.ns hn h2 (hls.fm (Fm.ex (S := N0) lw4.tb ex2) SW.of0) hdr hnl hE)
    rcases hnw with ⟨hF1, e, rfl, he⟩ | ⟨hF0, rfl⟩
    · have h1 : (if fitsP (ruleOf R n) ((schs E n).map (·.2)) sc = true then (1 : Int) else 0) = 1 := by rw [← hF, hF1]; rfl
      rw [h1]
      refine go 1 [q] rfl (by decide) (by decide) (Nat.le_refl 1) ?_ (fun e' he' => ?_) (Nat.le_refl 1)
      · rw [List.map_append, List.map_singleton, he]
        exact hs4.app lt4
      · rw [List.mem_singleton.mp he', he]; exact ds
    · have h1 : (if fitsP (ruleOf R n) ((schs E n).map (·.2)) sc = true then (1 : Int) else 0) = 0 := by rw [← hF, hF0]; rfl
      rw [h1]
      refine go 0 [] rfl (by decide) (by decide) (by decide) ?_ (fun e' he' => nomatch he') (by decide)
      rw [List.append_nil, List.append_nil]
      exact hs4
  refine ⟨_, rfl, a.g, dx2, _, rfl, ob2, rfl, _, rfl, _, rfl, ?_⟩
  show spAdd CS CC CG CR nmL T [.ref a.g, .str n, .ref c] H2 _ _
  unfold spAdd
  have l80 := y.len n
  refine ⟨a.g, a.rs, a.rr, c, DD a, E, R, n, sc, rfl, y2.rg, sa2, ds.g, hn, by decide, nm_len hn, by omega, y2.lw.tb, fun hF H3 f3 => ⟨true, ve.J.e, fun _ => ?_, fun z => nomatch z⟩, fun hF H3 l f3 hl rg3 => ?_⟩
  · refine ⟨_, rfl, _, rfl, ifF (by rw [hF]; simp) ⟨rfl, _, rfl, ifF (by simp) ?_⟩⟩
    have y3 := y2.fm0 f3 nt
    exact rest false H3 E [] y3.lw y3.rg (ltd2.fm f3 SW.of0) (.inr ⟨rfl, rfl⟩) (fun m => by rw [List.append_nil]; split <;> simp_all) hF.symm
  · obtain ⟨z1, z2, z3, z4, z5⟩ := y2.adds nl n
    obtain ⟨u, v, k, qd⟩ := y2.lw.di
    have lw3 := y2.lw.fm f3 z1 nt ⟨u, v, k, f3.at' qd z5⟩ z2 z3 z4
    obtain ⟨as, hl3, hs3⟩ := lw3.ls n hn
    have las := paired_len hs3
    rw [List.length_map] at las
    refine ⟨_, rfl, _, rfl, ifT hF ⟨_, rfl, _, rfl, a.ow, .ref (la n), rfl, own lw3.ow, la n, _, rfl, .inl (SqL.of hl3), rfl, _, rfl, ifF (by rw [List.length_map, las]; simp) ?_⟩⟩
    exact rest true H3 _ [(c, sc)] lw3 rg3 (ltd2.fm f3 z1) (.inl ⟨rfl, _, rfl, rfl⟩) (fun m => schs_put) hF.symm
end
end KL0
set_option Elab.async false
set_option linter.all false
set_option maxRecDepth 100000
set_option maxHeartbeats 4000000
namespace KL0
open PySem PySem.Spec PyProof.Rows L2 KB KC KS KN1 LamX K7 FM GG
theorem none_ex0 {H H' : Hp} {b : Addr} (e : KS.Ex H H') (h : H' b = none) : H b = none := by
  cases q : H b with
  | none => rfl
  | some u => rw [e _ _ q] at h; cases h
def laO (lp lq : Addr) : Str → Addr := fun m => if m = "p" then lp else lq
theorem kvO_la {lp lq : Addr} : mergeK [] [(kS "p", .ref lp), (kS "q", .ref lq)] = kvO (laO lp lq) := rfl
def Sg (a : LA) (σ : L2.St) : Prop := ∃ a0 a5 a6 a7 a8 a9 a10 a11 a12 a13 a14 a15 a16 a17 a18 a19 a20 a21 a22 a23 : Option V, σ = [a0, some (.ref a.d), some (.ref a.g), some (.ref a.ru), some (.ref a.ow), a5, a6, a7, a8, a9, a10, a11, a12, a13, a14, a15, a16, a17, a18, a19, a20, a21, a22, a23]
section
variable {P : Program} {w : World} {K : PySem.W.Frag} {mg : Str → Option Value} {base : Heap} {CS CC CG CR Pl cL fTo fL : Addr} {fdTo : FuncData} {T : List (Addr × Str)} {A : Around} {outer : List PySem.Env} {s : Shared} {H0 : Hp} {E0' : XK}
theorem reg_step {g dx : Addr} {H : Hp} {Q : VK} {Xe : XK} {nm : List Str} (ng : H g = none) (nd : H dx = none) (ne : g ≠ dx) (fin : ∀ H' rs rr, KS.Ex H H' → (∀ D : Addr → Prop, D rs → D rr → RegA CS CC CG D nm g rs rr (fun _ => none) (fun _ => none) H') → Q .non H') : spGInit CS CC CG nm [.ref g] (upd (upd H dx (.own g)) g (.ins CG dx [])) Q Xe := by
  have e1 : KS.Ex H (upd (upd H dx (.own g)) g (.ins CG dx [])) := (Ex.upd nd).trans (Ex.upd (by rw [L2.upd_ne ne]; exact ng))
  have g1 : (upd (upd H dx (.own g)) g (.ins CG dx [])) g = some (.ins CG dx []) := L2.upd_same
  generalize upd (upd H dx (.own g)) g (.ins CG dx []) = H1 at e1 g1
  unfold spGInit
  exact ⟨g, dx, rfl, g1, fun H' rs rr kp n1 n2 rg => fin H' rs rr (fun b o h => kp b o (ne_of_none h ng) (e1 b o h)) rg⟩
theorem g_open (ve : LawE P w K mg base CS CC CG CR Pl cL fTo fdTo T) (hr : Room 9 (xLaw P w K mg base fL cL A outer s H0 E0').A) :
    ∃ t0, L2.PS (xLaw P w K mg base fL cL A outer s H0 E0') (lS 0) t0 ∧
      ∀ (D : Ends) (H : Hp) (d rp : Addr) (a0 a2 a3 a4 a5 a6 a7 a8 a9 a10 a11 a12 a13 a14 a15 a16 a17 a18 a19 a20 a21 a22 a23 : Option V), Tabs T H → IsDice H d → H rp = some (.lst [.ref d]) →
      (∀ (H' : Hp) (a : LA) (la : Str → Addr), a.d = d → a.rp = rp → IL CS CC CG T a (.dK (kvO la)) la (fun _ => none) (fun _ => none) 0 H' → D.nx [a0, some (.ref a.d), some (.ref a.g), some (.ref a.ru), some (.ref a.ow), a5, a6, a7, a8, a9, a10, a11, a12, a13, a14, a15, a16, a17, a18, a19, a20, a21, a22, a23] H') →
      t0 D [a0, some (.ref d), a2, a3, a4, a5, a6, a7, a8, a9, a10, a11, a12, a13, a14, a15, a16, a17, a18, a19, a20, a21, a22, a23] H := by
  obtain ⟨fG, fdG, GG', MG, bG⟩ := ve.ginit nmL
  refine ⟨_, ps_asg (pe_tup (pa_cons (pe_make0 MG GG' (hr.mono (by decide)) (by rfl) ve.G.g bG .nil pass0) (pa_cons pe_dnewK (pa_cons (pe_disp (pps_cons pe_str (pe_lst pa_nil) (pps_cons pe_str (pe_lst pa_nil) pps_nil)) rfl rfl (by simp) (by decide)) pa_nil))))
    (pg_tup rfl (pgs_cons (pg_name (i := 2) scLaw.nd rfl (Or.inr rfl)) (pgs_cons (pg_name (i := 3) scLaw.nd rfl (Or.inl rfl)) (pgs_cons (pg_name (i := 4) scLaw.nd rfl (Or.inl rfl)) pgs_nil)))), ?_⟩
  intro D H d rp a0 a2 a3 a4 a5 a6 a7 a8 a9 a10 a11 a12 a13 a14 a15 a16 a17 a18 a19 a20 a21 a22 a23 tb di hrp fin
  refine fun g dx ng nd ne => ?_
  show spGInit CS CC CG nmL [.ref g] _ _ _
  refine reg_step ng nd ne.symm fun H2 rs rr e2 rg => ⟨rfl, ?_⟩
  have rgT := rg (fun _ => True) trivial trivial
  obtain ⟨k1, g1, _⟩ := rgT.t1
  obtain ⟨k2, g2, _⟩ := rgT.t2
  refine fun ru hru => ?_
  have e3 : KS.Ex H2 (upd H2 ru (.dK [])) := Ex.upd hru
  have h3 : (upd H2 ru (.dK [])) ru = some (.dK []) := L2.upd_same
  have n1 : ru ≠ rs := (ne_of_none g1 hru).symm
  have n2 : ru ≠ rr := (ne_of_none g2 hru).symm
  generalize upd H2 ru (.dK []) = H3 at e3 h3
  refine fun ow how => ?_
  have n3 : ru ≠ ow := ne_of_none h3 how
  have n4 : ow ≠ rs := (ne_of_none (e3 _ _ g1) how).symm
  have n5 : ow ≠ rr := (ne_of_none (e3 _ _ g2) how).symm
  have e4 : KS.Ex H3 (upd H3 ow (.dK [])) := Ex.upd how
  have h4 : (upd H3 ow (.dK [])) ow = some (.dK []) := L2.upd_same
  generalize upd H3 ow (.dK []) = H4 at e4 h4
  refine ⟨(by decide), fun lp hlp => ?_⟩
  have e5 : KS.Ex H4 (upd H4 lp (.lst [])) := Ex.upd hlp
  have h5 : (upd H4 lp (.lst [])) lp = some (.lst []) := L2.upd_same
  generalize upd H4 lp (.lst []) = H5 at e5 h5
  refine ⟨(by decide), fun lq hlq => ?_⟩
  have e6 : KS.Ex H5 (upd H5 lq (.lst [])) := Ex.upd hlq
  have h6 : (upd H5 lq (.lst [])) lq = some (.lst []) := L2.upd_same
  generalize upd H5 lq (.lst []) = H6 at e6 h6
  refine ⟨e6 _ _ (e5 _ _ h4), [(kS "p", .ref lp), (kS "q", .ref lq)], rfl, (by show 2 ≤ 15; decide), ?_⟩
  rw [kvO_la]
  have e36 := (e4.trans e5).trans e6
  have e37 : KS.Ex H3 (upd H6 ow (.dK (kvO (laO lp lq)))) := Ex.on e36 how
  have h7 : (upd H6 ow (.dK (kvO (laO lp lq)))) ow = some (.dK (kvO (laO lp lq))) := L2.upd_same
  have hp7 : (upd H6 ow (.dK (kvO (laO lp lq)))) lp = some (.lst []) := by
    rw [L2.upd_ne (fun z => by rw [z, e5 _ _ h4] at h5; cases h5)]; exact e6 _ _ h5
  have hq7 : (upd H6 ow (.dK (kvO (laO lp lq)))) lq = some (.lst []) := by
    rw [L2.upd_ne (fun z => by rw [z, e6 _ _ (e5 _ _ h4)] at h6; cases h6)]; exact h6
  generalize upd H6 ow (.dK (kvO (laO lp lq))) = H7 at e37 h7 hp7 hq7
  refine ⟨(by show 3 ≤ sizeLine; decide), fun z hz => ⟨z, _, rfl, SqT.of L2.upd_same, rfl, _, _, rfl, _, _, rfl, _, _, rfl, rfl, ?_⟩⟩
  have e8 : KS.Ex H7 (upd H7 z (.tup [.ref g, .ref ru, .ref ow])) := Ex.upd hz
  have eH := e3.trans (e37.trans e8)
  have eA := e2.trans eH
  refine fin _ ⟨d, g, rs, rr, ru, ow, rp⟩ (laO lp lq) rfl rfl ⟨⟨tb.ext eA, di.ex' eA, eA _ _ hrp, e8 _ _ h7, fun n hn => ⟨[], ?_, .nil⟩, ⟨[], (e37.trans e8) _ _ h3, Tab.nil⟩, fun n _ s h => nomatch h⟩, (rg _ (.inl rfl) (.inr (.inl rfl))).fm0 (Fm.ex (T := T) (tb.ext e2) eH), fun _ => Nat.le_refl _, n3, n1, n2, n4, n5⟩
  rcases nm_cases hn with rfl | rfl
  · exact e8 _ _ hp7
  · exact e8 _ _ hq7
theorem IL.more {a : LA} {OO : HO} {la : Str → Addr} {E : Str → Option Ent} {R : Str → Option Str} {i : Nat} {H : Hp} (x : IL CS CC CG T a OO la E R i H) : IL CS CC CG T a OO la E R (i + 1) H := ⟨x.lw, x.rg, fun n => Nat.le_succ_of_le (x.len n), x.ns⟩
theorem g_deed (ve : LawE P w K mg base CS CC CG CR Pl cL fTo fdTo T) (hr : Room 9 (xLaw P w K mg base fL cL A outer s H0 E0').A) :
    ∃ t, L2.PSs (xLaw P w K mg base fL cL A outer s H0 E0') dBody t ∧
      ∀ (D : Ends) (σ : L2.St) (H : Hp) (a : LA) (la : Str → Addr) (E : Str → Option Ent) (R : Str → Option Str) (i : Nat), Sg a σ → IL CS CC CG T a (.dK (kvO la)) la E R i H → i ≤ 80 →
      (∀ (σ' : L2.St) (H' : Hp) (la' : Str → Addr) (E' : Str → Option Ent) (R' : Str → Option Str), Sg a σ' → IL CS CC CG T a (.dK (kvO la')) la' E' R' (i + 1) H' → D.nx σ' H' ∧ D.ct σ' H') →
      t D σ H := by
  obtain ⟨t0, t1, T0, T1, h0⟩ := g_rule (fL := fL) (A := A) (outer := outer) (s := s) (H0 := H0) (E0' := E0') ve hr
  obtain ⟨t2, t3, t4, T2, T3, T4, h2⟩ := g_fresh (fL := fL) (A := A) (outer := outer) (s := s) (H0 := H0) (E0' := E0') ve hr
  obtain ⟨t5, t6, T5, T6, h5⟩ := g_add (fL := fL) (A := A) (outer := outer) (s := s) (H0 := H0) (E0' := E0') ve hr
  refine ⟨_, pss_cons T0 (pss_cons T1 (pss_cons T2 (pss_cons T3 (pss_cons T4 (pss_cons T5 (pss_one T6)))))), ?_⟩
  rintro D σ H a la E R i ⟨a0, a5, a6, a7, a8, a9, a10, a11, a12, a13, a14, a15, a16, a17, a18, a19, a20, a21, a22, a23, rfl⟩ y hi fin
  refine h0 D H a la E R i _ _ _ _ _ _ _ _ _ _ _ _ _ _ _ _ _ _ _ _ _ y (fun H1 n R' hn y1 => ?_) fun H1 n hn y1 => ?_
  · exact (fin _ H1 la E R' ⟨_, _, _, _, _, _, _, _, _, _, _, _, _, _, _, _, _, _, _, _, rfl⟩ y1.more).2
  refine h2 D H1 a la E R i n _ _ _ _ _ _ _ _ _ _ _ _ _ _ _ _ _ _ _ _ y1 hn hi fun H2 q c sc y2 lt2 ds sa => ?_
  refine h5 D H2 a la E R i n q c sc _ _ _ _ _ _ _ _ _ _ _ _ _ _ _ _ y2 hn hi lt2 ds sa fun H3 la' E' y3 => ?_
  exact (fin _ H3 la' E' R ⟨_, _, _, _, _, _, _, _, _, _, _, _, _, _, _, _, _, _, _, _, rfl⟩ y3).1
end
end KL0
set_option Elab.async false
set_option linter.all false
set_option maxRecDepth 100000
set_option maxHeartbeats 4000000
namespace KL0
open PySem PySem.Spec PyProof.Rows L2 KB KC KS KN1 LamX K7 FM GG
theorem kvL_self {lk : Lk} (h : (lk.map fun y : Str × V => y.1).Nodup) : mergeK [] (kvL lk) = kvL lk := by
  rw [merge_selfK, List.nil_append]
  rw [List.nil_append]
  unfold kvL
  rw [List.map_map]
  have e : (Prod.fst ∘ fun x : Str × V => ((Sum.inr x.1 : Key), x.2)) = (fun n : Str => (Sum.inr n : Key)) ∘ fun y : Str × V => y.1 := rfl
  rw [e, ← List.map_map, nodup_inr']
  exact h
theorem zip_nd {cols : Co} {xs : List V} (h : (cols.map fun y : Str × Str => y.1).Nodup) (l : xs.length = cols.length) : ((zipL cols xs).map fun y : Str × V => y.1).Nodup := by
  unfold zipL
  have e : ((cols.map fun y : Str × Str => y.1).zip xs).map (fun y : Str × V => y.1) = cols.map fun y : Str × Str => y.1 := List.map_fst_zip (by rw [List.length_map, l]; exact Nat.le_refl _)
  rw [e]
  exact h
theorem t_sign {r : Nat} (h : r < 3) : kd (.str (Str.ofString "t" ++ (toString (r : Int) : Str))) = some "text" ∧ (Str.ofString "t").length + ((toString (r : Int) : Str)).length ≤ 100 := by
  have : r = 0 ∨ r = 1 ∨ r = 2 := by omega
  rcases this with rfl | rfl | rfl <;> exact ⟨by decide +kernel, by decide +kernel⟩
theorem kinds_len {cols : Co} {xs : List V} (h : xs.map kd = kindsOf cols) : xs.length = cols.length := by
  have z := congrArg List.length h
  unfold kindsOf at z
  rw [List.length_map, List.length_map] at z
  exact z
section
variable {P : Program} {w : World} {K : PySem.W.Frag} {mg : Str → Option Value} {base : Heap} {CS CC CG CR Pl cL fTo fL : Addr} {fdTo : FuncData} {T : List (Addr × Str)} {A : Around} {outer : List PySem.Env} {s : Shared} {H0 : Hp} {E0' : XK}
theorem LwA.at' {a : LA} {OO : HO} {la : Str → Addr} {W : Str → List Sc} {R : Str → Option Str} {H : Hp} (x : LwA T a OO la W R H) {n : Str} (hn : n ∈ nmL) {k : Nat} {sc : Sc} (h : (W n)[k]? = some sc) : ∃ (as : List Addr) (q : Addr), H (la n) = some (.lst (as.map V.ref)) ∧ atI (as.map V.ref) (k : Int) = some (.ref q) ∧ LTd (DD a) H q sc ∧ DrS sc := by
  obtain ⟨as, h1, h2⟩ := x.ls n hn
  have hk : k < as.length := by rw [paired_len h2]; exact (List.getElem?_eq_some_iff.mp h).1
  obtain ⟨sc', h3, h4⟩ := paired_get h2 (List.getElem?_eq_getElem hk)
  rw [h] at h3
  cases h3
  exact ⟨as, as[k], h1, atI_nat (by rw [List.getElem?_map, List.getElem?_eq_getElem hk]; rfl), h4, x.dr n hn sc (List.mem_of_getElem? h)⟩
theorem g_row (ve : LawE P w K mg base CS CC CG CR Pl cL fTo fdTo T) (hr : Room 9 (xLaw P w K mg base fL cL A outer s H0 E0').A) :
    ∃ t0 t1, L2.PS (xLaw P w K mg base fL cL A outer s H0 E0') (kS' 0) t0 ∧ L2.PS (xLaw P w K mg base fL cL A outer s H0 E0') (kS' 1) t1 ∧
      ∀ (D : Ends) (H : Hp) (a : LA) (OO : HO) (la : Str → Addr) (E : Str → Option Ent) (R : Str → Option Str) (i k : Nat) (n : Str) (sc : Sc) (tr : TS) (a0 a5 a7 a8 a9 a12 a13 a14 a15 a16 a17 a18 a19 a20 a21 a22 a23 : Option V), IL CS CC CG T a OO la E R i H → (∀ ps, OO ≠ .tbl ps) → (∀ ys, OO ≠ .lst ys) → n ∈ nmL → ((schs E n).map (·.2))[k]? = some sc →
      (∀ (H' : Hp) (rw vd : Addr) (xs : List V), IL CS CC CG T a OO la E R i H' → H' rw = some (.tup xs) → xs.map kd = kindsOf sc.1 → (∀ v ∈ xs, Rowy v) → H' vd = some (.dK (kvL (zipL sc.1 xs))) → tr D [a0, some (.ref a.d), some (.ref a.g), some (.ref a.ru), some (.ref a.ow), a5, some (.str n), a7, a8, a9, some (.ref (la n)), some (.int (k : Nat)), some (.ref rw), some (.ref vd), a14, a15, a16, a17, a18, a19, a20, a21, a22, a23] H') →
      tSeq t0 (tSeq t1 tr) D [a0, some (.ref a.d), some (.ref a.g), some (.ref a.ru), some (.ref a.ow), a5, some (.str n), a7, a8, a9, some (.ref (la n)), some (.int (k : Nat)), a12, a13, a14, a15, a16, a17, a18, a19, a20, a21, a22, a23] H := by
  obtain ⟨fR, fdR, GR, gR, kR, bR⟩ := ve.roll
  have hu := hr.units
  have hu1 := Nat.lt_trans (Nat.add_lt_add_left (by decide : 1 < 64) _) hu
  have hz0 : sizeLine = 16777216 := rfl
  refine ⟨_, _, ps_set (i := 12) scLaw.nd rfl (Or.inr rfl) (pe_callTy call_tuple_of (by rfl) ve.X.tuple (by decide +kernel) (pa_cons (pe_lc (own := [("name", 21), ("kind", 22)]) (g := gTup K 2 (gCons (gName 21) (gCons (gName 22) gNil))) (tt := tYes) rfl scLaw.nd (pi_list (pe_ix ix_tup (pe_ix ix_list (pv 10) (pv 11) (fun _ _ => rfl)) pe_int (fun _ _ => rfl))) (blkOk_by (N := nLaw) (sc := defScope sLaw) (by decide +kernel))
        (fun _ _ _ _ _ => pg_tup rfl (pgs_cons (pg_name (i := 21) scLaw.nd rfl (Or.inl rfl)) (pgs_cons (pg_name (i := 22) scLaw.nd rfl (Or.inl rfl)) pgs_nil)))
        (fun _ _ _ _ _ => pts_nil)
        (fun _ _ _ _ _ => pe_ifExp (pt_cmpR op_eq (pv 22) pe_str (nomark _)) (pe_call GR (hr.mono (by decide)) (by rfl) gR kR bR .nil pass0 (pa_cons (pv 1) (pa_cons pe_int pa_nil)))
          (pe_op op_add_str pe_str (pe_callTy call_str_int (by rfl) ve.X.str (by decide +kernel) (pa_cons (pe_call GR (hr.mono (by decide)) (by rfl) gR kR bR .nil pass0 (pa_cons (pv 1) (pa_cons pe_int pa_nil))) pa_nil))))) pa_nil)),
    ps_set (i := 13) scLaw.nd rfl (Or.inr rfl) (FZ.pe_dictZip (by rfl) ve.X.dict (by rfl) ve.X.zip (pa_cons (pe_lc (own := [("name", 21), ("kind", 22)]) (g := gTup K 2 (gCons (gName 21) (gCons (gName 22) gNil))) (tt := tYes) (te := tVar 21) rfl scLaw.nd (pi_list (pe_ix ix_tup (pe_ix ix_list (pv 10) (pv 11) (fun _ _ => rfl)) pe_int (fun _ _ => rfl))) (blkOk_by (N := nLaw) (sc := defScope sLaw) (by decide +kernel))
        (fun _ _ _ _ _ => pg_tup rfl (pgs_cons (pg_name (i := 21) scLaw.nd rfl (Or.inl rfl)) (pgs_cons (pg_name (i := 22) scLaw.nd rfl (Or.inl rfl)) pgs_nil)))
        (fun _ _ _ _ _ => pts_nil) (fun _ _ _ _ _ => pv 21)) (pa_cons (pv 12) pa_nil)) rfl), ?_⟩
  intro D H a OO la E R i k n sc tr a0 a5 a7 a8 a9 a12 a13 a14 a15 a16 a17 a18 a19 a20 a21 a22 a23 y nt nl hn hk fin
  obtain ⟨as, q, hl, hat, ltd, ds⟩ := y.lw.at' hn hk
  obtain ⟨cl, dl, ts, h1, h2, h3, h4, h5⟩ := ltd
  have lts := paired_len h3
  refine ⟨_, rfl, _, rfl, la n, _, _, .ref q, rfl, rfl, SqL.of hl, hat, q, _, _, _, rfl, rfl, SqT.of h1, rfl, cl, rfl, ⟨_, SqL.of h2⟩, fun D1 hD1 => ?_⟩
  obtain ⟨x0, y0, z0, hd0⟩ := id y.lw.di
  have nDd : D1 ≠ a.d := fun z => by rw [z, hd0] at hD1; cases hD1
  have kp : ∀ {H5 : Hp}, Fm T (fun b => b = a.d ∨ b = D1) H H5 → Fm T (fun b => b = a.d) H H5 := fun f => f.shrink fun b hb => hb.elim .inl fun z => .inr (by rw [z]; exact hD1)
  obtain ⟨zw, _⟩ := y.dices nl
  have sq : ∀ {H5 : Hp}, Fm T (fun b => b = a.d ∨ b = D1) H H5 → H5 cl = some (.lst (ts.map V.ref)) ∧ Cols H5 ts sc.1 := fun f => ⟨(kp f).at' h2 (zw.nl h2 (cols_tup h3)), h3.fm (kp f) zw.sd⟩
  refine lc_it (walk_list (K := K) (a := cl) (xs := ts.map V.ref)) (fun j H5 => Fm T (fun b => b = a.d ∨ b = D1) H H5 ∧ IsDice H5 a.d ∧ ∃ xs, H5 D1 = some (.lst xs) ∧ xs.map kd = kindsOf (sc.1.take j) ∧ ∀ v ∈ xs, Rowy v)
    ⟨Fm.new y.lw.tb hD1, y.lw.di.upd_ne hD1, [], L2.upd_same, rfl, fun _ h => nomatch h⟩ (fun j H5 _ p => SqL.of (sq p.1).1) (fun j x' H6 H5 hj p yy => ?_) (fun H5 p => ?_)
  · obtain ⟨rfl, hy⟩ := yy
    obtain ⟨f5, d5, xs, hx5, kx, ry⟩ := p
    rw [List.getElem?_map] at hy
    obtain ⟨b', hb, rfl⟩ := Option.map_eq_some_iff.mp hy
    obtain ⟨z, hz2, ht⟩ := paired_get (sq f5).2 hb
    have ta : sc.1.take (j + 1) = sc.1.take j ++ [z] := take_snoc hz2
    have lx : xs.length ≤ 4 := by
      have := kinds_len kx
      rw [List.length_take] at this
      have := ds.l
      omega
    refine ⟨b', _, rfl, SqT.of ht, rfl, _, _, rfl, _, _, rfl, rfl, rfl, ?_⟩
    have more : ∀ {H7 : Hp} (v : V), kd v = some z.2 → Rowy v → Fm T (fun b => b = a.d) H5 H7 → IsDice H7 a.d → ∃ acc, H7 D1 = some (.lst acc) ∧ acc.length < sizeLine ∧ Fm T (fun b => b = a.d ∨ b = D1) H (upd H7 D1 (.lst (acc ++ [v]))) ∧ IsDice (upd H7 D1 (.lst (acc ++ [v]))) a.d ∧ ∃ xs, (upd H7 D1 (.lst (acc ++ [v]))) D1 = some (.lst xs) ∧ xs.map kd = kindsOf (sc.1.take (j + 1)) ∧ ∀ v ∈ xs, Rowy v := by
      intro H7 v hv hr7 f7 d7
      have hx7 := f7.at' hx5 nDd
      refine ⟨xs, hx7, by omega, (f5.trans (f7.mono fun _ z => .inl z)).trans (Fm.wr f7.1 hx7 (by intro _ z; cases z) (by intro _ z; cases z) (.inr rfl)), ?_, xs ++ [v], L2.upd_same, ?_, fun u hu => ?_⟩
      · obtain ⟨x1, y1, z1, hd1⟩ := d7
        exact ⟨x1, y1, z1, by rw [L2.upd_ne nDd.symm]; exact hd1⟩
      · rw [ta]
        unfold kindsOf at kx ⊢
        rw [List.map_append, List.map_append, kx, List.map_singleton, List.map_singleton, hv]
      · rcases List.mem_append.mp hu with hu | hu
        · exact ry u hu
        · rw [List.mem_singleton.mp hu]; exact hr7
    refine ⟨_, rfl, rfl, _, rfl, ?_⟩
    show if decide (V.str z.2 = V.str "int") = true then _ else _
    rw [eqS]
    by_cases c : z.2 = "int"
    · refine ifT (decide_eq_true c) ⟨_, rfl, roll_fm d5 f5.1 (by decide) (by decide) fun r H7 _ _ f7 d7 => ?_⟩
      exact more (.int r) (by rw [c]; rfl) trivial f7 d7
    · refine ifF (by simpa using c) ⟨_, rfl, roll_fm d5 f5.1 (by decide) (by decide) fun r H7 r0 r1 f7 d7 => ?_⟩
      have ct : z.2 = "text" := (good_kinds ds.g.1 z (List.mem_of_getElem? hz2)).elim (fun e => absurd e c) id
      obtain ⟨rn, rfl⟩ : ∃ rn : Nat, r = (rn : Int) := ⟨r.toNat, by omega⟩
      obtain ⟨k1, k2⟩ := t_sign (r := rn) (by omega)
      refine ⟨_, rfl, ?_, _, _, rfl, rfl, by omega, ?_⟩
      · have : rn = 0 ∨ rn = 1 ∨ rn = 2 := by omega
        rcases this with rfl | rfl | rfl <;> decide
      · exact more _ (by rw [ct]; exact k1) trivial f7 d7
  · obtain ⟨f5, d5, xs, hx5, kx, ry⟩ := p
    rw [List.length_map, lts, List.take_length] at kx
    refine ⟨D1, xs, rfl, .inl ⟨SqL.of hx5, fun l hl5 => ?_⟩⟩
    have y5 := y.roll nt nl (kp f5) d5
    have el : KS.Ex H5 (upd H5 l (.tup xs)) := Ex.upd hl5
    have y6 := y5.ex el nt
    have hr6 : (upd H5 l (.tup xs)) l = some (.tup xs) := L2.upd_same
    show tSeq _ _ _ [a0, some (.ref a.d), some (.ref a.g), some (.ref a.ru), some (.ref a.ow), a5, some (.str n), a7, a8, a9, some (.ref (la n)), some (.int (k : Nat)), some (.ref l), a13, a14, a15, a16, a17, a18, a19, a20, a21, a22, a23] (upd H5 l (.tup xs))
    generalize upd H5 l (.tup xs) = H6 at y6 hr6
    obtain ⟨as, q, hl, hat, ltd, _⟩ := y6.lw.at' hn hk
    obtain ⟨cl, dl, ts, h1, h2, h3, h4, h5⟩ := ltd
    have lts := paired_len h3
    refine ⟨_, rfl, _, rfl, la n, _, _, .ref q, rfl, rfl, SqL.of hl, hat, q, _, _, _, rfl, rfl, SqT.of h1, rfl, cl, rfl, ⟨_, SqL.of h2⟩, fun D2 hD2 => ?_⟩
    refine lc_it (walk_list (K := K) (a := cl) (xs := ts.map V.ref)) (fun j H7 => KS.Ex H6 H7 ∧ H7 D2 = some (.lst (((sc.1.take j).map fun y : Str × Str => y.1).map V.str)))
      ⟨Ex.upd hD2, L2.upd_same⟩ (fun j H7 _ p => SqL.of (p.1 _ _ h2)) (fun j x' H8 H7 hj p yy => ?_) (fun H7 p => ?_)
    · obtain ⟨rfl, hy⟩ := yy
      obtain ⟨e7, h7⟩ := p
      rw [List.getElem?_map] at hy
      obtain ⟨b', hb, rfl⟩ := Option.map_eq_some_iff.mp hy
      obtain ⟨z, hz2, ht⟩ := paired_get h3 hb
      have ta : sc.1.take (j + 1) = sc.1.take j ++ [z] := take_snoc hz2
      refine ⟨b', _, rfl, SqT.of (e7 _ _ ht), rfl, _, _, rfl, _, _, rfl, rfl, rfl, _, rfl, _, h7, ?_, Ex.on e7 hD2, ?_⟩
      · rw [List.length_map, List.length_map, List.length_take]
        have := ds.l
        omega
      · rw [L2.upd_same, ta, List.map_append, List.map_append]; rfl
    · obtain ⟨e7, h7⟩ := p
      rw [List.length_map, lts, List.take_length] at h7
      refine ⟨_, rfl, D2, l, _, xs, rfl, SqL.of h7, SqT.of (e7 _ _ hr6), fun p hp => ?_⟩
      have em : mergeK [] (FZ.zipkv (sc.1.map fun y : Str × Str => y.1) xs) = kvL (zipL sc.1 xs) := kvL_self (lk := zipL sc.1 xs) (zip_nd ds.g.1.2.1 (kinds_len kx))
      rw [em]
      have e8 : KS.Ex H6 (upd H7 p (.dK (kvL (zipL sc.1 xs)))) := e7.trans (Ex.upd hp)
      exact fin _ l p xs (y6.ex e8 nt) (e8 _ _ hr6) kx ry L2.upd_same
end
end KL0
set_option Elab.async false
set_option linter.all false
set_option maxRecDepth 100000
set_option maxHeartbeats 4000000
namespace KL0
open PySem PySem.Spec PyProof.Rows L2 KB KC KS KN1 LamX K7 FM GG
theorem eqv_int (a b : Int) : PyData.eqv (.int a) (.int b) = decide (a = b) := by
  rw [Bool.eq_iff_iff]; simp [PyData.eqv]
theorem eqv_str (a b : Str) : PyData.eqv (.str a) (.str b) = decide (a = b) := by
  rw [Bool.eq_iff_iff]; simp [PyData.eqv]
def dV : V → PyData
  | .int i => .int i
  | .str z => .str z
  | _ => .none
def Pv (v : V) : Prop := v = .non ∨ kd v ≠ none
theorem lt_ok : ∀ c ∈ ltrs.cps.toList, c < 0x110000 := by decide +kernel
theorem str_ok {z : Str} (h : badT z = false) : PyData.strOk z = true := by
  unfold badT at h
  rw [List.any_eq_false] at h
  show z.cps.all (· < 0x110000) = true
  rw [← Array.all_toList, List.all_eq_true]
  intro c hc
  have := h c hc
  simp only [Bool.not_eq_true', decide_eq_false_iff_not, Classical.not_not] at this
  exact decide_eq_true (lt_ok c this)
theorem pv_one {v : V} (h : Pv v) : (∃ i, v = .int i) ∨ (∃ z, v = .str z ∧ PyData.strOk z = true) ∨ v = .non := by
  rcases h with rfl | h
  · exact .inr (.inr rfl)
  · cases v with
    | int i => exact .inl ⟨i, rfl⟩
    | str z =>
      refine .inr (.inl ⟨z, rfl, str_ok ?_⟩)
      have h : (if badT z = true then none else some ("text" : Str)) ≠ none := h
      cases c : badT z with
      | false => rfl
      | true => rw [c] at h; exact absurd rfl h
    | _ => exact absurd rfl h
theorem data_vs (K : PySem.W.Frag) (H : Hp) : ∀ {xs : List V}, (∀ v ∈ xs, Pv v) → DpAll K H xs (xs.map dV) ∧ PyData.canLayAll0 (xs.map dV) = true ∧ PyData.depthAll (xs.map dV) ≤ 3 ∧ PyData.eqvAll (xs.map dV) (xs.map dV) = true
  | [], _ => ⟨.nil, rfl, by decide, rfl⟩
  | v :: xs, h => by
    obtain ⟨h1, h2, h3, h4⟩ := data_vs K H (xs := xs) fun u hu => h u (List.mem_cons_of_mem _ hu)
    have one : Dp K H v (dV v) ∧ PyData.canLay0 (dV v) = true ∧ PyData.depth (dV v) ≤ 3 ∧ PyData.eqv (dV v) (dV v) = true := by
      rcases pv_one (h v List.mem_cons_self) with ⟨i, rfl⟩ | ⟨z, rfl, hz⟩ | rfl
      · exact ⟨.int i, rfl, Nat.zero_le _, by show PyData.eqv (.int i) (.int i) = true; rw [eqv_int]; simp⟩
      · exact ⟨.str z, hz, Nat.zero_le _, by show PyData.eqv (.str z) (.str z) = true; rw [eqv_str]; simp⟩
      · exact ⟨.non, rfl, Nat.zero_le _, rfl⟩
    obtain ⟨o1, o2, o3, o4⟩ := one
    refine ⟨.cons o1 h1, ?_, ?_, ?_⟩
    · show (PyData.canLay0 (dV v) && PyData.canLayAll0 (xs.map dV)) = true
      rw [o2, h2]; rfl
    · show max (PyData.depth (dV v)) (PyData.depthAll (xs.map dV)) ≤ 3
      omega
    · show (PyData.eqv (dV v) (dV v) && PyData.eqvAll (xs.map dV) (xs.map dV)) = true
      rw [o4, h4]; rfl
def DueA (b : Bool) (out : List V) (dv : V) (H : Hp) : Prop := (b = true ∧ ∃ q, dv = .ref q ∧ H q = some (.tup out)) ∨ (b = false ∧ dv = .str "RowError")
theorem DueA.fm0 {T : List (Addr × Str)} {b : Bool} {out : List V} {dv : V} {H H' : Hp} (h : DueA b out dv H) (e : Fm T N0 H H') : DueA b out dv H' := by
  rcases h with ⟨h1, q, h2, h3⟩ | h
  · exact .inl ⟨h1, q, h2, e.at0 h3⟩
  · exact .inr h
theorem ne_due {K : PySem.W.Frag} {b : Bool} {out : List V} {x y : V} {H : Hp} {Q : VK} (hx : DueA b out x H) (hy : DueA b out y H) (po : ∀ v ∈ out, Pv v) (q : Q (.bl false) H) : rNeD K x y H Q := by
  rcases hx with ⟨h1, p1, rfl, h2⟩ | ⟨h1, rfl⟩
  · rcases hy with ⟨_, p2, rfl, h3⟩ | ⟨g1, _⟩
    · obtain ⟨d1, d2, d3, d4⟩ := data_vs K H po
      have sh : SeqAt.shaped (.tuple (out.map dV)) = true := by
        show (PyData.canLayAll0 (out.map dV) && decide (PyData.depthAll (out.map dV) + 1 ≤ 64)) = true
        rw [d2, decide_eq_true (by omega)]; rfl
      refine ⟨.tuple (out.map dV), .tuple (out.map dV), .tup (SqT.of h2) d1, .tup (SqT.of h3) d1, sh, sh, ?_⟩
      have e : PyData.eqv (.tuple (out.map dV)) (.tuple (out.map dV)) = true := d4
      rw [e]
      exact q
    · rw [h1] at g1; cases g1
  · rcases hy with ⟨g1, _⟩ | ⟨_, rfl⟩
    · rw [h1] at g1; cases g1
    · refine ⟨.str "RowError", .str "RowError", .str _, .str _, by decide +kernel, by decide +kernel, ?_⟩
      rw [eqv_str, decide_eq_true rfl]
      exact q
theorem lkAt_mem {lk : Lk} {n : Str} {v : V} (h : lkAt lk n = some v) : (n, v) ∈ lk := by
  unfold lkAt at h
  obtain ⟨x, hx, rfl⟩ := Option.map_eq_some_iff.mp h
  have h1 := List.find?_some hx
  have h1 : x.1 = n := by simpa using h1
  rw [← h1]
  exact List.mem_of_find?_eq_some hx
theorem row_pv {one other : Sc} {xs : List V} (o : OkL one.2) (kx : xs.map kd = kindsOf other.1) : ∀ v ∈ rowP one other xs, Pv v := by
  intro v hv
  obtain ⟨x, hx, rfl⟩ := List.mem_map.mp hv
  unfold cellP
  split
  · rename_i u hu
    have hm := lkAt_mem hu
    have hm := (List.of_mem_zip hm).2
    refine .inr fun z => ?_
    have : kd u ∈ xs.map kd := List.mem_map_of_mem hm
    rw [kx] at this
    unfold kindsOf at this
    obtain ⟨y, _, hy⟩ := List.mem_map.mp this
    rw [z] at hy
    cases hy
  · cases q : lkAt one.2 x.1 with
    | none => exact .inl rfl
    | some u => exact .inr (o.kd _ (lkAt_mem q)).2
section
variable {P : Program} {w : World} {K : PySem.W.Frag} {mg : Str → Option Value} {base : Heap} {CS CC CG CR Pl cL fTo fL : Addr} {fdTo : FuncData} {T : List (Addr × Str)} {A : Around} {outer : List PySem.Env} {s : Shared} {H0 : Hp} {E0' : XK}
theorem g_due (ve : LawE P w K mg base CS CC CG CR Pl cL fTo fdTo T) (hr : Room 9 (xLaw P w K mg base fL cL A outer s H0 E0').A) :
    ∃ t0 t1, L2.PS (xLaw P w K mg base fL cL A outer s H0 E0') (jS 0) t0 ∧ L2.PS (xLaw P w K mg base fL cL A outer s H0 E0') (jS 1) t1 ∧
      ∀ (D : Ends) (H : Hp) (a : LA) (OO : HO) (la : Str → Addr) (E : Str → Option Ent) (R : Str → Option Str) (i k j : Nat) (n : Str) (sc sj : Sc) (rw vd : Addr) (xs : List V) (tr : TS) (a0 a5 a7 a8 a9 a15 a16 a17 a18 a19 a20 a21 a22 a23 : Option V), IL CS CC CG T a OO la E R i H → (∀ ps, OO ≠ .tbl ps) → n ∈ nmL → ((schs E n).map (·.2))[k]? = some sc → ((schs E n).map (·.2))[j]? = some sj → H vd = some (.dK (kvL (zipL sc.1 xs))) →
      (∀ (H' : Hp) (dv : V), Fm T N0 H H' → DueA (readsP sj sc) (rowP sj sc xs) dv H' → tr D [a0, some (.ref a.d), some (.ref a.g), some (.ref a.ru), some (.ref a.ow), a5, some (.str n), a7, a8, a9, some (.ref (la n)), some (.int (k : Nat)), some (.ref rw), some (.ref vd), some (.int (j : Nat)), some (.bl (readsP sj sc)), some (dv), a17, a18, a19, a20, a21, a22, a23] H') →
      tSeq t0 (tSeq t1 tr) D [a0, some (.ref a.d), some (.ref a.g), some (.ref a.ru), some (.ref a.ow), a5, some (.str n), a7, a8, a9, some (.ref (la n)), some (.int (k : Nat)), some (.ref rw), some (.ref vd), some (.int (j : Nat)), a15, a16, a17, a18, a19, a20, a21, a22, a23] H := by
  obtain ⟨fR, fdR, GR, gR, kR, bR⟩ := ve.lreads
  have hu := hr.units
  have hu1 := Nat.lt_trans (Nat.add_lt_add_left (by decide : 1 < 64) _) hu
  have hz0 : sizeLine = 16777216 := rfl
  refine ⟨_, _, ps_set (i := 15) scLaw.nd rfl (Or.inl rfl) (pe_call GR (hr.mono (by decide)) (by rfl) gR kR bR .nil pass0 (pa_cons (pe_ix ix_list (pv 10) (pv 14) (fun _ _ => rfl)) (pa_cons (pe_ix ix_list (pv 10) (pv 11) (fun _ _ => rfl)) pa_nil))),
    ps_set (i := 16) scLaw.nd rfl (Or.inl rfl) (pe_ifExp (pt_val (pv 15)) (pe_callTy call_tuple_of (by rfl) ve.X.tuple (by decide +kernel) (pa_cons (pe_lc (own := [("name", 21), ("kind", 22)]) (g := gTup K 2 (gCons (gName 21) (gCons (gName 22) gNil))) (tt := tYes) (te := tDGet2 (tVar 13) (tVar 21) (tDGet1 (tOp (rIxT K) (tOp (rIxL K) (tVar 10) (tVar 14)) (tC (.int 1))) (tVar 21))) rfl scLaw.nd (pi_list (pe_ix ix_tup (pe_ix ix_list (pv 10) (pv 14) (fun _ _ => rfl)) pe_int (fun _ _ => rfl))) (blkOk_by (N := nLaw) (sc := defScope sLaw) (by decide +kernel))
        (fun _ _ _ _ _ => pg_tup rfl (pgs_cons (pg_name (i := 21) scLaw.nd rfl (Or.inl rfl)) (pgs_cons (pg_name (i := 22) scLaw.nd rfl (Or.inl rfl)) pgs_nil)))
        (fun _ _ _ _ _ => pts_nil) (fun _ _ _ _ _ => pe_dget2 hu1 (pv 13) (pv 21) (pe_dget1 hu1 (pe_ix ix_tup (pe_ix ix_list (pv 10) (pv 14) (fun _ _ => rfl)) pe_int (fun _ _ => rfl)) (pv 21) ⟨rfl, rfl, rfl, rfl⟩) ⟨rfl, rfl, rfl, rfl⟩)) pa_nil)) pe_str), ?_⟩
  intro D H a OO la E R i k j n sc sj rw vd xs tr a0 a5 a7 a8 a9 a15 a16 a17 a18 a19 a20 a21 a22 a23 y nt hn hk hj hvd fin
  obtain ⟨as, qk, hl, hatk, ltk, dsk⟩ := y.lw.at' hn hk
  obtain ⟨as', qj, hl', hatj, ltj, dsj⟩ := y.lw.at' hn hj
  refine ⟨_, rfl, _, rfl, la n, _, _, .ref qj, rfl, rfl, SqL.of hl', hatj, _, rfl, _, rfl, la n, _, _, .ref qk, rfl, rfl, SqL.of hl, hatk, lreads_step ltj.lt ltk.lt dsk.g.1.2.1 (by have := dsj.l; omega) fun H1 e1 => ?_⟩
  show tSeq _ _ _ [a0, some (.ref a.d), some (.ref a.g), some (.ref a.ru), some (.ref a.ow), a5, some (.str n), a7, a8, a9, some (.ref (la n)), some (.int (k : Nat)), some (.ref rw), some (.ref vd), some (.int (j : Nat)), some (.bl (readsP sj sc)), a16, a17, a18, a19, a20, a21, a22, a23] H1
  refine ⟨_, rfl, _, rfl, ?_⟩
  have f1 : Fm T N0 H H1 := Fm.ex y.lw.tb e1
  cases hg : readsP sj sc with
  | false =>
    refine ifF (by simp) ?_
    have z := fin H1 (.str "RowError") f1 (.inr ⟨hg, rfl⟩)
    rw [hg] at z
    exact z
  | true =>
    refine ifT rfl ?_
    rw [hg] at fin
    obtain ⟨cl, dl, ts, h1, h2, h3, h4, _⟩ := ltj
    have lts := paired_len h3
    refine ⟨_, rfl, _, rfl, la n, _, _, .ref qj, rfl, rfl, SqL.of (e1 _ _ hl'), hatj, qj, _, _, _, rfl, rfl, SqT.of (e1 _ _ h1), rfl, cl, rfl, ⟨_, SqL.of (e1 _ _ h2)⟩, fun D2 hD2 => ?_⟩
    refine lc_it (walk_list (K := K) (a := cl) (xs := ts.map V.ref)) (fun m H7 => KS.Ex H1 H7 ∧ H7 D2 = some (.lst ((sj.1.take m).map fun x => cellP sj sc xs x.1)))
      ⟨Ex.upd hD2, L2.upd_same⟩ (fun m H7 _ p => SqL.of (p.1 _ _ (e1 _ _ h2))) (fun m x' H8 H7 hm p yy => ?_) (fun H7 p => ?_)
    · obtain ⟨rfl, hy⟩ := yy
      obtain ⟨e7, h7⟩ := p
      have e17 := e1.trans e7
      rw [List.getElem?_map] at hy
      obtain ⟨b', hb, rfl⟩ := Option.map_eq_some_iff.mp hy
      obtain ⟨z, hz2, ht⟩ := paired_get h3 hb
      have ta : sj.1.take (m + 1) = sj.1.take m ++ [z] := take_snoc hz2
      have hvd7 := e17 _ _ hvd
      have hdl7 := e17 _ _ h4
      refine ⟨b', _, rfl, SqT.of (e17 _ _ ht), rfl, _, _, rfl, _, _, rfl, rfl, rfl, ?_⟩
      refine ⟨_, rfl, vd, rfl, .inl ⟨_, .inl hvd7⟩, _, rfl, _, rfl, _, rfl, la n, _, _, .ref qj, rfl, rfl, SqL.of (e17 _ _ hl'), hatj, qj, _, _, _, rfl, rfl, SqT.of (e17 _ _ h1), rfl, dl, rfl, .inl ⟨_, .inl hdl7⟩, _, rfl, _, DGet.k (k := Sum.inr z.1) hdl7, _, DGet.k (k := Sum.inr z.1) hvd7, ?_⟩
      have ec : (valV (kvL (zipL sc.1 xs)) (Sum.inr z.1)).getD ((valV (kvL sj.2) (Sum.inr z.1)).getD .non) = cellP sj sc xs z.1 := by
        rw [val_kvL, val_kvL]
        unfold cellP
        cases lkAt (zipL sc.1 xs) z.1 <;> rfl
      rw [ec]
      refine ⟨_, h7, ?_, Ex.on e7 hD2, ?_⟩
      · rw [List.length_map, List.length_take]
        have := dsj.l
        omega
      · rw [L2.upd_same, ta, List.map_append]; rfl
    · obtain ⟨e7, h7⟩ := p
      rw [List.length_map, lts, List.take_length] at h7
      refine ⟨D2, _, rfl, .inl ⟨SqL.of h7, fun l hl7 => ?_⟩⟩
      exact fin _ (.ref l) (f1.trans ((Fm.ex f1.1 e7).trans (Fm.new (f1.1.ext e7) hl7))) (.inl ⟨rfl, l, rfl, L2.upd_same⟩)
end
end KL0
set_option Elab.async false
set_option linter.all false
set_option maxRecDepth 100000
set_option maxHeartbeats 4000000
namespace KL0
open PySem PySem.Spec PyProof.Rows L2 KB KC KS KN1 LamX K7 FM GG
section
variable {P : Program} {w : World} {K : PySem.W.Frag} {mg : Str → Option Value} {base : Heap} {CS CC CG CR Pl cL fTo fL : Addr} {fdTo : FuncData} {T : List (Addr × Str)} {A : Around} {outer : List PySem.Env} {s : Shared} {H0 : Hp} {E0' : XK}
theorem g_cmp (ve : LawE P w K mg base CS CC CG CR Pl cL fTo fdTo T) (hr : Room 9 (xLaw P w K mg base fL cL A outer s H0 E0').A) :
    ∃ t2 t3, L2.PS (xLaw P w K mg base fL cL A outer s H0 E0') (jS 2) t2 ∧ L2.PS (xLaw P w K mg base fL cL A outer s H0 E0') (jS 3) t3 ∧
      ∀ (D : Ends) (H : Hp) (a : LA) (OO : HO) (la : Str → Addr) (E : Str → Option Ent) (R : Str → Option Str) (i k j : Nat) (n : Str) (sc sj : Sc) (rw vd : Addr) (dv : V) (xs : List V) (a0 a5 a7 a8 a9 a17 a18 a19 a20 a21 a22 a23 : Option V), IL CS CC CG T a OO la E R i H → (∀ ps, OO ≠ .tbl ps) → n ∈ nmL → ((schs E n).map (·.2))[k]? = some sc → ((schs E n).map (·.2))[j]? = some sj → H rw = some (.tup xs) → xs.map kd = kindsOf sc.1 → (∀ v ∈ xs, Rowy v) → DueA (readsP sj sc) (rowP sj sc xs) dv H →
      (∀ (H' : Hp) (q1 q2 : Addr), Fm T N0 H H' → D.nx [a0, some (.ref a.d), some (.ref a.g), some (.ref a.ru), some (.ref a.ow), a5, some (.str n), a7, a8, a9, some (.ref (la n)), some (.int (k : Nat)), some (.ref rw), some (.ref vd), some (.int (j : Nat)), some (.bl (readsP sj sc)), some (dv), some (.ref q1), some (.ref q2), a19, a20, a21, a22, a23] H') →
      tSeq t2 t3 D [a0, some (.ref a.d), some (.ref a.g), some (.ref a.ru), some (.ref a.ow), a5, some (.str n), a7, a8, a9, some (.ref (la n)), some (.int (k : Nat)), some (.ref rw), some (.ref vd), some (.int (j : Nat)), some (.bl (readsP sj sc)), some (dv), a17, a18, a19, a20, a21, a22, a23] H := by
  obtain ⟨fS, fdS, e0, u0, GS, MS, bS, _, _, _⟩ := ve.sch
  obtain ⟨fR, fdR, GR, mR, bR⟩ := ve.reads
  obtain ⟨fF, fdF, GF, mF, bF⟩ := ve.rowf
  obtain ⟨fD, fdD, GD, mD, bD⟩ := ve.read nmL
  obtain ⟨oc, od, dV, kVs, doc, pm, an, cdv, ct, osl, rfl, lk, hcd, _, _⟩ := ve.told.ex
  have bTo := ve.told.bindsN (ps := ["what"]) fun _ _ _ _ _ _ us hl => match us, hl with | [_], _ => rfl
  have hu := hr.units
  have hu1 := Nat.lt_trans (Nat.add_lt_add_left (by decide : 1 < 64) _) hu
  have hz0 : sizeLine = 16777216 := rfl
  refine ⟨_, _, ps_asg (pe_tup (pa_cons (pe_make (CX := L2.CX P w) MS GS (hr.mono (by decide)) (by rfl) ve.C.g bS (E := fun _ _ _ => False) .nil (passes_call L2.takes0 (fun _ _ _ _ h => h)) (pa_cons (pe_ix ix_tup (pe_ix ix_list (pv 10) (pv 14) (fun _ _ => rfl)) pe_int (fun _ _ => rfl)) (pa_cons (pe_ix ix_tup (pe_ix ix_list (pv 10) (pv 14) (fun _ _ => rfl)) pe_int (fun _ _ => rfl)) pa_nil)))
      (pa_cons (pe_make (CX := L2.CX P w) MS GS (hr.mono (by decide)) (by rfl) ve.C.g bS (E := fun _ _ _ => False) .nil (passes_call L2.takes0 (fun _ _ _ _ h => h)) (pa_cons (pe_ix ix_tup (pe_ix ix_list (pv 10) (pv 11) (fun _ _ => rfl)) pe_int (fun _ _ => rfl)) (pa_cons (pe_ix ix_tup (pe_ix ix_list (pv 10) (pv 11) (fun _ _ => rfl)) pe_int (fun _ _ => rfl)) pa_nil))) pa_nil)))
      (pg_tup rfl (pgs_cons (pg_name (i := 17) scLaw.nd rfl (Or.inr rfl)) (pgs_cons (pg_name (i := 18) scLaw.nd rfl (Or.inr rfl)) pgs_nil))),
    ps_if (PW.pt (pw_or (pt_cmpR op_ne (pe_meth (pv 17) ve.C.cl mR GR (hr.mono (by decide)) bR .nil pass0 (pa_cons (pv 18) pa_nil)) (pv 15) (nomark _))
      (pw_or (pt_cmpR (op_neD hu) (pe_lamcall (T := T) (P := Pl) (c := cL) (k := 7) (t := fun E => tMeth CC "row_from" (spRowF CS CC CR T) [] E (tVar 17) (tCons (tVar 18) (tCons (tVar 12) tNil))) (by rfl) ve.gTold ve.told.kp lk hcd bTo (Ng := ["what"]) (sg := defScope sTold) ⟨rfl, rfl, rfl, by decide +kernel, rfl, by decide +kernel, by decide +kernel⟩ rfl (Or.inl rfl)
        (told_gives (by rfl) ve.J.g (by decide +kernel) (fun f => rfl)) ve.TB rfl (mem_Pl ve.ml) (only_Pl ve.u ve.ml) hr (lamS_by (by show lamSB (defScope sLaw) _ = true; decide +kernel)) rfl (fun _ _ _ _ _ => rfl)
        (fun A outer s H E f c' hr' => pe_meth (pv 17) ve.C.cl mF GF (hr'.mono (by decide)) bF .nil (passes_call (takes_of rfl rfl rfl rfl) (fun _ _ _ _ h => h)) (pa_cons (pv 18) (pa_cons (pv 12) pa_nil)))) (pv 16) (nomark _))
      (pw_or1 (pt_cmpR (op_neD hu) (pe_lamcall (T := T) (P := Pl) (c := cL) (k := 7) (t := fun E => tMeth CG "read" (spRead CS CC CG CR nmL T) [] E (tVar 2) (tCons (tVar 6) (tCons (tVar 11) (tCons (tVar 12) (tCons (tVar 14) tNil))))) (by rfl) ve.gTold ve.told.kp lk hcd bTo (Ng := ["what"]) (sg := defScope sTold) ⟨rfl, rfl, rfl, by decide +kernel, rfl, by decide +kernel, by decide +kernel⟩ rfl (Or.inl rfl)
        (told_gives (by rfl) ve.J.g (by decide +kernel) (fun f => rfl)) ve.TB rfl (mem_Pl ve.ml) (only_Pl ve.u ve.ml) hr (lamS_by (by show lamSB (defScope sLaw) _ = true; decide +kernel)) rfl (fun _ _ _ _ _ => rfl)
        (fun A outer s H E f c' hr' => pe_meth (pv 2) ve.G.cl mD GD (hr'.mono (by decide)) bD .nil (passes_call (takes_of rfl rfl rfl rfl) (fun _ _ _ _ h => h)) (pa_cons (pv 6) (pa_cons (pv 11) (pa_cons (pv 12) (pa_cons (pv 14) pa_nil)))))) (pv 16) (nomark _)))))) (pss_one (ps_ret pe_bl)) pss_nil, ?_⟩
  intro D H a OO la E R i k j n sc sj rw vd dv xs a0 a5 a7 a8 a9 a17 a18 a19 a20 a21 a22 a23 y nt hn hk hj hrw kx ry due fin
  obtain ⟨as, qk, hl, hatk, ltk, dsk⟩ := y.lw.at' hn hk
  obtain ⟨as', qj, hl', hatj, ltj, dsj⟩ := y.lw.at' hn hj
  obtain ⟨cl, dl, ts, h1, h2, h3, h4, _⟩ := id ltj
  obtain ⟨cl2, dl2, ts2, k1, k2, k3, k4, _⟩ := id ltk
  have lx := kinds_len kx
  have d4 := dsk.l
  have po := row_pv (one := sj) dsj.o kx
  refine ⟨_, rfl, _, rfl, la n, _, _, .ref qj, rfl, rfl, SqL.of hl', hatj, qj, _, _, _, rfl, rfl, SqT.of h1, rfl, _, rfl, _, rfl, la n, _, _, .ref qj, rfl, rfl, SqL.of hl', hatj, qj, _, _, _, rfl, rfl, SqT.of h1, rfl, fun c dx nx nd ne => ?_⟩
  refine mk_step (sc := sj) (D := N0) nx nd ne.symm h2 h3 h4 dsj y.lw.tb (fun _ z => z.elim) fun H1 f1 sa1 => ⟨rfl, ?_⟩
  have y1 := y.fm0 f1 nt
  refine ⟨_, rfl, _, rfl, la n, _, _, .ref qk, rfl, rfl, SqL.of (f1.at0 hl), hatk, qk, _, _, _, rfl, rfl, SqT.of (f1.at0 k1), rfl, _, rfl, _, rfl, la n, _, _, .ref qk, rfl, rfl, SqL.of (f1.at0 hl), hatk, qk, _, _, _, rfl, rfl, SqT.of (f1.at0 k1), rfl, fun c2 dx2 nx2 nd2 ne2 => ?_⟩
  refine mk_step (sc := sc) (D := N0) nx2 nd2 ne2.symm (f1.at0 k2) (k3.fm f1 (D := N0) SD.of0) (f1.at0 k4) dsk y1.lw.tb (fun _ z => z.elim) fun H2 f2 sa2 => ⟨rfl, ?_⟩
  refine ⟨(by show 2 ≤ sizeLine; decide), fun z hz => ⟨z, _, rfl, SqT.of L2.upd_same, rfl, _, _, rfl, _, _, rfl, rfl, ?_⟩⟩
  have f3 : Fm T N0 H (upd H2 z (.tup [.ref c, .ref c2])) := f1.trans (f2.trans (Fm.new f2.1 hz))
  have sb1 : SchA CS CC N0 c sj (upd H2 z (.tup [.ref c, .ref c2])) := sa1.fm0 (f2.trans (Fm.new f2.1 hz))
  have sb2 : SchA CS CC N0 c2 sc (upd H2 z (.tup [.ref c, .ref c2])) := sa2.fm0 (Fm.new f2.1 hz)
  generalize upd H2 z (.tup [.ref c, .ref c2]) = H3 at f3 sb1 sb2
  obtain ⟨dxc, shc, dlc, hcc, _⟩ := id sb1
  refine ⟨_, rfl, c, dxc, _, rfl, hcc, rfl, _, rfl, reads_step sb1 sb2 dsk.g.1 fun H4 e4 => ⟨_, rfl, rfl, _, rfl, ifF (by simp) ?_⟩⟩
  have f4 := f3.trans (Fm.ex f3.1 e4)
  have rok : readsP sj sc = true ↔ rowOk sj sc xs := ⟨fun h => ⟨h, kx⟩, fun h => h.1⟩
  refine ⟨f4.1, fun H5 e5 t5 => ?_⟩
  have f5 := f4.trans (Fm.exN e5 t5)
  have g5 : Fm T N0 H3 H5 := (Fm.ex f3.1 e4).trans (Fm.exN e5 t5)
  have sc1 := sb1.fm0 g5
  have sc2 := sb2.fm0 g5
  obtain ⟨dxc, shc, dlc, hcc, _⟩ := id sc1
  have last : ∀ (H6 : Hp), Fm T N0 H H6 → tTest (tOp (rNeD K) (tLam T (TTold K CR "RowError") fun E => tMeth CG "read" (spRead CS CC CG CR nmL T) [] E (tVar 2) (tCons (tVar 6) (tCons (tVar 11) (tCons (tVar 12) (tCons (tVar 14) tNil))))) (tVar 16)) [a0, some (.ref a.d), some (.ref a.g), some (.ref a.ru), some (.ref a.ow), a5, some (.str n), a7, a8, a9, some (.ref (la n)), some (.int (k : Nat)), some (.ref rw), some (.ref vd), some (.int (j : Nat)), some (.bl (readsP sj sc)), some (dv), some (.ref c), some (.ref c2), a19, a20, a21, a22, a23] H6 fun b H7 => if b = true then tRet (tC (.bl false)) D [a0, some (.ref a.d), some (.ref a.g), some (.ref a.ru), some (.ref a.ow), a5, some (.str n), a7, a8, a9, some (.ref (la n)), some (.int (k : Nat)), some (.ref rw), some (.ref vd), some (.int (j : Nat)), some (.bl (readsP sj sc)), some (dv), some (.ref c), some (.ref c2), a19, a20, a21, a22, a23] H7 else tNext D [a0, some (.ref a.d), some (.ref a.g), some (.ref a.ru), some (.ref a.ow), a5, some (.str n), a7, a8, a9, some (.ref (la n)), some (.int (k : Nat)), some (.ref rw), some (.ref vd), some (.int (j : Nat)), some (.bl (readsP sj sc)), some (dv), some (.ref c), some (.ref c2), a19, a20, a21, a22, a23] H7 := by
    intro H6 f6
    have y6 := y.fm0 f6 nt
    refine ⟨y6.lw.tb, fun H7 e7 t7 => ?_⟩
    have f7 := f6.trans (Fm.exN e7 t7)
    have y7 := y.fm0 f7 nt
    obtain ⟨dx7, ob7⟩ := y7.rg.ob
    refine ⟨_, rfl, a.g, dx7, _, rfl, ob7, rfl, _, rfl, _, rfl, _, rfl, _, rfl, ?_⟩
    show spRead CS CC CG CR nmL T [.ref a.g, .str n, .int (k : Int), .ref rw, .int (j : Int)] H7 _ _
    unfold spRead
    have fin7 : ∀ (H8 : Hp) (x : V), Fm T N0 H H8 → DueA (readsP sj sc) (rowP sj sc xs) x H8 → ∃ y, ([a0, some (.ref a.d), some (.ref a.g), some (.ref a.ru), some (.ref a.ow), a5, some (.str n), a7, a8, a9, some (.ref (la n)), some (.int (k : Nat)), some (.ref rw), some (.ref vd), some (.int (j : Nat)), some (.bl (readsP sj sc)), some (dv), some (.ref c), some (.ref c2), a19, a20, a21, a22, a23] : L2.St)[16]? = some (some y) ∧ rNeD K x y H8 fun v H' => ∃ c0, v = .bl c0 ∧ if c0 = true then tRet (tC (.bl false)) D [a0, some (.ref a.d), some (.ref a.g), some (.ref a.ru), some (.ref a.ow), a5, some (.str n), a7, a8, a9, some (.ref (la n)), some (.int (k : Nat)), some (.ref rw), some (.ref vd), some (.int (j : Nat)), some (.bl (readsP sj sc)), some (dv), some (.ref c), some (.ref c2), a19, a20, a21, a22, a23] H' else tNext D [a0, some (.ref a.d), some (.ref a.g), some (.ref a.ru), some (.ref a.ow), a5, some (.str n), a7, a8, a9, some (.ref (la n)), some (.int (k : Nat)), some (.ref rw), some (.ref vd), some (.int (j : Nat)), some (.bl (readsP sj sc)), some (dv), some (.ref c), some (.ref c2), a19, a20, a21, a22, a23] H' := fun H8 x f8 hx =>
      ⟨_, rfl, ne_due hx (due.fm0 f8) po ⟨_, rfl, ifF (by simp) (fin H8 c c2 f8)⟩⟩
    refine ⟨a.g, a.rs, a.rr, rw, DD a, E, R, n, k, j, xs, rfl, y7.rg, f7.at0 hrw, ry, by omega, t7, fun bad H8 f8 => ⟨true, ve.J.e, fun _ => ?_, fun z => nomatch z⟩, fun out ok H8 q f8 hq => ?_⟩
    · refine fin7 H8 _ (f7.trans f8) (.inr ⟨?_, rfl⟩)
      cases hg : readsP sj sc with
      | false => rfl
      | true => exact absurd ⟨k, j, sj, sc, rfl, rfl, hj, hk, rok.mp hg, rfl⟩ (bad (rowP sj sc xs))
    · obtain ⟨kn, jn, one, other, ek, ej, q1, q2, q3, rfl⟩ := ok
      have ek : k = kn := Int.ofNat.inj ek
      have ej : j = jn := Int.ofNat.inj ej
      subst ek ej
      rw [hj] at q1
      rw [hk] at q2
      cases q1
      cases q2
      exact fin7 H8 _ (f7.trans f8) (.inl ⟨rok.mpr q3, q, rfl, hq⟩)
  refine ⟨_, rfl, c, dxc, _, rfl, hcc, rfl, _, rfl, _, rfl, rowf_step sc1 sc2 dsj.g.1 dsk.g.1 (f5.at0 hrw) ry (by omega) t5 (fun bad H6 f6 => ⟨true, ve.J.e, fun _ => ?_, fun z => nomatch z⟩) fun ok H6 q f6 hq => ?_⟩
  · have f56 := f5.trans f6
    refine ⟨_, rfl, ne_due (b := readsP sj sc) (out := rowP sj sc xs) (.inr ⟨?_, rfl⟩) (due.fm0 f56) po ⟨_, rfl, ifF (by simp) (last H6 f56)⟩⟩
    cases hg : readsP sj sc with
    | false => rfl
    | true => exact absurd (rok.mp hg) bad
  · have f56 := f5.trans f6
    exact ⟨_, rfl, ne_due (b := readsP sj sc) (out := rowP sj sc xs) (.inl ⟨rok.mpr ok, q, rfl, hq⟩) (due.fm0 f56) po ⟨_, rfl, ifF (by simp) (last H6 f56)⟩⟩
end
end KL0
set_option Elab.async false
set_option linter.all false
set_option maxRecDepth 100000
set_option maxHeartbeats 4000000
namespace KL0
open PySem PySem.Spec PyProof.Rows L2 KB KC KS KN1 LamX K7 FM GG
def Sk (a : LA) (n : Str) (la : Str → Addr) (σ : L2.St) : Prop := ∃ a0 a5 a7 a8 a9 a11 a12 a13 a14 a15 a16 a17 a18 a19 a20 a21 a22 a23 : Option V, σ = [a0, some (.ref a.d), some (.ref a.g), some (.ref a.ru), some (.ref a.ow), a5, some (.str n), a7, a8, a9, some (.ref (la n)), a11, a12, a13, a14, a15, a16, a17, a18, a19, a20, a21, a22, a23]
def Sj (a : LA) (n : Str) (la : Str → Addr) (k : Nat) (rw vd : Addr) (σ : L2.St) : Prop := ∃ a0 a5 a7 a8 a9 a14 a15 a16 a17 a18 a19 a20 a21 a22 a23 : Option V, σ = [a0, some (.ref a.d), some (.ref a.g), some (.ref a.ru), some (.ref a.ow), a5, some (.str n), a7, a8, a9, some (.ref (la n)), some (.int (k : Nat)), some (.ref rw), some (.ref vd), a14, a15, a16, a17, a18, a19, a20, a21, a22, a23]
def S24 (σ : L2.St) : Prop := ∃ a0 a1 a2 a3 a4 a5 a6 a7 a8 a9 a10 a11 a12 a13 a14 a15 a16 a17 a18 a19 a20 a21 a22 a23 : Option V, σ = [a0, a1, a2, a3, a4, a5, a6, a7, a8, a9, a10, a11, a12, a13, a14, a15, a16, a17, a18, a19, a20, a21, a22, a23]
section
variable {CS CC CG : Addr} {T : List (Addr × Str)} {a : LA} {OO : HO} {la : Str → Addr} {E : Str → Option Ent} {R : Str → Option Str} {i : Nat} {H H' : Hp}
theorem IL.lock (x : IL CS CC CG T a (.dK (kvO la)) la E R i H) (o : HO) : IL CS CC CG T a o la E R i (upd H a.ow o) := by
  have ho := x.lw.ow
  have e1 : Fm T (fun b => b = a.ow) H (upd H a.ow o) := Fm.wr x.lw.tb ho (by intro _ z; cases z) (by intro _ z; cases z) rfl
  have z1 : SW (DD a) (fun b => b = a.ow) H := fun b hb => by
    have hb : b = a.ow := hb
    subst hb
    exact .inl ⟨.inr (.inr (.inr rfl)), _, ho⟩
  obtain ⟨u, v, k, qd⟩ := x.lw.di
  obtain ⟨k0, g0, t0⟩ := x.lw.ru
  obtain ⟨n1, n2, n3, n4, n5⟩ := x.ns
  refine ⟨⟨e1.1, ⟨u, v, k, e1.at' qd (fun z => by rw [z, ho] at qd; cases qd)⟩, e1.at' x.lw.rp (fun z => by have q := x.lw.rp; rw [z, ho] at q; cases q), L2.upd_same, fun m hm => ?_, ⟨k0, e1.at' g0 n1, t0⟩, x.lw.dr⟩, x.rg.fm e1 z1.sd n4.symm n5.symm (fun m l ss q z => ?_), x.len, x.ns⟩
  · obtain ⟨bs, q1, q2⟩ := x.lw.ls m hm
    exact ⟨bs, e1.at' q1 (z1.nl q1 q2.tup), q2.fm e1 z1⟩
  · obtain ⟨e, r, h1, _⟩ := x.rg.head q
    rw [show l = a.ow from z, ho] at h1; cases h1
end
section
variable {P : Program} {w : World} {K : PySem.W.Frag} {mg : Str → Option Value} {base : Heap} {CS CC CG CR Pl cL fTo fL : Addr} {fdTo : FuncData} {T : List (Addr × Str)} {A : Around} {outer : List PySem.Env} {s : Shared} {H0 : Hp} {E0' : XK}
theorem LwA.ll {a : LA} {OO : HO} {la : Str → Addr} {E : Str → Option Ent} {R : Str → Option Str} {H : Hp} (x : LwA T a OO la (fun n => (schs E n).map (·.2)) R H) {n : Str} (hn : n ∈ nmL) : ∃ as : List Addr, H (la n) = some (.lst (as.map V.ref)) ∧ as.length = (schs E n).length := by
  obtain ⟨as, h1, h2⟩ := x.ls n hn
  have := paired_len h2
  rw [List.length_map] at this
  exact ⟨as, h1, this⟩
theorem g_k (ve : LawE P w K mg base CS CC CG CR Pl cL fTo fdTo T) (hr : Room 9 (xLaw P w K mg base fL cL A outer s H0 E0').A) :
    ∃ t, L2.PSs (xLaw P w K mg base fL cL A outer s H0 E0') kBody t ∧
      ∀ (D : Ends) (H : Hp) (a : LA) (OO : HO) (la : Str → Addr) (E : Str → Option Ent) (R : Str → Option Str) (i k : Nat) (n : Str) (a0 a5 a7 a8 a9 a12 a13 a14 a15 a16 a17 a18 a19 a20 a21 a22 a23 : Option V), IL CS CC CG T a OO la E R i H → (∀ ps, OO ≠ .tbl ps) → (∀ ys, OO ≠ .lst ys) → n ∈ nmL → i ≤ 90 → k < (schs E n).length →
      (∀ (σ' : L2.St) (H' : Hp), Sk a n la σ' → IL CS CC CG T a OO la E R i H' → D.nx σ' H') →
      t D [a0, some (.ref a.d), some (.ref a.g), some (.ref a.ru), some (.ref a.ow), a5, some (.str n), a7, a8, a9, some (.ref (la n)), some (.int (k : Nat)), a12, a13, a14, a15, a16, a17, a18, a19, a20, a21, a22, a23] H := by
  obtain ⟨t0, t1, T0, T1, h0⟩ := g_row (fL := fL) (A := A) (outer := outer) (s := s) (H0 := H0) (E0' := E0') ve hr
  obtain ⟨t2, t3, T2, T3, h2⟩ := g_due (fL := fL) (A := A) (outer := outer) (s := s) (H0 := H0) (E0' := E0') ve hr
  obtain ⟨t4, t5, T4, T5, h4⟩ := g_cmp (fL := fL) (A := A) (outer := outer) (s := s) (H0 := H0) (E0' := E0') ve hr
  refine ⟨_, pss_cons T0 (pss_cons T1 (pss_one (ps_for PassesOwn.never rfl (pi_range1 (by rfl) ve.X.range (pa_cons (pe_callB call_len_seq (by rfl) ve.X.len PySem.boot_len (pa_cons (pv 10) pa_nil)) pa_nil)) (pg_name (i := 14) scLaw.nd rfl (Or.inr rfl)) (pss_cons T2 (pss_cons T3 (pss_cons T4 (pss_one T5))))))), ?_⟩
  intro D H a OO la E R i k n a0 a5 a7 a8 a9 a12 a13 a14 a15 a16 a17 a18 a19 a20 a21 a22 a23 y nt nl hn hi hk fin
  have at_ : ∀ {j : Nat}, j < (schs E n).length → ∃ sj, ((schs E n).map (·.2))[j]? = some sj := fun {j} h => ⟨_, List.getElem?_eq_getElem (by rw [List.length_map]; exact h)⟩
  obtain ⟨sc, hsc⟩ := at_ hk
  refine h0 _ H a OO la E R i k n sc _ _ _ _ _ _ _ _ _ _ _ _ _ _ _ _ _ _ y nt nl hn hsc fun H1 rw vd xs y1 hrw kx ry hvd => ?_
  obtain ⟨as, hl, las⟩ := y1.lw.ll hn
  have lim := y1.len n
  refine ⟨_, rfl, la n, _, rfl, .inl (SqL.of hl), _, rfl, by rw [List.length_map]; omega, by rw [List.length_map]; omega, ?_⟩
  rw [Int.toNat_natCast, List.length_map, las]
  refine for_range (n := (schs E n).length) (fun j σ H' => Sj a n la k rw vd σ ∧ Fm T N0 H1 H') ⟨⟨a0, a5, a7, a8, a9, a14, a15, a16, a17, a18, a19, a20, a21, a22, a23, rfl⟩, Fm.refl y1.lw.tb⟩ ?_ ?_
  · rintro j σ H2 hj ⟨⟨a0, a5, a7, a8, a9, a14, a15, a16, a17, a18, a19, a20, a21, a22, a23, rfl⟩, f2⟩
    show tSeq t2 _ _ [a0, some (.ref a.d), some (.ref a.g), some (.ref a.ru), some (.ref a.ow), a5, some (.str n), a7, a8, a9, some (.ref (la n)), some (.int (k : Nat)), some (.ref rw), some (.ref vd), some (.int (0 + (j : Nat))), a15, a16, a17, a18, a19, a20, a21, a22, a23] H2
    rw [Int.zero_add]
    obtain ⟨sj, hsj⟩ := at_ hj
    have y2 := y1.fm0 f2 nt
    refine h2 _ H2 a OO la E R i k j n sc sj rw vd xs _ _ _ _ _ _ _ _ _ _ _ _ _ _ _ y2 nt hn hsc hsj (f2.at0 hvd) fun H3 dv f3 due => ?_
    have f23 := f2.trans f3
    refine h4 _ H3 a OO la E R i k j n sc sj rw vd dv xs _ _ _ _ _ _ _ _ _ _ _ _ (y1.fm0 f23 nt) nt hn hsc hsj (f23.at0 hrw) kx ry due fun H4 q1 q2 f4 => ?_
    exact ⟨⟨_, _, _, _, _, _, _, _, _, _, _, _, _, _, _, rfl⟩, f23.trans f4⟩
  · rintro σ H2 ⟨⟨a0, a5, a7, a8, a9, a14, a15, a16, a17, a18, a19, a20, a21, a22, a23, rfl⟩, f2⟩
    exact fin _ H2 ⟨_, _, _, _, _, _, _, _, _, _, _, _, _, _, _, _, _, _, rfl⟩ (y1.fm0 f2 nt)
end
end KL0
set_option Elab.async false
set_option linter.all false
set_option maxRecDepth 100000
set_option maxHeartbeats 4000000
namespace KL0
open PySem PySem.Spec PyProof.Rows L2 KB KC KS KN1 LamX K7 FM GG
section
variable {P : Program} {w : World} {K : PySem.W.Frag} {mg : Str → Option Value} {base : Heap} {CS CC CG CR Pl cL fTo fL : Addr} {fdTo : FuncData} {T : List (Addr × Str)} {A : Around} {outer : List PySem.Env} {s : Shared} {H0 : Hp} {E0' : XK}
theorem g_subs (ve : LawE P w K mg base CS CC CG CR Pl cL fTo fdTo T) (hr : Room 9 (xLaw P w K mg base fL cL A outer s H0 E0').A) :
    ∃ t, L2.PS (xLaw P w K mg base fL cL A outer s H0 E0') (lS 2) t ∧
      ∀ (D : Ends) (σ : L2.St) (H : Hp) (a : LA) (la : Str → Addr) (E : Str → Option Ent) (R : Str → Option Str) (i : Nat), Sg a σ → IL CS CC CG T a (.dK (kvO la)) la E R i H → i ≤ 90 →
      (∀ (σ' : L2.St) (H' : Hp), S24 σ' → Tabs T H' → H' a.rp = some (.lst [.ref a.d]) → D.nx σ' H') →
      t D σ H := by
  obtain ⟨tk, TK, hk⟩ := g_k (fL := fL) (A := A) (outer := outer) (s := s) (H0 := H0) (E0' := E0') ve hr
  have hu := hr.units
  have hu1 := Nat.lt_trans (Nat.add_lt_add_left (by decide : 1 < 64) _) hu
  refine ⟨_, ps_lock (ps_for PassesOwn.never rfl (pi_keys (pv 4)) (pg_name (i := 6) scLaw.nd rfl (Or.inr rfl))
    (pss_cons (ps_set (i := 10) scLaw.nd rfl (Or.inr rfl) (pe_dget hu1 (pv 4) (pv 6) (fun _ _ => rfl)))
    (pss_one (ps_for PassesOwn.never rfl (pi_range1 (by rfl) ve.X.range (pa_cons (pe_callB call_len_seq (by rfl) ve.X.len PySem.boot_len (pa_cons (pv 10) pa_nil)) pa_nil)) (pg_name (i := 11) scLaw.nd rfl (Or.inr rfl)) TK)))), ?_⟩
  rintro D σ H a la E R i ⟨a0, a5, a6, a7, a8, a9, a10, a11, a12, a13, a14, a15, a16, a17, a18, a19, a20, a21, a22, a23, rfl⟩ y hi fin
  refine ⟨a.ow, _, y.lw.ow, trivial, fun od => ⟨_, rfl, a.ow, od, rfl, .inl ⟨_, L2.upd_same, ?_⟩⟩⟩
  have yl := y.lock (.frz od (.dK (kvO la)))
  have nt : ∀ ps, HO.frz od (.dK (kvO la)) ≠ .tbl ps := fun _ z => nomatch z
  have nl : ∀ ys, HO.frz od (.dK (kvO la)) ≠ .lst ys := fun _ z => nomatch z
  refine for_it walk_keys (fun j σ H' => Sg a σ ∧ IL CS CC CG T a (.frz od (.dK (kvO la))) la E R i H') ⟨⟨a0, a5, a6, a7, a8, a9, a10, a11, a12, a13, a14, a15, a16, a17, a18, a19, a20, a21, a22, a23, rfl⟩, yl⟩ (fun j σ H' _ p => p.2.lw.ow) ?_ ?_
  · rintro j x σ H2 H3 hj ⟨⟨a0, a5, a6, a7, a8, a9, a10, a11, a12, a13, a14, a15, a16, a17, a18, a19, a20, a21, a22, a23, rfl⟩, y2⟩ ⟨rfl, k, v, hkv, rfl⟩
    obtain ⟨n, hn, rfl⟩ : ∃ n, n ∈ nmL ∧ k = kS n := by
      have hj : j < 2 := hj
      have : j = 0 ∨ j = 1 := by omega
      rcases this with rfl | rfl
      · exact ⟨"p", by decide, (congrArg Prod.fst (Option.some.inj hkv)).symm⟩
      · exact ⟨"q", by decide, (congrArg Prod.fst (Option.some.inj hkv)).symm⟩
    show tSeq _ _ _ [a0, some (.ref a.d), some (.ref a.g), some (.ref a.ru), some (.ref a.ow), a5, some (.str n), a7, a8, a9, a10, a11, a12, a13, a14, a15, a16, a17, a18, a19, a20, a21, a22, a23] H3
    obtain ⟨as, hl, las⟩ := y2.lw.ll hn
    have lim := y2.len n
    refine ⟨_, rfl, _, rfl, a.ow, .ref (la n), rfl, .inl ⟨_, kS n, .inr ⟨od, y2.lw.ow⟩, rfl, (valO hn).symm⟩, ?_⟩
    refine ⟨_, rfl, la n, _, rfl, .inl (SqL.of hl), _, rfl, by rw [List.length_map]; omega, by rw [List.length_map]; omega, ?_⟩
    rw [Int.toNat_natCast, List.length_map, las]
    refine for_range (n := (schs E n).length) (fun k σ H' => Sk a n la σ ∧ IL CS CC CG T a (.frz od (.dK (kvO la))) la E R i H') ⟨⟨a0, a5, a7, a8, a9, a11, a12, a13, a14, a15, a16, a17, a18, a19, a20, a21, a22, a23, rfl⟩, y2⟩ ?_ ?_
    · rintro k σ H4 hk' ⟨⟨a0, a5, a7, a8, a9, a11, a12, a13, a14, a15, a16, a17, a18, a19, a20, a21, a22, a23, rfl⟩, y4⟩
      show tk _ [a0, some (.ref a.d), some (.ref a.g), some (.ref a.ru), some (.ref a.ow), a5, some (.str n), a7, a8, a9, some (.ref (la n)), some (.int (0 + (k : Nat))), a12, a13, a14, a15, a16, a17, a18, a19, a20, a21, a22, a23] H4
      rw [Int.zero_add]
      exact hk _ H4 a _ la E R i k n _ _ _ _ _ _ _ _ _ _ _ _ _ _ _ _ _ y4 nt nl hn hi hk' fun σ' H' hs y' => ⟨hs, y'⟩
    · rintro σ H4 ⟨⟨a0, a5, a7, a8, a9, a11, a12, a13, a14, a15, a16, a17, a18, a19, a20, a21, a22, a23, rfl⟩, y4⟩
      exact ⟨⟨_, _, _, _, _, _, _, _, _, _, _, _, _, _, _, _, _, _, _, _, rfl⟩, y4⟩
  · rintro σ H2 ⟨⟨a0, a5, a6, a7, a8, a9, a10, a11, a12, a13, a14, a15, a16, a17, a18, a19, a20, a21, a22, a23, rfl⟩, y2⟩
    refine ⟨y2.lw.ow, fin _ _ ⟨_, _, _, _, _, _, _, _, _, _, _, _, _, _, _, _, _, _, _, _, _, _, _, _, rfl⟩ (tabs_wr y2.lw.tb y2.lw.ow nt (fun _ z => nomatch z)) ?_⟩
    rw [L2.upd_ne (fun z => by have q := y2.lw.rp; rw [z, y2.lw.ow] at q; cases q)]
    exact y2.lw.rp
theorem g_once (ve : LawE P w K mg base CS CC CG CR Pl cL fTo fdTo T) (hr : Room 9 (xLaw P w K mg base fL cL A outer s H0 E0').A) :
    ∃ t, L2.PSs (xLaw P w K mg base fL cL A outer s H0 E0') law0 t ∧
      ∀ (D : Ends) (H : Hp) (d rp : Addr) (a0 a2 a3 a4 a5 a6 a7 a8 a9 a10 a11 a12 a13 a14 a15 a16 a17 a18 a19 a20 a21 a22 a23 : Option V), Tabs T H → IsDice H d → H rp = some (.lst [.ref d]) →
      (∀ (σ' : L2.St) (H' : Hp), S24 σ' → Tabs T H' → H' rp = some (.lst [.ref d]) → D.nx σ' H') →
      t D [a0, some (.ref d), a2, a3, a4, a5, a6, a7, a8, a9, a10, a11, a12, a13, a14, a15, a16, a17, a18, a19, a20, a21, a22, a23] H := by
  obtain ⟨fR, fdR, GR, gR, kR, bR⟩ := ve.roll
  obtain ⟨t0, T0, h0⟩ := g_open (fL := fL) (A := A) (outer := outer) (s := s) (H0 := H0) (E0' := E0') ve hr
  obtain ⟨td, TD, hd⟩ := g_deed (fL := fL) (A := A) (outer := outer) (s := s) (H0 := H0) (E0' := E0') ve hr
  obtain ⟨t2, T2, h2⟩ := g_subs (fL := fL) (A := A) (outer := outer) (s := s) (H0 := H0) (E0' := E0') ve hr
  refine ⟨_, pss_cons T0 (pss_cons (ps_for PassesOwn.never rfl (pi_range1 (by rfl) ve.X.range (pa_cons (pe_call GR (hr.mono (by decide)) (by rfl) gR kR bR .nil pass0 (pa_cons (pv 1) (pa_cons pe_int pa_nil))) pa_nil)) (pg_name (i := 5) scLaw.nd rfl (Or.inl rfl)) TD) (pss_one T2)), ?_⟩
  intro D H d rp a0 a2 a3 a4 a5 a6 a7 a8 a9 a10 a11 a12 a13 a14 a15 a16 a17 a18 a19 a20 a21 a22 a23 tb di hrp fin
  refine h0 _ H d rp _ _ _ _ _ _ _ _ _ _ _ _ _ _ _ _ _ _ _ _ _ _ _ tb di hrp fun H1 a la ed er y => ?_
  subst ed er
  refine ⟨_, rfl, roll_fm y.lw.di y.lw.tb (by decide) (by decide) fun r H2 r0 r1 f2 d2 => ⟨_, rfl, by omega, by omega, ?_⟩⟩
  have y2 := y.roll (fun _ z => nomatch z) (fun _ z => nomatch z) f2 d2
  refine for_range (n := r.toNat) (fun j σ H' => Sg a σ ∧ ∃ la E R, IL CS CC CG T a (.dK (kvO la)) la E R j H') ⟨⟨_, _, _, _, _, _, _, _, _, _, _, _, _, _, _, _, _, _, _, _, rfl⟩, _, _, _, y2⟩ ?_ ?_
  · rintro j σ H3 hj ⟨⟨a0, a5, a6, a7, a8, a9, a10, a11, a12, a13, a14, a15, a16, a17, a18, a19, a20, a21, a22, a23, rfl⟩, la, E, R, y3⟩
    show td _ [a0, some (.ref a.d), some (.ref a.g), some (.ref a.ru), some (.ref a.ow), some (.int (0 + (j : Nat))), a6, a7, a8, a9, a10, a11, a12, a13, a14, a15, a16, a17, a18, a19, a20, a21, a22, a23] H3
    exact hd _ _ H3 a la E R j ⟨_, _, _, _, _, _, _, _, _, _, _, _, _, _, _, _, _, _, _, _, rfl⟩ y3 (by omega) fun σ' H' la' E' R' hs y' => ⟨⟨hs, _, _, _, y'⟩, ⟨hs, _, _, _, y'⟩⟩
  · rintro σ H3 ⟨hs, la, E, R, y3⟩
    exact h2 D σ H3 a la E R _ hs y3 (by omega) fin
end
end KL0
set_option Elab.async false
set_option linter.all false
set_option maxRecDepth 100000
set_option maxHeartbeats 2000000
namespace RC
open PySem PySem.Spec PyProof.Rows L2
def Back (X : Cx) (pins : List (Addr × Obj)) (σ : L2.St) (Y : Cx) : Prop := ∀ (pins' : List (Addr × Obj)) (σ' : L2.St) (H' : Hp) (s' : Shared), Inv Y pins' σ' H' s' → Inv X pins σ H' s'
section
variable {X : Cx}
theorem pe_lcB {elt tg iter : Expr} {ifs : List Expr} {scope : Scope} {own : List (Str × Nat)} {pos : Pos} {wi : TI} {g : TG} {tt : L2.St → TT} {te : TE} {E : XK} (hc : X.calm = true) (hN : X.N.Nodup) (hst : X.stack = X.env :: X.outer) (hf : X.env.frame = some X.env.locals) (tk : Takes X (fun cls d _ H => E cls d H)) (hi : PI X tg iter wi) (ok : BlkOk X.N X.env.scope scope own)
    (hg : ∀ (s : Shared) (H : Hp) (C : Addr) (cl : List (Str × Addr)) (fp : List Addr) (xe : Value → Shared → Prop), PassB X E (blkX X s H scope (compEnvC scope cl C X.env) fp xe) → PG (blkX X s H scope (compEnvC scope cl C X.env) fp xe) tg g)
    (ht : ∀ (pins : List (Addr × Obj)) (σ : L2.St) (s : Shared) (H : Hp) (C : Addr) (cl : List (Str × Addr)) (fp : List Addr) (xe : Value → Shared → Prop), Back X pins σ (blkX X s H scope (compEnvC scope cl C X.env) fp xe) → PassB X E (blkX X s H scope (compEnvC scope cl C X.env) fp xe) → PTs (blkX X s H scope (compEnvC scope cl C X.env) fp xe) ifs (tt σ))
    (he : ∀ (s : Shared) (H : Hp) (C : Addr) (cl : List (Str × Addr)) (fp : List Addr) (xe : Value → Shared → Prop), PassB X E (blkX X s H scope (compEnvC scope cl C X.env) fp xe) → PE (blkX X s H scope (compEnvC scope cl C X.env) fp xe) elt te) (hs : ∀ x, foldedSetIterable iter X.env x = pure x := by intro _; rfl) :
    PE X (.ListComp elt [⟨tg, iter, ifs, 0⟩] scope pos) (fun σ H Q => tLc wi g (tt σ) te (own.map (·.2)) σ H Q) := by
  refine ⟨fun pins s σ H Q I h => ?_⟩
  rw [eval_ListComp]
  have hfree : ∀ y ∈ scope.names, y.2 = .free → ∃ c, X.env.cells.lookup y.1 = some c := fun y hy e => (ok.free y hy e).elim (fun k => I.ok.has _ (.inl k)) fun k => I.ok.has _ (.inr k)
  refine comprehension_at (use := none) rfl hs (closure_ok hfree) ok.kind (fun y hy e => by rw [ok.uniq y hy, e]) (thn (hi.run pins s σ H _ I h) fun xv s1 hx => thn hx fun itv s2 ⟨it, fp, tn, J, H2, e, I2, T, st2, f2, q⟩ => ?_)
  subst e
  refine wpAny_newObj_type (newEnv_comp ?_) (by show 0 ≤ sizeLine; decide)
  generalize hD : s2.heap.objs.size = D
  obtain ⟨W, ⟨m0, w0⟩, turn⟩ := q D (I2.hok.fresh (Nat.le_of_eq hD))
  generalize hs3 : ({ s2 with heap := s2.heap.push { cls := .type "list", data := .seq ([] : List Value).toArray } } : Shared) = s3
  have I3 : Inv X pins σ (upd H2 D (.lst [])) s3 := by
    rw [← hs3]
    refine I2.laid (t' := s2.toks) (fun b o e => Heap.get?_push_of_some _ e) (Nat.le_of_eq hD) ⟨Nat.zero_le _, [], 0, .nil, ?_⟩
    rw [← hD]
    exact Heap.get?_push_size _ rfl
  have h3 : s3.heap = s2.heap.push { cls := .type "list", data := .seq ([] : List Value).toArray } := by rw [← hs3]
  have f3 : ∀ b ∈ fp, FpOk X pins (upd H2 D (.lst [])) b ∧ b < s3.heap.objs.size := fun b hb => by
    obtain ⟨o, e, _⟩ := T.obj _ _ st2 b hb
    have hlt := Heap.lt_size e
    refine ⟨⟨?_, (f2 b hb).2⟩, by rw [h3, Heap.size_push]; exact Nat.lt_succ_of_lt hlt⟩
    rw [upd_ne (by rw [← hD]; exact Nat.ne_of_lt hlt)]
    exact (f2 b hb).1
  have st3 : tn 0 s3.heap := T.keep _ _ _ st2 fun b _ o e => by rw [h3]; exact Heap.get?_push_of_some _ e
  have I4 := block_start I3 ok hN f3
  have pg := fun xe => hg s3 (upd H2 D (.lst [])) s3.heap.objs.size (cellsFrom (s3.heap.objs.size + 1) scope.names (cloFrom X.env.cells scope.names [])) fp xe
  have pt := fun xe => ht pins σ s3 (upd H2 D (.lst [])) s3.heap.objs.size (cellsFrom (s3.heap.objs.size + 1) scope.names (cloFrom X.env.cells scope.names [])) fp xe
  have pe := fun xe => he s3 (upd H2 D (.lst [])) s3.heap.objs.size (cellsFrom (s3.heap.objs.size + 1) scope.names (cloFrom X.env.cells scope.names [])) fp xe
  show codeAny _ _ (.compStart (.ListComp elt [⟨tg, iter, ifs, 0⟩] scope pos) 0 (.ref it) (.ref D) (compEnvC scope (cellsFrom (s3.heap.objs.size + 1) scope.names (cloFrom X.env.cells scope.names [])) s3.heap.objs.size X.env)) (compEnds (model X.prog X.w) X.A X.xe none (fun v s' => EP X pins σ Q v s') (.ref D) (compEnvC scope (cellsFrom (s3.heap.objs.size + 1) scope.names (cloFrom X.env.cells scope.names [])) s3.heap.objs.size X.env)) { s3 with heap := pushCells (s3.heap.push { cls := .type "dict", data := .dict #[] }) scope.names }
  have nfp : ∀ b ∈ fp, (upd H2 D (.lst [])) b = none := fun b hb => (f3 b hb).1.1
  generalize hce : compEnvC scope (cellsFrom (s3.heap.objs.size + 1) scope.names (cloFrom X.env.cells scope.names [])) s3.heap.objs.size X.env = ce at I4 pg pt pe ⊢
  have cL : ce.locals = s3.heap.objs.size := by subst hce; rfl
  have cF : ce.frame = X.env.frame := by subst hce; rfl
  generalize hH3 : upd H2 D (.lst []) = H3 at I3 I4 pg pt pe w0 nfp f3
  generalize hs4 : ({ s3 with heap := pushCells (s3.heap.push { cls := .type "dict", data := .dict #[] }) scope.names } : Shared) = s4 at I4 ⊢
  have st4 : tn 0 s4.heap := T.keep _ _ _ st3 fun b _ o e => by rw [← hs4]; exact pushCells_keeps _ _ _ _ (Heap.get?_push_of_some _ e)
  generalize hxe : notedBy (model X.prog X.w) X.A ce (fun e s' => CompFails (model X.prog X.w) X.A X.xe ce e s') = xe
  have back : ∀ {pins' : List (Addr × Obj)} {σ' : L2.St} {H' : Hp} {s' : Shared}, Inv (blkX X s3 H3 scope ce fp xe) pins' σ' H' s' → Inv X pins σ H' s' := fun {pins' σ' H' s'} I' => I3.call' (ch := fp) I'.os I'.base I'.hok I'.bare fun b hb => ⟨(f3 b hb).1.2.2.2.1, (f3 b hb).1.2.1, (f3 b hb).1.2.2.2.2.1, (f3 b hb).1.2.2.2.2.2⟩
  have bk : Back X pins σ (blkX X s3 H3 scope ce fp xe) := fun _ _ _ _ I' => back I'
  have freeC : ∀ {pins' : List (Addr × Obj)} {σ' : L2.St} {H' : Hp} {s' : Shared}, Inv (blkX X s3 H3 scope ce fp xe) pins' σ' H' s' → H' ce.locals = none := fun I' => I'.free
  have pass : PassB X E (blkX X s3 H3 scope ce fp xe) := fun pins' σ' H' s5 u s' I' c => by
    have nC := freeC I'
    have I7 := back I'
    have nC' : H' s3.heap.objs.size = none := by rw [← cL]; exact nC
    obtain ⟨f0, f1, f2', f3', f4', f5'⟩ := I3.fpOk (Nat.le_refl _) nC'
    have fC : ce.locals ∉ frs X.stack := by
      rw [cL, hst]
      intro z
      obtain ⟨en, hen, hz⟩ := List.mem_filterMap.mp z
      rcases List.mem_cons.mp hen with rfl | hen
      · rw [hf] at hz
        exact f1 (Option.some.inj hz).symm
      · exact f2' (List.mem_filterMap.mpr ⟨en, hen, hz⟩)
    obtain ⟨mm, hn, _⟩ := I'.loc
    have hn : s5.heap.Ns ce.locals mm := hn
    obtain ⟨oC, es, ep, hoC, rest⟩ := id hn
    obtain ⟨hO, r1, r2⟩ := restrict s5.heap fun b => decide (b ≠ ce.locals)
    have kO : ∀ b o, hO.get? b = some o → s5.heap.get? b = some o := fun b o e => by
      by_cases z : b = ce.locals
      · rw [r2 b (by simp [z])] at e; cases e
      · rw [r1 b (by simp [z])] at e; exact e
    have IO : Inv X pins σ H' { s5 with heap := hO, toks := s5.toks } := by
      refine I7.turned (it := s3.heap.objs.size) (t' := s5.toks) (fun b o hb e => ?_) f0 f1 f3' f4' f5'
      rw [r1 b (by rw [cL]; simp [hb])]
      exact e
    have fly : FlyC X (fun cls d _ H => E cls d H) ce.locals u s' := fly_of (s := s5) (sO := { s5 with heap := hO, toks := s5.toks }) (oC := oC) IO (r2 _ (by simp)) kO rfl hoC nC fC (fun _ _ _ z => z) c
    have hn' : s'.heap.Ns ce.locals mm := ns_keeps hn fun o ho => by
      obtain ⟨a, B, H6, cls, d, _, fl, _, ub, _⟩ := c
      exact fl.1 _ _ (ub.keep _ _ ho nC fC)
    rw [← hxe]
    exact noted hst hf cF tk fly hn'
  have stat : ∀ {σ' : L2.St} {H' : Hp} {s' : Shared}, Inv (blkX X s3 H3 scope ce fp xe) [] σ' H' s' → (∀ b ∈ fp, H' b = none) → ∀ b ∈ fp, FpOk (blkX X s3 H3 scope ce fp xe) [] H' b := fun {σ' H' s'} I' hn b hb =>
    ⟨hn b hb, (I'.ok.exf b hb).1, I'.ok.exfs b hb, .inl hb, fun x c e => (I'.ok.exf b hb).2 x c e, fun p hp => absurd (show p ∈ ([] : List (Addr × Obj)) ++ [] from hp) (by simp)⟩
  have loop : codeAny (model X.prog X.w) X.A (.compLoop (.ListComp elt [⟨tg, iter, ifs, 0⟩] scope pos) 0 (.ref it) (.ref D) ce) (compEnds (model X.prog X.w) X.A X.xe none (fun v s' => EP X pins σ Q v s') (.ref D) ce) s4 := by
    refine compLoop_any (fun n s' => ∃ i H', Inv (blkX X s3 H3 scope ce fp xe) [] (wipe σ (own.map (·.2))) H' s' ∧ tn i s'.heap ∧ (∀ b ∈ fp, H' b = none) ∧ W i n H') ?_ m0 ⟨0, H3, inv_blkX I4, st4, nfp, w0⟩
    rintro n s5 ⟨i, H5, I5, st5, n5, w5⟩
    have err : ∀ {α : Type} {t : Sem α} {R R' : α → Shared → Prop} {sx : Shared}, wpAny (model X.prog X.w) X.A t R xe sx → (∀ a s', R a s' → R' a s') → wpAny (model X.prog X.w) X.A t R' (notedBy (model X.prog X.w) X.A ce fun e s' => compEnds (model X.prog X.w) X.A X.xe none (fun v s' => EP X pins σ Q v s') (.ref D) ce (.error e) s') sx := fun hw hR => by
      refine wpAny_mono hw hR fun e s' he => ?_
      rw [← hxe] at he
      exact he
    rcases turn i n H5 w5 with ⟨stop, qq⟩ | ⟨go, Nx, hNx, step⟩
    · refine thnF (T.done (blkX X s3 H3 scope ce fp xe) rfl rfl rfl hc i [] s5 _ H5 (fun _ _ => False) I5 (stat I5 n5) st5 stop) fun r s6 ⟨hr, I6⟩ => ?_
      subst hr
      have nC : H5 s3.heap.objs.size = none := by rw [← cL]; exact freeC I6
      obtain ⟨m, hn, _⟩ := I6.loc
      have hn : s6.heap.Ns ce.locals m := hn
      refine ⟨m, hn, fun h'' sb => ?_⟩
      obtain ⟨f0, f1, f2, f3, f4, f5⟩ := I3.fpOk (Nat.le_refl _) nC
      exact ⟨.ref D, H5, (back I6).turned (t' := s6.toks) (fun b o hb e => (sb.2 b (by rw [cL]; exact hb)).trans e) f0 f1 f3 f4 f5, rfl, qq⟩
    · refine thnF (T.item (blkX X s3 H3 scope ce fp xe) rfl rfl rfl hc i [] s5 _ H5 (fun _ _ => False) I5 (stat I5 n5) st5 go) fun r s6 ⟨u, hr, h6⟩ => ?_
      subst hr
      refine thnF h6 fun _ s7 ⟨x, H7, I7, r7, y7, st7, n7⟩ => ?_
      have I7' := I7.pinned (stat I7 n7) (T.obj _ _ st7)
      refine err ((pg xe pass).run _ s7 _ H7 x u _ I7' r7 (step x H7 y7)) fun _ s8 ⟨σ8, H8, I8, hw8, q8⟩ => ?_
      refine err ((pt xe bk pass).run _ s8 σ8 H8 _ I8 q8) fun b s9 ⟨H9, I9, q9⟩ => ?_
      have fin : ∀ {s' : Shared} {H' : Hp}, Inv (blkX X s3 H3 scope ce fp xe) ([] ++ pinsAt fp s7.heap) σ8 H' s' → Nx H' → ∃ m, m < n ∧ ∃ i H', Inv (blkX X s3 H3 scope ce fp xe) [] (wipe σ (own.map (·.2))) H' s' ∧ tn i s'.heap ∧ (∀ b ∈ fp, H' b = none) ∧ W i m H' := fun {s' H'} I' nx => by
        obtain ⟨m', hm, w'⟩ := hNx H' nx
        have pin' : ∀ b ∈ fp, ∀ o, s7.heap.get? b = some o → s'.heap.get? b = some o ∧ H' b = none := fun b hb o e =>
          let z := I'.pin (b, o) (List.mem_append_right _ (List.mem_append_right _ (mem_pinsAt hb e)))
          ⟨z.1, z.2.1⟩
        refine ⟨m', hm, i + 1, H', (I'.unpinned (pins := [])).weak (by rw [← hw8, wipe_length]) (fun j v e => (wipe_some (by rw [hw8]; exact e)).1), T.keep _ _ _ st7 fun b hb o e => (pin' b hb o e).1, fun b hb => ?_, w'⟩
        obtain ⟨o, e, _⟩ := T.obj _ _ st7 b hb
        exact (pin' b hb o e).2
      cases b with
      | false =>
        simp only [Bool.false_eq_true, if_false] at q9 ⊢
        exact fin I9 q9
      | true =>
        simp only [if_true] at q9 ⊢
        refine err ((pe xe pass).run _ s9 σ8 H9 _ I9 q9) fun z s10 ⟨yv, H10, I10, r10, acc, hD10, hz10, nx⟩ => ?_
        exact app_ok (X := blkX X s3 H3 scope ce fp xe) I10 hD10 hz10 r10 fun s11 I11 => fin I11 nx
  exact codeAny_compStart_list loop (T.self X.A 0 _ _ _ st4 loop)
end
end RC
set_option Elab.async false
set_option linter.all false
set_option maxRecDepth 100000
set_option maxHeartbeats 2000000
namespace CL
open PySem PySem.Spec PyProof.Rows L2 KB KC KD LamX CP RC
def Held (X : Cx) (params : Arguments) (body : Expr) (scope : Scope) (f c' : Addr) (H : Hp) : Prop :=
  H f = some (CloO f (X.env.qual ++ "<lambda>") params body scope (cloFrom X.env.cells scope.names []) c') ∧ H c' = some (CodeO c' (X.env.qual ++ "<lambda>"))
def GivesH (X : Cx) (Ng : List Str) (x : Str) (sg : Scope) (g : Addr) (cdg : Value) (bg : List Stmt) (a : Str) (TT : (XK → Hp → VK → Prop) → Hp → VK → Prop) : Prop :=
  ∀ (f : Addr) (Hd : Hp → Prop) (s : Shared) (H : Hp) (Q : VK) (tl : XK → Hp → VK → Prop),
    (∀ (W : WX) (pn : List (Addr × Obj)) (xe : Value → Shared → Prop) (E : XK) (p1 p2 : Pos), Takes ((cxOf C8.CX0 X.prog X.w X.K X.mg X.base Ng x sg g cdg X.A X.stack s H C8.E0).tr pn xe) W → (∀ cls d σ' H', E cls d H' → W cls d σ' H') →
      PE ((cxOf C8.CX0 X.prog X.w X.K X.mg X.base Ng x sg g cdg X.A X.stack s H C8.E0).tr pn xe) (.Call (.Name a p1) [] [] p2) (fun σZ HZ Q => σZ[0]? = some (some (.ref f)) ∧ Hd HZ ∧ tl E HZ Q)) →
    Hd H → TT tl H Q →
    ∃ t, PSs (cxOf C8.CX0 X.prog X.w X.K X.mg X.base Ng x sg g cdg X.A X.stack s H C8.E0).nox bg t ∧ t { nx := fun _ H' => Q .non H', rt := Q } (L2.start Ng [.ref f]) H
section
variable {X : Cx} {pins : List (Addr × Obj)} {σ : L2.St} {H : Hp} {s : Shared}
theorem pe_actH {CXg : CXT} {Eg : XK} {Ng : List Str} {qg : Str} {sg : Scope} {g f c' : Addr} {cdg : Value} {params : Arguments} {body : Expr} {scope : Scope} {k i : Nat} {a : Str} {pn : List (Addr × Obj)} {xe : Value → Shared → Prop} {W : WX} {E : XK} {tb : TE} {p1 p2 : Pos}
    (I : Inv X pins σ H s) (L : LamS X.env.scope scope)
    (hbind : ∀ pm ctv : Value, bindArgs (PySem.W.kla_fn "<lambda>" (X.env.qual ++ "<lambda>") params body scope (cloFrom X.env.cells scope.names []) pm (.ref c') ctv) ⟨[], []⟩ = pure [])
    (tk : Takes ((cxOf CXg X.prog X.w X.K X.mg X.base Ng qg sg g cdg X.A X.stack s H Eg).tr pn xe) W) (hW : ∀ cls d σ' H', E cls d H' → W cls d σ' H') (hr : Room (k + 1) (X.A.deeper (envOfC qg sg s.heap.objs.size g cdg)))
    (hbody : ∀ (A : Around) (outer : List Env) (s : Shared) (H : Hp), Room k (A.deeper (lamEnv X scope s.heap.objs.size f c')) → PE (lamCx X A outer s H E scope f c') body tb)
    (hN : Ng[i]? = some a) (hv : Vis sg a) (hd : (a == ("__debug__" : Str)) = false := by decide) (hcd : (a == ("__classdict__" : Str)) = false := by decide) :
    PE ((cxOf CXg X.prog X.w X.K X.mg X.base Ng qg sg g cdg X.A X.stack s H Eg).tr pn xe) (.Call (.Name a p1) [] [] p2)
      (fun σZ HZ Q => σZ[i]? = some (some (.ref f)) ∧ Held X params body scope f c' HZ ∧ tb σ HZ Q) := by
  refine ⟨fun pinsZ sZ σZ HZ Q IZ h => ?_⟩
  obtain ⟨hs, ⟨hf, hc⟩, ht⟩ := h
  have nm := (pe_var (pos := p1) (i := i) hN hv hd hcd).run pinsZ sZ σZ HZ (fun v H1 => v = .ref f ∧ H1 = HZ) IZ ⟨.ref f, hs, rfl, rfl⟩
  refine wpAny_Call_Name_kw (thn nm fun u s1 hu => ?_)
  obtain ⟨v, H1, I1, r1, ev, eH⟩ := hu
  subst ev
  rw [eH] at I1
  have eu : u = Value.ref f := r1
  subst eu
  obtain ⟨⟨pm, ctv, of1⟩, _, _⟩ := I1.hok f _ hf
  obtain ⟨⟨oc, vsc, tc, hoc, hdc, hvc⟩, _, _⟩ := I1.hok c' _ hc
  refine PySem.W.callWith_F0 ⟨_, _, _, _, of1⟩ ?_
  have un : Un (frs X.stack) [] H HZ s.heap s1.heap := I1.base
  have run : codeAny (model X.prog X.w) (X.A.deeper (envOfC qg sg s.heap.objs.size g cdg)) (.call (.ref f) ⟨[], []⟩) (CR (L2.CX X.prog X.w) (envOfC qg sg s.heap.objs.size g cdg :: X.stack) X.prog X.w HZ s1 Q E) s1 := by
    refine PySem.W.kla_callFunE hr.depth of1 rfl L.co L.gen rfl ⟨c', oc, vsc, tc, rfl, hoc, hdc, hvc⟩ ?_
    rw [hbind pm ctv]
    refine wpAny_pure (wpAny_newFunctionEnv (fun y hy => (L.own y hy).2) (fun y hy => absurd hy (by simp)) (fun h₁ hns hsb => ⟨I1.nolimit.fresh _ hsb, ?_⟩) L.kind)
    have kp : ∀ b o, s1.heap.get? b = some o → h₁.get? b = some o := fun b o e => hsb.extBut b o (Nat.ne_of_lt (Heap.lt_size e)) (Heap.get?_push_of_some _ e)
    have J := lam_start2 (E := E) (f := f) (c' := c') (tk := s1.toks + ([] : List (Str × Value)).length) I L I1.env0 hr.hd un hns kp
    exact PySem.W.kla_codeExpr (wpAny_mono ((hbody _ _ s1 HZ (hr.deeper _)).run [] _ _ HZ Q J ht) (fun v s' ⟨w', H', J', rv, q⟩ => ⟨w', H', J'.os, J'.bare, J'.base, J'.hok, rv, q⟩) fun e s' hq => hq)
  have hx : Passes (L2.CX X.prog X.w) ((cxOf CXg X.prog X.w X.K X.mg X.base Ng qg sg g cdg X.A X.stack s H Eg).tr pn xe) E := passes_call tk hW
  refine wpAny_call (codeAny_mono run fun r s' hq => ?_)
  match r, hq with
  | .error e, hq => exact hx pinsZ σZ HZ s1 e s' I1 hq
  | .ok (.ret u), hq => exact I1.after hq
  | .ok .next, hq => exact False.elim hq
  | .ok .brk, hq => exact False.elim hq
  | .ok .cont, hq => exact False.elim hq
def CloAt (X : Cx) (k : Nat) (σ : L2.St) (f : Addr) (H : Hp) (R : (XK → Hp → VK → Prop) → Prop) : Prop :=
  ∃ (c' : Addr) (params : Arguments) (body : Expr) (scope : Scope) (t : XK → TE), Held X params body scope f c' H ∧ LamS X.env.scope scope ∧
    (∀ (q : Str) (cl : List (Str × Addr)) (pm cv ctv : Value), bindArgs (PySem.W.kla_fn "<lambda>" q params body scope cl pm cv ctv) ⟨[], []⟩ = pure []) ∧
    (∀ (A : Around) (outer : List Env) (s : Shared) (H : Hp) (E : XK), Room k (A.deeper (lamEnv X scope s.heap.objs.size f c')) → PE (lamCx X A outer s H E scope f c') body (t E)) ∧ R (fun E H' Q' => t E σ H' Q')
end
section
variable {X : Cx} {pins : List (Addr × Obj)} {σ : L2.St} {s0 : Shared} {H0 : Hp} {sc : Scope} {ce : Env} {fp : List Addr} {xe0 : Value → Shared → Prop}
theorem pe_clocall {TT : (XK → Hp → VK → Prop) → Hp → VK → Prop} {x a : Str} {g : Addr} {k : Nat} {pg : Arguments} {bg : List Stmt} {sg : Scope} {dV kV doc pm cdv ct oc : Value} {an od : Option Addr} {osl : Array (Option Value)} {Ng : List Str} {ea : Expr} {p pos : Pos}
    (bk : Back X pins σ (blkX X s0 H0 sc ce fp xe0)) (hg : Gl (blkX X s0 H0 sc ce fp xe0) x) (hm : X.mg x = some (.ref g)) (hk : PySem.W.keepIn X.K (.ref g) = true)
    (lk : X.K.lookup g = some ⟨oc, od, .func (PySem.W.fnOf x x pg bg sg dV kV doc pm an cdv ct), osl⟩) (hcg : PySem.W.codeIn X.K cdv x = true) (hb : L2.Binds X.K (PySem.W.fnOf x x pg bg sg dV kV doc pm an cdv ct) [a] []) (Sg : FnScope Ng [a] sg) (hNg : Ng[0]? = some a) (hva : Vis sg a)
    (hG : GivesH X Ng x sg g cdv bg a TT) (hr : Room (k + 2) X.A) {ta : TA} (ha : PA (blkX X s0 H0 sc ce fp xe0) [ea] ta)
    (hdb : (x == ("__debug__" : Str)) = false := by decide) (hd : (a == ("__debug__" : Str)) = false := by decide) (hcd : (a == ("__classdict__" : Str)) = false := by decide)
    (he : starEach [ea] (blkX X s0 H0 sc ce fp xe0).env = (false, eval ea (blkX X s0 H0 sc ce fp xe0).env) :: starEach [] (blkX X s0 H0 sc ce fp xe0).env := by rfl) (hpl : (backTo pos (starEach [] (blkX X s0 H0 sc ce fp xe0).env)).any (·.1) = false := by rfl) :
    PE (blkX X s0 H0 sc ce fp xe0) (.Call (.Name x p) [ea] [] pos) (fun σ' H Q => ta σ' H fun vs H1 => ∃ f, vs = [.ref f] ∧ CloAt X k σ f H1 fun tl => TT tl H1 Q) := by
  refine ⟨fun pins' s σ' H Q I h => ?_⟩
  refine wpAny_Call_Name_kw (ld_glob I hg hm ?_ hdb)
  refine PySem.W.callWith_K (h₀ := X.base) I.ok.mod.kin hk (thn (ha.run pos pins' s σ' H _ I h) fun us s1 ⟨vs, H1, I1, r, f, ev, ca⟩ => ⟨I1.kIn, ?_⟩) he hpl
  subst ev
  obtain rfl : us = [.ref f] := by
    cases r with
    | cons r1 rs =>
      cases rs
      have z : _ = Value.ref f := r1
      rw [z]
  obtain ⟨c', params, body, scope, t, hd', L, hb', hbody, q⟩ := ca
  have IX : Inv X pins σ H1 s1 := bk _ _ _ _ I1
  have run : codeAny (model X.prog X.w) X.A (.call (.ref g) ⟨[.ref f], []⟩) (CR C8.CX0 X.stack X.prog X.w H1 s1 Q C8.E0) s1 := by
    refine run_ofS (N := Ng) (ps := [a]) (us := [.ref f]) (vs := [.ref f]) lk hcg Sg hr IX.env0 (hb s1 [.ref f] IX.kIn rfl) (.cons rfl .nil) rfl fun hr' => ?_
    obtain ⟨t', ht', hq'⟩ := hG f (Held X params body scope f c') s1 H1 Q _ (fun W pn xe E p1 p2 tk hW => pe_actH (i := 0) (tb := t E) IX L (fun _ _ => hb' _ _ _ _ _) tk hW hr' (fun A outer s H hr2 => hbody A outer s H E hr2) hNg hva hd hcd) hd' q
    exact ⟨t', ht'.nox, hq'⟩
  refine wpAny_call (codeAny_mono run fun r s2 hq => ?_)
  match r, hq with
  | .error e, hq => exact (show False from hq).elim
  | .ok (.ret u), hq => exact I1.after hq
  | .ok .next, hq => exact False.elim hq
  | .ok .brk, hq => exact False.elim hq
  | .ok .cont, hq => exact False.elim hq
theorem told_givesH {X : Cx} {Ng : List Str} {x a e ret : Str} {sg : Scope} {g CS : Addr} {cdg : Value} {j : Nat} {p1 p2 p3 p4 p5 p6 p7 p8 : Pos} (hge : sg.names.lookup e = some .globalImplicit) (hme : X.mg e = some (.ref CS)) (hde : (e == ("__debug__" : Str)) = false) (h0 : ∀ f : Addr, (L2.start Ng [V.ref f])[0]? = some (some (V.ref f))) :
    GivesH X Ng x sg g cdg [.Try [.Return (some (.Call (.Name a p1) [] [] p2)) p3] [.ExceptHandler (some (.Name e p4)) none [.Return (some (.Constant (.str ret) j p5)) p6] p7] [] [] p8] a (TTold X.K CS ret) := by
  intro f Hd s H Q tl act hd h
  have hgl : Gl (cxOf C8.CX0 X.prog X.w X.K X.mg X.base Ng x sg g cdg X.A X.stack s H C8.E0).nox e := hge
  refine ⟨_, pss_one (ps_try_only (X := (cxOf C8.CX0 X.prog X.w X.K X.mg X.base Ng x sg g cdg X.A X.stack s H C8.E0).nox) (c := .ref CS) (tb := fun W D σ H => ∃ E' : XK, (∀ cls d σ' H', E' cls d H' → W cls d σ' H') ∧ σ[0]? = some (some (.ref f)) ∧ Hd H ∧ tl E' H D.rt)
      rfl rfl ⟨hgl, hde, .inl hme⟩ L2.takes0 (fun W pn xe tk _ => ⟨fun pins s' σ H' D I ⟨E', hW, w1, w2, w3⟩ => (pss_one (ps_ret (pos := p3) (act W pn xe E' p1 p2 tk hW))).run pins s' σ H' D I ⟨w1, w2, w3⟩⟩) (fun _ _ _ _ _ _ _ => pss_one (ps_ret pe_str))), ?_⟩
  exact ⟨_, fun cls d σ' H' ⟨b, e1, e2, e3⟩ => ⟨b, e1, fun hb _ _ => e2 hb, fun hb => e3 hb⟩, h0 f, hd, h⟩
end
end CL
set_option Elab.async false
set_option linter.all false
set_option maxRecDepth 100000
set_option maxHeartbeats 4000000
namespace KL0
open PySem PySem.Spec PyProof.Rows L2 KB KC KS KN1 LamX K7 FM GG CL
abbrev nm2 : List Str := ["x", "y"]
def sA : Sc := ([("a", "int")], [])
def sB : Sc := ([("a", "int"), ("b", "text")], [("b", .str "")])
def eA (l c : Addr) : Str → Option Ent := putG (fun _ => none) "x" (some (l, [(c, sA)]))
structure TwoA (CS CC CG t rs rr l c : Addr) (H : Hp) : Prop where
  rg : RegA CS CC CG (fun b => b = rs ∨ b = rr) nm2 t rs rr (eA l c) (fun _ => none) H
def S2 (t : Addr) (σ : L2.St) : Prop := ∃ a0 a1 a2 a3 a4 a5 a6 a7 a8 a9 a10 a11 a12 a13 a14 a15 a16 a17 a18 a20 a21 a22 a23 : Option V, σ = [a0, a1, a2, a3, a4, a5, a6, a7, a8, a9, a10, a11, a12, a13, a14, a15, a16, a17, a18, some (.ref t), a20, a21, a22, a23]
theorem schs_A (l c : Addr) : schs (eA l c) "x" = [(c, sA)] := by unfold schs eA; rw [putG_same]
theorem schs_Ay (l c : Addr) : schs (eA l c) "y" = [] := by unfold schs eA; rw [putG_ne _ _ (by decide)]
section
variable {CS CC CG CR : Addr} {T : List (Addr × Str)} {K : PySem.W.Frag}
theorem TwoA.fm0 {t rs rr l c : Addr} {H H' : Hp} (x : TwoA CS CC CG t rs rr l c H) (e : Fm T N0 H H') : TwoA CS CC CG t rs rr l c H' := ⟨x.rg.fm0 e⟩
theorem sch_step {c dx l : Addr} {v : V} {ts : List Addr} {cols : Co} {lk : Lk} {H : Hp} {Q : VK} {Xe : XK} (nx : H c = none) (nd : H dx = none) (ne : c ≠ dx) (hl : H l = some (.lst (ts.map V.ref))) (cs : Cols H ts cols) (len : cols.length ≤ 1000) (lv : LkArg K H v lk) (okl : OkL lk) (tab : Tabs T H)
    (bad : ¬ goodC (cols, lk) → ∀ H', Fm T N0 H H' → Xe (.ref CR) none H') (good : goodC (cols, lk) → ∀ H', Fm T N0 H H' → SchA CS CC (WasD H) c (cols, lk) H' → Q .non H') : spSch K CS CC CR T [.ref c, .ref l, v] (upd (upd H dx (.own c)) c (.ins CC dx [])) Q Xe := by
  have e1 : KS.Ex H (upd (upd H dx (.own c)) c (.ins CC dx [])) := (Ex.upd nd).trans (Ex.upd (by rw [L2.upd_ne ne]; exact nx))
  have x1 : (upd (upd H dx (.own c)) c (.ins CC dx [])) c = some (.ins CC dx []) := L2.upd_same
  generalize upd (upd H dx (.own c)) c (.ins CC dx []) = H2 at e1 x1
  have sh : ∀ {H3 : Hp}, Fm T (fun b => b = c) H2 H3 → Fm T N0 H H3 := fun f3 => ((Fm.ex tab e1).trans f3).shrink fun b hb => .inr (by rw [show b = c from hb]; exact nx)
  unfold spSch
  refine ⟨c, dx, l, v, ts, cols, lk, rfl, x1, e1 _ _ hl, cs.ex e1, len, ?_, okl, tab.ext e1, fun ng H3 f3 => bad ng H3 (sh f3), fun g H3 f3 sa => good g H3 (sh f3) (sa.mono fun b ⟨kvs, q⟩ => ⟨kvs, e1 _ _ q⟩)⟩
  obtain ⟨d, h1, h2⟩ := lv
  exact ⟨d, h1, h2.elim (fun q => .inl (e1 _ _ q)) .inr⟩
theorem okl_nil : OkL [] := ⟨.nil, Nat.zero_le _, fun _ h => nomatch h⟩
theorem goodA : goodC sA := ⟨⟨by decide, by decide, by decide +kernel⟩, fun _ h => nomatch h⟩
theorem TwoA.was {t rs rr l c : Addr} {H : Hp} (x : TwoA CS CC CG t rs rr l c H) : ∀ b, b = rs ∨ b = rr → WasD H b := by
  obtain ⟨k1, g1, _⟩ := x.rg.t1
  obtain ⟨k2, g2, _⟩ := x.rg.t2
  rintro b (rfl | rfl)
  · exact ⟨_, g1⟩
  · exact ⟨_, g2⟩
end
section
variable {P : Program} {w : World} {K : PySem.W.Frag} {mg : Str → Option Value} {base : Heap} {CS CC CG CR Pl cL fTo fL : Addr} {fdTo : FuncData} {T : List (Addr × Str)} {A : Around} {outer : List PySem.Env} {s : Shared} {H0 : Hp} {E0' : XK}
theorem g_two (ve : LawE P w K mg base CS CC CG CR Pl cL fTo fdTo T) (hr : Room 9 (xLaw P w K mg base fL cL A outer s H0 E0').A) :
    ∃ t1 t2, L2.PS (xLaw P w K mg base fL cL A outer s H0 E0') ((defBody sLaw).getD 1 pS) t1 ∧ L2.PS (xLaw P w K mg base fL cL A outer s H0 E0') ((defBody sLaw).getD 2 pS) t2 ∧
      ∀ (D : Ends) (σ : L2.St) (H : Hp) (tr : TS), S24 σ → Tabs T H →
      (∀ (σ' : L2.St) (H' : Hp) (t rs rr l c : Addr), S2 t σ' → Tabs T H' → TwoA CS CC CG t rs rr l c H' → tr D σ' H') →
      tSeq t1 (tSeq t2 tr) D σ H := by
  obtain ⟨fG, fdG, GG', MG, bG⟩ := ve.ginit nm2
  obtain ⟨fS, fdS, e0, u0, GS, MS, _, bS, hv, he⟩ := ve.sch
  obtain ⟨fA, fdA, GA, mA, bA⟩ := ve.add nm2
  have hz0 : sizeLine = 16777216 := rfl
  refine ⟨_, _, ps_set (i := 19) scLaw.nd rfl (Or.inr rfl) (pe_make0 MG GG' (hr.mono (by decide)) (by rfl) ve.G.g bG .nil pass0),
    ps_expr (pe_meth (pv 19) ve.G.cl mA GA (hr.mono (by decide)) bA (E := fun _ _ _ => False) .nil (passes_call L2.takes0 (fun _ _ _ _ h => h)) (pa_cons pe_str (pa_cons (pe_make (CX := L2.CX P w) MS GS (hr.mono (by decide)) (by rfl) ve.C.g bS (E := fun _ _ _ => False) hv (passes_call L2.takes0 (fun _ _ _ _ h => h)) (pa_cons (pe_lst (pa_cons (pe_tup (pa_cons pe_str (pa_cons pe_str pa_nil))) pa_nil)) pa_nil)) pa_nil))), ?_⟩
  rintro D σ H tr ⟨a0, a1, a2, a3, a4, a5, a6, a7, a8, a9, a10, a11, a12, a13, a14, a15, a16, a17, a18, a19, a20, a21, a22, a23, rfl⟩ tb fin
  refine fun t dx ng nd ne => ?_
  show spGInit CS CC CG nm2 [.ref t] _ _ _
  refine reg_step ng nd ne.symm fun H2 rs rr e2 rg => ⟨rfl, ?_⟩
  have rg2 := rg (fun b => b = rs ∨ b = rr) (.inl rfl) (.inr rfl)
  have tb2 := tb.ext e2
  show tSeq _ _ _ [a0, a1, a2, a3, a4, a5, a6, a7, a8, a9, a10, a11, a12, a13, a14, a15, a16, a17, a18, some (.ref t), a20, a21, a22, a23] H2
  obtain ⟨dx2, ob⟩ := rg2.ob
  refine ⟨_, rfl, t, dx2, _, rfl, ob, rfl, (by show 2 ≤ sizeLine; decide), fun q hq => ⟨(by show 1 ≤ sizeLine; decide), fun l hl => fun c dxc nx ndc nec => ?_⟩⟩
  have e3 : KS.Ex H2 (upd (upd H2 q (.tup [.str "a", .str "int"])) l (.lst [.ref q])) := (Ex.upd hq).trans (Ex.upd hl)
  have hq3 : (upd (upd H2 q (.tup [.str "a", .str "int"])) l (.lst [.ref q])) q = some (.tup [.str "a", .str "int"]) := (Ex.upd hl) _ _ L2.upd_same
  have hl3 : (upd (upd H2 q (.tup [.str "a", .str "int"])) l (.lst [.ref q])) l = some (.lst ([q].map V.ref)) := L2.upd_same
  show spSch K CS CC CR T [.ref c, .ref l, .ref e0] _ _ _
  generalize upd (upd H2 q (.tup [.str "a", .str "int"])) l (.lst [.ref q]) = H3 at e3 hq3 hl3 nx ndc
  have rg3 := rg2.fm0 (Fm.ex (T := T) tb2 e3)
  obtain ⟨k1, g1, _⟩ := rg3.t1
  obtain ⟨k2, g2, _⟩ := rg3.t2
  refine sch_step (cols := [("a", "int")]) (lk := []) nx ndc nec.symm hl3 (.cons hq3 .nil) (by decide) ⟨e0, rfl, .inr ⟨rfl, he⟩⟩ okl_nil (tb2.ext e3) (fun ng => absurd goodA ng) fun _ H4 f4 sa => ⟨rfl, ?_⟩
  have rg4 := rg3.fm0 f4
  show spAdd CS CC CG CR nm2 T [.ref t, .str "x", .ref c] H4 _ _
  unfold spAdd
  refine ⟨t, rs, rr, c, _, _, _, "x", sA, rfl, rg4, sa.mono (fun b hb => ?_), goodA, by decide, by decide, by decide, by decide, f4.1, fun hF => ?_, fun hF H5 l' f5 _ rg5 => ?_⟩
  · rcases hb with rfl | rfl
    · exact ⟨_, g1⟩
    · exact ⟨_, g2⟩
  · exact absurd hF (by decide)
  · exact fin _ H5 t rs rr l' c ⟨_, _, _, _, _, _, _, _, _, _, _, _, _, _, _, _, _, _, _, _, _, _, _, rfl⟩ f5.1 ⟨rg5⟩
end
end KL0
set_option Elab.async false
set_option linter.all false
set_option maxRecDepth 100000
set_option maxHeartbeats 4000000
namespace KL0
open PySem PySem.Spec PyProof.Rows L2 KB KC KS KN1 LamX K7 FM GG CL
def lamsOf : Stmt → List Expr
  | .Assign _ (.List es _) _ => es
  | .Assign _ (.BinOp _ _ (.List es _) _) _ => es
  | _ => []
abbrev noE : Expr := .Constant (.int 0) 0 ⟨0, 0, 0, 0⟩
abbrev lamE (j i : Nat) : Expr := (lamsOf ((defBody sLaw).getD j pS)).getD i noE
def lamB : Expr → Expr
  | .Lambda _ b _ _ => b
  | e => e
def lamP : Expr → Arguments
  | .Lambda a _ _ _ => a
  | _ => { posonlyargs := [], args := [], vararg := none, kwonlyargs := [], kw_defaults := [], kwarg := none, defaults := [] }
def lamSc : Expr → Scope
  | .Lambda _ _ sc _ => sc
  | _ => defScope sLaw
structure TA2 where
  t : Addr
  rs : Addr
  rr : Addr
  l : Addr
  c : Addr
abbrev Two (CS CC CG : Addr) (z : TA2) (H : Hp) : Prop := TwoA CS CC CG z.t z.rs z.rr z.l z.c H
def Beh (X : Cx) (CS CC CG CR : Addr) (T : List (Addr × Str)) (z : TA2) (body : Expr) (scope : Scope) : Prop :=
  ∃ t : XK → TE, (∀ (A : Around) (outer : List Env) (s : Shared) (H : Hp) (E : XK) (f c' : Addr), Room 7 (A.deeper (lamEnv X scope s.heap.objs.size f c')) → PE (lamCx X A outer s H E scope f c') body (t E)) ∧
    ∀ (σ : L2.St) (H : Hp) (E : XK) (Q : VK), S2 z.t σ → Tabs T H → Two CS CC CG z H → (∀ H', Fm T N0 H H' → E (.ref CR) none H') → t E σ H Q
def BadC (X : Cx) (CS CC CG CR : Addr) (T : List (Addr × Str)) (z : TA2) (f : Addr) (H : Hp) : Prop :=
  ∃ (c' : Addr) (params : Arguments) (body : Expr) (scope : Scope), Held X params body scope f c' H ∧ LamS X.env.scope scope ∧
    (∀ (q : Str) (cl : List (Str × Addr)) (pm cv ctv : Value), bindArgs (PySem.W.kla_fn "<lambda>" q params body scope cl pm cv ctv) ⟨[], []⟩ = pure []) ∧ Beh X CS CC CG CR T z body scope
theorem BadC.fm0 {X : Cx} {CS CC CG CR : Addr} {T : List (Addr × Str)} {z : TA2} {f : Addr} {H H' : Hp} (b : BadC X CS CC CG CR T z f H) (e : Fm T N0 H H') : BadC X CS CC CG CR T z f H' := by
  obtain ⟨c', params, body, scope, ⟨h1, h2⟩, r⟩ := b
  refine ⟨c', params, body, scope, ⟨e.2 _ _ id h1 (fun ps z => ?_), e.2 _ _ id h2 codeO_ne⟩, r⟩
  unfold _root_.CP.CloO at z
  cases z
section
variable {P : Program} {w : World} {K : PySem.W.Frag} {mg : Str → Option Value} {base : Heap} {CS CC CG CR Pl cL fTo fL : Addr} {fdTo : FuncData} {T : List (Addr × Str)} {A : Around} {outer : List PySem.Env} {s : Shared} {H0 : Hp} {E0' : XK} {z : TA2}
theorem BadC.told {X : Cx} {f : Addr} {H : Hp} {σ : L2.St} {Q : VK} (J : TxtX K mg CR) (b : BadC X CS CC CG CR T z f H) (hσ : S2 z.t σ) (tb : Tabs T H) (x : Two CS CC CG z H) (q : ∀ H', Fm T N0 H H' → Q (.str "RowError") H') :
    CloAt X 7 σ f H fun tl => TTold K CR "RowError" tl H Q := by
  obtain ⟨c', params, body, scope, hd, L, hb, t, ht, hq⟩ := b
  exact ⟨c', params, body, scope, t, hd, L, hb, fun A outer s H E hr => ht A outer s H E f c' hr, hq σ H _ Q hσ tb x fun H' e => ⟨true, J.e, fun _ => q H' e, fun z => nomatch z⟩⟩
abbrev BehL (P : Program) (w : World) (K : PySem.W.Frag) (mg : Str → Option Value) (base : Heap) (fL cL : Addr) (A : Around) (outer : List PySem.Env) (s : Shared) (H0 : Hp) (E0' : XK) (CS CC CG CR : Addr) (T : List (Addr × Str)) (z : TA2) (j k : Nat) : Prop := Beh (xLaw P w K mg base fL cL A outer s H0 E0') CS CC CG CR T z (lamB (lamE j k)) (lamSc (lamE j k))
theorem no30 : ¬ kindAt [("a", "int")] "b" = kd (.int 1) := by decide +kernel
theorem no31 : ¬ kindAt [("a", "int")] "a" = kd (.str "x") := by decide +kernel
theorem no60 : ¬ [V.str "z"].map kd = kindsOf [("a", "int")] := by decide +kernel
theorem no61 : ¬ fitsP (ruleOf (fun _ => none) "x") [sA] ([("b", "int")], []) = true := by decide +kernel
theorem beh_30 (ve : LawE P w K mg base CS CC CG CR Pl cL fTo fdTo T) : BehL P w K mg base fL cL A outer s H0 E0' CS CC CG CR T z 3 0 := by
  obtain ⟨fS, fdS, e0, u0, GS, MS, bS, _, hv, he⟩ := ve.sch
  refine ⟨fun E => tMake CC (spSch K CS CC CR T) [] E (tCons (tLst (tCons (tTup (tCons (tC (.str "a")) (tCons (tC (.str "int")) tNil))) tNil)) (tCons (tDisp [(tC (.str "b"), tC (.int 1))]) tNil)), fun A' outer' s' H E f c' hr' => pe_make MS GS (hr'.mono (by decide)) (by rfl) ve.C.g bS .nil (passes_call (takes_of rfl rfl rfl rfl) (fun _ _ _ _ h => h)) (pa_cons (pe_lst (pa_cons (pe_tup (pa_cons pe_str (pa_cons pe_str pa_nil))) pa_nil)) (pa_cons (pe_disp (pps_cons pe_str pe_int pps_nil) rfl rfl (by simp) (by decide)) pa_nil)), ?_⟩
  rintro σ H E Q hσ tb x qq
  refine ⟨(by show 2 ≤ sizeLine; decide), fun q hq => ⟨(by show 1 ≤ sizeLine; decide), fun l hl => fun d hd => ⟨L2.upd_same, [(kS "b", .int 1)], rfl, (by show 1 ≤ 15; decide), fun c dx nx nd ne => ?_⟩⟩⟩
  have e1 : KS.Ex H (upd (upd H q (.tup [.str "a", .str "int"])) l (.lst [.ref q])) := (Ex.upd hq).trans (Ex.upd hl)
  have hq1 : (upd (upd H q (.tup [.str "a", .str "int"])) l (.lst [.ref q])) q = some (.tup [.str "a", .str "int"]) := (Ex.upd hl) _ _ L2.upd_same
  have hl1 : (upd (upd H q (.tup [.str "a", .str "int"])) l (.lst [.ref q])) l = some (.lst ([q].map V.ref)) := L2.upd_same
  generalize upd (upd H q (.tup [.str "a", .str "int"])) l (.lst [.ref q]) = H1 at e1 hq1 hl1 hd nx nd
  have e2 : KS.Ex H1 (upd (upd H1 d (.dK [])) d (.dK (mergeK [] [(kS "b", .int 1)]))) := Ex.on (Ex.upd hd) hd
  have hd2 : (upd (upd H1 d (.dK [])) d (.dK (mergeK [] [(kS "b", .int 1)]))) d = some (.dK (kvL [("b", .int 1)])) := L2.upd_same
  generalize upd (upd H1 d (.dK [])) d (.dK (mergeK [] [(kS "b", .int 1)])) = H2 at e2 hd2 nx nd
  refine sch_step (cols := [("a", "int")]) (lk := [("b", .int 1)]) nx nd ne.symm (e2 _ _ hl1) (.cons (e2 _ _ hq1) .nil) (by decide) ⟨d, rfl, .inl hd2⟩ ⟨by simp, by show 1 ≤ 1000; decide, fun p hp => ?_⟩ (tb.ext (e1.trans e2)) (fun _ H3 f3 => qq H3 ((Fm.ex tb (e1.trans e2)).trans f3)) fun g => ?_
  · rw [List.mem_singleton.mp hp]
    exact ⟨trivial, by show kd (.int 1) ≠ none; decide⟩
  · exact absurd (g.2 _ (List.mem_singleton.mpr rfl)) no30
theorem beh_31 (ve : LawE P w K mg base CS CC CG CR Pl cL fTo fdTo T) : BehL P w K mg base fL cL A outer s H0 E0' CS CC CG CR T z 3 1 := by
  obtain ⟨fS, fdS, e0, u0, GS, MS, bS, _, hv, he⟩ := ve.sch
  refine ⟨fun E => tMake CC (spSch K CS CC CR T) [] E (tCons (tLst (tCons (tTup (tCons (tC (.str "a")) (tCons (tC (.str "int")) tNil))) tNil)) (tCons (tDisp [(tC (.str "a"), tC (.str "x"))]) tNil)), fun A' outer' s' H E f c' hr' => pe_make MS GS (hr'.mono (by decide)) (by rfl) ve.C.g bS .nil (passes_call (takes_of rfl rfl rfl rfl) (fun _ _ _ _ h => h)) (pa_cons (pe_lst (pa_cons (pe_tup (pa_cons pe_str (pa_cons pe_str pa_nil))) pa_nil)) (pa_cons (pe_disp (pps_cons pe_str pe_str pps_nil) rfl rfl (by simp) (by decide)) pa_nil)), ?_⟩
  rintro σ H E Q hσ tb x qq
  refine ⟨(by show 2 ≤ sizeLine; decide), fun q hq => ⟨(by show 1 ≤ sizeLine; decide), fun l hl => fun d hd => ⟨L2.upd_same, [(kS "a", .str "x")], rfl, (by show 1 ≤ 15; decide), fun c dx nx nd ne => ?_⟩⟩⟩
  have e1 : KS.Ex H (upd (upd H q (.tup [.str "a", .str "int"])) l (.lst [.ref q])) := (Ex.upd hq).trans (Ex.upd hl)
  have hq1 : (upd (upd H q (.tup [.str "a", .str "int"])) l (.lst [.ref q])) q = some (.tup [.str "a", .str "int"]) := (Ex.upd hl) _ _ L2.upd_same
  have hl1 : (upd (upd H q (.tup [.str "a", .str "int"])) l (.lst [.ref q])) l = some (.lst ([q].map V.ref)) := L2.upd_same
  generalize upd (upd H q (.tup [.str "a", .str "int"])) l (.lst [.ref q]) = H1 at e1 hq1 hl1 hd nx nd
  have e2 : KS.Ex H1 (upd (upd H1 d (.dK [])) d (.dK (mergeK [] [(kS "a", .str "x")]))) := Ex.on (Ex.upd hd) hd
  have hd2 : (upd (upd H1 d (.dK [])) d (.dK (mergeK [] [(kS "a", .str "x")]))) d = some (.dK (kvL [("a", .str "x")])) := L2.upd_same
  generalize upd (upd H1 d (.dK [])) d (.dK (mergeK [] [(kS "a", .str "x")])) = H2 at e2 hd2 nx nd
  refine sch_step (cols := [("a", "int")]) (lk := [("a", .str "x")]) nx nd ne.symm (e2 _ _ hl1) (.cons (e2 _ _ hq1) .nil) (by decide) ⟨d, rfl, .inl hd2⟩ ⟨by simp, by show 1 ≤ 1000; decide, fun p hp => ?_⟩ (tb.ext (e1.trans e2)) (fun _ H3 f3 => qq H3 ((Fm.ex tb (e1.trans e2)).trans f3)) fun g => ?_
  · rw [List.mem_singleton.mp hp]
    exact ⟨trivial, by show kd (.str "x") ≠ none; decide +kernel⟩
  · exact absurd (g.2 _ (List.mem_singleton.mpr rfl)) no31
theorem beh_40 (ve : LawE P w K mg base CS CC CG CR Pl cL fTo fdTo T) : BehL P w K mg base fL cL A outer s H0 E0' CS CC CG CR T z 4 0 := by
  obtain ⟨fM, fdM, GM, mM, bM⟩ := ve.put nm2
  refine ⟨fun E => tMeth CG "put_rule" (spPut CS CC CG CR nm2) [] E (tVar 19) (tCons (tC (.str "x")) (tCons (tC (.str "fly")) tNil)), fun A' outer' s' H E f c' hr' => pe_meth (pv 19) ve.G.cl mM GM (hr'.mono (by decide)) bM .nil (passes_call (takes_of rfl rfl rfl rfl) (fun _ _ _ _ h => h)) (pa_cons pe_str (pa_cons pe_str pa_nil)), ?_⟩
  obtain ⟨t, rs, rr, l, c⟩ := z
  rintro σ H E Q ⟨a0, a1, a2, a3, a4, a5, a6, a7, a8, a9, a10, a11, a12, a13, a14, a15, a16, a17, a18, a20, a21, a22, a23, rfl⟩ tb x qq
  obtain ⟨dx, ob⟩ := x.rg.ob
  refine ⟨_, rfl, t, dx, _, rfl, ob, rfl, ?_⟩
  show spPut CS CC CG CR nm2 [.ref t, .str "x", .str "fly"] H _ _
  unfold spPut
  exact ⟨t, rs, rr, _, _, _, "x", "fly", rfl, x.rg, by decide, by decide, by decide, fun _ => qq H (Fm.refl tb), fun h => absurd h (by decide)⟩
theorem read_bad {t rs rr l c r : Addr} {n : Str} {k j : Int} {xs : List V} {H : Hp} {Q : VK} {E : XK} (x : TwoA CS CC CG t rs rr l c H) (hr : H r = some (.tup xs)) (ry : ∀ v ∈ xs, Rowy v) (lx : xs.length ≤ 1000) (tb : Tabs T H) (no : ∀ out, ¬ readOk ((schs (eA l c) n).map (·.2)) k j xs out) (qq : ∀ H', Fm T N0 H H' → E (.ref CR) none H') : spRead CS CC CG CR nm2 T [.ref t, .str n, .int k, .ref r, .int j] H Q E := by
  unfold spRead
  exact ⟨t, rs, rr, r, _, _, _, n, k, j, xs, rfl, x.rg, hr, ry, lx, tb, fun _ => qq, fun out ok => absurd ok (no out)⟩
theorem rowy1 : ∀ v ∈ [V.int 1], Rowy v := fun v hv => by rw [List.mem_singleton.mp hv]; trivial
theorem beh_41 (ve : LawE P w K mg base CS CC CG CR Pl cL fTo fdTo T) : BehL P w K mg base fL cL A outer s H0 E0' CS CC CG CR T z 4 1 := by
  obtain ⟨fM, fdM, GM, mM, bM⟩ := ve.read nm2
  refine ⟨fun E => tMeth CG "read" (spRead CS CC CG CR nm2 T) [] E (tVar 19) (tCons (tC (.str "x")) (tCons (tC (.int 0)) (tCons (tTup (tCons (tC (.int 1)) tNil)) (tCons (tC (.int 1)) tNil)))), fun A' outer' s' H E f c' hr' => pe_meth (pv 19) ve.G.cl mM GM (hr'.mono (by decide)) bM .nil (passes_call (takes_of rfl rfl rfl rfl) (fun _ _ _ _ h => h)) (pa_cons pe_str (pa_cons pe_int (pa_cons (pe_tup (pa_cons pe_int pa_nil)) (pa_cons pe_int pa_nil)))), ?_⟩
  obtain ⟨t, rs, rr, l, c⟩ := z
  rintro σ H E Q ⟨a0, a1, a2, a3, a4, a5, a6, a7, a8, a9, a10, a11, a12, a13, a14, a15, a16, a17, a18, a20, a21, a22, a23, rfl⟩ tb x qq
  obtain ⟨dx, ob⟩ := x.rg.ob
  refine ⟨_, rfl, t, dx, _, rfl, ob, rfl, (by show 1 ≤ sizeLine; decide), fun r hr => ?_⟩
  have e1 : Fm T N0 H (upd H r (.tup [.int 1])) := Fm.new tb hr
  refine read_bad (x.fm0 e1) L2.upd_same rowy1 (by decide) e1.1 (fun out h => ?_) fun H' f => qq H' (e1.trans f)
  obtain ⟨kn, jn, one, other, ek, ej, q1, _⟩ := h
  rw [schs_A] at q1
  have : jn = 1 := by omega
  subst this
  cases q1
theorem beh_50 (ve : LawE P w K mg base CS CC CG CR Pl cL fTo fdTo T) : BehL P w K mg base fL cL A outer s H0 E0' CS CC CG CR T z 5 0 := by
  obtain ⟨fM, fdM, GM, mM, bM⟩ := ve.read nm2
  refine ⟨fun E => tMeth CG "read" (spRead CS CC CG CR nm2 T) [] E (tVar 19) (tCons (tC (.str "y")) (tCons (tC (.int 0)) (tCons (tTup (tCons (tC (.int 1)) tNil)) (tCons (tC (.int 0)) tNil)))), fun A' outer' s' H E f c' hr' => pe_meth (pv 19) ve.G.cl mM GM (hr'.mono (by decide)) bM .nil (passes_call (takes_of rfl rfl rfl rfl) (fun _ _ _ _ h => h)) (pa_cons pe_str (pa_cons pe_int (pa_cons (pe_tup (pa_cons pe_int pa_nil)) (pa_cons pe_int pa_nil)))), ?_⟩
  obtain ⟨t, rs, rr, l, c⟩ := z
  rintro σ H E Q ⟨a0, a1, a2, a3, a4, a5, a6, a7, a8, a9, a10, a11, a12, a13, a14, a15, a16, a17, a18, a20, a21, a22, a23, rfl⟩ tb x qq
  obtain ⟨dx, ob⟩ := x.rg.ob
  refine ⟨_, rfl, t, dx, _, rfl, ob, rfl, (by show 1 ≤ sizeLine; decide), fun r hr => ?_⟩
  have e1 : Fm T N0 H (upd H r (.tup [.int 1])) := Fm.new tb hr
  refine read_bad (x.fm0 e1) L2.upd_same rowy1 (by decide) e1.1 (fun out h => ?_) fun H' f => qq H' (e1.trans f)
  obtain ⟨kn, jn, one, other, ek, ej, q1, _⟩ := h
  rw [schs_Ay] at q1
  cases q1
theorem beh_51 (ve : LawE P w K mg base CS CC CG CR Pl cL fTo fdTo T) : BehL P w K mg base fL cL A outer s H0 E0' CS CC CG CR T z 5 1 := by
  obtain ⟨fM, fdM, GM, mM, bM⟩ := ve.read nm2
  refine ⟨fun E => tMeth CG "read" (spRead CS CC CG CR nm2 T) [] E (tVar 19) (tCons (tC (.str "x")) (tCons (tUn (rU fun i => V.int (-i)) (tC (.int 1))) (tCons (tTup (tCons (tC (.int 1)) tNil)) (tCons (tC (.int 0)) tNil)))), fun A' outer' s' H E f c' hr' => pe_meth (pv 19) ve.G.cl mM GM (hr'.mono (by decide)) bM .nil (passes_call (takes_of rfl rfl rfl rfl) (fun _ _ _ _ h => h)) (pa_cons pe_str (pa_cons (pe_un un_neg pe_int) (pa_cons (pe_tup (pa_cons pe_int pa_nil)) (pa_cons pe_int pa_nil)))), ?_⟩
  obtain ⟨t, rs, rr, l, c⟩ := z
  rintro σ H E Q ⟨a0, a1, a2, a3, a4, a5, a6, a7, a8, a9, a10, a11, a12, a13, a14, a15, a16, a17, a18, a20, a21, a22, a23, rfl⟩ tb x qq
  obtain ⟨dx, ob⟩ := x.rg.ob
  refine ⟨_, rfl, t, dx, _, rfl, ob, rfl, _, rfl, (by show 1 ≤ sizeLine; decide), fun r hr => ?_⟩
  have e1 : Fm T N0 H (upd H r (.tup [.int 1])) := Fm.new tb hr
  refine read_bad (x.fm0 e1) L2.upd_same rowy1 (by decide) e1.1 (fun out h => ?_) fun H' f => qq H' (e1.trans f)
  obtain ⟨kn, jn, one, other, ek, ej, q1, _⟩ := h
  omega
theorem beh_60 (ve : LawE P w K mg base CS CC CG CR Pl cL fTo fdTo T) : BehL P w K mg base fL cL A outer s H0 E0' CS CC CG CR T z 6 0 := by
  obtain ⟨fM, fdM, GM, mM, bM⟩ := ve.read nm2
  refine ⟨fun E => tMeth CG "read" (spRead CS CC CG CR nm2 T) [] E (tVar 19) (tCons (tC (.str "x")) (tCons (tC (.int 0)) (tCons (tTup (tCons (tC (.str "z")) tNil)) (tCons (tC (.int 0)) tNil)))), fun A' outer' s' H E f c' hr' => pe_meth (pv 19) ve.G.cl mM GM (hr'.mono (by decide)) bM .nil (passes_call (takes_of rfl rfl rfl rfl) (fun _ _ _ _ h => h)) (pa_cons pe_str (pa_cons pe_int (pa_cons (pe_tup (pa_cons pe_str pa_nil)) (pa_cons pe_int pa_nil)))), ?_⟩
  obtain ⟨t, rs, rr, l, c⟩ := z
  rintro σ H E Q ⟨a0, a1, a2, a3, a4, a5, a6, a7, a8, a9, a10, a11, a12, a13, a14, a15, a16, a17, a18, a20, a21, a22, a23, rfl⟩ tb x qq
  obtain ⟨dx, ob⟩ := x.rg.ob
  refine ⟨_, rfl, t, dx, _, rfl, ob, rfl, (by show 1 ≤ sizeLine; decide), fun r hr => ?_⟩
  have e1 : Fm T N0 H (upd H r (.tup [.str "z"])) := Fm.new tb hr
  refine read_bad (x.fm0 e1) L2.upd_same (fun v hv => by rw [List.mem_singleton.mp hv]; trivial) (by show 1 ≤ 1000; decide) e1.1 (fun out h => ?_) fun H' f => qq H' (e1.trans f)
  obtain ⟨kn, jn, one, other, ek, ej, q1, q2, q3, _⟩ := h
  rw [schs_A] at q2
  have : kn = 0 := by omega
  subst this
  cases q2
  exact absurd q3.2 no60
theorem beh_61 (ve : LawE P w K mg base CS CC CG CR Pl cL fTo fdTo T) : BehL P w K mg base fL cL A outer s H0 E0' CS CC CG CR T z 6 1 := by
  obtain ⟨fM, fdM, GM, mM, bM⟩ := ve.add nm2
  obtain ⟨fS, fdS, e0, u0, GS, MS, _, bS, hv, he⟩ := ve.sch
  refine ⟨fun E => tMeth CG "add" (spAdd CS CC CG CR nm2 T) [] E (tVar 19) (tCons (tC (.str "x")) (tCons (tMake CC (spSch K CS CC CR T) [V.ref e0] (fun _ _ _ => False) (tCons (tLst (tCons (tTup (tCons (tC (.str "b")) (tCons (tC (.str "int")) tNil))) tNil)) tNil)) tNil)), fun A' outer' s' H E f c' hr' => pe_meth (pv 19) ve.G.cl mM GM (hr'.mono (by decide)) bM .nil (passes_call (takes_of rfl rfl rfl rfl) (fun _ _ _ _ h => h)) (pa_cons pe_str (pa_cons (pe_make MS GS (hr'.mono (by decide)) (by rfl) ve.C.g bS hv (passes_call L2.takes0 (fun _ _ _ _ h => h)) (pa_cons (pe_lst (pa_cons (pe_tup (pa_cons pe_str (pa_cons pe_str pa_nil))) pa_nil)) pa_nil)) pa_nil)), ?_⟩
  obtain ⟨t, rs, rr, l, c⟩ := z
  rintro σ H E Q ⟨a0, a1, a2, a3, a4, a5, a6, a7, a8, a9, a10, a11, a12, a13, a14, a15, a16, a17, a18, a20, a21, a22, a23, rfl⟩ tb x qq
  obtain ⟨dx, ob⟩ := x.rg.ob
  refine ⟨_, rfl, t, dx, _, rfl, ob, rfl, (by show 2 ≤ sizeLine; decide), fun q hq => ⟨(by show 1 ≤ sizeLine; decide), fun l2 hl => fun c2 dxc nx ndc nec => ?_⟩⟩
  have e3 : KS.Ex H (upd (upd H q (.tup [.str "b", .str "int"])) l2 (.lst [.ref q])) := (Ex.upd hq).trans (Ex.upd hl)
  have hq3 : (upd (upd H q (.tup [.str "b", .str "int"])) l2 (.lst [.ref q])) q = some (.tup [.str "b", .str "int"]) := (Ex.upd hl) _ _ L2.upd_same
  have hl3 : (upd (upd H q (.tup [.str "b", .str "int"])) l2 (.lst [.ref q])) l2 = some (.lst ([q].map V.ref)) := L2.upd_same
  show spSch K CS CC CR T [.ref c2, .ref l2, .ref e0] _ _ _
  generalize upd (upd H q (.tup [.str "b", .str "int"])) l2 (.lst [.ref q]) = H3 at e3 hq3 hl3 nx ndc
  have x3 := x.fm0 (Fm.ex (T := T) tb e3)
  have wd := x3.was
  have gB : goodC (([("b", "int")], []) : Sc) := ⟨⟨by decide, by decide, by decide +kernel⟩, fun _ h => nomatch h⟩
  refine sch_step (cols := [("b", "int")]) (lk := []) nx ndc nec.symm hl3 (.cons hq3 .nil) (by decide) ⟨e0, rfl, .inr ⟨rfl, he⟩⟩ okl_nil (tb.ext e3) (fun ng => absurd gB ng) fun _ H4 f4 sa => ⟨rfl, ?_⟩
  have x4 := x3.fm0 f4
  show spAdd CS CC CG CR nm2 T [.ref t, .str "x", .ref c2] H4 _ _
  unfold spAdd
  refine ⟨t, rs, rr, c2, _, _, _, "x", _, rfl, x4.rg, sa.mono wd, gB, by decide, by decide, by decide, by rw [schs_A]; exact (by decide : 1 < 1000), f4.1, fun hF H5 f5 => qq H5 ((Fm.ex tb e3).trans (f4.trans f5)), fun hF => ?_⟩
  rw [schs_A] at hF
  exact absurd hF no61
end
end KL0
set_option Elab.async false
set_option linter.all false
set_option maxRecDepth 100000
set_option maxHeartbeats 4000000
namespace KL0
open PySem PySem.Spec PyProof.Rows L2 KB KC KS KN1 LamX K7 FM GG CL RC
def Sl (t l : Addr) (σ : L2.St) : Prop := ∃ a0 a1 a2 a3 a4 a5 a6 a7 a8 a9 a10 a11 a12 a13 a14 a15 a16 a17 a18 a21 a22 a23 : Option V, σ = [a0, a1, a2, a3, a4, a5, a6, a7, a8, a9, a10, a11, a12, a13, a14, a15, a16, a17, a18, some (.ref t), some (.ref l), a21, a22, a23]
section
variable {P : Program} {w : World} {K : PySem.W.Frag} {mg : Str → Option Value} {base : Heap} {CS CC CG CR Pl cL fTo fL : Addr} {fdTo : FuncData} {T : List (Addr × Str)} {A : Around} {outer : List PySem.Env} {s : Shared} {H0 : Hp} {E0' : XK} {z : TA2}
structure Lb (P : Program) (w : World) (K : PySem.W.Frag) (mg : Str → Option Value) (base : Heap) (fL cL : Addr) (A : Around) (outer : List PySem.Env) (s : Shared) (H0 : Hp) (E0' : XK) (CS CC CG CR : Addr) (T : List (Addr × Str)) (z : TA2) (l : Addr) (fs : List Addr) (H : Hp) : Prop where
  tb : Tabs T H
  x : Two CS CC CG z H
  l : H l = some (.lst (fs.map V.ref))
  bad : ∀ f ∈ fs, BadC (xLaw P w K mg base fL cL A outer s H0 E0') CS CC CG CR T z f H
  len : fs.length ≤ 100
theorem clo_step {j k : Nat} {σ : L2.St} {H : Hp} {Q : VK} (hb : BehL P w K mg base fL cL A outer s H0 E0' CS CC CG CR T z j k) (L : lamSB (defScope sLaw) (lamSc (lamE j k)) = true)
    (hbind : ∀ (q : Str) (cl : List (Str × Addr)) (pm cv ctv : Value), bindArgs (PySem.W.kla_fn "<lambda>" q (lamP (lamE j k)) (lamB (lamE j k)) (lamSc (lamE j k)) cl pm cv ctv) ⟨[], []⟩ = pure []) (st : Tabs T H)
    (q : ∀ f H1, Fm T N0 H H1 → BadC (xLaw P w K mg base fL cL A outer s H0 E0') CS CC CG CR T z f H1 → Q (.ref f) H1) :
    _root_.CP.tClo T ((xLaw P w K mg base fL cL A outer s H0 E0').env.qual ++ "<lambda>") (lamP (lamE j k)) (lamB (lamE j k)) (lamSc (lamE j k)) (cloFrom (xLaw P w K mg base fL cL A outer s H0 E0').env.cells (lamSc (lamE j k)).names []) σ H Q :=
  ⟨st, fun f c' H1 e1 t1 hf hc _ => q f H1 (Fm.exN e1 t1) ⟨c', _, _, _, ⟨hf, hc⟩, lamS_by L, hbind, hb⟩⟩
theorem bad_lc (ve : LawE P w K mg base CS CC CG CR Pl cL fTo fdTo T) {params : Arguments} {body : Expr} {scope : Scope} {pos : Pos} (hdef : defaultsOf params (xLaw P w K mg base fL cL A outer s H0 E0').env = ([], [])) (L : lamSB (defScope sLaw) scope = true) :
    PE (xLaw P w K mg base fL cL A outer s H0 E0') (.Lambda params body scope pos) (_root_.CP.tClo T ((xLaw P w K mg base fL cL A outer s H0 E0').env.qual ++ "<lambda>") params body scope (cloFrom (xLaw P w K mg base fL cL A outer s H0 E0').env.cells scope.names [])) :=
  _root_.CP.pe_cloV (X := xLaw P w K mg base fL cL A outer s H0 E0') (T := T) ve.TB rfl (mem_Pl ve.ml) (only_Pl ve.u ve.ml) hdef (lamS_by (sc := defScope sLaw) L).free
theorem Lb.more {l l' : Addr} {fs gs : List Addr} {H H' : Hp} (b : Lb P w K mg base fL cL A outer s H0 E0' CS CC CG CR T z l fs H) (e : Fm T N0 H H') (h : H' l' = some (.lst ((fs ++ gs).map V.ref))) (hb : ∀ f ∈ gs, BadC (xLaw P w K mg base fL cL A outer s H0 E0') CS CC CG CR T z f H') (len : (fs ++ gs).length ≤ 100) : Lb P w K mg base fL cL A outer s H0 E0' CS CC CG CR T z l' (fs ++ gs) H' :=
  ⟨e.1, b.x.fm0 e, h, fun f hf => (List.mem_append.mp hf).elim (fun q => (b.bad f q).fm0 e) (hb f), len⟩
theorem two_step {j i0 i1 : Nat} {σ : L2.St} {H : Hp} {Q : VK}
    (h0 : BehL P w K mg base fL cL A outer s H0 E0' CS CC CG CR T z j i0) (h1 : BehL P w K mg base fL cL A outer s H0 E0' CS CC CG CR T z j i1)
    (L0 : lamSB (defScope sLaw) (lamSc (lamE j i0)) = true) (L1 : lamSB (defScope sLaw) (lamSc (lamE j i1)) = true)
    (B0 : ∀ (q : Str) (cl : List (Str × Addr)) (pm cv ctv : Value), bindArgs (PySem.W.kla_fn "<lambda>" q (lamP (lamE j i0)) (lamB (lamE j i0)) (lamSc (lamE j i0)) cl pm cv ctv) ⟨[], []⟩ = pure [])
    (B1 : ∀ (q : Str) (cl : List (Str × Addr)) (pm cv ctv : Value), bindArgs (PySem.W.kla_fn "<lambda>" q (lamP (lamE j i1)) (lamB (lamE j i1)) (lamSc (lamE j i1)) cl pm cv ctv) ⟨[], []⟩ = pure []) (st : Tabs T H)
    (fin : ∀ (H' : Hp) (l : Addr) (f0 f1 : Addr), Fm T N0 H H' → H' l = some (.lst ([f0, f1].map V.ref)) → (∀ f ∈ [f0, f1], BadC (xLaw P w K mg base fL cL A outer s H0 E0') CS CC CG CR T z f H') → Q (.ref l) H') :
    tLst (tCons (_root_.CP.tClo T ((xLaw P w K mg base fL cL A outer s H0 E0').env.qual ++ "<lambda>") (lamP (lamE j i0)) (lamB (lamE j i0)) (lamSc (lamE j i0)) (cloFrom (xLaw P w K mg base fL cL A outer s H0 E0').env.cells (lamSc (lamE j i0)).names []))
      (tCons (_root_.CP.tClo T ((xLaw P w K mg base fL cL A outer s H0 E0').env.qual ++ "<lambda>") (lamP (lamE j i1)) (lamB (lamE j i1)) (lamSc (lamE j i1)) (cloFrom (xLaw P w K mg base fL cL A outer s H0 E0').env.cells (lamSc (lamE j i1)).names [])) tNil)) σ H Q := by
  dsimp only [tLst, tCons]
  refine clo_step h0 L0 B0 st fun f0 H1 e1 b1 => ?_
  refine clo_step h1 L1 B1 e1.1 fun f1 H2 e2 b2 => ?_
  refine ⟨(by show 2 ≤ sizeLine; decide), fun m hm => ?_⟩
  have e3 : Fm T N0 H2 (upd H2 m (.lst [.ref f0, .ref f1])) := Fm.new e2.1 hm
  refine fin _ m f0 f1 (e1.trans (e2.trans e3)) L2.upd_same fun f hf => ?_
  simp only [List.mem_cons, List.not_mem_nil, or_false] at hf
  rcases hf with rfl | rfl
  · exact b1.fm0 (e2.trans e3)
  · exact b2.fm0 e3
theorem cat_step {l m : Addr} {fs gs : List Addr} {H : Hp} {Q : VK} (hl : H l = some (.lst (fs.map V.ref))) (hm : H m = some (.lst (gs.map V.ref))) (len : (fs ++ gs).length ≤ 100) (fin : ∀ n, H n = none → Q (.ref n) (upd H n (.lst ((fs ++ gs).map V.ref)))) : rCat (.ref l) (.ref m) H Q := by
  have hz : sizeLine = 16777216 := rfl
  rw [List.length_append] at len
  refine ⟨l, m, _, _, rfl, rfl, hl, hm, by rw [List.length_map, List.length_map]; omega, fun n hn => ?_⟩
  rw [← List.map_append]
  exact fin n hn
theorem g_bad (ve : LawE P w K mg base CS CC CG CR Pl cL fTo fdTo T) :
    ∃ t3 t4 t5 t6, L2.PS (xLaw P w K mg base fL cL A outer s H0 E0') ((defBody sLaw).getD 3 pS) t3 ∧ L2.PS (xLaw P w K mg base fL cL A outer s H0 E0') ((defBody sLaw).getD 4 pS) t4 ∧ L2.PS (xLaw P w K mg base fL cL A outer s H0 E0') ((defBody sLaw).getD 5 pS) t5 ∧ L2.PS (xLaw P w K mg base fL cL A outer s H0 E0') ((defBody sLaw).getD 6 pS) t6 ∧
      ∀ (D : Ends) (σ : L2.St) (H : Hp) (z : TA2) (tr : TS), S2 z.t σ → Tabs T H → Two CS CC CG z H →
      (∀ (σ' : L2.St) (H' : Hp) (l : Addr) (fs : List Addr), Sl z.t l σ' → Lb P w K mg base fL cL A outer s H0 E0' CS CC CG CR T z l fs H' → tr D σ' H') →
      tSeq t3 (tSeq t4 (tSeq t5 (tSeq t6 tr))) D σ H := by
  refine ⟨_, _, _, _, ps_set (i := 20) scLaw.nd rfl (Or.inl rfl) (pe_lst (pa_cons (bad_lc ve rfl (by decide +kernel)) (pa_cons (bad_lc ve rfl (by decide +kernel)) pa_nil))),
    ps_set (i := 20) scLaw.nd rfl (Or.inl rfl) (pe_op op_cat (pv 20) (pe_lst (pa_cons (bad_lc ve rfl (by decide +kernel)) (pa_cons (bad_lc ve rfl (by decide +kernel)) pa_nil)))),
    ps_set (i := 20) scLaw.nd rfl (Or.inl rfl) (pe_op op_cat (pv 20) (pe_lst (pa_cons (bad_lc ve rfl (by decide +kernel)) (pa_cons (bad_lc ve rfl (by decide +kernel)) pa_nil)))),
    ps_set (i := 20) scLaw.nd rfl (Or.inl rfl) (pe_op op_cat (pv 20) (pe_lst (pa_cons (bad_lc ve rfl (by decide +kernel)) (pa_cons (bad_lc ve rfl (by decide +kernel)) pa_nil)))), ?_⟩
  rintro D σ H z tr ⟨a0, a1, a2, a3, a4, a5, a6, a7, a8, a9, a10, a11, a12, a13, a14, a15, a16, a17, a18, a20, a21, a22, a23, rfl⟩ tb x fin
  dsimp only [tSeq, tAsg]
  refine two_step (j := 3) (i0 := 0) (i1 := 1) (show BehL P w K mg base fL cL A outer s H0 E0' CS CC CG CR T z 3 0 from beh_30 ve) (show BehL P w K mg base fL cL A outer s H0 E0' CS CC CG CR T z 3 1 from beh_31 ve) (by decide +kernel) (by decide +kernel) (fun _ _ _ _ _ => rfl) (fun _ _ _ _ _ => rfl) tb fun H1 l f0 f1 e1 h1 b1 => ?_
  have lb1 : Lb P w K mg base fL cL A outer s H0 E0' CS CC CG CR T z l [f0, f1] H1 := ⟨e1.1, x.fm0 e1, h1, b1, by show 2 ≤ 100; decide⟩
  dsimp only [gName, tOp]
  refine ⟨_, rfl, ?_⟩
  refine two_step (j := 4) (i0 := 0) (i1 := 1) (show BehL P w K mg base fL cL A outer s H0 E0' CS CC CG CR T z 4 0 from beh_40 ve) (show BehL P w K mg base fL cL A outer s H0 E0' CS CC CG CR T z 4 1 from beh_41 ve) (by decide +kernel) (by decide +kernel) (fun _ _ _ _ _ => rfl) (fun _ _ _ _ _ => rfl) lb1.tb fun H2 m f2 f3 e2 h2 b2 => ?_
  refine cat_step (e2.at0 lb1.l) h2 (by show 4 ≤ 100; decide) fun l2 hl2 => ?_
  have e2' := e2.trans (Fm.new (T := T) (S := N0) (u := .lst (([f0, f1] ++ [f2, f3]).map V.ref)) e2.1 hl2)
  have lb2 := lb1.more (gs := [f2, f3]) e2' L2.upd_same (fun f hf => (b2 f hf).fm0 (Fm.new e2.1 hl2)) (by show 4 ≤ 100; decide)
  generalize upd H2 l2 (.lst (([f0, f1] ++ [f2, f3]).map V.ref)) = H3 at lb2
  refine ⟨_, rfl, ?_⟩
  refine two_step (j := 5) (i0 := 0) (i1 := 1) (show BehL P w K mg base fL cL A outer s H0 E0' CS CC CG CR T z 5 0 from beh_50 ve) (show BehL P w K mg base fL cL A outer s H0 E0' CS CC CG CR T z 5 1 from beh_51 ve) (by decide +kernel) (by decide +kernel) (fun _ _ _ _ _ => rfl) (fun _ _ _ _ _ => rfl) lb2.tb fun H4 m2 f4 f5 e4 h4 b4 => ?_
  refine cat_step (e4.at0 lb2.l) h4 (by show 6 ≤ 100; decide) fun l3 hl3 => ?_
  have e4' := e4.trans (Fm.new (T := T) (S := N0) (u := .lst ((([f0, f1] ++ [f2, f3]) ++ [f4, f5]).map V.ref)) e4.1 hl3)
  have lb3 := lb2.more (gs := [f4, f5]) e4' L2.upd_same (fun f hf => (b4 f hf).fm0 (Fm.new e4.1 hl3)) (by show 6 ≤ 100; decide)
  generalize upd H4 l3 (.lst ((([f0, f1] ++ [f2, f3]) ++ [f4, f5]).map V.ref)) = H5 at lb3
  refine ⟨_, rfl, ?_⟩
  refine two_step (j := 6) (i0 := 0) (i1 := 1) (show BehL P w K mg base fL cL A outer s H0 E0' CS CC CG CR T z 6 0 from beh_60 ve) (show BehL P w K mg base fL cL A outer s H0 E0' CS CC CG CR T z 6 1 from beh_61 ve) (by decide +kernel) (by decide +kernel) (fun _ _ _ _ _ => rfl) (fun _ _ _ _ _ => rfl) lb3.tb fun H6 m3 f6 f7 e6 h6 b6 => ?_
  refine cat_step (e6.at0 lb3.l) h6 (by show 8 ≤ 100; decide) fun l4 hl4 => ?_
  have e6' := e6.trans (Fm.new (T := T) (S := N0) (u := .lst (((([f0, f1] ++ [f2, f3]) ++ [f4, f5]) ++ [f6, f7]).map V.ref)) e6.1 hl4)
  have lb4 := lb3.more (gs := [f6, f7]) e6' L2.upd_same (fun f hf => (b6 f hf).fm0 (Fm.new e6.1 hl4)) (by show 8 ≤ 100; decide)
  exact fin _ _ l4 _ ⟨_, _, _, _, _, _, _, _, _, _, _, _, _, _, _, _, _, _, _, _, _, _, rfl⟩ lb4
end
end KL0
set_option Elab.async false
set_option linter.all false
set_option maxRecDepth 100000
set_option maxHeartbeats 4000000
namespace KL0
open PySem PySem.Spec PyProof.Rows L2 KB KC KS KN1 LamX K7 FM GG CL RC
abbrev tTold (CR : Addr) (K : PySem.W.Frag) (X : Cx) (ta : TA) (σ : L2.St) : TE := fun σ' H Q => ta σ' H fun vs H1 => ∃ f, vs = [.ref f] ∧ CloAt X 7 σ f H1 fun tl => TTold K CR "RowError" tl H1 Q
theorem eq_rows {K : PySem.W.Frag} {out : List V} {p q : Addr} {H : Hp} {Q : VK} (hp : H p = some (.tup out)) (hq : H q = some (.tup out)) (po : ∀ v ∈ out, Pv v) (k : Q (.bl true) H) : rEqD K (.ref p) (.ref q) H Q := by
  obtain ⟨d1, d2, d3, d4⟩ := data_vs K H po
  have sh : SeqAt.shaped (.tuple (out.map dV)) = true := by
    show (PyData.canLayAll0 (out.map dV) && decide (PyData.depthAll (out.map dV) + 1 ≤ 64)) = true
    rw [d2, decide_eq_true (by omega)]; rfl
  refine ⟨.tuple (out.map dV), .tuple (out.map dV), .tup (SqT.of hp) d1, .tup (SqT.of hq) d1, sh, sh, ?_⟩
  have e : PyData.eqv (.tuple (out.map dV)) (.tuple (out.map dV)) = true := d4
  rw [e]
  exact k
theorem goodB : goodC sB := by
  refine ⟨⟨by decide, by decide, by decide +kernel⟩, fun p hp => ?_⟩
  rw [List.mem_singleton.mp hp]
  show kindAt [("a", "int"), ("b", "text")] "b" = kd (.str "")
  decide +kernel
theorem fitsB : fitsP (ruleOf (fun _ => none) "x") [sA] sB = true := by decide +kernel
theorem rowB : rowOk sB sA [.int 4] := ⟨by decide +kernel, by decide +kernel⟩
theorem rowA : rowOk sA sB [.int 4, .str "z"] := ⟨by decide +kernel, by decide +kernel⟩
theorem outB : rowP sB sA [.int 4] = [.int 4, .str ""] := by rfl
theorem outA : rowP sA sB [.int 4, .str "z"] = [.int 4] := by rfl
theorem pv_i (i : Int) : Pv (.int i) := .inr (by show kd (.int i) ≠ none; exact fun h => nomatch h)
theorem pv_e : Pv (.str "") := .inr (by decide +kernel)
section
variable {P : Program} {w : World} {K : PySem.W.Frag} {mg : Str → Option Value} {base : Heap} {CS CC CG CR Pl cL fTo fL : Addr} {fdTo : FuncData} {T : List (Addr × Str)} {A : Around} {outer : List PySem.Env} {s : Shared} {H0 : Hp} {E0' : XK}
theorem read_ok {t rs rr r : Addr} {D : Addr → Prop} {En : Str → Option Ent} {R : Str → Option Str} {n : Str} {kn jn : Nat} {one other : Sc} {xs : List V} {H : Hp} {Q : VK} {E : XK} (x : RegA CS CC CG D nm2 t rs rr En R H) (hr : H r = some (.tup xs)) (ry : ∀ v ∈ xs, Rowy v) (lx : xs.length ≤ 1000) (tb : Tabs T H) (h1 : ((schs En n).map (·.2))[jn]? = some one) (h2 : ((schs En n).map (·.2))[kn]? = some other) (ok : rowOk one other xs)
    (qq : ∀ H' q, Fm T N0 H H' → H' q = some (.tup (rowP one other xs)) → Q (.ref q) H') : spRead CS CC CG CR nm2 T [.ref t, .str n, .int (kn : Int), .ref r, .int (jn : Int)] H Q E := by
  unfold spRead
  refine ⟨t, rs, rr, r, D, En, R, n, kn, jn, xs, rfl, x, hr, ry, lx, tb, fun no => absurd ⟨kn, jn, one, other, rfl, rfl, h1, h2, ok, rfl⟩ (no (rowP one other xs)), fun out h H' q f hq => ?_⟩
  obtain ⟨kn', jn', one', other', ek, ej, q1, q2, _, rfl⟩ := h
  have ek : kn = kn' := Int.ofNat.inj ek
  have ej : jn = jn' := Int.ofNat.inj ej
  subst ek ej
  rw [h1] at q1
  rw [h2] at q2
  cases q1
  cases q2
  exact qq H' q f hq
theorem clo_told {X : Cx} {pins : List (Addr × Obj)} {σ : L2.St} {s0 : Shared} {H1 : Hp} {sc : Scope} {ce : Env} {fp : List Addr} {xe0 : Value → Shared → Prop} (ve : LawE X.prog X.w X.K X.mg X.base CS CC CG CR Pl cL fTo fdTo T) (hr : Room 9 X.A)
    (bk : Back X pins σ (blkX X s0 H1 sc ce fp xe0)) (hg : Gl (blkX X s0 H1 sc ce fp xe0) "_law_told") {ea : Expr} {ta : TA} {p pos : Pos} (ha : PA (blkX X s0 H1 sc ce fp xe0) [ea] ta)
    (he : starEach [ea] (blkX X s0 H1 sc ce fp xe0).env = (false, eval ea (blkX X s0 H1 sc ce fp xe0).env) :: starEach [] (blkX X s0 H1 sc ce fp xe0).env) (hpl : (backTo pos (starEach [] (blkX X s0 H1 sc ce fp xe0).env)).any (·.1) = false) :
    PE (blkX X s0 H1 sc ce fp xe0) (.Call (.Name "_law_told" p) [ea] [] pos) (tTold CR X.K X ta σ) := by
  obtain ⟨oc, od, dV, kV, doc, pm, an, cdv, ct, osl, rfl, lk, hcd, _, _⟩ := ve.told.ex
  have bT := ve.told.bindsN (ps := ["what"]) fun _ _ _ _ _ _ us hl => match us, hl with | [_], _ => rfl
  exact pe_clocall (k := 7) bk hg ve.gTold ve.told.kp lk hcd bT (Ng := ["what"]) (sg := defScope sTold) ⟨rfl, rfl, rfl, by decide +kernel, rfl, by decide +kernel, by decide +kernel⟩ rfl (Or.inl rfl)
    (told_givesH (by rfl) ve.J.g (by decide +kernel) (fun f => rfl)) hr ha (he := he) (hpl := hpl)
theorem g_ret (ve : LawE P w K mg base CS CC CG CR Pl cL fTo fdTo T) (hr : Room 9 (xLaw P w K mg base fL cL A outer s H0 E0').A) :
    ∃ t7, L2.PS (xLaw P w K mg base fL cL A outer s H0 E0') ((defBody sLaw).getD 7 pS) t7 ∧ ∀ (D : Ends) (σ : L2.St) (H : Hp) (z : TA2) (l : Addr) (fs : List Addr), Sl z.t l σ → Lb P w K mg base fL cL A outer s H0 E0' CS CC CG CR T z l fs H → (∀ H', D.rt (.bl true) H') → t7 D σ H := by
  have hu := hr.units
  have hu1 := Nat.lt_trans (Nat.add_lt_add_left (by decide : 1 < 64) _) hu
  have hz0 : sizeLine = 16777216 := rfl
  obtain ⟨fS, fdS, e0, u0, GS, MS, bS, _, _, _⟩ := ve.sch
  obtain ⟨fA, fdA, GA, mA, bA⟩ := ve.add nm2
  obtain ⟨fD, fdD, GD, mD, bD⟩ := ve.read nm2
  refine ⟨_, ps_ret (pe_and (pe_cmpR (op_eqNil hu1) (RC.pe_lcB (X := xLaw P w K mg base fL cL A outer s H0 E0') (own := [("f", 23)]) (g := gName 23) (tt := fun σ => tTest (tOp rNe (tTold CR K (xLaw P w K mg base fL cL A outer s H0 E0') (tCons (tVar 23) tNil) σ) (tC (.str "RowError")))) (te := tC (.int 1)) (E := fun _ _ _ => False) rfl scLaw.nd rfl rfl L2.takes0
        (pi_list (pv 20)) (blkOk_by (N := nLaw) (sc := defScope sLaw) (by decide +kernel)) (fun _ _ _ _ _ _ _ => pg_name (i := 23) scLaw.nd rfl (Or.inl rfl))
        (fun pins σ s1 H1 C cl fp xe bk _ => pts_one (pt_cmpR op_ne (clo_told (X := xLaw P w K mg base fL cL A outer s H0 E0') ve hr bk (by rfl) (pa_cons (pv 23) pa_nil) (by rfl) (by rfl)) pe_str (nomark _)))
        (fun _ _ _ _ _ _ _ => pe_int)) (pe_lst pa_nil) (nomark _))
      (pe_and (pe_cmpR op_eq (pe_meth (pv 19) ve.G.cl mA GA (hr.mono (by decide)) bA (E := fun _ _ _ => False) .nil (passes_call L2.takes0 (fun _ _ _ _ h => h)) (pa_cons pe_str (pa_cons (pe_make (CX := L2.CX P w) MS GS (hr.mono (by decide)) (by rfl) ve.C.g bS (E := fun _ _ _ => False) .nil (passes_call L2.takes0 (fun _ _ _ _ h => h)) (pa_cons (pe_lst (pa_cons (pe_tup (pa_cons pe_str (pa_cons pe_str pa_nil))) (pa_cons (pe_tup (pa_cons pe_str (pa_cons pe_str pa_nil))) pa_nil))) (pa_cons (pe_disp (pps_cons pe_str pe_str pps_nil) rfl rfl (by simp) (by decide)) pa_nil))) pa_nil))) pe_int (nomark _))
      (pe_and (pe_cmpR (op_eqD hu) (pe_meth (pv 19) ve.G.cl mD GD (hr.mono (by decide)) bD (E := fun _ _ _ => False) .nil (passes_call L2.takes0 (fun _ _ _ _ h => h)) (pa_cons pe_str (pa_cons pe_int (pa_cons (pe_tup (pa_cons pe_int pa_nil)) (pa_cons pe_int pa_nil))))) (pe_tup (pa_cons pe_int (pa_cons pe_str pa_nil))) (nomark _))
      (pe_one (pe_cmpR (op_eqD hu) (pe_meth (pv 19) ve.G.cl mD GD (hr.mono (by decide)) bD (E := fun _ _ _ => False) .nil (passes_call L2.takes0 (fun _ _ _ _ h => h)) (pa_cons pe_str (pa_cons pe_int (pa_cons (pe_tup (pa_cons pe_int (pa_cons pe_str pa_nil))) (pa_cons pe_int pa_nil))))) (pe_tup (pa_cons pe_int pa_nil)) (nomark _)))))), ?_⟩
  rintro D σ H ⟨t, rs, rr, lx, cx⟩ l fs ⟨a0, a1, a2, a3, a4, a5, a6, a7, a8, a9, a10, a11, a12, a13, a14, a15, a16, a17, a18, a21, a22, a23, rfl⟩ lb fin
  refine ⟨_, rfl, l, rfl, ⟨_, SqL.of lb.l⟩, fun L hL' => ?_⟩
  have eL : Fm T N0 H (upd H L (.lst [])) := Fm.new lb.tb hL'
  refine lc_it walk_list (fun j H' => Fm T N0 H H' ∧ H' L = some (.lst [])) ⟨eL, L2.upd_same⟩ (fun j H' _ h => SqL.of (h.1.at0 lb.l)) ?_ ?_
  · rintro j v H5 H6 hj ⟨e5, h5⟩ ⟨rfl, hx⟩
    rw [List.getElem?_map] at hx
    obtain ⟨f, hf, rfl⟩ := Option.map_eq_some_iff.mp hx
    refine ⟨rfl, .ref f, rfl, f, rfl, ((lb.bad f (List.mem_of_getElem? hf)).fm0 e5).told ve.J ⟨_, _, _, _, _, _, _, _, _, _, _, _, _, _, _, _, _, _, _, _, _, _, _, rfl⟩ e5.1 (lb.x.fm0 e5) fun H7 e7 => ⟨rfl, _, rfl, ?_⟩⟩
    exact ifF (by decide) ⟨e5.trans e7, e7.at0 h5⟩
  · rintro H5 ⟨e5, h5⟩
    refine ⟨(by show 0 ≤ sizeLine; decide), fun l2 hl2 => ⟨L, l2, _, rfl, rfl, by rw [L2.upd_ne (ne_of_none h5 hl2)]; exact h5, L2.upd_same, _, rfl, ifT rfl ?_⟩⟩
    have f6 : Fm T N0 H (upd H5 l2 (.lst [])) := e5.trans (Fm.new e5.1 hl2)
    generalize upd H5 l2 (.lst []) = H6 at f6
    have x6 : TwoA CS CC CG t rs rr lx cx H6 := lb.x.fm0 f6
    obtain ⟨dx, ob⟩ := x6.rg.ob
    refine ⟨_, rfl, t, dx, _, rfl, ob, rfl, (by show 2 ≤ sizeLine; decide), fun q1 hq1 => ⟨(by show 2 ≤ sizeLine; decide), fun q2 hq2 => ⟨(by show 2 ≤ sizeLine; decide), fun l3 hl3 => fun d hd => ⟨L2.upd_same, [(kS "b", .str "")], rfl, (by show 1 ≤ 15; decide), fun c dxc nx nd ne => ?_⟩⟩⟩⟩
    have e1 : KS.Ex H6 (upd (upd (upd H6 q1 (.tup [.str "a", .str "int"])) q2 (.tup [.str "b", .str "text"])) l3 (.lst [.ref q1, .ref q2])) := ((Ex.upd hq1).trans (Ex.upd hq2)).trans (Ex.upd hl3)
    have hq1' : (upd (upd (upd H6 q1 (.tup [.str "a", .str "int"])) q2 (.tup [.str "b", .str "text"])) l3 (.lst [.ref q1, .ref q2])) q1 = some (.tup [.str "a", .str "int"]) := (Ex.upd hl3) _ _ ((Ex.upd hq2) _ _ L2.upd_same)
    have hq2' : (upd (upd (upd H6 q1 (.tup [.str "a", .str "int"])) q2 (.tup [.str "b", .str "text"])) l3 (.lst [.ref q1, .ref q2])) q2 = some (.tup [.str "b", .str "text"]) := (Ex.upd hl3) _ _ L2.upd_same
    have hl3' : (upd (upd (upd H6 q1 (.tup [.str "a", .str "int"])) q2 (.tup [.str "b", .str "text"])) l3 (.lst [.ref q1, .ref q2])) l3 = some (.lst ([q1, q2].map V.ref)) := L2.upd_same
    generalize upd (upd (upd H6 q1 (.tup [.str "a", .str "int"])) q2 (.tup [.str "b", .str "text"])) l3 (.lst [.ref q1, .ref q2]) = H7 at e1 hq1' hq2' hl3' hd nx nd
    have e2 : KS.Ex H7 (upd (upd H7 d (.dK [])) d (.dK (mergeK [] [(kS "b", .str "")]))) := Ex.on (Ex.upd hd) hd
    have hd2 : (upd (upd H7 d (.dK [])) d (.dK (mergeK [] [(kS "b", .str "")]))) d = some (.dK (kvL [("b", .str "")])) := L2.upd_same
    generalize upd (upd H7 d (.dK [])) d (.dK (mergeK [] [(kS "b", .str "")])) = H8 at e2 hd2 nx nd
    have e12 := e1.trans e2
    have x8 := x6.fm0 (Fm.ex (T := T) f6.1 e12)
    refine sch_step (cols := [("a", "int"), ("b", "text")]) (lk := [("b", .str "")]) nx nd ne.symm (e2 _ _ hl3') (.cons (e2 _ _ hq1') (.cons (e2 _ _ hq2') .nil)) (by decide) ⟨d, rfl, .inl hd2⟩ ⟨by simp, by show 1 ≤ 1000; decide, fun p hp => ?_⟩ (f6.1.ext e12) (fun ng => absurd goodB ng) fun _ H9 f9 sa => ⟨rfl, ?_⟩
    · rw [List.mem_singleton.mp hp]
      exact ⟨trivial, by show kd (.str "") ≠ none; decide +kernel⟩
    have x9 := x8.fm0 f9
    show spAdd CS CC CG CR nm2 T [.ref t, .str "x", .ref c] H9 _ _
    unfold spAdd
    refine ⟨t, rs, rr, c, _, _, _, "x", sB, rfl, x9.rg, sa.mono x8.was, goodB, by decide, by decide, by decide, by rw [schs_A]; exact (by decide : 1 < 1000), f9.1, fun hF => ?_, fun hF H10 l' f10 _ rg => ?_⟩
    · rw [schs_A] at hF
      have := hF.symm.trans fitsB
      cases this
    rw [schs_A] at rg ⊢
    refine ⟨rfl, _, rfl, ifT (by show decide (V.int ((1 : Nat) : Int) = V.int 1) = true; decide) ?_⟩
    have es : ∀ {p : Addr}, schs (putG (eA lx cx) "x" (some (p, [(cx, sA)] ++ [(c, sB)]))) "x" = [(cx, sA), (c, sB)] := fun {p} => by unfold schs; rw [putG_same]; rfl
    obtain ⟨dx10, ob10⟩ := rg.ob
    have t10 := f10.1
    refine ⟨_, rfl, t, dx10, _, rfl, ob10, rfl, (by show 1 ≤ sizeLine; decide), fun r1 hr1 => ?_⟩
    have g1 : Fm T N0 H10 (upd H10 r1 (.tup [.int 4])) := Fm.new t10 hr1
    refine read_ok (kn := 0) (jn := 1) (one := sB) (other := sA) (rg.fm0 g1) L2.upd_same (fun v hv => by rw [List.mem_singleton.mp hv]; trivial) (by show 1 ≤ 1000; decide) g1.1 (by rw [es]; rfl) (by rw [es]; rfl) rowB fun H11 p1 f11 hp1 => ?_
    rw [outB] at hp1
    refine ⟨(by show 2 ≤ sizeLine; decide), fun z1 hz1 => eq_rows ((Ex.upd hz1) _ _ hp1) L2.upd_same (fun v hv => ?_) ⟨_, rfl, ifT rfl ?_⟩⟩
    · rcases List.mem_cons.mp hv with rfl | hv
      · exact pv_i 4
      · rw [List.mem_singleton.mp hv]; exact pv_e
    have g2 : Fm T N0 H10 (upd H11 z1 (.tup [.int 4, .str ""])) := g1.trans (f11.trans (Fm.new f11.1 hz1))
    have rg12 := rg.fm0 g2
    generalize upd H11 z1 (.tup [.int 4, .str ""]) = H12 at g2 rg12
    obtain ⟨dx12, ob12⟩ := rg12.ob
    refine ⟨_, rfl, t, dx12, _, rfl, ob12, rfl, (by show 2 ≤ sizeLine; decide), fun r2 hr2 => ?_⟩
    have g3 : Fm T N0 H12 (upd H12 r2 (.tup [.int 4, .str "z"])) := Fm.new g2.1 hr2
    refine read_ok (kn := 1) (jn := 0) (one := sA) (other := sB) (rg12.fm0 g3) L2.upd_same (fun v hv => ?_) (by show 2 ≤ 1000; decide) g3.1 (by rw [es]; rfl) (by rw [es]; rfl) rowA fun H13 p2 f13 hp2 => ?_
    · rcases List.mem_cons.mp hv with rfl | hv
      · trivial
      · rw [List.mem_singleton.mp hv]; trivial
    rw [outA] at hp2
    exact ⟨(by show 1 ≤ sizeLine; decide), fun z2 hz2 => eq_rows ((Ex.upd hz2) _ _ hp2) L2.upd_same (fun v hv => by rw [List.mem_singleton.mp hv]; exact pv_i 4) (fin _)⟩
end
end KL0
set_option Elab.async false
set_option linter.all false
set_option maxRecDepth 100000
set_option maxHeartbeats 4000000
namespace KL0
open PySem PySem.Spec PyProof.Rows L2 KB KC KS KN1 LamX K7 FM GG CL RC
def spLaw (K : PySem.W.Frag) (T : List (Addr × Str)) : Sp := fun vs H Q _ => ∃ (a : Addr) (ns : List Int), vs = [.ref a] ∧ SqL K H a (ns.map V.int) ∧ Tabs T H ∧ ∀ H', Q (.bl true) H'
theorem rounds_step {K : PySem.W.Frag} {a : Addr} {ns : List Int} {H : Hp} {Q : VK} {E : XK} (hs : SqL K H a (ns.map V.int)) (fin : ∀ H' p d, KS.Ex H H' → H' p = some (.lst [.ref d]) → IsDice H' d → Q (.ref p) H') : spRounds K [.ref a, .int 1] H Q E := by
  unfold spRounds
  exact ⟨a, ns, rfl, hs, fin⟩
section
variable {P : Program} {w : World} {K : PySem.W.Frag} {mg : Str → Option Value} {base : Heap} {CS CC CG CR Pl cL fTo fL : Addr} {fdTo fdL : FuncData} {T : List (Addr × Str)}
theorem ok_law (F : FnP K "law" "law" sLaw [] fL fdL) (hc : fdL.code = .ref cL) (ve : LawE P w K mg base CS CC CG CR Pl cL fTo fdTo T) : FnOk P w K mg base CX0 10 fL fdL ["script"] (spLaw K T) := by
  refine okC F hc scLaw (fun vs H Q E h => ?_) (fun A outer s H vs Q E hr h => ?_)
  · obtain ⟨_, _, rfl, _⟩ := h; rfl
  · obtain ⟨a, ns, rfl, hS, tb, fin⟩ := h
    obtain ⟨fR, fdR, GR, gR, kR, bR⟩ := ve.rounds
    obtain ⟨t, TT, h⟩ := g_once (fL := fL) (A := A) (outer := outer) (s := s) (H0 := H) (E0' := E) ve hr
    obtain ⟨t1, t2, T1, T2, h2⟩ := g_two (fL := fL) (A := A) (outer := outer) (s := s) (H0 := H) (E0' := E) ve hr
    obtain ⟨t3, t4, t5, t6, T3, T4, T5, T6, h3⟩ := g_bad (fL := fL) (A := A) (outer := outer) (s := s) (H0 := H) (E0' := E) ve
    obtain ⟨t7, T7, h7⟩ := g_ret (fL := fL) (A := A) (outer := outer) (s := s) (H0 := H) (E0' := E) ve hr
    refine ⟨_, PSs.nox <| (pss_cons (ps_for PassesOwn.never rfl (pi_list (pe_call GR (hr.mono (by decide)) (by rfl) gR kR bR .nil pass0 (pa_cons (pv 0) (pa_cons pe_int pa_nil)))) (pg_name (i := 1) scLaw.nd rfl (Or.inr rfl)) TT)
      (pss_cons T1 (pss_cons T2 (pss_cons T3 (pss_cons T4 (pss_cons T5 (pss_cons T6 (pss_one T7))))))) : PSs (xLaw P w K mg base fL cL A outer s H E) (defBody sLaw) _), ?_⟩
    refine ⟨_, rfl, rounds_step hS fun H1 rp d e1 hp hd => ⟨rp, rfl, ⟨_, SqL.of hp⟩, for_list (xs := [V.ref d]) (fun i σ H2 => Tabs T H2 ∧ H2 rp = some (.lst [.ref d]) ∧ (i = 0 → σ = L2.start nLaw [.ref a] ∧ IsDice H2 d) ∧ S24 σ) ⟨tb.ext e1, hp, fun _ => ⟨rfl, hd⟩, ⟨_, _, _, _, _, _, _, _, _, _, _, _, _, _, _, _, _, _, _, _, _, _, _, _, rfl⟩⟩ (fun i σ H2 _ h => SqL.of h.2.1) ?_ ?_⟩⟩
    · rintro i x σ H2 hx ⟨st, hp2, hi, _⟩
      cases i with
      | succ i => cases hx
      | zero =>
        obtain ⟨rfl, di⟩ := hi rfl
        cases hx
        exact h _ H2 d rp _ _ _ _ _ _ _ _ _ _ _ _ _ _ _ _ _ _ _ _ _ _ _ st di hp2 fun σ' H3 hs st3 hp3 => ⟨st3, hp3, (fun z => nomatch z), hs⟩
    · rintro σ H2 ⟨st, _, _, hs⟩
      refine h2 _ σ H2 _ hs st fun σ3 H3 t rs rr l c hs3 tb3 x3 => ?_
      refine h3 _ σ3 H3 ⟨t, rs, rr, l, c⟩ _ hs3 tb3 x3 fun σ4 H4 l4 fs hs4 lb => ?_
      exact h7 _ σ4 H4 ⟨t, rs, rr, l, c⟩ l4 fs hs4 lb fin
end
end KL0
set_option Elab.async false
set_option linter.all false
set_option maxRecDepth 100000
set_option maxHeartbeats 0
namespace KL0
open PySem PySem.Spec PyProof.Rows L2
def dD (x : Str) (st : Stmt) : He.DefD := ⟨(x, none), x, x, defArgs st, defBody st, defScope st, [], []⟩
def dM (c m q : Str) (st : Stmt) : He.DefD := ⟨(c, some m), m, q, defArgs st, defBody st, defScope st, [], []⟩
def dMV (c m q : Str) (st : Stmt) (dfl : List He.Dv) : He.DefD := ⟨(c, some m), m, q, defArgs st, defBody st, defScope st, dfl, []⟩
def fnL : List He.DefD := [dD "kind_of" sKind, dD "_law_dice" sDice, dD "_law_roll" sRoll, dD "_law_rounds" sRounds, dD "_law_told" sTold, dD "_law_schema" sLSch, dD "_law_reads" sLReads, dD "_law_fits" sLFits, dD "law" sLaw, dM "Shape" "__init__" "Shape.__init__" (sSM 0), dM "Shape" "kinds" "Shape.kinds" (sSM 2), dM "Shape" "check_row" "Shape.check_row" (sSM 3), dMV "Schema" "__init__" "Schema.__init__" (sSc 0) [.adr (He.dflAt ("Schema", some "__init__") 0)], dM "Schema" "reads" "Schema.reads" (sSc 1), dM "Schema" "row_from" "Schema.row_from" (sSc 2), dM "Registry" "__init__" "Registry.__init__" (sRg 0), dM "Registry" "put_rule" "Registry.put_rule" (sRg 1), dM "Registry" "fits" "Registry.fits" (sRg 2), dM "Registry" "add" "Registry.add" (sRg 3), dM "Registry" "read" "Registry.read" (sRg 4)]
def faL : List He.Fa := [.glo "kind_of", .glo "_law_dice", .glo "_law_roll", .glo "_law_rounds", .glo "_law_told", .glo "_law_schema", .glo "_law_reads", .glo "_law_fits", .glo "law", .glo "Shape", .glo "Schema", .glo "Registry", .glo "RowError", .glo "KINDS", .glo "RULES", .free "abs", .free "int", .free "range", .free "dict", .free "list", .free "tuple", .free "len", .free "zip", .free "isinstance", .free "str", .free "sorted", .free "all", .free "bool", .free "any", .free "enumerate", .int "MOST_COLUMNS" 20, .str "LETTERS" ltrs, .cls "Shape", .noat "Shape" "columns", .noat "Shape" "places", .mkr "Shape", .meth "Shape" "kinds", .meth "Shape" "check_row", .cls "Schema", .noat "Schema" "shape", .noat "Schema" "lacking", .mkr "Schema", .meth "Schema" "reads", .meth "Schema" "row_from", .cls "Registry", .noat "Registry" "schemas", .noat "Registry" "rules", .mkr "Registry", .meth "Registry" "put_rule", .meth "Registry" "fits", .meth "Registry" "add", .meth "Registry" "read", .exc "RowError", .exm "RowError" "RowError" true]
def tK : He.Defn := ("kind_of", none)
def tI : He.Defn := ("Shape", some "__init__")
def tJ : He.Defn := ("Schema", some "__init__")
def tF : He.Defn := ("Registry", some "fits")
def tL : He.Defn := ("law", none)
def tfL : List He.Defn := [tK, tI, tJ, tF, tL]
def tupB (K : PySem.W.Frag) (g : Str) (vs : List V) : Bool := match K.lookup (He.ga K g) with
  | some ⟨.type c, _, .seq its _, _⟩ => decide (c = "tuple") && He.relAll vs its.toList
  | _ => false
def e0B (K : PySem.W.Frag) : Bool := match K.lookup (He.dflAt ("Schema", some "__init__") 0 K) with
  | some ⟨.type "tuple", none, .seq its _, _⟩ => its.isEmpty
  | _ => false
def exL (K : PySem.W.Frag) : Bool := (tupB K "KINDS" [V.str "int", V.str "text"] && tupB K "RULES" [V.str "back", V.str "forth", V.str "both", V.str "all", V.str "free"]) && (e0B K && (((He.cT K tK).2 != (He.cT K tI).2) && ((He.cT K tK).2 != (He.cT K tJ).2) && ((He.cT K tK).2 != (He.cT K tF).2) && ((He.cT K tK).2 != (He.cT K tL).2) && ((He.cT K tI).2 != (He.cT K tJ).2) && ((He.cT K tI).2 != (He.cT K tF).2) && ((He.cT K tI).2 != (He.cT K tL).2) && ((He.cT K tJ).2 != (He.cT K tF).2) && ((He.cT K tJ).2 != (He.cT K tL).2) && ((He.cT K tF).2 != (He.cT K tL).2)))
abbrev RL : PySem.W.OpenRow := PySem.W.OpenLaw.row PySem.Challenge.rw_streamstack_k10_rows_of_other_shapes
abbrev hkL : PySem.W.Hook := He.hookX 6 faL fnL [] tfL exL
def obL (s : PySem.W.SharedT) : He.AlX := He.obsX 6 faL fnL [] tfL exL (HandSHeadRun.getT s)
theorem obL_eq (s : PySem.W.SharedT) : obL s = hkL.obs s.abs := He.obsX_eq (HandSHeadRun.getT_eq s)
def looseL : List Str := ["_wall", "StreamError", "RowError", "KINDS", "LETTERS", "MOST_COLUMNS", "kind_of", "Shape", "RULES", "Schema", "Registry", "_law_dice", "_law_roll", "_law_rounds", "_law_told", "_law_schema", "_law_reads", "_law_fits"]
theorem runL (w : World) : HandSHeadRun.RunEq RL (PySem.W.view RL.prog [22]) hkL obL 3000 looseL w := by
  intro os
  kernel_rfl
end KL0
set_option Elab.async false
set_option linter.all false
set_option maxRecDepth 100000
set_option maxHeartbeats 4000000
namespace KL0
open PySem PySem.Spec PyProof.Rows L2 KB KC KS KN1 LamX K7 FM GG
theorem code_at {K : PySem.W.Frag} {x q : Str} {st : Stmt} {dvs : List V} {p : He.Defn} {fd : FuncData} (F : FnP K x q st dvs (He.fAd K p) fd) : fd.code = .ref (He.cT K p).1 := by
  obtain ⟨oc, od, dV, kV, doc, pm, an, cdv, ct, osl, rfl, lk, hcd, _, _⟩ := F.ex
  obtain ⟨c, e⟩ := He.codeIn_ref hcd
  subst e
  have z : He.codeOf K p = c := He.codeOf_eq lk rfl
  show Value.ref c = Value.ref (He.codeOf K p)
  rw [z]
theorem tup_any {K : PySem.W.Frag} {mg : Str → Option Value} {g : Str} {ys : List Str} {vs : List V} (hy : ∀ l, Vals vs l → PyProof.Rows.StrsAre l ys) (h0 : mg g = some (.ref (He.ga K g))) (h : tupB K g vs = true) : GT.TupG K mg g ys := by
  unfold tupB at h
  cases q : K.lookup (He.ga K g) with
  | none => rw [q] at h; cases h
  | some o =>
    obtain ⟨oc, od, dt, osl⟩ := o
    rw [q] at h
    cases oc with
    | type c =>
      cases dt with
      | seq its n =>
        have h : (decide (c = "tuple") && He.relAll vs its.toList) = true := h
        rw [Bool.and_eq_true] at h
        exact ⟨_, _, its, n, h0, q, congrArg Value.type (of_decide_eq_true h.1), rfl, hy _ (He.relAll_ok h.2)⟩
      | _ => cases h
    | _ => cases dt <;> cases h
theorem strs_of : ∀ {ys : List Str} {l : List Value}, Vals (ys.map V.str) l → PyProof.Rows.StrsAre l ys
  | [], _, h => by cases h; exact .nil
  | y :: ys, _, h => by
    cases h with
    | cons a t =>
      obtain ⟨t1, rfl⟩ := a
      exact .cons _ _ (strs_of t)
theorem tup_ok {K : PySem.W.Frag} {mg : Str → Option Value} (h0 : mg "KINDS" = some (.ref (He.ga K "KINDS"))) (h : tupB K "KINDS" [V.str "int", V.str "text"] = true) : GT.TupG K mg "KINDS" ["int", "text"] := tup_any (fun _ r => strs_of (ys := ["int", "text"]) r) h0 h
theorem tup_ok5 {K : PySem.W.Frag} {mg : Str → Option Value} (h0 : mg "RULES" = some (.ref (He.ga K "RULES"))) (h : tupB K "RULES" [V.str "back", V.str "forth", V.str "both", V.str "all", V.str "free"] = true) : GT.TupG K mg "RULES" rulesL := tup_any (fun _ r => strs_of (ys := rulesL) r) h0 h
theorem e0_of {K : PySem.W.Frag} (h : e0B K = true) : E0T K (He.dflAt ("Schema", some "__init__") 0 K) := by
  unfold e0B at h
  split at h
  · rename_i its n sl e
    have : its = #[] := by simpa using h
    subst this
    exact ⟨n, sl, e⟩
  · cases h
theorem bindsS {K : PySem.W.Frag} {r0 f : Addr} {fd : FuncData} (F : FnP K "__init__" "Schema.__init__" (sSc 0) [.ref r0] f fd) : L2.Binds K fd ["self", "columns", "lacking"] [] := by
  obtain ⟨ds, h1, h2⟩ := F.binds1 (ps := ["self", "columns", "lacking"]) 3 1 (by simp) rfl fun T kV doc pm an cdv ct us its h1 h2 => match us, its, h1, h2 with
    | [_, _, _], [_], _, _ => ⟨_, rfl, rfl⟩
  cases h1
  exact h2
theorem bindsS0 {K : PySem.W.Frag} {r0 f : Addr} {fd : FuncData} (F : FnP K "__init__" "Schema.__init__" (sSc 0) [.ref r0] f fd) : ∃ ds, Vals [.ref r0] ds ∧ L2.Binds K fd ["self", "columns", "lacking"] ds :=
  F.binds1 (ps := ["self", "columns", "lacking"]) 2 0 (by simp) rfl fun T kV doc pm an cdv ct us its h1 h2 => match us, its, h1, h2 with
    | [_, _], [_], _, _ => ⟨_, rfl, rfl⟩
def tabL (a b c d e : Addr) : List (Addr × Str) := [(a, qK), (b, qSh), (c, qSi), (d, qFi), (e, qL)]
theorem uq5 {a b c d e : Addr} (n0 : ¬ a = b) (n1 : ¬ a = c) (n2 : ¬ a = d) (n3 : ¬ a = e) (n4 : ¬ b = c) (n5 : ¬ b = d) (n6 : ¬ b = e) (n7 : ¬ c = d) (n8 : ¬ c = e) (n9 : ¬ d = e) : Uq (tabL a b c d e) := by
  intro p hp p' hp' h
  unfold tabL at hp hp'
  simp only [List.mem_cons, List.not_mem_nil, or_false] at hp hp'
  rcases hp with rfl | rfl | rfl | rfl | rfl <;> rcases hp' with rfl | rfl | rfl | rfl | rfl <;> first | rfl | exact absurd h (by assumption) | exact absurd h.symm (by assumption)
theorem tabs5 {H : Hp} {a b c d e : Addr} (h1 : TabS H a qK) (h2 : TabS H b qSh) (h3 : TabS H c qSi) (h4 : TabS H d qFi) (h5 : TabS H e qL) : Tabs (tabL a b c d e) H := by
  intro p hp
  unfold tabL at hp
  simp only [List.mem_cons, List.not_mem_nil, or_false] at hp
  rcases hp with rfl | rfl | rfl | rfl | rfl
  · exact h1
  · exact h2
  · exact h3
  · exact h4
  · exact h5
def pickL (K : PySem.W.Frag) : List (Addr × Addr) := [He.cT K tK, He.cT K tI, He.cT K tJ, He.cT K tF, He.cT K tL]
abbrev pr : Program := PySem.Challenge.rw_streamstack_k10_rows_of_other_shapes.prog
theorem lawAt {w : World} {mg : Str → Option Value} {fa : Addr} {h : Heap} {K : PySem.W.Frag} (X : K.In h) (G : h.Ns mainGlobals mg) (hmg : mg ("law" : Str) = some (.ref fa)) (c : He.SaysX faL fnL [] tfL exL w h K) :
    LawAtS PySem.Challenge.rw_streamstack_k10_rows_of_other_shapes w K CX0 10 63 "script" mg fa h := by
  have D := c.t.d
  obtain ⟨fd0, F0⟩ := D.def_ 0 (d := dD "kind_of" sKind) rfl
  obtain ⟨fd1, F1⟩ := D.def_ 1 (d := dD "_law_dice" sDice) rfl
  obtain ⟨fd2, F2⟩ := D.def_ 2 (d := dD "_law_roll" sRoll) rfl
  obtain ⟨fd3, F3⟩ := D.def_ 3 (d := dD "_law_rounds" sRounds) rfl
  obtain ⟨fd4, F4⟩ := D.def_ 4 (d := dD "_law_told" sTold) rfl
  obtain ⟨fd5, F5⟩ := D.def_ 5 (d := dD "_law_schema" sLSch) rfl
  obtain ⟨fd6, F6⟩ := D.def_ 6 (d := dD "_law_reads" sLReads) rfl
  obtain ⟨fd7, F7⟩ := D.def_ 7 (d := dD "_law_fits" sLFits) rfl
  obtain ⟨fd8, F8⟩ := D.def_ 8 (d := dD "law" sLaw) rfl
  obtain ⟨fd9, F9⟩ := D.def_ 9 (d := dM "Shape" "__init__" "Shape.__init__" (sSM 0)) rfl
  obtain ⟨fd10, F10⟩ := D.def_ 10 (d := dM "Shape" "kinds" "Shape.kinds" (sSM 2)) rfl
  obtain ⟨fd11, F11⟩ := D.def_ 11 (d := dM "Shape" "check_row" "Shape.check_row" (sSM 3)) rfl
  obtain ⟨fd12, F12⟩ := D.def_ 12 (d := dMV "Schema" "__init__" "Schema.__init__" (sSc 0) [.adr (He.dflAt ("Schema", some "__init__") 0)]) rfl
  obtain ⟨fd13, F13⟩ := D.def_ 13 (d := dM "Schema" "reads" "Schema.reads" (sSc 1)) rfl
  obtain ⟨fd14, F14⟩ := D.def_ 14 (d := dM "Schema" "row_from" "Schema.row_from" (sSc 2)) rfl
  obtain ⟨fd15, F15⟩ := D.def_ 15 (d := dM "Registry" "__init__" "Registry.__init__" (sRg 0)) rfl
  obtain ⟨fd16, F16⟩ := D.def_ 16 (d := dM "Registry" "put_rule" "Registry.put_rule" (sRg 1)) rfl
  obtain ⟨fd17, F17⟩ := D.def_ 17 (d := dM "Registry" "fits" "Registry.fits" (sRg 2)) rfl
  obtain ⟨fd18, F18⟩ := D.def_ 18 (d := dM "Registry" "add" "Registry.add" (sRg 3)) rfl
  obtain ⟨fd19, F19⟩ := D.def_ 19 (d := dM "Registry" "read" "Registry.read" (sRg 4)) rfl
  have gl : ∀ (i : Nat) (x : Str), faL[i]? = some (.glo x) → mg x = some (.ref (He.ga K x)) := fun i x h => He.glo_ok X G (D.fact i h)
  have fr : ∀ (i : Nat) (x : Str), faL[i]? = some (.free x) → mg x = none := fun i x h => He.free_ok X G (D.fact i h)
  have me : ∀ (i : Nat) (C m : Str), faL[i]? = some (.meth C m) → Meth K (He.ga K C) m (He.ma K (He.ga K C) m) := fun i C m h => He.meth_ok (D.fact i h)
  have na : ∀ (i : Nat) (C m : Str), faL[i]? = some (.noat C m) → NoAttr K (He.ga K C) m := fun i C m h => He.noat_ok (D.fact i h)
  have T : TxtL mg := ⟨fr 15 _ rfl, fr 16 _ rfl, fr 17 _ rfl, fr 18 _ rfl, fr 19 _ rfl, fr 20 _ rfl, fr 21 _ rfl, fr 22 _ rfl, fr 23 _ rfl, fr 24 _ rfl, fr 25 _ rfl, fr 26 _ rfl⟩
  have hM : ∃ tk, mg "MOST_COLUMNS" = some (.int 20 tk) := He.int_ok X G (D.fact 30 (f := .int "MOST_COLUMNS" 20) rfl)
  have TK : TxtK mg := ⟨He.str_ok X G (D.fact 31 (f := .str "LETTERS" ltrs) rfl), fr 27 _ rfl, fr 28 _ rfl⟩
  have TS : TxtS K mg (He.ga K "Shape") := ⟨He.cls_ok (D.fact 32 (f := .cls "Shape") rfl), na 33 _ _ rfl, na 34 _ _ rfl, gl 9 _ rfl⟩
  have MTS := He.mkr_ok (D.fact 35 (f := .mkr "Shape") rfl)
  have TC : TxtC K mg (He.ga K "Schema") := ⟨He.cls_ok (D.fact 38 (f := .cls "Schema") rfl), na 39 _ _ rfl, na 40 _ _ rfl, gl 10 _ rfl⟩
  have MTC := He.mkr_ok (D.fact 41 (f := .mkr "Schema") rfl)
  have TG : TxtG K mg (He.ga K "Registry") := ⟨He.cls_ok (D.fact 44 (f := .cls "Registry") rfl), na 45 _ _ rfl, na 46 _ _ rfl, gl 11 _ rfl⟩
  have MTG := He.mkr_ok (D.fact 47 (f := .mkr "Registry") rfl)
  obtain ⟨x1, x2, x3, x4⟩ := He.exc_ok (D.fact 52 (f := .exc "RowError") rfl)
  have J : TxtX K mg (He.ga K "RowError") := ⟨gl 12 _ rfl, x1, x2, x3, x4, He.exm_ok (D.fact 53 (f := .exm "RowError" "RowError" true) rfl)⟩
  have hex := c.more
  unfold exL at hex
  simp only [Bool.and_eq_true, bne_iff_ne, ne_eq] at hex
  obtain ⟨⟨hk, hru⟩, he0, ⟨⟨⟨⟨⟨⟨⟨⟨⟨n0, n1⟩, n2⟩, n3⟩, n4⟩, n5⟩, n6⟩, n7⟩, n8⟩, n9⟩⟩ := hex
  have hKi := tup_ok (gl 13 _ rfl) hk
  have hRu := tup_ok5 (gl 14 _ rfl) hru
  have hE := e0_of he0
  have uT : Uq (tabL (He.cT K tK).2 (He.cT K tI).2 (He.cT K tJ).2 (He.cT K tF).2 (He.cT K tL).2) := uq5 n0 n1 n2 n3 n4 n5 n6 n7 n8 n9
  have e := hmg.symm.trans (gl 8 _ rfl)
  cases e
  have memL : ∀ p ∈ pickL K, ∃ q ∈ tfL, p = He.cT K q := fun p hp => by
    rcases List.mem_cons.mp hp with rfl | hp
    · exact ⟨tK, List.mem_cons_self .., rfl⟩
    rcases List.mem_cons.mp hp with rfl | hp
    · exact ⟨tI, List.mem_cons_of_mem _ (List.mem_cons_self ..), rfl⟩
    rcases List.mem_cons.mp hp with rfl | hp
    · exact ⟨tJ, List.mem_cons_of_mem _ (List.mem_cons_of_mem _ (List.mem_cons_self ..)), rfl⟩
    rcases List.mem_cons.mp hp with rfl | hp
    · exact ⟨tF, List.mem_cons_of_mem _ (List.mem_cons_of_mem _ (List.mem_cons_of_mem _ (List.mem_cons_self ..))), rfl⟩
    rcases List.mem_cons.mp hp with rfl | hp
    · exact ⟨tL, List.mem_cons_of_mem _ (List.mem_cons_of_mem _ (List.mem_cons_of_mem _ (List.mem_cons_of_mem _ (List.mem_cons_self ..)))), rfl⟩
    cases hp
  refine ⟨fd8, pickL K, spLaw K (tabL (He.cT K tK).2 (He.cT K tI).2 (He.cT K tJ).2 (He.cT K tF).2 (He.cT K tL).2), fun p hp => ?_, fun p hp => ?_, fun p hp => ?_, fun s u => ?_, fun H a ns hl hb hT hS => ?_, fun base KB GB TB => ?_⟩
  · obtain ⟨q, hq, rfl⟩ := memL p hp
    exact c.empty q hq
  · obtain ⟨q, hq, rfl⟩ := memL p hp
    exact c.out q hq
  · obtain ⟨q, hq, rfl⟩ := memL p hp
    exact PySem.W.codeHd_of_K X (c.hd q hq)
  · exact F8.bindsA (ps := ["script"]) (fun _ _ _ _ _ _ us hl => match us, hl with | [_], _ => rfl) s [u] rfl
  · exact ⟨a, ns, rfl, hS, tabs5 (TabS.nil (hT (He.cT K tK) (List.mem_cons_self ..))) (TabS.nil (hT (He.cT K tI) (List.mem_cons_of_mem _ (List.mem_cons_self ..)))) (TabS.nil (hT (He.cT K tJ) (List.mem_cons_of_mem _ (List.mem_cons_of_mem _ (List.mem_cons_self ..))))) (TabS.nil (hT (He.cT K tF) (List.mem_cons_of_mem _ (List.mem_cons_of_mem _ (List.mem_cons_of_mem _ (List.mem_cons_self ..)))))) (TabS.nil (hT (He.cT K tL) (List.mem_cons_of_mem _ (List.mem_cons_of_mem _ (List.mem_cons_of_mem _ (List.mem_cons_of_mem _ (List.mem_cons_self ..))))))), fun _ => rfl⟩
  · have tbK := TB (He.cT K tK) (List.mem_cons_self ..)
    have tbI := TB (He.cT K tI) (List.mem_cons_of_mem _ (List.mem_cons_self ..))
    have tbJ := TB (He.cT K tJ) (List.mem_cons_of_mem _ (List.mem_cons_of_mem _ (List.mem_cons_self ..)))
    have tbF := TB (He.cT K tF) (List.mem_cons_of_mem _ (List.mem_cons_of_mem _ (List.mem_cons_of_mem _ (List.mem_cons_self ..))))
    have tbL := TB (He.cT K tL) (List.mem_cons_of_mem _ (List.mem_cons_of_mem _ (List.mem_cons_of_mem _ (List.mem_cons_of_mem _ (List.mem_cons_self ..)))))
    have gK := gl 0 _ rfl
    have gRo := gl 2 _ rfl
    have gRd := gl 6 _ rfl
    have m0 : ((He.cT K tK).2, qK) ∈ (tabL (He.cT K tK).2 (He.cT K tI).2 (He.cT K tJ).2 (He.cT K tF).2 (He.cT K tL).2) := List.mem_cons_self ..
    have m1 : ((He.cT K tI).2, qSh) ∈ (tabL (He.cT K tK).2 (He.cT K tI).2 (He.cT K tJ).2 (He.cT K tF).2 (He.cT K tL).2) := List.mem_cons_of_mem _ (List.mem_cons_self ..)
    have m2 : ((He.cT K tJ).2, qSi) ∈ (tabL (He.cT K tK).2 (He.cT K tI).2 (He.cT K tJ).2 (He.cT K tF).2 (He.cT K tL).2) := List.mem_cons_of_mem _ (List.mem_cons_of_mem _ (List.mem_cons_self ..))
    have m3 : ((He.cT K tF).2, qFi) ∈ (tabL (He.cT K tK).2 (He.cT K tI).2 (He.cT K tJ).2 (He.cT K tF).2 (He.cT K tL).2) := List.mem_cons_of_mem _ (List.mem_cons_of_mem _ (List.mem_cons_of_mem _ (List.mem_cons_self ..)))
    have m4 : ((He.cT K tL).2, qL) ∈ (tabL (He.cT K tK).2 (He.cT K tI).2 (He.cT K tJ).2 (He.cT K tF).2 (He.cT K tL).2) := List.mem_cons_of_mem _ (List.mem_cons_of_mem _ (List.mem_cons_of_mem _ (List.mem_cons_of_mem _ (List.mem_cons_self ..))))
    have GKi : FnOk pr w K mg base (L2.CX pr w) 1 _ fd0 ["value"] (spKind (He.ga K "RowError") (He.cT K tK).2) := ok_kind F0 (code_at (p := tK) (st := sKind) (dvs := []) F0) ⟨tbK.code, tbK.bm, tbK.gP⟩ T TK J
    have bKi : L2.Binds K fd0 ["value"] [] := (F0.bindsN fun _ _ _ _ _ _ us hl => match us, hl with | [_], _ => rfl)
    have GSi : FnOk pr w K mg base (L2.CX pr w) 1 _ fd9 ["self", "columns"] (spSInit (He.ga K "Shape") (He.ga K "RowError") (He.cT K tI).2) := ok_sinit F9 (code_at (p := tI) (st := sSM 0) (dvs := []) F9) ⟨tbI.code, tbI.bm, tbI.gP⟩ TS T TK J hM (fr 29 _ rfl) hKi
    have bSi : L2.Binds K fd9 ["self", "columns"] [] := (F9.bindsN fun _ _ _ _ _ _ us hl => match us, hl with | [_, _], _ => rfl)
    have GQ : FnOk pr w K mg base CX0 1 _ fd10 ["self"] (spKinds (He.ga K "Shape")) := ok_kinds F10 TS T
    have bQ : L2.Binds K fd10 ["self"] [] := (F10.bindsN fun _ _ _ _ _ _ us hl => match us, hl with | [_], _ => rfl)
    have GCh : FnOk pr w K mg base (L2.CX pr w) 2 _ fd11 ["self", "row"] (spCheck (He.ga K "Shape") (He.ga K "RowError") (He.cT K tK).2) := ok_check F11 TS T J GKi gK F0.kp bKi (me 36 _ _ rfl) GQ bQ
    have bCh : L2.Binds K fd11 ["self", "row"] [] := (F11.bindsN fun _ _ _ _ _ _ us hl => match us, hl with | [_, _], _ => rfl)
    have GSc : FnOk pr w K mg base (L2.CX pr w) 4 _ fd12 ["self", "columns", "lacking"] (spSch K (He.ga K "Shape") (He.ga K "Schema") (He.ga K "RowError") (tabL (He.cT K tK).2 (He.cT K tI).2 (He.cT K tJ).2 (He.cT K tF).2 (He.cT K tL).2)) := ok_sch F12 (code_at (p := tJ) (st := sSc 0) (dvs := [.ref (He.dflAt ("Schema", some "__init__") 0 K)]) F12) ⟨tbJ.code, tbJ.bm, tbJ.gP⟩ TC TS T TK J uT m1 m2 m0 MTS GSi bSi GKi gK F0.kp bKi
    have b3 := bindsS F12
    obtain ⟨ds, hv, b2⟩ := bindsS0 F12
    obtain ⟨u0, rfl⟩ : ∃ u0, ds = [u0] := by
      cases hv with
      | cons h t =>
        cases t
        exact ⟨_, rfl⟩
    have GRe : FnOk pr w K mg base CX0 1 _ fd13 ["self", "other"] (spReads (He.ga K "Shape") (He.ga K "Schema")) := ok_reads F13 TC TS T
    have bRe : L2.Binds K fd13 ["self", "other"] [] := (F13.bindsN fun _ _ _ _ _ _ us hl => match us, hl with | [_, _], _ => rfl)
    have GRf : FnOk pr w K mg base (L2.CX pr w) 3 _ fd14 ["self", "other", "row"] (spRowF (He.ga K "Shape") (He.ga K "Schema") (He.ga K "RowError") (tabL (He.cT K tK).2 (He.cT K tI).2 (He.cT K tJ).2 (He.cT K tF).2 (He.cT K tL).2)) := ok_rowf F14 TC TS T (fr 29 _ rfl) J uT m0 (me 42 _ _ rfl) GRe bRe (me 37 _ _ rfl) GCh bCh
    have bRf : L2.Binds K fd14 ["self", "other", "row"] [] := (F14.bindsN fun _ _ _ _ _ _ us hl => match us, hl with | [_, _, _], _ => rfl)
    have bGi : L2.Binds K fd15 ["self"] [] := (F15.bindsN fun _ _ _ _ _ _ us hl => match us, hl with | [_], _ => rfl)
    have bPu : L2.Binds K fd16 ["self", "subject", "rule"] [] := (F16.bindsN fun _ _ _ _ _ _ us hl => match us, hl with | [_, _, _], _ => rfl)
    have bFi : L2.Binds K fd17 ["self", "subject", "schema"] [] := (F17.bindsN fun _ _ _ _ _ _ us hl => match us, hl with | [_, _, _], _ => rfl)
    have bAd : L2.Binds K fd18 ["self", "subject", "schema"] [] := (F18.bindsN fun _ _ _ _ _ _ us hl => match us, hl with | [_, _, _], _ => rfl)
    have bRd : L2.Binds K fd19 ["self", "subject", "number", "row", "wanted"] [] := (F19.bindsN fun _ _ _ _ _ _ us hl => match us, hl with | [_, _, _, _, _], _ => rfl)
    have GFi : ∀ nm, FnOk pr w K mg base CX0 4 _ fd17 ["self", "subject", "schema"] (spFits (He.ga K "Shape") (He.ga K "Schema") (He.ga K "Registry") nm (tabL (He.cT K tK).2 (He.cT K tI).2 (He.cT K tJ).2 (He.cT K tF).2 (He.cT K tL).2)) := fun nm => ok_fits F17 (code_at (p := tF) (st := sRg 2) (dvs := []) F17) ⟨tbF.code, tbF.bm, tbF.gP⟩ TG TC T uT m3 (me 42 _ _ rfl) GRe bRe
    have GAd : ∀ nm, FnOk pr w K mg base (L2.CX pr w) 5 _ fd18 ["self", "subject", "schema"] (spAdd (He.ga K "Shape") (He.ga K "Schema") (He.ga K "Registry") (He.ga K "RowError") nm (tabL (He.cT K tK).2 (He.cT K tI).2 (He.cT K tJ).2 (He.cT K tF).2 (He.cT K tL).2)) := fun nm => ok_add F18 TG T J (me 49 _ _ rfl) (GFi nm) bFi
    have GRg : ∀ nm, FnOk pr w K mg base (L2.CX pr w) 4 _ fd19 ["self", "subject", "number", "row", "wanted"] (spRead (He.ga K "Shape") (He.ga K "Schema") (He.ga K "Registry") (He.ga K "RowError") nm (tabL (He.cT K tK).2 (He.cT K tI).2 (He.cT K tJ).2 (He.cT K tF).2 (He.cT K tL).2)) := fun nm => ok_read F19 TG TC T J (me 43 _ _ rfl) GRf bRf
    have GRoll : FnOk pr w K mg base CX0 1 _ fd2 ["dice", "many"] spRoll := ok_roll F2 T
    have bRoll : L2.Binds K fd2 ["dice", "many"] [] := (F2.bindsN fun _ _ _ _ _ _ us hl => match us, hl with | [_, _], _ => rfl)
    have GLr : FnOk pr w K mg base CX0 1 _ fd6 ["one", "other"] spLReads := ok_lreads F6 T
    have bLr : L2.Binds K fd6 ["one", "other"] [] := (F6.bindsN fun _ _ _ _ _ _ us hl => match us, hl with | [_, _], _ => rfl)
    have ve : LawE pr w K mg base (He.ga K "Shape") (He.ga K "Schema") (He.ga K "Registry") (He.ga K "RowError") (He.cT K tL).2 (He.cT K tL).1 (He.ga K "_law_told") fd4 (tabL (He.cT K tK).2 (He.cT K tI).2 (He.cT K tJ).2 (He.cT K tF).2 (He.cT K tL).2) :=
      { X := T, C := TC, G := TG, J := J, TB := tbL, u := uT, ml := m4
        rounds := ⟨_, _, ok_rounds F3 T F1 (gl 1 _ rfl), gl 3 _ rfl, F3.kp, (F3.bindsN fun _ _ _ _ _ _ us hl => match us, hl with | [_, _], _ => rfl)⟩
        roll := ⟨_, _, GRoll, gRo, F2.kp, bRoll⟩
        lsch := ⟨_, _, ok_lsch F5 T GRoll gRo F2.kp bRoll, gl 5 _ rfl, F5.kp, (F5.bindsN fun _ _ _ _ _ _ us hl => match us, hl with | [_], _ => rfl)⟩
        lreads := ⟨_, _, GLr, gRd, F6.kp, bLr⟩
        lfits := ⟨_, _, ok_lfits F7 T GLr gRd F6.kp bLr, gl 7 _ rfl, F7.kp, (F7.bindsN fun _ _ _ _ _ _ us hl => match us, hl with | [_, _, _], _ => rfl)⟩
        sch := ⟨_, _, _, u0, GSc, MTC, b3, b2, hv, hE⟩
        reads := ⟨_, _, GRe, (me 42 _ _ rfl), bRe⟩
        rowf := ⟨_, _, GRf, (me 43 _ _ rfl), bRf⟩
        ginit := fun nm => ⟨_, _, ok_ginit F15 TG, MTG, bGi⟩
        put := fun nm => ⟨_, _, ok_put F16 TG J hRu, (me 48 _ _ rfl), bPu⟩
        fits := fun nm => ⟨_, _, GFi nm, (me 49 _ _ rfl), bFi⟩
        add := fun nm => ⟨_, _, GAd nm, (me 50 _ _ rfl), bAd⟩
        read := fun nm => ⟨_, _, GRg nm, (me 51 _ _ rfl), bRd⟩
        told := F4
        gTold := gl 4 _ rfl }
    exact ok_law F8 (code_at (p := tL) (st := sLaw) (dvs := []) F8) ve
end KL0
open PySem PySem.W PySem.Calls PyProof.Rows
theorem PySem.Challenge.cw_streamstack_k10_rows_of_other_shapes_holds : PySem.Challenge.rw_streamstack_k10_rows_of_other_shapes.Holds := by
  w_on; o_law
  refine HandSHeadRun.head_any (r := OpenLaw.row PySem.Challenge.rw_streamstack_k10_rows_of_other_shapes) (q := view (OpenLaw.row PySem.Challenge.rw_streamstack_k10_rows_of_other_shapes).prog [22]) (H := KL0.hkL) (ob := KL0.obL) (M := 3000) (loose := KL0.looseL) (d := HandSHeadRun.topDef (OpenLaw.row PySem.Challenge.rw_streamstack_k10_rows_of_other_shapes).prog 22) (kwd := []) KL0.obL_eq
    (by kernel_rfl) (fun s => by kernel_rfl) KL0.runL (by kernel_rfl) (by kernel_rfl) (by kernel_rfl) (by rfl) (by first | assumption | decide +kernel) (by decide +kernel) ⟨rfl, rfl, rfl, rfl, rfl, by decide +kernel⟩ ?hw ?hc
  case hw => w_witness2
  case hc =>
    refine LamX.walk_ofTsE (l := PySem.Challenge.rw_streamstack_k10_rows_of_other_shapes) (n := 63) (k := 10) (x := "script") (CX := fun _ => L2.CX0) rfl (by decide) (by kernel_rfl) ⟨rfl, by decide, by decide⟩ ?F (fun _ _ _ _ _ z => z)
    intro w mg fa h Y G hmg0
    obtain ⟨K, KX, c⟩ := Y
    have hmg : mg ("law" : PySem.Str) = some (.ref fa) := by
      have e : (HandSHeadRun.topDef (OpenLaw.row PySem.Challenge.rw_streamstack_k10_rows_of_other_shapes).prog 22).name = ("law" : PySem.Str) := by kernel_rfl
      rw [← e]
      exact hmg0
    exact ⟨K, KX, KL0.lawAt KX G hmg c⟩
