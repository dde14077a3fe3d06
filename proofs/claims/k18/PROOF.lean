import PyProof.Rows.All
import Wide.All
import OpenK.AllK
import Wide.FinOn
import HandS.ForMost
import HandS.Lambda
import HandS.AnyAll
import HandS.EndTab
import HandS.TupAny
import HandS.Zip
import HandS.DictTup
import HandS.Codes
import HandS.ExcOwn
import HandS.TryOnly
import HandS.IsInst
import HandS.Wide
import HandS.DictComp
import HandS.DictEq
import HandS.ListItems
import KE.LtSeq
import KE.KSortTup
import HandS.SortOrd
import HandS.SortKw
import HandS.SortRule
import KE.KDictPairs
import KE.KDictWalk
import PyProof.DictMoreH
import HandS.Defaults
import HandS.WordsExc
import HandS.Deep
import HandS.Conv
import PyProof.P3In
import KE.DatumOrd
import KE.SortKeyHeap
import KE.DataMinKey
import HandS.Walk
import HandS.RaiseMore
import HandS.FStr
import HandS.RevRange
import PySem.Challenge.RW_streamstack_k18_cabinets_and_what_change
import HandS.New
import KE.KEqDict
import HandS.TupLen
import HandS.Style
import HandS.WordsDict
import KE.KStateDown
import Lean
import HandS.Ends
import HandS.More
import HandS.Words
import HandS.Head0
import HandS.Head1
import HandS.Head2
import HandS.HeadEnd
import HandS.HeadHook1
import HandS.HeadHook2
import HandS.HeadHook3
import HandS.HeadHook4
import HandS.HeadWalk
set_option Elab.async false
set_option linter.all false
set_option maxRecDepth 100000
set_option maxHeartbeats 4000000
namespace KB
open PySem PySem.Spec PyProof.Rows L2
section
variable {prog : Program} {w : World} {K : Type} [DecidableEq K] {knd : HeapKind prog w K} {A : Around} {E : Value → Shared → Prop} {s : Shared}
def hitH (ys : List (K × Addr × Value)) (eqb : Value → Value → Bool) (x : K × Addr × Value) : Bool :=
  match atKey ys x.1 with
  | none => false
  | some q => eqb x.2.2 q.2
theorem samePairsH {nm : String} {a b : Addr} {xs ys : List (K × Addr × Value)} {eqb : Value → Value → Bool} {Q : Bool → Shared → Prop} (ha : (a == sysModules) = false) (hb : (b == sysModules) = false)
    (da : s.heap.DictOfH knd a xs) (db : s.heap.DictOfH knd b ys) (hu : knd.room A)
    (heq : ∀ x ∈ xs, ∀ q, atKey ys x.1 = some q → ∀ (R : Bool → Shared → Prop) (F : Value → Shared → Prop), R (eqb x.2.2 q.2) s → wpAny (model prog w) A (eqBool x.2.2 q.2) R F s)
    (h : Q (xs.length == ys.length && xs.all (hitH ys eqb)) s) :
    wpAny (model prog w) A (Builtin.Dict.samePairs nm a b) Q E s := by
  obtain ⟨oa, es, ep, hoa, _, hda, hka, hia, hna⟩ := da
  obtain ⟨ob, es', ep', hob, _, hdb, hkb, hib, hnb⟩ := db
  have hla : xs.length = es.size := (size_of_entries hka).symm
  have hlb : ys.length = es'.size := (size_of_entries hkb).symm
  rw [hla, hlb] at h
  unfold Builtin.Dict.samePairs Builtin.Dict.showsAll
  rw [if_neg (show ¬ (a == sysModules) = true by rw [ha]; exact Bool.false_ne_true), if_neg (show ¬ (b == sysModules) = true by rw [hb]; exact Bool.false_ne_true)]
  refine wpAny_bind (wpAny_pure (wpAny_bind (wpAny_pure ?_)))
  refine wpAny_bind (wpAny_dictEntries hoa hda ?_)
  dsimp only
  refine wpAny_bind (wpAny_dictEntries hob hdb ?_)
  by_cases hsz : es.size = es'.size
  case neg =>
    rw [if_pos (by simpa using hsz)]
    have hbf : (es.size == es'.size) = false := by simpa using hsz
    rw [hbf, Bool.false_and] at h
    exact wpAny_bind (wpAny_rule (wpAny_pure h))
  case pos =>
    have h' : Q (xs.all (hitH ys eqb)) s := by simpa [hsz] using h
    rw [if_neg (by rw [hsz]; simp)]
    refine wpAny_bind (wpAny_dictEpoch hoa hda ?_)
    refine wpAny_bind ?_
    rw [Std.Legacy.Range.forIn_eq_forIn_range']
    simp only [Std.Legacy.Range.size, Nat.sub_zero, Nat.add_sub_cancel, Nat.div_one]
    refine wpAny_forIn_list _
      (fun rest q s' => s' = s ∧ q = (none, ()) ∧ ∃ i, rest = List.range' i (es.size - i) ∧ i ≤ es.size ∧ (xs.drop i).all (hitH ys eqb) = xs.all (hitH ys eqb))
      _ ?_ ?_ _ _ ⟨rfl, rfl, 0, by simp, Nat.zero_le _, by simp⟩
    · rintro x rest q s' ⟨rfl, rfl, i, hr, hi, hpre⟩
      have hlt : i < es.size := by
        rcases Nat.lt_or_ge i es.size with h | h
        · exact h
        · rw [Nat.sub_eq_zero_of_le h] at hr; simp at hr
      obtain ⟨rfl, hrest⟩ : x = i ∧ rest = List.range' (i + 1) (es.size - (i + 1)) := by
        have e : es.size - i = (es.size - (i + 1)) + 1 := by omega
        rw [e, List.range'_succ] at hr
        injection hr with h1 h2
        exact ⟨h1, h2⟩
      refine wpAny_bind (wpAny_dictEntries hoa hda ?_)
      have hlt' : x < xs.length := by rw [hla]; exact hlt
      obtain ⟨k, c, v, hkv⟩ : ∃ k c v, xs[x] = (k, c, v) := ⟨_, _, _, rfl⟩
      have hdrop : xs.drop x = (k, c, v) :: xs.drop (x + 1) := by rw [← hkv]; exact List.drop_eq_getElem_cons hlt'
      have hget : xs[x]? = some (k, c, v) := by rw [List.getElem?_eq_getElem hlt', hkv]
      have hmem : (k, c, v) ∈ xs := List.mem_of_getElem? hget
      have hex : es[x]? = some (entryOfKey knd (k, c, v)) := by rw [entry_at hka x, hget]; rfl
      rw [hex]
      rw [hdrop, List.all_cons] at hpre
      have hkey : knd.is s'.heap k c := hia _ hmem
      show wpAny _ _ (holding [Value.ref c, v] _ >>= _) _ _ _
      refine wpAny_bind (wpAny_holding (wpAny_bind (wpAny_dictFind_heap hu hkey hob hdb hkb hib hnb ?_ ?_)))
      · intro hno
        have hn : atKey ys k = none := atKey_none_of_get hno
        have e1 : hitH ys eqb (k, c, v) = false := by unfold hitH; simp only [hn]
        rw [e1, Bool.false_and] at hpre
        rw [← hpre] at h'
        refine wpAny_pure ?_
        show wpAny _ _ (if (!false) = true then _ else _) _ _ _
        rw [if_pos (by decide)]
        exact wpAny_pure (wpAny_pure h')
      · intro j p hj
        have hp : atKey ys k = some p := atKey_of_get hnb hj
        have e1 : hitH ys eqb (k, c, v) = eqb v p.2 := by unfold hitH; simp only [hp]
        have hey : es'[j]? = some (entryOfKey knd (k, p)) := by rw [entry_at hkb j, hj]; rfl
        refine wpAny_bind (wpAny_dictEntries hob hdb ?_)
        rw [hey]
        refine wpAny_holding (heq _ hmem p hp _ _ ?_)
        show wpAny _ _ (if (!eqb v p.2) = true then _ else _) _ _ _
        cases he : eqb v p.2 with
        | false =>
          rw [e1, he, Bool.false_and] at hpre
          rw [← hpre] at h'
          rw [if_pos (by decide)]
          exact wpAny_pure (wpAny_pure h')
        | true =>
          rw [e1, he, Bool.true_and] at hpre
          rw [if_neg (by decide)]
          refine wpAny_bind (wpAny_dictEpoch hoa hda ?_)
          rw [if_neg (by simp)]
          exact wpAny_pure ⟨rfl, rfl, x + 1, hrest, hlt, hpre⟩
    · rintro q s' ⟨rfl, rfl, i, hr, hi, hpre⟩
      have hin : i = es.size := by
        rcases Nat.lt_or_ge i es.size with h | h
        · have e : es.size - i = (es.size - (i + 1)) + 1 := by omega
          rw [e, List.range'_succ] at hr; exact nomatch hr
        · exact Nat.le_antisymm hi h
      have e2 : xs.all (hitH ys eqb) = true := by
        rw [← hpre, hin, ← hla, List.drop_length]; rfl
      rw [e2] at h'
      exact wpAny_pure h'
end
section
variable {prog : Program} {w : World} {K : Type} [DecidableEq K] {knd : HeapKind prog w K} {A : Around} {E : Value → Shared → Prop} {s : Shared}
theorem eqH {a b : Addr} {xs ys : List (K × Addr × Value)} {eqb : Value → Value → Bool} {Q : Value → Shared → Prop} (ha : (a == sysModules) = false) (hb : (b == sysModules) = false)
    (da : s.heap.DictOfH knd a xs) (db : s.heap.DictOfH knd b ys) (hA : A.units < cLine) (hu : knd.room A.in1)
    (heq : ∀ x ∈ xs, ∀ q, atKey ys x.1 = some q → ∀ (R : Bool → Shared → Prop) (F : Value → Shared → Prop), R (eqb x.2.2 q.2) s → wpAny (model prog w) A.in1 (eqBool x.2.2 q.2) R F s)
    (h : Q (.bool (xs.length == ys.length && xs.all (hitH ys eqb))) s) :
    wpAny (model prog w) A (compareOp .Eq (.ref a) (.ref b)) Q E s := by
  refine wpAny_richCompare_same_room (op := .Eq) da.typeIs db.typeIs PySem.F.slot_dict_eq (wpAny_call_entry PySem.F.slot_dict_eq da.typeIs PySem.F.entry_dict_eq ?_ (PySem.F.args_dict_eq_2 _ _)) hA
  show wpAny _ _ (Builtin.Dict.dictSlotArgs "__eq__" ⟨[.ref a, .ref b], []⟩ >>= _) _ _ s
  refine wpAny_bind ?_
  unfold Builtin.Dict.dictSlotArgs
  refine wpAny_bind (wpAny_notOrdered_dict da.typeIs ?_)
  show wpAny _ _ (pure (Value.ref a, Value.ref b)) _ _ s
  refine wpAny_pure ?_
  refine wpAny_bind (wpAny_isInstance (T := "dict") db.typeIs PySem.F.sub_dict_dict ?_)
  simp only [Bool.not_true, Bool.false_eq_true, if_false]
  refine wpAny_bind (wpAny_pure (wpAny_bind (wpAny_pure ?_)))
  refine wpAny_bind (samePairsH ha hb da db hu heq ?_)
  refine wpAny_pure ⟨_, rfl, ?_, ?_⟩
  · exact fun x => nomatch x
  · simpa using h
theorem neH {a b : Addr} {xs ys : List (K × Addr × Value)} {eqb : Value → Value → Bool} {Q : Value → Shared → Prop} (ha : (a == sysModules) = false) (hb : (b == sysModules) = false)
    (da : s.heap.DictOfH knd a xs) (db : s.heap.DictOfH knd b ys) (hA : A.units < cLine) (hu : knd.room A.in1)
    (heq : ∀ x ∈ xs, ∀ q, atKey ys x.1 = some q → ∀ (R : Bool → Shared → Prop) (F : Value → Shared → Prop), R (eqb x.2.2 q.2) s → wpAny (model prog w) A.in1 (eqBool x.2.2 q.2) R F s)
    (h : Q (.bool (!(xs.length == ys.length && xs.all (hitH ys eqb)))) s) :
    wpAny (model prog w) A (compareOp .NotEq (.ref a) (.ref b)) Q E s := by
  refine wpAny_richCompare_same_room (op := .NotEq) da.typeIs db.typeIs PySem.F.slot_dict_ne (wpAny_call_entry PySem.F.slot_dict_ne da.typeIs PySem.F.entry_dict_ne ?_ (PySem.F.args_dict_ne_2 _ _)) hA
  show wpAny _ _ (Builtin.Dict.dictSlotArgs "__ne__" ⟨[.ref a, .ref b], []⟩ >>= _) _ _ s
  refine wpAny_bind ?_
  unfold Builtin.Dict.dictSlotArgs
  refine wpAny_bind (wpAny_notOrdered_dict da.typeIs ?_)
  show wpAny _ _ (pure (Value.ref a, Value.ref b)) _ _ s
  refine wpAny_pure ?_
  refine wpAny_bind (wpAny_isInstance (T := "dict") db.typeIs PySem.F.sub_dict_dict ?_)
  simp only [Bool.not_true, Bool.false_eq_true, if_false]
  refine wpAny_bind (wpAny_pure (wpAny_bind (wpAny_pure ?_)))
  refine wpAny_bind (samePairsH ha hb da db hu heq ?_)
  refine wpAny_pure ⟨_, rfl, ?_, ?_⟩
  · exact fun x => nomatch x
  · simpa using h
end
def eqT (ks ls : List (List Key × V)) : Bool := (ks.length == ls.length) && ks.all fun p => decide (valV ls p.1 = some p.2)
def intB : Value → Value → Bool
  | .int i _, .int j _ => i == j
  | _, _ => false
def IntVals (ks : List (List Key × V)) : Prop := ∀ p ∈ ks, ∃ i, p.2 = V.int i
theorem mem_r {α β : Type} {R : α → β → Prop} : ∀ {l : List α} {m : List β}, Paired R l m → ∀ y ∈ m, ∃ x ∈ l, R x y
  | _, _, .nil, y, h => nomatch h
  | _, _, .cons (a := a) (b := b) r t, y, h => by
    rcases List.mem_cons.mp h with rfl | h
    · exact ⟨a, List.mem_cons_self, r⟩
    · obtain ⟨x, hx, q⟩ := mem_r t y h
      exact ⟨x, List.mem_cons_of_mem _ hx, q⟩
theorem kt_int {H : Hp} {ks : List (List Key × V)} {xs : List (List Key × Addr × Value)} (r : KT H ks xs) (hi : IntVals ks) : ∀ x ∈ xs, ∃ i t, x.2.2 = Value.int i t := by
  intro x hx
  obtain ⟨p, hp, _, _, rv⟩ := mem_r r x hx
  obtain ⟨i, e⟩ := hi p hp
  rw [e] at rv
  obtain ⟨t, rv⟩ := rv
  exact ⟨i, t, rv⟩
theorem atKey_mem {K : Type} [DecidableEq K] {xs : List (K × Addr × Value)} {k : K} {q : Addr × Value} (h : atKey xs k = some q) : (k, q) ∈ xs := by
  unfold atKey at h
  rw [Option.map_eq_some_iff] at h
  obtain ⟨x, h1, h2⟩ := h
  have h3 := List.find?_some h1
  have h4 := List.mem_of_find?_eq_some h1
  have h5 : x.1 = k := of_decide_eq_true h3
  rw [← h5, ← h2]
  exact h4
theorem all_hits {H : Hp} {ls : List (List Key × V)} {ys : List (List Key × Addr × Value)} (rb : KT H ls ys) : ∀ {ks : List (List Key × V)} {xs : List (List Key × Addr × Value)}, KT H ks xs → IntVals ks → IntVals ls →
    xs.all (hitH ys intB) = ks.all fun p => decide (valV ls p.1 = some p.2)
  | _, _, .nil, _, _ => rfl
  | _, _, .cons (a := p) (b := x) (l₁ := ks) (l₂ := xs) h t, hi, hj => by
    rw [List.all_cons, List.all_cons, all_hits rb t (fun q hq => hi q (List.mem_cons_of_mem _ hq)) hj]
    refine congrArg (fun z => z && _) ?_
    obtain ⟨h1, _, h2⟩ := h
    obtain ⟨i, ei⟩ := hi p List.mem_cons_self
    have rv := rb.val p.1
    unfold hitH
    rw [← h1]
    cases hx : atKey ys p.1 with
    | none =>
      rw [hx] at rv
      cases hv : valV ls p.1 with
      | none => simp
      | some v => rw [hv] at rv; exact rv.elim
    | some q =>
      rw [hx] at rv
      cases hv : valV ls p.1 with
      | none => rw [hv] at rv; exact rv.elim
      | some v =>
        rw [hv] at rv
        have rv : RelV v q.2 := rv
        obtain ⟨j, ej⟩ : ∃ j, v = V.int j := by
          have hm : (p.1, v) ∈ ls := by
            unfold valV at hv
            rw [Option.map_eq_some_iff] at hv
            obtain ⟨y, y1, y2⟩ := hv
            have y3 : y.1 = p.1 := by
              have z := List.find?_some y1
              simpa using z
            have y4 := List.mem_of_find?_eq_some y1
            rw [← y3, ← y2]
            exact y4
          exact hj _ hm
        rw [ei] at h2
        rw [ej] at rv
        obtain ⟨t1, e1⟩ := h2
        obtain ⟨t2, e2⟩ := rv
        show intB x.2.2 q.2 = _
        rw [e1, e2, ei, ej]
        unfold intB
        rw [Bool.eq_iff_iff]
        simp
        exact ⟨fun z => z.symm, fun z => z.symm⟩
def rEqDT : R2 := fun x y H Q => ∃ a b ks ls, x = .ref a ∧ y = .ref b ∧ H a = some (.dT ks) ∧ H b = some (.dT ls) ∧ IntVals ks ∧ IntVals ls ∧ Q (.bl (eqT ks ls)) H
def rNeDT : R2 := fun x y H Q => ∃ a b ks ls, x = .ref a ∧ y = .ref b ∧ H a = some (.dT ks) ∧ H b = some (.dT ls) ∧ IntVals ks ∧ IntVals ls ∧ Q (.bl (!eqT ks ls)) H
section
variable {X : Cx}
theorem eq_ints {A : Around} {s : Shared} {H : Hp} {ks ls : List (List Key × V)} {xs ys : List (List Key × Addr × Value)} (ra : KT H ks xs) (rb : KT H ls ys) (hi : IntVals ks) (hj : IntVals ls) :
    ∀ x ∈ xs, ∀ q, atKey ys x.1 = some q → ∀ (R : Bool → Shared → Prop) (F : Value → Shared → Prop), R (intB x.2.2 q.2) s → wpAny (model X.prog X.w) A (eqBool x.2.2 q.2) R F s := by
  intro x hx q hq R F hR
  obtain ⟨i, t, e1⟩ := kt_int ra hi x hx
  obtain ⟨j, u, e2⟩ := kt_int rb hj (x.1, q) (atKey_mem hq)
  have e2 : q.2 = Value.int j u := e2
  rw [e1, e2] at hR ⊢
  exact SeqAt.EqAt.int_int i t j u _ _ _ _ (by unfold intB at hR; exact hR)
theorem op_eqDT (hu : X.A.units + 1 < cLine) : OpR X (compareOp .Eq) rEqDT := by
  intro pins s σ H x y v u Q I rx ry h
  obtain ⟨a, b, ks, ls, rfl, rfl, ea, eb, hi, hj, q⟩ := h
  obtain rfl : v = Value.ref a := rx
  obtain rfl : u = Value.ref b := ry
  obtain ⟨_, ya, xs, ra, da⟩ := dt_of I.hok ea
  obtain ⟨_, yb, ys, rb, db⟩ := dt_of I.hok eb
  refine eqH (eqb := intB) ya yb da db (by omega) (tupleKind_room_in1 hu) (eq_ints ra rb hi hj) (fin_bl I q ?_)
  unfold eqT
  rw [all_hits rb ra hi hj, Paired.length ra, Paired.length rb]
theorem op_neDT (hu : X.A.units + 1 < cLine) : OpR X (compareOp .NotEq) rNeDT := by
  intro pins s σ H x y v u Q I rx ry h
  obtain ⟨a, b, ks, ls, rfl, rfl, ea, eb, hi, hj, q⟩ := h
  obtain rfl : v = Value.ref a := rx
  obtain rfl : u = Value.ref b := ry
  obtain ⟨_, ya, xs, ra, da⟩ := dt_of I.hok ea
  obtain ⟨_, yb, ys, rb, db⟩ := dt_of I.hok eb
  refine neH (eqb := intB) ya yb da db (by omega) (tupleKind_room_in1 hu) (eq_ints ra rb hi hj) (fin_bl I q ?_)
  unfold eqT
  rw [all_hits rb ra hi hj, Paired.length ra, Paired.length rb]
end
theorem paired_of {α β : Type} {R : α → β → Prop} : ∀ {l : List α} {m : List β}, l.length = m.length → (∀ (j : Nat) a b, l[j]? = some a → m[j]? = some b → R a b) → Paired R l m
  | [], [], _, _ => .nil
  | [], _ :: _, h, _ => by cases h
  | _ :: _, [], h, _ => by cases h
  | a :: l, b :: m, h, k => .cons (k 0 a b rfl rfl) (paired_of (Nat.succ.inj h) fun j x y e1 e2 => k (j + 1) x y e1 e2)
def PairsOf (H : Hp) (ts : List Addr) (kvs : List (List Key × V)) : Prop := Paired (fun (t : Addr) (p : List Key × V) => ∃ q, H t = some (.tup [.ref q, p.2]) ∧ H q = some (.tup (p.1.map kV))) ts kvs
section
variable {X : Cx}
theorem take_all {pins : List (Addr × Obj)} {σ : L2.St} {H0 : Hp} {s : Shared} {h' : Heap} {tk : Nat} {P : Addr → List V → Prop} (I0 : Inv X pins σ H0 s) (L : List Addr) : ∀ H1 : Hp, Inv X pins σ H1 { s with heap := h', toks := tk } → L.Nodup →
    (∀ a ∈ L, s.heap.objs.size ≤ a ∧ H1 a = none ∧ ∃ vs, P a vs ∧ ∀ H2, ObjOk X.prog X.w H2 h' a (.tup vs)) →
    ∃ H2, Inv X pins σ H2 { s with heap := h', toks := tk } ∧ (∀ b o, H1 b = some o → H2 b = some o) ∧ (∀ a ∈ L, ∃ vs, P a vs ∧ H2 a = some (.tup vs)) ∧ ∀ b, b ∉ L → H2 b = H1 b := by
  induction L with
  | nil => exact fun H1 I1 _ _ => ⟨H1, I1, fun _ _ e => e, (fun _ h => nomatch h), fun _ _ => rfl⟩
  | cons a L ih =>
    intro H1 I1 hn h
    obtain ⟨hb, hnone, vs, hP, ok⟩ := h a List.mem_cons_self
    obtain ⟨na, nd⟩ := List.nodup_cons.mp hn
    have J := I1.take (h' := h') (t' := tk) (fun b ob _ e => e) (I0.fpOk hb hnone) (ok _)
    obtain ⟨H2, I3, g, q, off⟩ := ih _ J nd fun c hc => by
      obtain ⟨c1, c2, c3⟩ := h c (List.mem_cons_of_mem _ hc)
      exact ⟨c1, by rw [upd_ne fun z => na (by rw [← z]; exact hc)]; exact c2, c3⟩
    refine ⟨H2, I3, fun b o e => g b o (by rw [upd_ne (ne_of_none e hnone)]; exact e), fun c hc => ?_, fun b hb' => ?_⟩
    · rcases List.mem_cons.mp hc with rfl | hc
      · exact ⟨vs, hP, g _ _ upd_same⟩
      · exact q c hc
    · rw [off b fun z => hb' (List.mem_cons_of_mem _ z), upd_ne fun z => hb' (by rw [z]; exact List.mem_cons_self)]
theorem made_tracked {pins : List (Addr × Obj)} {σ : L2.St} {H H1 : Hp} {s : Shared} {h' : Heap} {tk : Nat} {kvs : List (List Key × V)} {xs : List (List Key × Addr × Value)} {es : Array DictEntry} {as : List Addr} (I : Inv X pins σ H s)
    (rel : KT H kvs xs) (hes : es.toList = xs.map (entryOfKey (tupleKind (mixKind X.prog X.w)))) (hl : as.length = es.size) (hG : DT.Made es s.heap.objs.size h' as)
    (I1 : Inv X pins σ H1 { s with heap := h', toks := tk }) (g1 : ∀ b o, H b = some o → H1 b = some o) (hn : ∀ b ∈ as, H1 b = none) :
    ∃ H2, Inv X pins σ H2 { s with heap := h', toks := tk } ∧ (∀ b o, H1 b = some o → H2 b = some o) ∧ PairsOf H2 as kvs ∧ ∀ b, b ∉ as → H2 b = H1 b := by
  have l1 : kvs.length = xs.length := Paired.length rel
  have l2 : es.size = xs.length := size_of_entries hes
  have nd : as.Nodup := List.Pairwise.imp (fun h => Nat.ne_of_lt h) hG.rise
  have pr : ∀ (j : Nat) (b : Addr), as[j]? = some b → ∃ (p : List Key × V) (q : Addr) (u : Value), kvs[j]? = some p ∧ H q = some (.tup (p.1.map kV)) ∧ RelV p.2 u ∧ h'.get? b = some { cls := .type "tuple", data := .seq #[Value.ref q, u] } := by
    intro j b hj
    obtain ⟨en, he, hg⟩ := hG.pairs j b hj
    rw [entry_at hes j] at he
    cases hxj : xs[j]? with
    | none =>
      rw [hxj] at he
      exact nomatch (show (none : Option DictEntry) = some en from he)
    | some x =>
      rw [hxj] at he
      have een : entryOfKey (tupleKind (mixKind X.prog X.w)) x = en := Option.some.inj he
      obtain ⟨e0, he0, r1, r2, r3⟩ := L2.DX.pget rel hxj
      exact ⟨e0, x.2.1, x.2.2, he0, r2, r3, by rw [hg, ← een]; rfl⟩
  obtain ⟨H2, I2, g, qt, off⟩ := take_all (P := fun b vs => ∃ (j : Nat) (p : List Key × V) (q : Addr), as[j]? = some b ∧ kvs[j]? = some p ∧ vs = [.ref q, p.2] ∧ H q = some (.tup (p.1.map kV))) I as H1 I1 nd fun b hb => by
    obtain ⟨j, hj⟩ := List.mem_iff_getElem?.mp hb
    obtain ⟨p, q, u, hp, hq, ru, hg⟩ := pr j b hj
    exact ⟨Nat.le_of_lt (hG.above b hb), hn b hb, [.ref q, p.2], ⟨j, p, q, hj, hp, rfl, hq⟩, fun H3 => ⟨(by rw [sizeLine_eq]; show 2 ≤ 16777216; omega), [Value.ref q, u], .cons rfl (.cons ru .nil), ⟨_, hg, rfl, 0, rfl⟩⟩⟩
  refine ⟨H2, I2, g, paired_of (by omega) fun j b p hj hp => ?_, off⟩
  obtain ⟨vs, ⟨i, p', q, i1, i2, ev, hq⟩, hH⟩ := qt b (List.mem_of_getElem? hj)
  have eij : j = i := (List.getElem?_inj (List.getElem?_eq_some_iff.mp hj).1 nd).mp (hj.trans i1.symm)
  subst eij
  have ep : p' = p := Option.some.inj (i2.symm.trans hp)
  rw [ev, ep] at hH
  rw [ep] at hq
  exact ⟨q, hH, g _ _ (g1 _ _ hq)⟩
theorem vals_refs : ∀ as : List Addr, Vals (as.map V.ref) (as.map Value.ref)
  | [] => .nil
  | _ :: as => .cons rfl (vals_refs as)
end
section
variable {prog : Program} {w : World} {A : Around} {E : Value → Shared → Prop} {s : Shared} {r d : Addr} {es : Array DictEntry} {ep : Nat}
theorem initI {R : Result → Shared → Prop} (hh : A.handled = none) (hv : s.heap.IsItemsView r d) (hm : DT.Raw s.heap d es ep) (S : Addr) (hSr : S ≠ r) (hSd : d ≠ S) (hS : s.heap.get? S = some { cls := .type "list", data := .seq #[] })
    (hR : ∀ h' tk acc c as, (∀ b o, b ≠ S → s.heap.get? b = some o → h'.get? b = some o) → h'.get? S = some { cls := .type "list", dict := none, data := .seq acc c, slots := #[] } → as.length = es.size → DT.Made es S h' as →
      acc.toList = as.map Value.ref → R (.ok (.ret .none)) { s with heap := h', toks := tk }) (hn : es.size ≤ sizeLine) :
    wpAny (model prog w) A.in1 (Builtin.«list.__init__» ⟨[.ref S, .ref r], []⟩)
      (fun fin s' => match fin with | .done f => R (.ok f) s' | .again c' => c'.quiet = true ∧ codeAny (model prog w) A c' R s') (fun e s' => R (.error e) s') s := by
  show wpAny _ _ (do let old ← Builtin.List.listItems (.ref S); Builtin.List.listUpdate (.ref S) (fun _ => #[]); letGo old.toList.reverse; Builtin.List.listExtendWith (.ref S) (.ref r) .none) _ _ s
  refine wpAny_bind ?_
  unfold Builtin.List.listItems
  refine wpAny_bind (wpAny_seqItems hS rfl (wpAny_pure ?_))
  show wpAny _ _ (updateSeq S (fun _ => #[]) >>= fun _ => letGo (#[] : Array Value).toList.reverse >>= fun _ => Builtin.List.listExtendWith (.ref S) (.ref r) .none) _ _ s
  refine wpAny_bind (wpAny_updateSeq hS rfl ?_)
  have hS₂ := Heap.get?_update_self (Obj.mapSeq (fun _ => (#[] : Array Value))) hS rfl
  have oth : ∀ b o, b ≠ S → s.heap.get? b = some o → (s.heap.update S (Obj.mapSeq (fun _ => (#[] : Array Value)))).get? b = some o :=
    fun b o hb e => (Heap.get?_update_other _ _ (Ne.symm hb)).trans e
  refine wpAny_bind (wpAny_letGo ?_)
  refine DT.extI (es := es) (ep := ep) hh (let ⟨o, ho, x⟩ := hv; ⟨o, oth r o hSr.symm ho, x⟩) (hm.at' fun o e => oth d o hSd e) S hSr hSd .none _ hS₂ (fun h' tk acc c as hk hS' hl hG hacc => ?_) hn
  exact hR h' tk acc c as (fun b o hb e => hk b o hb (oth b o hb e)) hS' hl (hG.low (Nat.le_of_lt (Heap.lt_size hS₂))) hacc
theorem listCallI {Q : Value → Shared → Prop} (hh : A.handled = none) (hv : s.heap.IsItemsView r d) (hm : DT.Raw s.heap d es ep) (hn : es.size ≤ sizeLine)
    (hQ : ∀ h' tk acc c as, (∀ b o, s.heap.get? b = some o → h'.get? b = some o) → h'.get? s.heap.objs.size = some { cls := .type "list", dict := none, data := .seq acc c, slots := #[] } → as.length = es.size → DT.Made es s.heap.objs.size h' as →
      acc.toList = as.map Value.ref → Q (.ref s.heap.objs.size) { s with heap := h', toks := tk }) :
    wpAny (model prog w) A (call (.type "list") [.ref r]) Q E s := by
  refine callType_codes (Q₁ := fun obj s₁ => obj = .ref s.heap.objs.size ∧ s₁ = { s with heap := s.heap.push { cls := .type "list", data := .seq #[] } }) PySem.F.called_list (PySem.F.typeCall_list_1 _) PySem.F.entry_list_init
    (code_list_new _ ⟨rfl, rfl⟩) fun obj s₁ h₁ => ?_
  obtain ⟨rfl, rfl⟩ := h₁
  have hS : (s.heap.push { cls := .type "list", data := .seq #[] }).get? s.heap.objs.size = some { cls := .type "list", data := .seq #[] } := Heap.get?_push_size _ rfl
  have hr : r < s.heap.objs.size := let ⟨_, ho, _⟩ := hv; Heap.lt_size ho
  have hd : d < s.heap.objs.size := hm.lt
  refine ⟨⟨_, hS, rfl⟩, PySem.F.args_list_init_2 _ _, initI (es := es) (ep := ep) (A := A.in1) hh (let ⟨o, ho, x⟩ := hv; ⟨o, Heap.get?_push_of_some _ ho, x⟩) (hm.push _) _ (Nat.ne_of_gt hr) (Nat.ne_of_lt hd) hS (fun h' tk acc c as hk hS' hl hG hacc => ?_) hn⟩
  exact ⟨rfl, hQ h' tk acc c as (fun b o e => hk b o (Nat.ne_of_lt (Heap.lt_size e)) (Heap.get?_push_of_some _ e)) hS' hl hG hacc⟩
end
def rListItT : List V → Hp → VK → Prop := fun vs H Q => ∃ (p a : Addr) (kvs : List (List Key × V)), vs = [.ref p] ∧ H p = some (L2.DX.itemsO p a) ∧ H a = some (.dT kvs) ∧
  ∀ (H' : Hp) (l : Addr) (ts : List Addr), (∀ b o, H b = some o → H' b = some o) → H l = none → H' l = some (.lst (ts.map V.ref)) → PairsOf H' ts kvs → Q (.ref l) H'
section
variable {X : Cx}
theorem cr_listItT (hc : X.calm = true) : CallR X (.type "list") rListItT := by
  intro pins s σ H xs us Q I r h
  obtain ⟨p, a, kvs, rfl, hp, ha, q⟩ := h
  obtain rfl := Vals.ref1 r
  have view : s.heap.IsItemsView p a := (show ObjOk X.prog X.w H s.heap p (L2.DX.itemsO p a) from I.hok p _ hp).1
  obtain ⟨z, hd, xs', rel, o, es, ep, ho, hx, hdat, hes, his, hn⟩ := dt_of I.hok ha
  have l1 : kvs.length = xs'.length := Paired.length rel
  have l2 : es.size = xs'.length := size_of_entries hes
  refine listCallI (es := es) (ep := ep) (I.ok.hd hc) view ⟨o, ho, hx, hdat⟩ (by omega) fun h' tk acc c as hk hS hl hG hacc => ?_
  have newS : H s.heap.objs.size = none := I.hok.fresh (Nat.le_refl _)
  have nS : ∀ b ∈ as, b ≠ s.heap.objs.size := fun b hb => Nat.ne_of_gt (hG.above b hb)
  have I1 : Inv X pins σ (upd H s.heap.objs.size (.lst (as.map V.ref))) { s with heap := h', toks := tk } :=
    I.laid (t' := tk) hk (Nat.le_refl _) ⟨by rw [List.length_map]; omega, acc.toList, c, by rw [hacc]; exact vals_refs as, by rw [Array.toArray_toList]; exact hS⟩
  obtain ⟨H2, I2, g, pp, _⟩ := made_tracked (h' := h') (tk := tk) I rel hes hl hG I1 (fun b o e => by rw [upd_ne (ne_of_none e newS)]; exact e) fun b hb => by
    rw [upd_ne (nS b hb)]
    exact I.hok.fresh (Nat.le_of_lt (hG.above b hb))
  exact ⟨.ref _, H2, I2, rfl, q H2 _ as (fun b o e => g b o (by rw [upd_ne (ne_of_none e newS)]; exact e)) newS (g _ _ upd_same) pp⟩
end
end KB
set_option Elab.async false
set_option linter.all false
set_option maxRecDepth 100000
set_option maxHeartbeats 4000000
namespace PySem.SeqAt
open AutoSeq1 (wpAny_loadPart')
open MeetsSeq MeetsSeq2 MeetsSeq3 SeqRoads2
theorem kc_tuple_lt (l b : Addr) (items items2 : Array Value) (n n2 : Nat) (dd dd2 : Option Addr) (sl sl2 : Array (Option Value)) (e r : Nat → Bool) :
    Meets (Builtin.«tuple.__lt__» ⟨[.ref l, .ref b], []⟩)
      (fun A R s => s.heap.get? l = some { cls := .type "tuple", dict := dd, data := .seq items n, slots := sl } ∧ s.heap.get? b = some { cls := .type "tuple", dict := dd2, data := .seq items2 n2, slots := sl2 } ∧
        (∀ j (h1 : j < items.size) (h2 : j < items2.size), EqAt A.in1 s items[j] items2[j] (e j)) ∧ (∀ j (h1 : j < items.size) (h2 : j < items2.size), (∀ i, i < j → e i = true) → e j = false → RcLt A.in1 s items[j] items2[j] (r j)) ∧
        R (.ok (.ret (.bool (firstLt e r (decide (items.size < items2.size)) (List.range (min items.size items2.size)))))) s) :=
  .of_wp fun prog w A R s h => by
    obtain ⟨hp, g, d, tk, os⟩ := s; obtain ⟨hl, hb, he, hr, h⟩ := h
    have f2 := AutoSeq1.sub_tuple_tuple
    have hZ : (items.toList.zip items2.toList).length = min items.size items2.size := by simp
    wp_walk using wpAny_loadPart' hl, wpAny_loadPart' hb, wpAny_forIn_list _ (fun rest b s' => b.1 = none ∧ s' = ⟨hp, g, d, tk, os⟩ ∧ ∃ i, rest = (items.toList.zip items2.toList).drop i ∧ (∀ m, m < i → e m = true) ∧
      R (.ok (.ret (.bool (firstLt e r (decide (items.size < items2.size)) ((List.range (min items.size items2.size)).drop i))))) ⟨hp, g, d, tk, os⟩) _
    case turn =>
      rintro ⟨y, x⟩ rest b s' ⟨hb', rfl, i, hz, hpre, hR⟩
      have hlt : i < (items.toList.zip items2.toList).length := by
        rcases Nat.lt_or_ge i (items.toList.zip items2.toList).length with h' | h'
        · exact h'
        · rw [List.drop_of_length_le h'] at hz; cases hz
      have hm : i < min items.size items2.size := hZ ▸ hlt
      have h1 : i < items.size := Nat.lt_of_lt_of_le hm (Nat.min_le_left _ _)
      have h2 : i < items2.size := Nat.lt_of_lt_of_le hm (Nat.min_le_right _ _)
      rw [List.drop_eq_getElem_cons hlt] at hz
      injection hz with hyx hrest
      have hy : y = items[i] := by have := congrArg Prod.fst hyx; simpa using this
      have hx : x = items2[i] := by have := congrArg Prod.snd hyx; simpa using this
      subst hy hx
      have hd : (List.range (min items.size items2.size)).drop i = i :: (List.range (min items.size items2.size)).drop (i + 1) := by simp [List.drop_eq_getElem_cons, hm]
      rw [hd] at hR
      refine wpAny_bind (he i h1 h2 prog w _ _ ?_)
      cases hy : e i with
      | true =>
        rw [firstLt_yes hy] at hR
        wp_walk
        refine ⟨rfl, rfl, i + 1, hrest, fun m hm => ?_, hR⟩
        rcases Nat.lt_or_ge m i with z | z
        · exact hpre m z
        · have : m = i := by omega
          rw [this]; exact hy
      | false =>
        rw [firstLt_no hy] at hR
        rw [if_pos (by rfl)]
        show wpAny _ _ (do rule "tuple.compare.by-the-first-pair-that-differs"; let v ← richCompare CmpOp.Lt items[i] items2[i]; let v' ← ret v; pure (ForInStep.done (some v', ()))) _ _ _
        refine wpAny_bind (wpAny_rule ?_)
        refine wpAny_bind (hr i h1 h2 hpre hy prog w _ _ ?_)
        wp_walk
        exact ⟨_, rfl, hR⟩
    case fin =>
      rintro ⟨b1, b2⟩ s' ⟨hb', rfl, i, hz, hpre, hR⟩
      simp only at hb'
      subst hb'
      have hge : min items.size items2.size ≤ i := by
        rcases Nat.lt_or_ge i (items.toList.zip items2.toList).length with h' | h'
        · rw [List.drop_eq_getElem_cons h'] at hz; cases hz
        · exact hZ ▸ h'
      rw [List.drop_of_length_le (by simpa using hge)] at hR
      wp_walk
      exact ⟨_, rfl, by simpa [Builtin.Tuple.tupleCompareSizes, firstLt] using hR⟩
    case h =>
      exact ⟨rfl, rfl, 0, rfl, fun m hm => absurd hm (Nat.not_lt_zero _), by simpa using h⟩
section
variable {A : Around} {s : Shared}
theorem RcLt.tuplesF {l b : Addr} {items items2 : Array Value} {e r : Nat → Bool} (hl : s.heap.IsTuple l items) (hb : s.heap.IsTuple b items2) (hu : A.units < cLine)
    (he : ∀ j (h1 : j < items.size) (h2 : j < items2.size), EqAt A.in1 s items[j] items2[j] (e j)) (hr : ∀ j (h1 : j < items.size) (h2 : j < items2.size), (∀ i, i < j → e i = true) → e j = false → RcLt A.in1 s items[j] items2[j] (r j)) :
    RcLt A s (.ref l) (.ref b) (firstLt e r (decide (items.size < items2.size)) (List.range (min items.size items2.size))) := fun prog w E Q h => by
  obtain ⟨⟨cls, dd, data, sl⟩, ho, hc, n, hd⟩ := id hl
  obtain ⟨⟨cls2, dd2, data2, sl2⟩, ho2, hc2, n2, hd2⟩ := id hb
  simp only at hc hd hc2 hd2
  subst hc hd hc2 hd2
  exact richCompare_meets_room (op := .Lt) ⟨_, ho, rfl⟩ ⟨_, ho2, rfl⟩ F.slot_tuple_lt F.entry_tuple_lt (F.args_tuple_lt_2 _ _) (kc_tuple_lt l b items items2 n n2 dd dd2 sl sl2 e r)
    ⟨ho, ho2, he, hr, show Value.bool (firstLt e r (decide (items.size < items2.size)) (List.range (min items.size items2.size))) ≠ Value.notImplemented ∧ Q (.bool (firstLt e r (decide (items.size < items2.size)) (List.range (min items.size items2.size)))) s from ⟨(fun x => nomatch x), h⟩⟩ hu
end
end PySem.SeqAt
namespace KC
open PySem PySem.Spec PyProof.Rows L2 KB PySem.SeqAt
mutual
def ltD : PyData → PyData → Bool
  | .int i, .int j => decide (i < j)
  | .str x, .str y => decide (x.cps.toList < y.cps.toList)
  | .tuple xs, .tuple ys => ltL xs ys
  | _, _ => false
def ltL : List PyData → List PyData → Bool
  | [], [] => false
  | [], _ :: _ => true
  | _ :: _, [] => false
  | x :: xs, y :: ys => if PyData.eqv x y = true then ltL xs ys else ltD x y
end
mutual
def okD : PyData → PyData → Bool
  | .int _, .int _ => true
  | .str _, .str _ => true
  | .tuple xs, .tuple ys => okL xs ys
  | _, _ => false
def okL : List PyData → List PyData → Bool
  | [], _ => true
  | _ :: _, [] => true
  | x :: xs, y :: ys => if PyData.eqv x y = true then okL xs ys else okD x y
end
theorem firstLt_shift {e r : Nat → Bool} {fin : Bool} : ∀ l : List Nat, firstLt e r fin (l.map (· + 1)) = firstLt (fun j => e (j + 1)) (fun j => r (j + 1)) fin l
  | [] => rfl
  | j :: l => by
    show (if e (j + 1) = true then firstLt e r fin (l.map (· + 1)) else r (j + 1)) = _
    rw [firstLt_shift l]
    rfl
theorem ltL_first : ∀ (xs ys : List PyData) (e r : Nat → Bool), (∀ j x y, xs[j]? = some x → ys[j]? = some y → e j = PyData.eqv x y ∧ r j = ltD x y) →
    firstLt e r (decide (xs.length < ys.length)) (List.range (min xs.length ys.length)) = ltL xs ys
  | [], [], _, _, _ => by unfold ltL; rfl
  | [], _ :: _, _, _, _ => by
    unfold ltL
    simp [firstLt]
  | _ :: _, [], _, _, _ => by
    unfold ltL
    simp [firstLt]
  | x :: xs, y :: ys, e, r, h => by
    have h0 := h 0 x y rfl rfl
    have e1 : min (x :: xs).length (y :: ys).length = min xs.length ys.length + 1 := by simp only [List.length_cons]; omega
    rw [e1, List.range_succ_eq_map]
    have e2 : decide ((x :: xs).length < (y :: ys).length) = decide (xs.length < ys.length) := by simp
    rw [e2]
    unfold ltL
    show (if e 0 = true then firstLt e r _ (List.map Nat.succ _) else r 0) = _
    rw [h0.1, h0.2]
    by_cases q : PyData.eqv x y = true
    · rw [if_pos q, if_pos q]
      rw [show (List.map Nat.succ (List.range (min xs.length ys.length))) = (List.range (min xs.length ys.length)).map (· + 1) from rfl, firstLt_shift]
      exact ltL_first xs ys _ _ fun j a b ha hb => h (j + 1) a b ha hb
    · rw [if_neg q, if_neg q]
end KC
namespace KC
open PySem PySem.Spec PyProof.Rows L2 KB PySem.SeqAt
theorem lt_str_b {prog : Program} {w : World} {A : Around} {E : Value → Shared → Prop} {s : Shared} {x y : Str} {t u : Tok} {Q : Value → Shared → Prop} (h : Q (.bool (decide (x.cps.toList < y.cps.toList))) s) :
    wpAny (model prog w) A (richCompare .Lt (.str x t) (.str y u)) Q E s := DT.rcLt_str A s x t y u prog w E Q h
mutual
theorem rcLt_data : ∀ (da db : PyData) (A : Around) (s : Shared) (a b : Value) (as bs : List Addr), Reads s.heap a da as → Reads s.heap b db bs → da.canLay0 = true → db.canLay0 = true → okD da db = true →
    A.units + min da.depth db.depth < cLine → RcLt A s a b (ltD da db)
  | .int x, .int y, A, s, _, _, _, _, ra, rb, _, _, _, hu => by
    cases ra; cases rb
    intro prog w E Q h
    exact PyProof.Rows.lt_int (by unfold ltD at h; exact h)
  | .str x, .str y, A, s, _, _, _, _, ra, rb, _, _, _, hu => by
    cases ra; cases rb
    intro prog w E Q h
    exact lt_str_b (by unfold ltD at h; exact h)
  | .tuple xs, .tuple ys, A, s, _, _, _, _, ra, rb, ha, hb, hok, hu => by
    cases ra with
    | @tuple l o vs n _ as₁ h1 h2 h3 h4 =>
      cases rb with
      | @tuple l' o' vs' n' _ bs₁ k1 k2 k3 k4 =>
        have hl : s.heap.IsTuple l vs := ⟨_, h1, h2, _, h3⟩
        have hl' : s.heap.IsTuple l' vs' := ⟨_, k1, k2, _, k3⟩
        have n1 : vs.size = xs.length := by simpa using ReadsAll.length _ _ _ h4
        have n2 : vs'.size = ys.length := by simpa using ReadsAll.length _ _ _ k4
        have hok' : okL xs ys = true := by unfold okD at hok; exact hok
        have e : ltD (.tuple xs) (.tuple ys) = firstLt (pairEq xs ys) (fun j => ltD (xs.getD j .none) (ys.getD j .none)) (decide (vs.size < vs'.size)) (List.range (min vs.size vs'.size)) := by
          rw [n1, n2, ltL_first xs ys]
          · unfold ltD; rfl
          · intro j x y hx hy
            simp [pairEq, List.getD, hx, hy]
        rw [e]
        refine RcLt.tuplesF hl hl' (room_here hu) (fun j j1 j2 => ?_) (fun j j1 j2 hp hf => ?_)
        · have := eqAt_readsAll xs ys A.in1 s vs.toList vs'.toList _ _ h4 k4 ha hb (room_in hu) j (by simpa using j1) (by simpa using j2)
          simpa using this
        · have := rcLt_all xs ys A.in1 s vs.toList vs'.toList _ _ h4 k4 ha hb hok' (room_in hu) j (by simpa using j1) (by simpa using j2) hp hf
          simpa using this
  | .none, _, _, _, _, _, _, _, _, _, _, _, hok, _ => by unfold okD at hok; cases hok
  | .bool _, _, _, _, _, _, _, _, _, _, _, _, hok, _ => by unfold okD at hok; cases hok
  | .list _, _, _, _, _, _, _, _, _, _, _, _, hok, _ => by unfold okD at hok; cases hok
  | .dict _, _, _, _, _, _, _, _, _, _, _, _, hok, _ => by unfold okD at hok; cases hok
  | .int _, .none, _, _, _, _, _, _, _, _, _, _, hok, _ => by unfold okD at hok; cases hok
  | .int _, .bool _, _, _, _, _, _, _, _, _, _, _, hok, _ => by unfold okD at hok; cases hok
  | .int _, .str _, _, _, _, _, _, _, _, _, _, _, hok, _ => by unfold okD at hok; cases hok
  | .int _, .list _, _, _, _, _, _, _, _, _, _, _, hok, _ => by unfold okD at hok; cases hok
  | .int _, .tuple _, _, _, _, _, _, _, _, _, _, _, hok, _ => by unfold okD at hok; cases hok
  | .int _, .dict _, _, _, _, _, _, _, _, _, _, _, hok, _ => by unfold okD at hok; cases hok
  | .str _, .none, _, _, _, _, _, _, _, _, _, _, hok, _ => by unfold okD at hok; cases hok
  | .str _, .bool _, _, _, _, _, _, _, _, _, _, _, hok, _ => by unfold okD at hok; cases hok
  | .str _, .int _, _, _, _, _, _, _, _, _, _, _, hok, _ => by unfold okD at hok; cases hok
  | .str _, .list _, _, _, _, _, _, _, _, _, _, _, hok, _ => by unfold okD at hok; cases hok
  | .str _, .tuple _, _, _, _, _, _, _, _, _, _, _, hok, _ => by unfold okD at hok; cases hok
  | .str _, .dict _, _, _, _, _, _, _, _, _, _, _, hok, _ => by unfold okD at hok; cases hok
  | .tuple _, .none, _, _, _, _, _, _, _, _, _, _, hok, _ => by unfold okD at hok; cases hok
  | .tuple _, .bool _, _, _, _, _, _, _, _, _, _, _, hok, _ => by unfold okD at hok; cases hok
  | .tuple _, .int _, _, _, _, _, _, _, _, _, _, _, hok, _ => by unfold okD at hok; cases hok
  | .tuple _, .str _, _, _, _, _, _, _, _, _, _, _, hok, _ => by unfold okD at hok; cases hok
  | .tuple _, .list _, _, _, _, _, _, _, _, _, _, _, hok, _ => by unfold okD at hok; cases hok
  | .tuple _, .dict _, _, _, _, _, _, _, _, _, _, _, hok, _ => by unfold okD at hok; cases hok
theorem rcLt_all : ∀ (xs ys : List PyData) (A : Around) (s : Shared) (vs ws : List Value) (as bs : List Addr), ReadsAll s.heap vs xs as → ReadsAll s.heap ws ys bs → PyData.canLayAll0 xs = true → PyData.canLayAll0 ys = true → okL xs ys = true →
    A.units + min (PyData.depthAll xs) (PyData.depthAll ys) < cLine → ∀ j (h1 : j < vs.length) (h2 : j < ws.length), (∀ i, i < j → pairEq xs ys i = true) → pairEq xs ys j = false → RcLt A s vs[j] ws[j] (ltD (xs.getD j .none) (ys.getD j .none))
  | [], _, _, _, _, _, _, _, ra, _, _, _, _, _, j, h1, _, _, _ => by cases ra; exact absurd h1 (Nat.not_lt_zero _)
  | _ :: _, [], _, _, _, _, _, _, _, rb, _, _, _, _, j, _, h2, _, _ => by cases rb; exact absurd h2 (Nat.not_lt_zero _)
  | x :: xs, y :: ys, A, s, _, _, _, _, ra, rb, ha, hb, hok, hu, j, h1, h2, hp, hf => by
    have ha' : x.canLay0 = true ∧ PyData.canLayAll0 xs = true := by simpa [PyData.canLayAll0] using ha
    have hb' : y.canLay0 = true ∧ PyData.canLayAll0 ys = true := by simpa [PyData.canLayAll0] using hb
    unfold okL at hok
    cases ra with
    | cons r rs =>
      cases rb with
      | cons r' rs' =>
        cases j with
        | zero =>
          have e0 : PyData.eqv x y = false := hf
          rw [if_neg (by rw [e0]; exact Bool.false_ne_true)] at hok
          exact rcLt_data x y A s _ _ _ _ r r' ha'.1 hb'.1 hok (room_head hu)
        | succ j =>
          have e0 : PyData.eqv x y = true := hp 0 (Nat.succ_pos _)
          rw [if_pos e0] at hok
          exact rcLt_all xs ys A s _ _ _ _ rs rs' ha'.2 hb'.2 hok (room_tail hu) j (Nat.lt_of_succ_lt_succ h1) (Nat.lt_of_succ_lt_succ h2) (fun i hi => hp (i + 1) (Nat.succ_lt_succ hi)) hf
end
def rLtD (K : PySem.W.Frag) : R2 := fun x y H Q => ∃ d e, Dp K H x d ∧ Dp K H y e ∧ shaped d = true ∧ shaped e = true ∧ okD d e = true ∧ Q (.bl (ltD d e)) H
theorem op_ltD {X : Cx} (hu : X.A.units + 64 < cLine) : OpR X (compareOp .Lt) (rLtD X.K) := by
  intro pins s σ H x y v u Q I rx ry h
  obtain ⟨d, e, hd, he, sd, se, hok, q⟩ := h
  obtain ⟨as, r1⟩ := Dp.reads I d x v hd rx
  obtain ⟨bs, r2⟩ := Dp.reads I e y u he ry
  exact rcLt_data d e X.A s v u as bs r1 r2 (canLay_of_shaped sd) (canLay_of_shaped se) hok (room_of_shaped sd hu) X.prog X.w X.xe _ ⟨.bl _, H, I, rfl, q⟩
theorem keyLt_data {prog : Program} {w : World} {A : Around} {E : Value → Shared → Prop} {s : Shared} {xs ys : List PyData} {u v : Value} {as bs : List Addr} {Q : Bool → Shared → Prop} (ra : Reads s.heap u (.tuple xs) as) (rb : Reads s.heap v (.tuple ys) bs)
    (ha : (PyData.tuple xs).canLay0 = true) (hb : (PyData.tuple ys).canLay0 = true) (hok : okL xs ys = true) (hu : A.units + min (PyData.tuple xs).depth (PyData.tuple ys).depth < cLine) (h : Q (ltL xs ys) s) :
    wpAny (model prog w) A (keyLt' (tuples' false) u v) Q E s := by
  cases ra with
  | @tuple l o vs n _ as₁ h1 h2 h3 h4 =>
    cases rb with
    | @tuple l' o' vs' n' _ bs₁ k1 k2 k3 k4 =>
      refine PySem.W.kat_lt h1 h3 k1 k3 ?_
      have n1 : vs.size = xs.length := by simpa using ReadsAll.length _ _ _ h4
      have n2 : vs'.size = ys.length := by simpa using ReadsAll.length _ _ _ k4
      rw [n1, n2]
      have hu0 : A.units + min (PyData.depthAll xs) (PyData.depthAll ys) < cLine := by
        have q := room_in hu
        omega
      clear h3 k3 n1 n2 h1 k1
      generalize vs.toList = us at h4
      generalize vs'.toList = ws at k4
      have key : ∀ (xs ys : List PyData) (us ws : List Value) (as bs : List Addr) (i : Nat), ReadsAll s.heap us xs as → ReadsAll s.heap ws ys bs → PyData.canLayAll0 xs = true → PyData.canLayAll0 ys = true → okL xs ys = true →
          A.units + min (PyData.depthAll xs) (PyData.depthAll ys) < cLine → Q (ltL xs ys) s → PySem.W.KatLex prog w A false (decide (xs.length < ys.length)) Q (us.zip ws) i s := by
        intro xs
        induction xs with
        | nil =>
          intro ys us ws as bs i ra rb _ _ _ _ hq
          cases ra
          cases ys with
          | nil =>
            cases rb
            exact PySem.W.kat_nil (by unfold ltL at hq; exact hq)
          | cons y ys =>
            cases rb
            exact PySem.W.kat_nil (by unfold ltL at hq; simpa using hq)
        | cons x xs ih =>
          intro ys us ws as bs i ra rb ha hb hok hu hq
          cases ys with
          | nil =>
            cases rb
            cases ra
            exact PySem.W.kat_nil (by unfold ltL at hq; simpa using hq)
          | cons y ys =>
            have ha' : x.canLay0 = true ∧ PyData.canLayAll0 xs = true := by simpa [PyData.canLayAll0] using ha
            have hb' : y.canLay0 = true ∧ PyData.canLayAll0 ys = true := by simpa [PyData.canLayAll0] using hb
            unfold okL at hok
            unfold ltL at hq
            cases ra with
            | cons r rs =>
              cases rb with
              | cons r' rs' =>
                have e1 : decide ((x :: xs).length < (y :: ys).length) = decide (xs.length < ys.length) := by simp
                rw [e1]
                refine PySem.W.kat_cons (eqAt_reads x y A s _ _ _ _ r r' ha'.1 hb'.1 (room_head hu) prog w _ _ ?_)
                refine PySem.W.kat_go (fun e => ?_) (fun e => ?_)
                · rw [if_pos e] at hok hq
                  exact PySem.W.kat_yes (ih ys _ _ _ _ (i + 1) rs rs' ha'.2 hb'.2 hok (room_tail hu) hq)
                · rw [if_neg (by rw [e]; exact Bool.false_ne_true)] at hok hq
                  refine PySem.W.kat_no ?_
                  rw [Bool.false_and]
                  exact PySem.W.kat_one _ _ (rcLt_data x y A s _ _ _ _ r r' ha'.1 hb'.1 hok (room_head hu) prog w _ _ hq)
      exact key xs ys _ _ _ _ 0 h4 k4 ha hb hok hu0 h
end KC
set_option Elab.async false
set_option linter.all false
set_option maxRecDepth 100000
set_option maxHeartbeats 4000000
namespace KD
open PySem PySem.Spec PyProof.Rows L2 KB KC LamX
def LamO (f : Addr) (q : Str) (params : Arguments) (body : Expr) (scope : Scope) (c' : Addr) : HO := .ext fun h => ∃ pm ctv, h.get? f = some (PySem.W.kla_obj "<lambda>" q params body scope [] pm c' ctv)
theorem lam_run {CX : CXT} {P : Program} {w : World} {K : PySem.W.Frag} {mg : Str → Option Value} {base : Heap} {k : Nat} {f c' : Addr} {q : Str} {params : Arguments} {body : Expr} {scope : Scope} {N ps : List Str} (S : FnScope N ps scope)
    {A : Around} {outer : List Env} {s : Shared} {H : Hp} {args : Args} {us : List Value} {vs : List V} {Q : VK} {E : XK} (hr : Room (k + 1) A) (e0 : Env0 P w K mg base A outer s H)
    (hf : H f = some (LamO f q params body scope c')) (hc : H c' = some (CodeO c' q)) (hb : ∀ pm ctv, BindsTo s (PySem.W.kla_fn "<lambda>" q params body scope [] pm (.ref c') ctv) args (ps.zip us)) (r : Vals vs us) (hl : vs.length = ps.length)
    (hbody : Room k (A.deeper (envOfC q scope s.heap.objs.size f (.ref c'))) → ∃ t, PE (cxOf CX P w K mg base N q scope f (.ref c') A outer s H E) body t ∧ t (start N vs) H Q) :
    codeAny (model P w) A (.call (.ref f) args) (CR CX outer P w H s Q E) s := by
  have lim : s.heap.NoLimit := e0.mod.nolimit.keeps fun b o e => (e0.bs b o e).1
  have hkind : ∀ y ∈ ps.zip us, scope.names.lookup y.1 = some .local ∨ (scope.names.lookup y.1 = some .cell ∧ ((cellsFrom (s.heap.objs.size + 1) scope.names []).lookup y.1).isSome = true) := fun ⟨n, v⟩ hy =>
    (S.par n (List.of_mem_zip hy).1).elim .inl fun q => .inr ⟨q, PySem.W.cellsFrom_some _ _ _ (.inl q)⟩
  obtain ⟨⟨pm, ctv, of1⟩, _, _⟩ := e0.hok f _ hf
  obtain ⟨⟨oc, vsc, t, hoc, hdc, hvc⟩, _, _⟩ := e0.hok c' _ hc
  refine PySem.W.kla_callFunE hr.depth of1 rfl S.co S.gen rfl ⟨c', oc, vsc, t, rfl, hoc, hdc, hvc⟩ ?_
  refine hb pm ctv _ _ _ _ ?_
  refine wpAny_newFunctionEnv_cells S.kind hkind fun env he s1 x => ?_
  subst he
  refine ⟨lim.keeps x.toInCall.keep, ?_⟩
  obtain ⟨t, ht, hq⟩ := hbody (hr.deeper _)
  have I : Inv (cxOf CX P w K mg base N q scope f (.ref c') A outer s H E) [] (start N vs) H s1 := inv_start S hr.hd e0 hl r x
  refine PySem.W.kla_codeExpr (wpAny_mono (ht.run [] s1 (start N vs) H Q I hq) (fun v s' hs => ?_) fun e s' hs => hs)
  obtain ⟨v', H', J, rv, q⟩ := hs
  exact ⟨v', H', J.os, J.bare, J.base, J.hok, rv, q⟩
theorem lamO_ok {P : Program} {w : World} {H : Hp} {h : Heap} {f c' : Addr} {q : Str} {params : Arguments} {body : Expr} {scope : Scope} {pm ctv : Value} (e : h.get? f = some (PySem.W.kla_obj "<lambda>" q params body scope [] pm c' ctv)) :
    ObjOk P w H h f (LamO f q params body scope c') := ⟨⟨pm, ctv, e⟩, ⟨_, e⟩, fun h1 h2 ⟨a, b, z⟩ k => ⟨a, b, k _ z⟩⟩
theorem tabs_upd {T : List (Addr × Str)} {H : Hp} {a : Addr} {o : HO} (t : Tabs T H) (n : H a = none) : Tabs T (upd H a o) := t.ext fun b u e => by rw [upd_ne (ne_of_none e n)]; exact e
theorem extN_upd {H : Hp} {a : Addr} {o : HO} (n : H a = none) : ExtN H (upd H a o) := fun b u e _ => by rw [upd_ne (ne_of_none e n)]; exact e
def tLamV (T : List (Addr × Str)) (q : Str) (params : Arguments) (body : Expr) (scope : Scope) : TE := fun _ H Q => Tabs T H ∧ ∀ f c' H1, ExtN H H1 → Tabs T H1 → H1 f = some (LamO f q params body scope c') → H1 c' = some (CodeO c' q) → H f = none → Q (.ref f) H1
section
variable {X : Cx}
theorem pe_lamV {T : List (Addr × Str)} {c P : Addr} {params : Arguments} {body : Expr} {scope : Scope} {pos : Pos} (TB : TabB X.base X.mg c P) (hcode : X.env.code = .ref c) (hm : (P, X.env.qual ++ "<lambda>") ∈ T) (hu : ∀ p ∈ T, p.1 = P → p.2 = X.env.qual ++ "<lambda>")
    (hdef : defaultsOf params X.env = ([], [])) (hfree : ∀ y ∈ scope.names, y.2 ≠ .free) (hclo : cloFrom X.env.cells scope.names [] = []) : PE X (.Lambda params body scope pos) (tLamV T (X.env.qual ++ "<lambda>") params body scope) := by
  refine ⟨fun pins s σ H Q I h => ?_⟩
  obtain ⟨hT, h⟩ := h
  obtain ⟨ps, hP, ht, ha⟩ := hT _ hm
  refine PySem.W.kla_eval hdef ?_
  have bP : s.heap.BuiltinsAt X.mg P := TB.bm.keeps I.bk
  have hP' : s.heap.get? P = some { cls := .none, data := .fields ps } := I.hok P _ hP
  have hcl : closureFor scope X.env = pure [] := by
    have z := closure_ok (env := X.env) (scope := scope) (fun y hy e => absurd e (hfree y hy))
    rw [hclo] at z
    exact z
  have end_ : ∀ (f c' : Addr) (ctv : Value) (H1 : Hp) (h' : Heap) (tk : Nat), Inv X pins σ H1 { s with heap := h', toks := tk } → s.heap.objs.size ≤ h'.objs.size → ExtN H H1 → Tabs T H1 → H1 h'.objs.size = none → H1 c' = some (CodeO c' (X.env.qual ++ "<lambda>")) →
      EP X pins σ Q (.ref h'.objs.size) { s with heap := h'.push (PySem.W.kla_obj "<lambda>" (X.env.qual ++ "<lambda>") params body scope [] ((X.mg "__name__").getD .none) c' ctv), toks := tk } := by
    intro f c' ctv H1 h' tk I1 hz e1 t1 n1 co
    have J : Inv X pins σ (upd H1 h'.objs.size (LamO h'.objs.size (X.env.qual ++ "<lambda>") params body scope c')) { s with heap := h'.push (PySem.W.kla_obj "<lambda>" (X.env.qual ++ "<lambda>") params body scope [] ((X.mg "__name__").getD .none) c' ctv), toks := tk } :=
      I1.laid (t' := tk) (fun b u e => Heap.get?_push_of_some _ e) (Nat.le_refl _) (lamO_ok (Heap.get?_push_size _ rfl))
    refine ⟨.ref h'.objs.size, _, J, rfl, h h'.objs.size c' _ (e1.trans (extN_upd n1)) (tabs_upd t1 n1) upd_same (by rw [upd_ne (ne_of_none co n1)]; exact co) (I.hok.fresh hz)⟩
  cases hc : codeAmong pos ps.toList with
  | none =>
    refine PySem.W.kla_makeFunction (mg := X.mg) (c := c) (P := P) (ps := ps) hcl I.ok.glob (I.mod.glob.keeps I.bk) hcode (TB.code.keeps I.bk) hP' ht hc TB.gP bP fun c' ctv h' tk hx hge hlt hrec htb => ?_
    obtain ⟨c2, oc, vs, t, e2, hoc, hd, hv⟩ := hrec
    cases e2
    have nC : H c' = none := I.hok.fresh hge
    have nPc : P ≠ c' := ne_of_none hP nC
    have I1 := inv_table (t' := tk) (more := #[rawInt pos.line, rawInt pos.col, .ref c']) (h' := h') I hP hx htb hge ⟨oc, vs, t, hoc, hd, hv⟩
    have hE : ExtN H (upd (upd H P (.tbl (ps ++ #[rawInt pos.line, rawInt pos.col, .ref c']))) c' (CodeO c' (X.env.qual ++ "<lambda>"))) := fun b o e n => by
      rw [upd_ne (ne_of_none e nC), upd_ne (fun z => n ps (Option.some.inj (e.symm.trans (by rw [z]; exact hP))))]
      exact e
    have eL : (ps ++ #[rawInt pos.line, rawInt pos.col, .ref c']).toList = ps.toList ++ [rawInt pos.line, rawInt pos.col, .ref c'] := by simp
    refine end_ h'.objs.size c' ctv _ h' tk I1 (Nat.le_trans hge (Nat.le_of_lt hlt)) hE (fun p hp => ?_) ?_ upd_same
    · by_cases hb : p.1 = P
      · rw [hu p hp hb, hb]
        refine ⟨_, by rw [upd_ne nPc, upd_same], by rw [eL]; exact PySem.TriplesOk_snoc _ _ _ _ ht, fun p' cv hcv => ?_⟩
        rw [eL] at hcv
        rcases among_app _ ht hcv with z | z
        · obtain ⟨c0, e1, e2⟩ := ha p' cv z
          exact ⟨c0, e1, hE _ _ e2 codeO_ne⟩
        · exact ⟨c', z, upd_same⟩
      · obtain ⟨ps', a1, a2, a3⟩ := hT p hp
        refine ⟨ps', by rw [upd_ne (ne_of_none a1 nC), upd_ne hb]; exact a1, a2, fun p' cv hcv => ?_⟩
        obtain ⟨c0, e1, e2⟩ := a3 p' cv hcv
        exact ⟨c0, e1, hE _ _ e2 codeO_ne⟩
    · have n1 : h'.objs.size ≠ c' := Nat.ne_of_gt hlt
      have n2 : h'.objs.size ≠ P := Nat.ne_of_gt (Nat.lt_of_lt_of_le (Heap.lt_size hP') (Nat.le_trans hge (Nat.le_of_lt hlt)))
      rw [upd_ne n1, upd_ne n2]
      exact I.hok.fresh (Nat.le_trans hge (Nat.le_of_lt hlt))
  | some cv =>
    obtain ⟨c', e, hco⟩ := ha pos cv hc
    subst e
    refine PySem.W.kla_makeFunctionHit (mg := X.mg) (c := c) (P := P) (ps := ps) hcl I.ok.glob (I.mod.glob.keeps I.bk) hcode (TB.code.keeps I.bk) hP' ht hc bP fun ctv h' tk hx hsz => ?_
    exact end_ h'.objs.size c' ctv H h' tk (I.kept (t' := tk) hx) hsz (ExtN.refl H) hT (I.hok.fresh hsz) hco
end
end KD
set_option Elab.async false
set_option linter.all false
set_option maxRecDepth 100000
set_option maxHeartbeats 4000000
namespace KS
open PySem PySem.Spec PyProof.Rows L2 KB KC KD LamX PySem.SeqAt SrtO Srt
def Ex (H H' : Hp) : Prop := ∀ b o, H b = some o → H' b = some o
theorem Ex.refl (H : Hp) : Ex H H := fun _ _ h => h
theorem Ex.trans {H H1 H2 : Hp} (a : Ex H H1) (b : Ex H1 H2) : Ex H H2 := fun c o h => b c o (a c o h)
theorem Ex.upd {H : Hp} {a : Addr} {o : HO} (n : H a = none) : Ex H (upd H a o) := fun b u e => by rw [upd_ne (ne_of_none e n)]; exact e
theorem Ex.rd {H H' : Hp} {a : Addr} {u : HO} (e : Ex H H') (h : Rd H a u) : Rd H' a u := h.elim (fun h => .inl (e _ _ h)) fun ⟨o, h⟩ => .inr ⟨o, e _ _ h⟩
mutual
theorem dp_ex {K : PySem.W.Frag} {H H' : Hp} (e : Ex H H') : ∀ {v : V} {d : PyData}, Dp K H v d → Dp K H' v d
  | _, _, .non => .non
  | _, _, .bl b => .bl b
  | _, _, .int i => .int i
  | _, _, .str x => .str x
  | _, _, .lst h t => .lst (h.elim (fun h => .inl (e.rd h)) .inr) (dpAll_ex e t)
  | _, _, .tup h t => .tup (h.elim (fun h => .inl (e.rd h)) .inr) (dpAll_ex e t)
theorem dpAll_ex {K : PySem.W.Frag} {H H' : Hp} (e : Ex H H') : ∀ {vs : List V} {ds : List PyData}, DpAll K H vs ds → DpAll K H' vs ds
  | _, _, .nil => .nil
  | _, _, .cons h t => .cons (dp_ex e h) (dpAll_ex e t)
end
def KeyCall (X : Cx) (f : Addr) (H : Hp) (kvs : List (List Key × V)) (kd : List Key × V → List PyData) : Prop :=
  ∀ x ∈ kvs, ∀ (t q : Addr) (H1 : Hp), Ex H H1 → H1 t = some (.tup [.ref q, x.2]) → H1 q = some (.tup (x.1.map kV)) → ∀ (pins : List (Addr × Obj)) (σ : L2.St) (s1 : Shared) (R : Value → Shared → Prop), Inv X pins σ H1 s1 →
    (∀ y u H2 s2, Inv X pins σ H2 s2 → Ex H1 H2 → RelV y u → Dp X.K H2 y (.tuple (kd x)) → R u s2) → wpAny (model X.prog X.w) X.A.in1.in1 (call (.ref f) [.ref t]) R (fun _ _ => False) s1
section
variable {X : Cx} {pins : List (Addr × Obj)} {σ : L2.St}
theorem lst_raw {H : Hp} {s : Shared} {a : Addr} {ys : List V} (I : Inv X pins σ H s) (h : H a = some (.lst ys)) : ys.length ≤ sizeLine ∧ ∃ (its : List Value) (n : Nat), Vals ys its ∧ s.heap.get? a = some (seqObj "list" its.toArray n) := I.hok a _ h
theorem lst_write {H : Hp} {s : Shared} {a : Addr} {ys zs : List V} {us vs : List Value} {n tk : Nat} (I : Inv X pins σ H s) (h : H a = some (.lst ys)) (hr : s.heap.get? a = some (seqObj "list" us.toArray n)) (hz : zs.length ≤ sizeLine) (rz : Vals zs vs) (g : Array Value → Array Value) (hg : g us.toArray = vs.toArray) :
    Inv X pins σ (upd H a (.lst zs)) { s with heap := s.heap.update a (Obj.mapSeq g), toks := tk } := by
  have e := get?_update_seq hr g
  rw [hg] at e
  exact I.write (t' := tk) (x := a) (e := a) (by rw [h]; exact True.intro) (.inl rfl) (fun b u hb q => (Heap.get?_update_ne _ _ _ _ hb).trans q) ⟨_, e⟩ ⟨hz, vs, _, rz, e⟩
theorem swo_rank {α : Type} (r : α → Int) : Swo fun p q : α => decide (r p < r q) :=
  ⟨fun x y h => by have h := of_decide_eq_true h; exact decide_eq_false (by omega), fun x y z h1 h2 => by have h1 := of_decide_eq_false h1; have h2 := of_decide_eq_false h2; exact decide_eq_false (by omega)⟩
def rankOf (as : List Addr) (kvs : List (List Key × V)) (ρ : List Key × V → Int) (v : Value) : Int :=
  match v with
  | .ref t => match (as.zip kvs).find? (fun z => decide (z.1 = t)) with
    | some z => ρ z.2
    | none => 0
  | _ => 0
theorem find_zip {as : List Addr} {kvs : List (List Key × V)} (nd : as.Nodup) : ∀ {j : Nat} {t : Addr} {x : List Key × V}, as[j]? = some t → kvs[j]? = some x → (as.zip kvs).find? (fun z => decide (z.1 = t)) = some (t, x) := by
  induction as generalizing kvs with
  | nil => intro j t x h; simp at h
  | cons b as ih =>
    intro j t x h1 h2
    rw [List.nodup_cons] at nd
    cases kvs with
    | nil => simp at h2
    | cons y kvs =>
      cases j with
      | zero =>
        simp only [List.getElem?_cons_zero, Option.some.injEq] at h1 h2
        subst h1 h2
        simp
      | succ j =>
        simp only [List.getElem?_cons_succ] at h1 h2
        have hne : ¬ b = t := fun z => nd.1 (by rw [z]; exact List.mem_of_getElem? h1)
        rw [List.zip_cons_cons, List.find?_cons_of_neg (by simpa using hne)]
        exact ih nd.2 h1 h2
theorem rank_at {as : List Addr} {kvs : List (List Key × V)} {ρ : List Key × V → Int} (nd : as.Nodup) {j : Nat} {t : Addr} {x : List Key × V} (h1 : as[j]? = some t) (h2 : kvs[j]? = some x) : rankOf as kvs ρ (.ref t) = ρ x := by
  unfold rankOf
  simp only [find_zip nd h1 h2]
end
mutual
def pureD : PyData → Bool
  | .none => true
  | .bool _ => true
  | .int _ => true
  | .str _ => true
  | .tuple xs => pureL xs
  | _ => false
def pureL : List PyData → Bool
  | [] => true
  | x :: xs => pureD x && pureL xs
end
mutual
theorem dp_tups {K : PySem.W.Frag} {H H' : Hp} (e : ∀ b xs, Rd H b (.tup xs) → Rd H' b (.tup xs)) : ∀ {v : V} {d : PyData}, pureD d = true → Dp K H v d → Dp K H' v d
  | _, _, _, .non => .non
  | _, _, _, .bl b => .bl b
  | _, _, _, .int i => .int i
  | _, _, _, .str x => .str x
  | _, _, h, .lst _ _ => by unfold pureD at h; cases h
  | _, _, h, .tup a t => .tup (a.elim (fun a => .inl (e _ _ a)) .inr) (dpAll_tups e (by unfold pureD at h; exact h) t)
theorem dpAll_tups {K : PySem.W.Frag} {H H' : Hp} (e : ∀ b xs, Rd H b (.tup xs) → Rd H' b (.tup xs)) : ∀ {vs : List V} {ds : List PyData}, pureL ds = true → DpAll K H vs ds → DpAll K H' vs ds
  | _, _, _, .nil => .nil
  | _, _, h, .cons a t => by
    have h2 := h
    unfold pureL at h2
    rw [Bool.and_eq_true] at h2
    exact .cons (dp_tups e h2.1 a) (dpAll_tups e h2.2 t)
end
theorem kat_of {h : Heap} : ∀ its : List Value, (∀ u ∈ its, ∃ l r as, Reads h u (.tuple (.tuple l :: r)) as) → ∃ fs : List Value, PySem.W.KatTups h its fs ∧ fs.length = its.length ∧ ∀ v ∈ fs, ∃ (b : Addr) (o : Obj), v = .ref b ∧ h.get? b = some o ∧ o.cls = .type "tuple"
  | [], _ => ⟨[], PySem.W.KatTups.nil, rfl, fun v hv => by simp at hv⟩
  | u :: its, hr => by
    obtain ⟨fs, k1, k2, k3⟩ := kat_of its fun u' hu' => hr u' (List.mem_cons_of_mem _ hu')
    obtain ⟨l, r, as, q⟩ := hr u List.mem_cons_self
    cases q with
    | @tuple a o vs n _ as₁ h1 h2 h3 h4 =>
      generalize ev : vs.toList = vl at h4
      cases h4 with
      | @cons v0 vr _ _ as1 as2 r0 rr =>
        cases r0 with
        | @tuple b ob vs' n' _ as₂ g1 g2 g3 g4 =>
          refine ⟨.ref b :: fs, PySem.W.KatTups.cons h1 h2 h3 (by rw [← Array.getElem?_toList, ev]; rfl) k1, by rw [List.length_cons, List.length_cons, k2], fun v hv => ?_⟩
          rcases List.mem_cons.mp hv with e | hv
          · exact ⟨b, ob, e, g1, g2⟩
          · exact k3 v hv
section
variable {X : Cx} {pins : List (Addr × Obj)} {σ : L2.St}
theorem sort_body {f D : Addr} {H : Hp} {s : Shared} {h2 : Heap} {tk : Nat} {kvs : List (List Key × V)} {xs : List (List Key × Addr × Value)} {es : Array DictEntry} {as : List Addr} {kd : List Key × V → List PyData} {ρ : List Key × V → Int} {P : PySem.Fin → Shared → Prop} {E : Value → Shared → Prop}
    (I : Inv X pins σ H s) (hk : ∀ b o, s.heap.get? b = some o → h2.get? b = some o) (hD : h2.get? D = some (seqObj "list" (as.map Value.ref).toArray 0)) (hsD : s.heap.objs.size ≤ D)
    (rel : KT H kvs xs) (hes : es.toList = xs.map (entryOfKey (tupleKind (mixKind X.prog X.w)))) (hl : as.length = es.size) (hG : DT.Made es s.heap.objs.size h2 as) (hz : kvs.length ≤ sizeLine)
    (hsh : ∀ x ∈ kvs, shaped (.tuple (kd x)) = true) (hpu : ∀ x ∈ kvs, pureL (kd x) = true) (hft : ∀ x ∈ kvs, ∃ l r, kd x = .tuple l :: r) (hok : ∀ x ∈ kvs, ∀ y ∈ kvs, okL (kd x) (kd y) = true) (hρ : ∀ x ∈ kvs, ∀ y ∈ kvs, ltL (kd x) (kd y) = decide (ρ x < ρ y))
    (hu : X.A.units + 66 < cLine) (hcall : KeyCall X f H kvs kd)
    (q : ∀ (H' : Hp) (s' : Shared) (zs : List (Addr × (List Key × V))), Inv X pins σ H' s' → Ex H H' → H D = none → H' D = some (.lst (zs.map fun z => V.ref z.1)) → (zs.map (·.2)).Perm kvs → (zs.map (·.2)).Pairwise (fun x y => ¬ ρ y < ρ x) →
      (∀ z ∈ zs, ∃ q, H' z.1 = some (.tup [.ref q, z.2.2]) ∧ H' q = some (.tup (z.2.1.map kV))) → P (.done (.ret .none)) s') :
    wpAny (model X.prog X.w) X.A.in1.in1 (ksk_tree D (.ref f) false) P E { s with heap := h2, toks := tk } := by
  have l1 : kvs.length = xs.length := Paired.length rel
  have l2 : es.size = xs.length := size_of_entries hes
  have lak : as.length = kvs.length := by omega
  have nd : as.Nodup := List.Pairwise.imp (fun h => Nat.ne_of_lt h) hG.rise
  have szl : (as.map Value.ref).toArray.size = kvs.length := by rw [List.size_toArray, List.length_map, lak]
  have asz : (as.map Value.ref).length ≤ sizeLine := by rw [List.length_map]; omega
  have nD : H D = none := I.hok.fresh hsD
  have asD : ∀ b ∈ as, b ≠ D ∧ b < h2.objs.size := fun b hb => by
    obtain ⟨j, hj⟩ := List.mem_iff_getElem?.mp hb
    obtain ⟨_, _, e⟩ := hG.pairs j b hj
    refine ⟨fun z => ?_, Heap.lt_size e⟩
    rw [z, hD] at e
    exact absurd (Value.type.inj (congrArg Obj.cls (Option.some.inj e))) (by decide)
  unfold ksk_tree
  refine wpAny_bind (listItems_at hD rfl ?_)
  refine wpAny_bind (listUpdate_at hD rfl ?_ (by rw [szl]; exact hz) (Nat.zero_le _))
  obtain ⟨e1, ho1⟩ : ∃ e1, (h2.update D (Obj.mapSeq fun _ => (#[] : Array Value))).get? D = some (seqObj "list" #[] e1) := ⟨_, get?_update_seq hD fun _ => #[]⟩
  refine wpAny_bind (seqEpoch_at ho1 rfl ?_)
  refine wpAny_bind (wpAny_newTuple ?_ asz)
  refine wpAny_bind (wpAny_newList ?_ (Nat.zero_le _))
  refine wpAny_holding ?_
  generalize hh4 : (h2.update D (Obj.mapSeq fun _ => (#[] : Array Value))).push (seqObj "tuple" (as.map Value.ref).toArray 0) = h4
  have z4 : h4.objs.size = h2.objs.size + 1 := by rw [← hh4, size_push', Heap.size_update]
  have keep4 : ∀ b o, b ≠ D → h2.get? b = some o → h4.get? b = some o := fun b o hb e => by
    rw [← hh4]
    exact Heap.get?_push_of_some _ ((Heap.get?_update_ne _ _ _ _ hb).trans e)
  have hD4 : h4.get? D = some (seqObj "list" #[] e1) := by rw [← hh4]; exact Heap.get?_push_of_some _ ho1
  have I1 : Inv X pins σ (upd H h4.objs.size (.lst [])) { s with heap := h4.push (seqObj "list" #[] 0), toks := tk } :=
    I.laid (t' := tk) (fun b o e => Heap.get?_push_of_some _ (keep4 b o (fun z => by rw [z] at e; exact absurd (Heap.lt_size e) (Nat.not_lt.mpr hsD)) (hk b o e))) (by rw [z4]; exact Nat.le_succ_of_le (Nat.le_trans hsD (Nat.le_of_lt (Heap.lt_size hD))))
      ⟨Nat.zero_le _, [], 0, .nil, Heap.get?_push_size _ rfl⟩
  have hkn : H h4.objs.size = none := I.hok.fresh (by rw [z4]; exact Nat.le_succ_of_le (Nat.le_trans hsD (Nat.le_of_lt (Heap.lt_size hD))))
  have hDk : D ≠ h4.objs.size := by rw [z4]; exact Nat.ne_of_lt (Nat.lt_succ_of_lt (Heap.lt_size hD))
  have hG5 : DT.Made es s.heap.objs.size (h4.push (seqObj "list" #[] 0)) as := ⟨hG.rise, hG.above, fun j b hj => by
    obtain ⟨e, he, hg⟩ := hG.pairs j b hj
    exact ⟨e, he, Heap.get?_push_of_some _ (keep4 b _ (asD b (List.mem_of_getElem? hj)).1 hg)⟩⟩
  obtain ⟨H2, I2, g2, pp, off⟩ := made_tracked (h' := h4.push (seqObj "list" #[] 0)) (tk := tk) I rel hes hl hG5 I1 (Ex.upd hkn) fun b hb => by
    rw [upd_ne (by rw [z4]; exact Nat.ne_of_lt (Nat.lt_succ_of_lt (asD b hb).2))]
    exact I.hok.fresh (Nat.le_of_lt (hG.above b hb))
  have exH2 : Ex H H2 := (Ex.upd hkn).trans g2
  have hkS2 : H2 h4.objs.size = some (.lst []) := g2 _ _ upd_same
  have hD2 : H2 D = none := by rw [off D fun z => (asD D z).1 rfl, upd_ne hDk]; exact nD
  have fD : ∀ H', H' D = none → FpOk X pins H' D := fun H' n => I.fpOk hsD n
  have I3 : Inv X (pins ++ [(D, seqObj "list" #[] e1)]) σ H2 { s with heap := h4.push (seqObj "list" #[] 0), toks := tk } := I2.pins_of fun p hp => by
    rcases List.mem_append.mp hp with hp | hp
    · exact I2.pin p (List.mem_append_right _ hp)
    · rw [List.mem_singleton.mp hp]
      obtain ⟨_, f1, f2, _⟩ := fD H2 hD2
      exact ⟨Heap.get?_push_of_some _ hD4, hD2, f1, f2, fun v z => by cases z⟩
  have pget : ∀ {j : Nat} {t : Addr}, as[j]? = some t → ∃ x q, kvs[j]? = some x ∧ H2 t = some (.tup [.ref q, x.2]) ∧ H2 q = some (.tup (x.1.map kV)) := fun {j t} hj => by
    obtain ⟨x, hx, q, q1, q2⟩ := LiI.paired_get pp hj
    exact ⟨x, q, hx, q1, q2⟩
  unfold ksk_rest
  refine wpAny_bind (wpAny_rule ?_)
  first
    | rw [List.forIn_toArray]
    | (rw [← Array.forIn_toList]; simp only [List.toList_toArray])
  refine wpAny_bind (ksk_fold (fun i s' => ∃ (Hi : Hp) (ys : List V), Inv X (pins ++ [(D, seqObj "list" #[] e1)]) σ Hi s' ∧ (∀ b o, b ≠ h4.objs.size → H2 b = some o → Hi b = some o) ∧ Hi h4.objs.size = some (.lst ys) ∧ ys.length = i ∧
      ∀ (j : Nat) (y : V), ys[j]? = some y → ∃ x, kvs[j]? = some x ∧ Dp X.K Hi y (.tuple (kd x))) (as.map Value.ref) 0 _ ⟨H2, [], I3, fun b o _ e => e, hkS2, rfl, fun j y h => by simp at h⟩ ?step ?done)
  case step =>
    rintro j v s' hv ⟨Hi, ys, Ii, ei, hki, hlen, hdp⟩
    simp only [Nat.zero_add] at hlen ⊢
    rw [List.getElem?_map] at hv
    obtain ⟨t, ht, rfl⟩ := Option.map_eq_some_iff.mp hv
    obtain ⟨x, qa, hx, q1, q2⟩ := pget ht
    have nk : ∀ {b : Addr} {vs : List V}, H2 b = some (.tup vs) → b ≠ h4.objs.size := fun e z => by rw [z, hkS2] at e; cases e
    have hxm : x ∈ kvs := List.mem_of_getElem? hx
    refine wpAny_bind (wpAny_attempt (wpAny_mono (hcall x hxm t qa Hi (fun b o e => ei b o (fun z => by rw [z, hkn] at e; cases e) (exH2 b o e)) (ei _ _ (nk q1) q1) (ei _ _ (nk q2) q2) _ _ s'
      (fun u s'' => ∃ y H3, Inv X (pins ++ [(D, seqObj "list" #[] e1)]) σ H3 s'' ∧ Ex Hi H3 ∧ RelV y u ∧ Dp X.K H3 y (.tuple (kd x))) Ii fun y u H3 s2 J e3 ry dy => ⟨y, H3, J, e3, ry, dy⟩) (fun u s'' he => ?_) fun _ _ hF => hF.elim))
    obtain ⟨y, H3, J, e3, ry, dy⟩ := he
    have hk3 := e3 _ _ hki
    obtain ⟨hzy, its, n, ri, hraw⟩ := lst_raw J hk3
    have jl : j < as.length := (List.getElem?_eq_some_iff.mp ht).1
    have il : its.length = ys.length := ri.length.symm
    try dsimp only
    refine wpAny_bind (listUpdate_at hraw rfl ?_ (by rw [List.size_toArray]; omega) (by rw [Array.size_push, List.size_toArray]; omega))
    refine wpAny_pure ⟨rfl, _, ys ++ [y], lst_write (tk := s''.toks) J hk3 hraw (by rw [List.length_append, List.length_singleton]; omega) (ri.append (.cons ry .nil)) (·.push u) (by simp), fun b o hb e => ?_, upd_same, by rw [List.length_append, List.length_singleton]; omega, fun i z hz' => ?_⟩
    · rw [upd_ne hb]
      exact e3 _ _ (ei b o hb e)
    · have mono : ∀ {v : V} {x : List Key × V}, x ∈ kvs → Dp X.K H3 v (.tuple (kd x)) → Dp X.K (upd H3 h4.objs.size (.lst (ys ++ [y]))) v (.tuple (kd x)) := fun {v x} hm hd =>
        dp_tups (fun b vs r => r.elim (fun r => .inl (by rw [upd_ne (ne_of r hk3 (fun z => by cases z))]; exact r)) fun ⟨o, r⟩ => .inr ⟨o, by rw [upd_ne (ne_of r hk3 (fun z => by cases z))]; exact r⟩) (by unfold pureD; exact hpu x hm) hd
      by_cases hi : i < ys.length
      · rw [List.getElem?_append_left hi] at hz'
        obtain ⟨x', hx', hd'⟩ := hdp i z hz'
        exact ⟨x', hx', mono (List.mem_of_getElem? hx') (dp_ex e3 hd')⟩
      · rw [List.getElem?_append_right (by omega)] at hz'
        have e0 : i - ys.length = 0 := by
          have := (List.getElem?_eq_some_iff.mp hz').1
          simp at this
          omega
        rw [e0] at hz'
        have e4 : y = z := by simpa using hz'
        have e5 : i = j := by omega
        rw [← e4, e5]
        exact ⟨x, hx, mono hxm dy⟩
  case done =>
    rintro s' ⟨Hi, ys, Ii, ei, hki, hlen, hdp⟩
    rw [List.length_map, Nat.zero_add] at hlen
    obtain ⟨_, its, n, ri, hraw⟩ := lst_raw Ii hki
    have il : its.length = ys.length := ri.length.symm
    try dsimp only
    refine wpAny_bind (listItems_at hraw rfl ?_)
    have pairsL : (its.toArray.zip (as.map Value.ref).toArray).toList = its.zip (as.map Value.ref) := by
      first
        | simp
        | rfl
    have mem_at : ∀ p ∈ its.zip (as.map Value.ref), ∃ (j : Nat) (t : Addr) (x : List Key × V), p.2 = .ref t ∧ as[j]? = some t ∧ kvs[j]? = some x ∧ its[j]? = some p.1 := fun p hp => by
      obtain ⟨j, hj⟩ := List.mem_iff_getElem?.mp hp
      obtain ⟨j1, j2⟩ := List.getElem?_zip_eq_some.mp hj
      rw [List.getElem?_map] at j2
      obtain ⟨t, ht, e⟩ := Option.map_eq_some_iff.mp j2
      obtain ⟨x, _, hx, _⟩ := pget ht
      exact ⟨j, t, x, e.symm, ht, hx, j1⟩
    have tail : ∀ st' : SortSt, Srtd (fun p q : Keyed => decide (rankOf as kvs ρ p.2 < rankOf as kvs ρ q.2)) (arrOf st').toList → Stb (fun p q : Keyed => decide (rankOf as kvs ρ p.2 < rankOf as kvs ρ q.2)) (arrOf st').toList (its.zip (as.map Value.ref)) → failedOf st' = none →
        wpAny (model X.prog X.w) X.A.in1.in1 (ksk_tail D false e1 (.ref h4.objs.size) st') P E s' := by
      intro st' hs hb hf
      have out_perm : ((arrOf st').toList.map (·.2)).Perm (as.map Value.ref) := by
        have z := hb.perm.map (·.2)
        rw [List.map_snd_zip (by rw [List.length_map]; omega)] at z
        exact z
      have ezip : (as.zip kvs).map (fun z => Value.ref z.1) = as.map Value.ref := by
        rw [show (fun z : Addr × (List Key × V) => Value.ref z.1) = Value.ref ∘ Prod.fst from rfl, ← List.map_map, List.map_fst_zip (by omega)]
      obtain ⟨zs, pz, ez⟩ := perm_lift (fun z : Addr × (List Key × V) => Value.ref z.1) out_perm (as.zip kvs) ezip
      have zmem : ∀ z ∈ zs, ∃ j : Nat, as[j]? = some z.1 ∧ kvs[j]? = some z.2 := fun z hz => by
        obtain ⟨j, hj⟩ := List.mem_iff_getElem?.mp (pz.mem_iff.mp hz)
        exact ⟨j, List.getElem?_zip_eq_some.mp hj⟩
      have zlen : zs.length = kvs.length := by
        rw [pz.length_eq, List.length_zip]
        omega
      have osz : ((arrOf st').map (·.2)).size = kvs.length := by
        have z := out_perm.length_eq
        rw [List.length_map, Array.length_toList, List.length_map] at z
        rw [Array.size_map]
        omega
      have oeq : ((arrOf st').map (·.2)).toList = zs.map fun z => Value.ref z.1 := by rw [Array.toList_map, ← ez]
      have J1 := lst_write (tk := s'.toks) (zs := []) (vs := []) Ii hki hraw (Nat.zero_le _) .nil (fun _ => (#[] : Array Value)) rfl
      obtain ⟨pD, nD5, _⟩ := J1.pin (D, seqObj "list" #[] e1) (List.mem_append_right _ (List.mem_append_right _ (List.mem_singleton.mpr rfl)))
      unfold ksk_tail
      try dsimp only
      refine wpAny_bind (listUpdate_at hraw rfl ?_ (by rw [List.size_toArray]; omega) (Nat.zero_le _))
      refine wpAny_bind (wpAny_letGo ?_)
      refine wpAny_bind (seqEpoch_at pD rfl ?_)
      refine wpAny_bind (listUpdate_at pD rfl ?_ (Nat.zero_le _) (by simp only [Bool.false_eq_true, if_false]; rw [osz]; omega))
      rw [hf]
      simp only [bne_self_eq_false, Bool.false_eq_true, if_false]
      refine wpAny_pure ?_
      have J2 := J1.pins_of (pins' := pins) fun p hp => J1.pin p (List.mem_append_right _ (List.mem_append_left _ hp))
      have eD := get?_update_seq pD fun _ => (arrOf st').map (·.2)
      have dk : D ≠ h4.objs.size := hDk
      have J3 := J2.take (t' := s'.toks) (o := .lst (zs.map fun z => V.ref z.1)) (h' := (s'.heap.update h4.objs.size (Obj.mapSeq fun _ => (#[] : Array Value))).update D (Obj.mapSeq fun _ => (arrOf st').map (·.2))) (fun b u hb e => (Heap.get?_update_ne _ _ _ _ hb).trans e) (fD _ nD5)
        ⟨by rw [List.length_map]; omega, zs.map (fun z => Value.ref z.1), _, vals_maps (fun z : Addr × (List Key × V) => V.ref z.1) (fun z => Value.ref z.1) zs fun _ _ => rfl, by rw [← oeq, Array.toArray_toList]; exact eD⟩
      refine q _ _ zs J3 (fun b o e => ?_) nD upd_same ?_ ?_ fun z hz' => ?_
      · rw [upd_ne (ne_of_none e nD), upd_ne (ne_of_none e hkn)]
        exact ei b o (ne_of_none e hkn) (exH2 b o e)
      · have z := pz.map (·.2)
        rw [List.map_snd_zip (by omega)] at z
        exact z
      · have s1 : (zs.map fun z => Value.ref z.1).Pairwise (fun v u => decide (rankOf as kvs ρ u < rankOf as kvs ρ v) = false) := by
          rw [ez, List.pairwise_map]
          exact hs
        rw [List.pairwise_map] at s1 ⊢
        refine List.Pairwise.imp_of_mem (fun {x y} hx hy h => ?_) s1
        obtain ⟨j, j1, j2⟩ := zmem x hx
        obtain ⟨i, i1, i2⟩ := zmem y hy
        rw [rank_at nd j1 j2, rank_at nd i1 i2] at h
        exact of_decide_eq_false h
      · obtain ⟨j, j1, j2⟩ := zmem z hz'
        obtain ⟨x, qa, hx, q1, q2⟩ := pget j1
        have e : x = z.2 := Option.some.inj (hx.symm.trans j2)
        rw [e] at q1 q2
        have up : ∀ {b : Addr} {vs : List V}, H2 b = some (.tup vs) → (upd (upd Hi h4.objs.size (.lst [])) D (.lst (zs.map fun z => V.ref z.1))) b = some (.tup vs) := fun {b vs} h => by
          rw [upd_ne (fun z => by rw [z, hD2] at h; cases h), upd_ne (fun z => by rw [z, hkS2] at h; cases h)]
          exact ei _ _ (fun z => by rw [z, hkS2] at h; cases h) h
        exact ⟨qa, up q1, up q2⟩
    unfold ksk_end
    simp only [Bool.false_eq_true, if_false]
    by_cases h2s : (as.map Value.ref).toArray.size < 2
    · rw [if_pos h2s, if_pos h2s]
      refine wpAny_bind (wpAny_pure ?_)
      rw [StateT.run_pure]
      refine wpAny_bind (wpAny_pure ?_)
      try dsimp only
      refine tail (SortSt.mk' general' (its.toArray.zip (as.map Value.ref).toArray) #[] 7 none) ?_ ?_ rfl
      · show List.Pairwise _ (its.toArray.zip (as.map Value.ref).toArray).toList
        rw [pairsL]
        have ll : (its.zip (as.map Value.ref)).length < 2 := by
          rw [List.length_zip, List.length_map]
          rw [szl] at h2s
          omega
        match h : its.zip (as.map Value.ref), ll with
        | [], _ => exact List.Pairwise.nil
        | [v], _ => exact List.pairwise_singleton _ _
        | _ :: _ :: l, h3 => exact absurd h3 (by rw [List.length_cons, List.length_cons]; omega)
      · show Stb _ (its.toArray.zip (as.map Value.ref).toArray).toList _
        rw [pairsL]
        exact Stb.refl _
    · rw [if_neg h2s, if_neg h2s]
      have rd : ∀ {j : Nat} {u : Value}, its[j]? = some u → ∃ x as', kvs[j]? = some x ∧ Reads s'.heap u (.tuple (kd x)) as' := fun {j u} hj => by
        have jl : j < ys.length := by
          have := (List.getElem?_eq_some_iff.mp hj).1
          omega
        obtain ⟨x, hx, hd⟩ := hdp j ys[j] (List.getElem?_eq_getElem jl)
        obtain ⟨u', hu', ru⟩ := ri.get (List.getElem?_eq_getElem jl)
        have e : u' = u := Option.some.inj (hu'.symm.trans hj)
        rw [e] at ru
        obtain ⟨as', r⟩ := Dp.reads Ii _ _ _ hd ru
        exact ⟨x, as', hx, r⟩
      have cmp : Cmp X.prog X.w X.A.in1.in1 s' (tuples' false) (fun p => p ∈ its.zip (as.map Value.ref)) (fun p q : Keyed => decide (rankOf as kvs ρ p.2 < rankOf as kvs ρ q.2)) := by
        intro p q hp hq
        obtain ⟨j, t, x, e1, h1, h2, h3⟩ := mem_at p hp
        obtain ⟨i, t', x', e1', h1', h2', h3'⟩ := mem_at q hq
        obtain ⟨y, bs, hy, r⟩ := rd h3
        obtain ⟨y', bs', hy', r'⟩ := rd h3'
        have ey : y = x := Option.some.inj (hy.symm.trans h2)
        have ey' : y' = x' := Option.some.inj (hy'.symm.trans h2')
        rw [ey] at r
        rw [ey'] at r'
        have m := List.mem_of_getElem? h2
        have m' := List.mem_of_getElem? h2'
        refine keyLt_data r r' (canLay_of_shaped (hsh x m)) (canLay_of_shaped (hsh x' m')) (hok x m x' m') (room_of_shaped (hsh x m) (by show X.A.units + 1 + 1 + 64 < cLine; omega)) ⟨rfl, ?_⟩
        show ltL (kd x) (kd x') = decide (rankOf as kvs ρ p.2 < rankOf as kvs ρ q.2)
        rw [e1, e1', rank_at nd h1 h2, rank_at nd h1' h2', hρ x m x' m']
      have kk : ∀ (R : SortKind → Shared → Prop), R (tuples' false) s' → wpAny (model X.prog X.w) X.A.in1.in1 (keyKind' its.toArray) R E s' := by
        intro R hR
        obtain ⟨fs, k1, k2, k3⟩ := kat_of (h := s'.heap) its fun u hu' => by
          obtain ⟨j, hj⟩ := List.mem_iff_getElem?.mp hu'
          obtain ⟨x, as', hx, r⟩ := rd hj
          obtain ⟨l, r', e⟩ := hft x (List.mem_of_getElem? hx)
          rw [e] at r
          exact ⟨l, r', as', r⟩
        refine PySem.W.kat_kind (T := .type "tuple") k1 (by rw [szl] at h2s; omega) (fun v hv => ?_) (by decide) (by
          have z : (Value.type "tuple" != Value.type "tuple") = false := by decide
          rw [z]
          exact hR)
        obtain ⟨b, o, rfl, ho, hc⟩ := k3 v hv
        rw [← hc]
        exact (PySem.W.Looks.ld ho).andThen .now
      refine wpAny_bind (kk _ ?_)
      refine wpAny_bind (wpAny_mono (wpS_sortO (st0 := SortSt.mk' (tuples' false) (its.toArray.zip (as.map Value.ref).toArray) #[] 7 none)
        (Q := fun _ st' => Srtd (fun p q : Keyed => decide (rankOf as kvs ρ p.2 < rankOf as kvs ρ q.2)) (arrOf st').toList ∧ Stb (fun p q : Keyed => decide (rankOf as kvs ρ p.2 < rankOf as kvs ρ q.2)) (arrOf st').toList (its.zip (as.map Value.ref)) ∧ failedOf st' = none) (swo_rank fun p : Keyed => rankOf as kvs ρ p.2) cmp rfl
        (fun p hp => by
          have hp : p ∈ (its.toArray.zip (as.map Value.ref).toArray).toList := hp
          rw [pairsL] at hp
          exact hp) rfl rfl fun st' a1 a2 a3 => ⟨a1, by
            have a2 : Stb _ (arrOf st').toList (its.toArray.zip (as.map Value.ref).toArray).toList := a2
            rw [pairsL] at a2
            exact a2, a3⟩) ?_ fun _ _ e => e)
      rintro ⟨⟨⟩, st'⟩ s'' ⟨rfl, a1, a2, a3⟩
      try dsimp only
      exact tail st' a1 a2 a3
end
end KS
set_option Elab.async false
set_option linter.all false
set_option maxRecDepth 100000
set_option maxHeartbeats 4000000
namespace KS
open PySem PySem.Spec PyProof.Rows PySem.Calls L2 KB KC KD LamX PySem.SeqAt
def rSortItK (X : Cx) : List V → List V → Hp → VK → Prop := fun vs zs H Q => ∃ (p a f : Addr) (kvs : List (List Key × V)) (kd : List Key × V → List PyData) (ρ : List Key × V → Int), vs = [.ref p] ∧ zs = [.ref f] ∧ H p = some (L2.DX.itemsO p a) ∧ H a = some (.dT kvs) ∧
  (∀ x ∈ kvs, shaped (.tuple (kd x)) = true) ∧ (∀ x ∈ kvs, pureL (kd x) = true) ∧ (∀ x ∈ kvs, ∃ l r, kd x = .tuple l :: r) ∧ (∀ x ∈ kvs, ∀ y ∈ kvs, okL (kd x) (kd y) = true) ∧ (∀ x ∈ kvs, ∀ y ∈ kvs, ltL (kd x) (kd y) = decide (ρ x < ρ y)) ∧ KeyCall X f H kvs kd ∧
  ∀ (H' : Hp) (D : Addr) (zs : List (Addr × (List Key × V))), Ex H H' → H D = none → H' D = some (.lst (zs.map fun z => V.ref z.1)) → (zs.map (·.2)).Perm kvs → (zs.map (·.2)).Pairwise (fun x y => ¬ ρ y < ρ x) →
    (∀ z ∈ zs, ∃ q, H' z.1 = some (.tup [.ref q, z.2.2]) ∧ H' q = some (.tup (z.2.1.map kV))) → Q (.ref D) H'
section
variable {X : Cx}
theorem cr_sortedItK (hc : X.calm = true) (hu : X.A.units + 66 < cLine) : CallRK X (.builtin "sorted") [Str.ofString "key"] (rSortItK X) := by
  intro pins s σ H xs zs us ws Q I r rz h
  obtain ⟨p, a, f, kvs, kd, ρ, rfl, rfl, hp, ha, hsh, hpu, hft, hok, hρ, hcall, q⟩ := h
  obtain rfl := Vals.ref1 r
  obtain rfl := Vals.ref1 rz
  have view : s.heap.IsItemsView p a := (show ObjOk X.prog X.w H s.heap p (L2.DX.itemsO p a) from I.hok p _ hp).1
  obtain ⟨z, hd, xs', rel, o, es, ep, ho, hx, hdat, hes, his, hn⟩ := dt_of I.hok ha
  have l1 : kvs.length = xs'.length := Paired.length rel
  have l2 : es.size = xs'.length := size_of_entries hes
  show wpAny _ _ (call (.builtin "sorted") [.ref p] [(Str.ofString "key", .ref f)]) _ _ s
  refine call_function_entry_kw kind_sorted plain_sorted entry_sorted (ksk_s1 _ _) ?_
  unfold Builtin.«sorted»
  refine wpAny_bind (m := checkCount "sorted" 1 1 _) (wpAny_pure ?_)
  refine wpAny_bind (DT.collectI (A := X.A.in1) (es := es) (ep := ep) (I.ok.hd hc) view ⟨o, ho, hx, hdat⟩ (by omega) fun h' tk as hk hlt hl hG => ?_)
  refine wpAny_bind (wpAny_newList ?_ (by rw [List.length_map, hl]; omega))
  have hoL : (h'.push (seqObj "list" (as.map Value.ref).toArray 0)).get? h'.objs.size = some (seqObj "list" (as.map Value.ref).toArray 0) := Heap.get?_push_size _ rfl
  refine wpAny_bind (wpAny_holding (wpAny_call_entry_kw slot_list_sort ⟨_, hoL, rfl⟩ entry_list_sort ?body (ksk_l1 _ _)))
  case body =>
    show wpAny (model X.prog X.w) X.A.in1.in1 (Builtin.«list.sort» ⟨[.ref h'.objs.size], [(Str.ofString "key", .ref f)]⟩) _ _ _
    rw [ksk_t1]
    refine sort_body (s := s) (h2 := h'.push (seqObj "list" (as.map Value.ref).toArray 0)) (tk := tk) (ρ := ρ) I (fun b u e => Heap.get?_push_of_some _ (hk b u e)) hoL (Nat.le_of_lt hlt) rel hes hl
      ⟨hG.rise, hG.above, fun j b hj => let ⟨e, he, hg⟩ := hG.pairs j b hj; ⟨e, he, Heap.get?_push_of_some _ hg⟩⟩ z hsh hpu hft hok hρ hu hcall fun H' s' zs J e1 e2 e3 e4 e5 e6 => ⟨_, rfl, ?_⟩
    exact wpAny_pure ⟨_, rfl, .ref h'.objs.size, H', J, rfl, q H' h'.objs.size zs e1 e2 e3 e4 e5 e6⟩
theorem keyCall_lam {k : Nat} {f c' : Addr} {qn : Str} {params : Arguments} {body : Expr} {scope : Scope} {N : List Str} {pn : Str} {H : Hp} {kvs : List (List Key × V)} {kd : List Key × V → List PyData} (S : FnScope N [pn] scope) (hr : Room (k + 3) X.A)
    (hf : H f = some (LamO f qn params body scope c')) (hc : H c' = some (CodeO c' qn)) (hb : ∀ (s : Shared) (pm ctv u : Value), BindsTo s (PySem.W.kla_fn "<lambda>" qn params body scope [] pm (.ref c') ctv) ⟨[u], []⟩ ([pn].zip [u]))
    (hbody : ∀ (A : Around) (outer : List Env) (s : Shared) (H1 : Hp), Room k (A.deeper (envOfC qn scope s.heap.objs.size f (.ref c'))) → ∀ x ∈ kvs, ∀ (t q : Addr) (Q : VK), Ex H H1 → H1 t = some (.tup [.ref q, x.2]) → H1 q = some (.tup (x.1.map kV)) →
      (∀ y H2, Ex H1 H2 → Dp X.K H2 y (.tuple (kd x)) → Q y H2) → ∃ tt, PE (cxOf CX0 X.prog X.w X.K X.mg X.base N qn scope f (.ref c') A outer s H1 E0) body tt ∧ tt (start N [.ref t]) H1 Q) : KeyCall X f H kvs kd := by
  intro x hx t q H1 e1 h1 h2 pins σ s1 R J hR
  have hr2 : Room (k + 1) X.A.in1.in1 := (show Room (k + 2) X.A.in1 from Room.in1 hr).in1
  have rc := lam_run (CX := CX0) (Q := fun y H2 => Ex H1 H2 ∧ Dp X.K H2 y (.tuple (kd x))) (E := E0) (vs := [.ref t]) (us := [.ref t]) (args := ⟨[.ref t], []⟩) S hr2 J.env0.in1.in1 (e1 _ _ hf) (e1 _ _ hc) (fun pm ctv => hb s1 pm ctv _) (.cons rfl .nil) rfl
    (fun hr' => hbody _ _ s1 H1 hr' x hx t q _ e1 h1 h2 fun y H2 a b => ⟨a, b⟩)
  refine wpAny_call (codeAny_mono rc fun r s2 hq => ?_)
  cases r with
  | error e => exact (show False from hq).elim
  | ok fl =>
    cases fl with
    | ret u =>
      obtain ⟨y, H2, J2, ry, a, b⟩ := J.after hq
      exact hR y u H2 s2 J2 a ry b
    | next => exact False.elim hq
    | brk => exact False.elim hq
    | cont => exact False.elim hq
end
end KS
set_option Elab.async false
set_option linter.all false
set_option maxRecDepth 100000
set_option maxHeartbeats 4000000
namespace KG
open PySem PySem.Spec PyProof.Rows PySem.Calls L2 KB
def mergeT (acc kvs : List (List Key × V)) : List (List Key × V) := kvs.foldl (fun acc p => putK acc p.1 p.2) acc
theorem kt_merge {H : Hp} : ∀ {kvs : List (List Key × V)} {xs : List (List Key × Addr × Value)} {acc : List (List Key × V)} {ys : List (List Key × Addr × Value)}, KT H kvs xs → KT H acc ys → KT H (mergeT acc kvs) (storedAllH ys xs)
  | _, _, _, _, .nil, r => r
  | _, _, _, _, .cons (a := p) (b := x) (l₁ := kvs) (l₂ := xs) h t, r => by
    obtain ⟨h1, h2, h3⟩ := h
    have z := KT.put r p.1 (b := x.2.1) (by exact h2) h3
    show KT H (mergeT (putK _ p.1 p.2) kvs) (storedAllH (storedH _ x.1 x.2.1 x.2.2) xs)
    rw [← h1]
    exact kt_merge t z
theorem putK_len {κ : Type} [DecidableEq κ] (kvs : List (κ × V)) (k : κ) (v : V) : (putK kvs k v).length ≤ kvs.length + 1 := by
  unfold putK
  split
  · rw [List.length_map]; omega
  · rw [List.length_append]; simp
theorem merge_len : ∀ (kvs acc : List (List Key × V)), (mergeT acc kvs).length ≤ acc.length + kvs.length
  | [], acc => Nat.le_refl _
  | p :: kvs, acc => by
    have h1 := merge_len kvs (putK acc p.1 p.2)
    have h2 := putK_len acc p.1 p.2
    rw [List.length_cons]
    show (mergeT (putK acc p.1 p.2) kvs).length ≤ _
    omega
section
variable {X : Cx} {pins : List (Addr × Obj)} {σ : L2.St} {H : Hp} {s : Shared}
theorem pairs_raw (I : Inv X pins σ H s) : ∀ {ts : List Addr} {kvs : List (List Key × V)}, PairsOf H ts kvs → ∃ xs : List (List Key × Addr × Value), KT H kvs xs ∧ xs.length = ts.length ∧ ∀ (j : Nat) (x : List Key × Addr × Value), xs[j]? = some x → ∃ t, ts[j]? = some t ∧ s.heap.IsTuple t #[.ref x.2.1, x.2.2]
  | _, _, .nil => ⟨[], .nil, rfl, fun j x h => by simp at h⟩
  | _, _, .cons (a := t) (b := p) (l₁ := ts) (l₂ := kvs) h r => by
    obtain ⟨xs, k1, k2, k3⟩ := pairs_raw I r
    obtain ⟨q, h1, h2⟩ := h
    obtain ⟨_, its, rv, ht⟩ := (show ObjOk X.prog X.w H s.heap t (.tup [.ref q, p.2]) from I.hok t _ h1)
    cases rv with
    | cons r1 r2 =>
      cases r2 with
      | @cons _ u _ _ r3 r4 =>
        cases r4
        cases r1
        refine ⟨(p.1, q, u) :: xs, .cons ⟨rfl, h2, r3⟩ k1, by rw [List.length_cons, List.length_cons, k2], fun j x hj => ?_⟩
        cases j with
        | zero =>
          simp only [List.getElem?_cons_zero, Option.some.injEq] at hj
          subst hj
          exact ⟨t, rfl, ht⟩
        | succ j =>
          simp only [List.getElem?_cons_succ] at hj
          exact k3 j x hj
def rDictT : List V → Hp → VK → Prop := fun vs H Q => ∃ (a : Addr) (ts : List Addr) (kvs : List (List Key × V)), vs = [.ref a] ∧ (H a = some (.lst (ts.map V.ref)) ∨ ∃ o, H a = some (.frz o (.tup (ts.map V.ref))) ∧ o.dict = none) ∧ PairsOf H ts kvs ∧ ∀ p, H p = none → Q (.ref p) (upd H p (.dT (mergeT [] kvs)))
theorem cr_dictT (hc : X.calm = true) (hu : X.A.units + 4 < cLine) : CallR X (.type "dict") rDictT := by
  intro pins s σ H vs us Q I r h
  obtain ⟨a, ts, kvs, rfl, ha, hp, q⟩ := h
  obtain rfl := Vals.ref1 r
  obtain ⟨xs, k1, k2, k3⟩ := pairs_raw I hp
  have lk : kvs.length = xs.length := Paired.length k1
  have items : PairItems s.heap (ts.map Value.ref).toArray (fun j => ts.getD j 0) (xs.map fun x => (Value.ref x.2.1, x.2.2)) := by
    refine ⟨by simp [k2], fun j k v hj => ?_⟩
    rw [List.getElem?_map] at hj
    obtain ⟨x, hx, e⟩ := Option.map_eq_some_iff.mp hj
    obtain ⟨t, ht, hT⟩ := k3 j x hx
    cases e
    refine ⟨by simp [ht], .inl ?_⟩
    have e2 : ts.getD j 0 = t := by simp [List.getD, ht]
    show s.heap.IsTuple (ts.getD j 0) _
    rw [e2]
    exact hT
  have nps : (xs.map fun x => (Value.ref x.2.1, x.2.2)).length = xs.length := List.length_map _
  have hc2 : PairsHaveH (tupleKind (mixKind X.prog X.w)) (xs.map fun x => (Value.ref x.2.1, x.2.2)).length (PairRel (xs.map fun x => (Value.ref x.2.1, x.2.2))) xs := by
    refine ⟨by rw [nps], fun i key v hj => ?_⟩
    have hj : (xs.map fun x => (Value.ref x.2.1, x.2.2))[i]? = some (key, v) := hj
    rw [List.getElem?_map] at hj
    obtain ⟨x, hx, e⟩ := Option.map_eq_some_iff.mp hj
    cases e
    exact ⟨x.1, x.2.1, by rw [hx], rfl⟩
  have keys : ∀ x ∈ xs, (tupleKind (mixKind X.prog X.w)).is s.heap x.1 x.2.1 := fun x hx => by
    obtain ⟨p, _, e1, e2, _⟩ := mem_r k1 x hx
    rw [← e1]
    exact key_of I.hok e2
  have hst : KeysStay (tupleKind (mixKind X.prog X.w)) s.heap s.heap.objs.size [] xs := fun h' hk x hx => by
    obtain ⟨o, its, n, ho, hc', hd, hi⟩ := keys x hx
    exact ⟨o, its, n, hk _ _ (Nat.ne_of_lt (Heap.lt_size ho)) (by simp) ho, hc', hd, hi⟩
  have hroom : (tupleKind (mixKind X.prog X.w)).room X.A.in1.in1 := tupleKind_room_in1 (by show X.A.units + 1 + 1 < cLine; omega)
  have hm : (s.heap.objs.size == sysModules) = false := beq_eq_false_iff_ne.mpr (Nat.ne_of_gt I.big)
  have fin : ∀ (h' : Heap) (tk : Nat), h'.DictOfH (tupleKind (mixKind X.prog X.w)) s.heap.objs.size (storedAllH [] xs) → (∀ b o, b ∉ ([] : List Addr) → s.heap.get? b = some o → h'.get? b = some o) → kvs.length ≤ sizeLine → EP X pins σ Q (.ref s.heap.objs.size) { s with heap := h', toks := tk } := by
    intro h' tk hd hk hz
    obtain ⟨o, es, ep, d1, d2, d3, d4, _, d6⟩ := hd
    have kt : KT (upd H s.heap.objs.size (.dT (mergeT [] kvs))) (mergeT [] kvs) (storedAllH [] xs) := (kt_merge k1 .nil).keeps fun b ys e => by rw [upd_ne (ne_of_none e (I.hok.fresh (Nat.le_refl _)))]; exact e
    have hz2 := merge_len kvs []
    exact ⟨.ref s.heap.objs.size, _, I.laid (t' := tk) (o := .dT (mergeT [] kvs)) (fun b o e => hk b o (by simp) e) (Nat.le_refl _) ⟨by simp at hz2; omega, hm, _, kt, o, es, ep, d1, d2, d3, d4, d6⟩, rfl, q _ (I.hok.fresh (Nat.le_refl _))⟩
  rcases ha with ha | ha
  · obtain ⟨hz, its, n, ri, hraw⟩ := (show ObjOk X.prog X.w H s.heap a (.lst (ts.map V.ref)) from I.hok a _ ha)
    have ei : its = ts.map Value.ref := refs_at ri
    subst ei
    rw [List.length_map] at hz
    exact call_dict_pairsH (knd := tupleKind (mixKind X.prog X.w)) (PairArg.list a _ _ _) (I.ok.hd hc) hroom ⟨⟨_, n, hraw, rfl, rfl, rfl⟩, items⟩ hc2 hst (by rw [nps]; omega) fun h' tk hd hk => fin h' tk hd hk (by omega)
  · obtain ⟨o, ha, hdn⟩ := ha
    obtain ⟨ho, hz, its, ri, hraw⟩ := (show ObjOk X.prog X.w H s.heap a (.frz o (.tup (ts.map V.ref))) from I.hok a _ ha)
    have ei : its = ts.map Value.ref := refs_at ri
    subst ei
    rw [List.length_map] at hz
    obtain ⟨o', ho', hcl, n, hdat⟩ := hraw
    have e : o' = o := Option.some.inj (ho'.symm.trans ho)
    subst e
    exact call_dict_pairsH (knd := tupleKind (mixKind X.prog X.w)) (PairArg.tuple a _ _ _) (I.ok.hd hc) hroom ⟨⟨o', n, ho, hcl, hdn, hdat⟩, items⟩ hc2 hst (by rw [nps]; omega) fun h' tk hd hk => fin h' tk hd hk (by omega)
def rTupleF (K : PySem.W.Frag) : List V → Hp → VK → Prop := fun vs H Q => ∃ (p : Addr) (ys : List V), vs = [.ref p] ∧ SqL K H p ys ∧ ∀ (l : Addr) (o : Obj), o.dict = none → H l = none → Q (.ref l) (upd H l (.frz o (.tup ys)))
theorem cr_tupleF : CallR X (.type "tuple") (rTupleF X.K) := by
  intro pins s σ H vs us Q I r h
  obtain ⟨p, ys, rfl, hq, q⟩ := h
  obtain rfl := Vals.ref1 r
  obtain ⟨its, r', pl, hz⟩ := I.list hq
  have hlen := r'.length
  refine call_tuple_list pl.isList (fun h' kp => ?_) (by simp only [List.size_toArray]; omega)
  have I1 : Inv X pins σ H { s with heap := h' } := I.kept (t' := s.toks) kp
  have hget : (h'.push { cls := .type "tuple", data := .seq its.toArray }).get? h'.objs.size = some { cls := .type "tuple", data := .seq its.toArray } := Heap.get?_push_size _ rfl
  exact ⟨.ref h'.objs.size, _, I1.laid (t' := s.toks) (o := .frz { cls := .type "tuple", data := .seq its.toArray } (.tup ys)) (fun b o e => Heap.get?_push_of_some _ e) (Nat.le_refl _) ⟨hget, hz, its, r', _, hget, rfl, 0, rfl⟩, rfl, q _ _ rfl (I1.hok.fresh (Nat.le_refl _))⟩
end
end KG
set_option Elab.async false
set_option linter.all false
set_option maxRecDepth 100000
set_option maxHeartbeats 4000000
namespace KH
open PySem PySem.Spec PyProof.Rows PySem.Calls L2 KB GxR
def EltI (prog : Program) (w : World) (scope : Scope) (x : Str) (elt : Expr) (pb : Int → Bool) : Prop :=
  ∀ (cenv : Env) (A' : Around) (E' : Value → Shared → Prop) (i : Int) (t : Tok) (s₂ : Shared) (m₂ : Str → Option Value), cenv.scope = scope → s₂.heap.Ns cenv.locals m₂ → m₂ x = some (.int i t) →
    wpAny (model prog w) A' (eval elt cenv) (fun y s₃ => y = .bool (pb i) ∧ Keeps s₂ s₃) E' s₂
theorem elt_gt {prog : Program} {w : World} {scope : Scope} {x : Str} {n : Int} {j : Nat} {p1 p2 p3 : Pos} (hk : scope.kind = .function) (hl : scope.names.lookup x = some .local) (hd : (x == ("__debug__" : Str)) = false := by decide) :
    EltI prog w scope x (.Compare (.Name x p1) [.Gt] [.Constant (.int n) j p2] p3) (fun i => decide (n < i)) := by
  intro cenv A' E' i t s₂ m₂ hs hn hm
  refine wpAny_Compare1 ?_
  refine wpAny_Name (wpAny_loadName_local (by rw [hs]; exact hk) (show cenv.scope.names.lookup x = some .local by rw [hs]; exact hl) hn hm ?_) hd
  refine wpAny_Constant_int ?_
  exact PyProof.Rows.gt_int ⟨rfl, keeps_tok _ _⟩
def intP (pb : Int → Bool) : Value → Bool
  | .int i _ => pb i
  | _ => false
def vP (pb : Int → Bool) : V → Bool
  | .int i => pb i
  | _ => false
def trE (pb : Int → Bool) (es : Array DictEntry) (j : Nat) : Bool := match es[j]? with
  | some e => intP pb e.val
  | none => false
theorem all_trE (pb : Int → Bool) (es : Array DictEntry) : (List.range es.size).all (trE pb es) = es.toList.all fun e => intP pb e.val := by
  rw [Bool.eq_iff_iff, List.all_eq_true, List.all_eq_true]
  constructor
  · intro h e he
    obtain ⟨j, hj, hx⟩ := List.getElem_of_mem he
    have hj' : j < es.size := by rw [← Array.length_toList]; exact hj
    have q := h j (List.mem_range.mpr hj')
    unfold trE at q
    rw [Array.getElem?_eq_getElem hj'] at q
    rw [Array.getElem_toList] at hx
    rw [← hx]
    exact q
  · intro h j hj
    have hj' := List.mem_range.mp hj
    unfold trE
    rw [Array.getElem?_eq_getElem hj']
    exact h _ (Array.mem_toList_iff.mpr (Array.getElem_mem hj'))
theorem all_kt (pb : Int → Bool) {H : Hp} : ∀ {kvs : List (List Key × V)} {xs : List (List Key × Addr × Value)}, KT H kvs xs → (xs.all fun x => intP pb x.2.2) = kvs.all fun p => vP pb p.2
  | _, _, .nil => rfl
  | _, _, .cons (a := p) (b := x) h t => by
    rw [List.all_cons, List.all_cons, all_kt pb t]
    obtain ⟨_, _, rv⟩ := h
    have e : intP pb x.2.2 = vP pb p.2 := by
      cases hp : p.2 with
      | int i =>
        rw [hp] at rv
        obtain ⟨t, e⟩ := rv
        rw [e]
        rfl
      | non => rw [hp] at rv; rw [show x.2.2 = Value.none from rv]; rfl
      | bl b => rw [hp] at rv; rw [show x.2.2 = Value.bool b from rv]; rfl
      | str z => rw [hp] at rv; obtain ⟨t, e⟩ := rv; rw [e]; rfl
      | byt z => rw [hp] at rv; obtain ⟨t, e⟩ := rv; rw [e]; rfl
      | flt z => rw [hp] at rv; obtain ⟨t, e⟩ := rv; rw [e]; rfl
      | ref a => rw [hp] at rv; rw [show x.2.2 = Value.ref a from rv]; rfl
      | ty n => rw [hp] at rv; rw [show x.2.2 = Value.type n from rv]; rfl
    rw [e]
theorem nat1 {a b c : Nat} (h : a < b) (e : c = b + 1) (q : a = c) : False := by omega
theorem nat2 {a b c : Nat} (h : a < b) (e : b ≤ c) (q : a = c) : False := by omega
section
variable {X : Cx} {pins : List (Addr × Obj)} {σ : L2.St} {H : Hp} {s : Shared}
def ReadyI (X : Cx) (pins : List (Addr × Obj)) (σ : L2.St) (H1 : Hp) (P : Addr) (es : Array DictEntry) (pb : Int → Bool) (g : Addr) (s5 : Shared) : Prop :=
  ∃ (fp wr : List Addr) (G : Array GenState → Array GenState → Prop) (F : Nat → Value → Prop) (St : Nat → Shared → Prop),
    WalksS X.prog X.w X.A.in1 g fp wr G es.size F St ∧ St 0 s5 ∧ TruthOf X.prog X.w X.A.in1 F (trE pb es) ∧ ∀ s', Moved wr G s5 s' → ∃ H2, Tabbed P H1 H2 ∧ Inv X pins σ H2 s'
theorem gen_vals {c P : Addr} {elt e : Expr} {x : Str} {px gpos apos cpos : Pos} {scope : Scope} {pb : Int → Bool} {te : TE} {k : Nat} {Q' : Value → Shared → Prop} {R : List (List Key × V) → Hp → Prop}
    (hr : Room k X.A) (TB : TabB X.base X.mg c P) (hcode : X.env.code = .ref c) (S : GenS X.env scope x) (hi : PE X e te) (hel : EltI X.prog X.w scope x elt pb)
    (hbase : attributeBase e "values" X.env (eval e X.env) = eval e X.env) (hline : (apos.endLine == cpos.line) = true)
    (hs : ∀ v, genFold (.Call (.Attribute e "values" apos) [] [] cpos) X.env v = pure v) (I : Inv X pins σ H s) (h : te σ H fun v H1 => ∃ (d : Addr) (kvs : List (List Key × V)), v = .ref d ∧ H1 d = some (.dT kvs) ∧ IntVals kvs ∧ TabG H1 P ∧ R kvs H1)
    (hQ : ∀ kvs H1 es g s5, R kvs H1 → (es.toList.all fun e => intP pb e.val) = (kvs.all fun p => vP pb p.2) → ReadyI X pins σ H1 P es pb g s5 → Q' (.ref g) s5) :
    wpAny (model X.prog X.w) X.A (eval (.GeneratorExp elt [⟨.Name x px, .Call (.Attribute e "values" apos) [] [] cpos, [], 0⟩] scope gpos) X.env) Q' X.xe s := by
  refine wpAny_GeneratorExp_walksQ hr.hd S.co (closure_ok S.free) S.cell S.dot S.loc S.kind (by have := hr.dp; omega) ?_ hs
  refine wpAny_Call_method (T := "dict") (id := "dict.values") hbase rfl hline F.plainAttrs_dict F.slot_dict_values F.type_dict_values (thn (hi.run pins s σ H _ I h) fun u s1 ⟨v, H1, I1, r1, d, kvs, ev, hd, hiv, ⟨ps, hP, ht⟩, q1⟩ => ?_)
  subst ev
  obtain rfl : u = Value.ref d := r1
  obtain ⟨z, hm0, xs, rel, o, es, ep, ho, hx, hdat, hes, his, hn⟩ := dt_of I1.hok hd
  have raw : s1.heap.DictRaw d es ep := ⟨o, ho, hx, hdat⟩
  refine ⟨raw.typeIs, fun a e => by cases e; exact ⟨o, ho, hx.2.1⟩, ?_⟩
  show wpAny _ _ (callWith cpos (.builtin "dict.values") [.ref d] [] []) _ X.xe s1
  refine method_meetsIn F.slot_dict_values F.entry_dict_values rfl (PySem.evalArgs_none ⟨rfl, raw.typeIs, F.args_dict_values_1 _, _, meets_dict_values_raw d hm0, ⟨es, ep, raw⟩, ?_⟩)
  refine wpAny_pyIter_values_raw ⟨_, Heap.get?_push_size _ rfl, rfl, rfl⟩ (raw.at fun o e => Heap.get?_push_of_some _ e) ?_
  generalize hva : s1.heap.push { cls := .type "dict_values", data := .fields #[.ref d] } = hv
  have kv : ∀ b u, s1.heap.get? b = some u → hv.get? b = some u := fun b u e => by rw [← hva]; exact Heap.get?_push_of_some _ e
  have zv : hv.objs.size = s1.heap.objs.size + 1 := by rw [← hva, Heap.size_push]
  show _ ∧ _
  generalize hio : ({ cls := .type "dict_valueiterator", data := .fields #[.ref d, .int 0 0, .int es.size 0, .int ep 0] } : Obj) = io
  have k2 : ∀ b u, s1.heap.get? b = some u → (hv.push io).get? b = some u := fun b u e => Heap.get?_push_of_some _ (kv b u e)
  have hPs : s1.heap.get? P = some { cls := .none, data := .fields ps } := I1.hok P _ hP
  have hPlt : P < s1.heap.objs.size := Heap.lt_size hPs
  have hdlt : d < s1.heap.objs.size := Heap.lt_size ho
  have hP2 : (hv.push io).get? P = some { cls := .none, data := .fields ps } := k2 _ _ hPs
  have cd : PySem.W.CodeHd (hv.push io) c P := TB.code.keeps fun b u e => k2 b u (I1.bk b u e)
  have lim2 : (hv.push io).NoLimit := I1.nolimit.keeps k2
  have hst : (hv.push io).IsValIter hv.objs.size d 0 es.size ep ∧ (hv.push io).DictRaw d es ep := ⟨⟨_, Heap.get?_push_size _ (by rw [← hio]; rfl), by rw [← hio], by rw [← hio]; rfl⟩, raw.at fun o e => k2 _ _ e⟩
  have W : ∀ A' : Around, A'.handled = none → Walks X.prog X.w A' hv.objs.size [hv.objs.size, d] [hv.objs.size] es.size (fun i v => ∃ hi : i < es.size, v = es[i].val) (fun i h => h.IsValIter hv.objs.size d i es.size ep ∧ h.DictRaw d es ep) :=
    fun A' hA => Walks.rawValues hA _ d (by rw [zv]; exact Nat.ne_of_lt (Nat.lt_succ_of_lt hdlt)) es ep
  have vints : ∀ (i : Nat) (hi : i < es.size), ∃ n t, es[i].val = Value.int n t := fun i hi => by
    have hi' : i < xs.length := by rw [← size_of_entries hes]; exact hi
    have e1 := entry_at hes i
    rw [Array.getElem?_eq_getElem hi, List.getElem?_eq_getElem hi'] at e1
    have e2 := Option.some.inj e1
    obtain ⟨n, t, e3⟩ := kt_int rel hiv xs[i] (List.getElem_mem hi')
    exact ⟨n, t, by rw [e2]; exact e3⟩
  have hall : (es.toList.all fun e => intP pb e.val) = kvs.all fun p => vP pb p.2 := by
    rw [hes, List.all_map, ← all_kt pb rel]
    rfl
  have cont : ∀ (code : Value) (h3 : Heap) (tk : Nat) (ps' : Array Value), Heap.ExtBut P (hv.push io) h3 → (hv.push io).objs.size ≤ h3.objs.size → h3.get? P = some { cls := .none, data := .fields ps' } → (∃ more, ps' = ps ++ more) → TriplesOk ps'.toList →
      wpAny (model X.prog X.w) X.A (builtinsFor X.env.globals X.env.builtins) (fun bi s₄ =>
        ∃ Ia fp wr n₀ Pf St₀ pz F, Value.ref hv.objs.size = .ref Ia ∧ (∀ A' : Around, A'.handled = none → Walks X.prog X.w A' Ia fp wr n₀ Pf St₀) ∧ St₀ 0 s₄.heap ∧ (∀ b ∈ fp, b < s₄.heap.objs.size) ∧ s₄.heap.NoLimit ∧ cStatics ∉ wr ∧
          (∀ href : Heap, (∀ b o, s₄.heap.get? b = some o → href.get? b = some o) →
            QuietGen X.prog X.w (genEnv scope (cloFrom X.env.cells scope.names []) s₄.heap.objs.size code bi X.env) x [] elt (List.range s₄.heap.objs.size) wr Pf pz F href) ∧
          (∀ a h₅ tk gs, gs.bare = true → s₄.heap.objs.size < a → h₅.objs.size = a + 1 → (∀ b o, s₄.heap.get? b = some o → h₅.get? b = some o) →
            WalksS X.prog X.w X.A.in4 a (a :: s₄.heap.objs.size :: List.range s₄.heap.objs.size) (s₄.heap.objs.size :: wr) (GenOnlyQ s₄.gens.size) (passing pz n₀ 0).length
              (fun j y => ∃ i, (passing pz n₀ 0)[j]? = some i ∧ F i y) (GenAt X.prog X.w X.A.in4 a s₄.gens.size s₄.heap.objs.size (List.range s₄.heap.objs.size) wr pz n₀ F) →
            GenAt X.prog X.w X.A.in4 a s₄.gens.size s₄.heap.objs.size (List.range s₄.heap.objs.size) wr pz n₀ F 0 { s₄ with gens := s₄.gens.push gs, toks := tk, heap := h₅ } →
            Q' (.ref a) { s₄ with gens := s₄.gens.push gs, toks := tk, heap := h₅ })) X.xe { s1 with heap := h3, toks := tk } := by
    intro code h3 tk ps' hx3 hsz hP3 hmore ht3
    obtain ⟨bm, ob, e1, e2, e3, e4, e5, e6, e7, e8⟩ := TB.bm
    have hcP : cStatics ≠ P := fun e => by
      obtain ⟨_, hns, _⟩ := I1.nolimit
      obtain ⟨o', es', ep', ho', hd', _⟩ := hns
      rw [e, hPs] at ho'
      cases ho'
      cases hd'
    have hcl : cStatics < s1.heap.objs.size := let ⟨_, hns, _⟩ := I1.nolimit; hns.lt
    have sz2 : (hv.push io).objs.size = s1.heap.objs.size + 2 := by rw [Heap.size_push, zv]
    have keep3 : ∀ b u, b ≠ P → s1.heap.get? b = some u → h3.get? b = some u := fun b u hb e => hx3 b u hb (k2 b u e)
    refine wpAny_builtinsFor (m := X.mg) (by rw [I1.ok.glob]; exact (((I1.mod.glob.keeps I1.bk).keeps k2)).extBut hx3 TB.gP) e1 e2 (keep3 _ _ e4 (I1.bk _ _ e5)) e6 e7 e8 ?_
    refine ⟨hv.objs.size, [hv.objs.size, d], [hv.objs.size], es.size, _, _, (fun _ => true), (fun i y => ∃ hi : i < es.size, y = .bool (intP pb es[i].val)), rfl, W, ?_, ?_, lim2.extBut hx3 hcP, ?_, ?_, ?_⟩
    · refine (W X.A hr.hd).frame _ _ _ hst fun b hb u e => hx3 b u (fun z => ?_) e
      rcases List.mem_cons.mp hb with z2 | z2
      · exact (nat1 hPlt zv (z.symm.trans z2)).elim
      · rcases List.mem_cons.mp z2 with z2 | z2
        · rw [z.symm.trans z2, ho] at hPs
          cases hPs
          cases hdat
        · cases z2
    · intro b hb
      rcases List.mem_cons.mp hb with z | z
      · rw [z]
        show hv.objs.size < h3.objs.size
        omega
      · rcases List.mem_cons.mp z with z | z
        · rw [z]
          exact Nat.lt_of_lt_of_le hdlt (show s1.heap.objs.size ≤ h3.objs.size by omega)
        · cases z
    · intro z
      rcases List.mem_cons.mp z with z | z
      · exact (nat1 hcl zv z).elim
      · cases z
    · intro href hhref
      refine ⟨fun A' E' i v s₂ m₂ hA hPv hn hm hk => ?_, fun A' E' i v s₂ m₂ hA hPv hp hn hm hk => ?_⟩
      · simp only [List.forIn_nil]
        exact wpAny_pure ⟨rfl, keeps_refl _⟩
      · obtain ⟨hi', rfl⟩ := hPv
        obtain ⟨n, t, e⟩ := vints i hi'
        rw [e] at hm
        exact wpAny_mono (hel _ A' E' n t s₂ m₂ rfl hn hm) (fun y s3 r => ⟨⟨hi', by rw [r.1, e]; rfl⟩, r.2⟩) fun _ _ e => e
    · intro g h5 tk5 gs hgb hag hsz5 hk5 W5 hat
      simp only [GxR.passing_true, List.length_range] at W5
      refine hQ kvs H1 es g _ q1 hall ⟨_, _, _, _, _, W5.in4_1, hat, ?_, fun s' hmv => ?_⟩
      · intro j y sj Qj Ej hy hQj
        obtain ⟨i, hij, hi', rfl⟩ := hy
        obtain ⟨hj, ej⟩ := List.getElem?_eq_some_iff.mp hij
        rw [List.getElem_range] at ej
        subst ej
        have hQ2 : Qj (trE pb es j) sj := hQj
        unfold trE at hQ2
        rw [Array.getElem?_eq_getElem hi'] at hQ2
        exact wpAny_truthy_bool hQ2
      · obtain ⟨more, em⟩ := hmore
        have nwr : ∀ b u, s1.heap.get? b = some u → b ∉ h3.objs.size :: [hv.objs.size] := fun b u e hb => by
          have hl := Heap.lt_size e
          rcases List.mem_cons.mp hb with z | z
          · exact (nat2 hl (by omega) z).elim
          · rcases List.mem_cons.mp z with z | z
            · exact (nat1 hl zv z).elim
            · cases z
        have J := inv_tab (more := more) (h' := s'.heap) (g' := s'.gens) (d' := s'.drawn) (t' := s'.toks) I1 hP (fun b u hb e => hmv.heap b u (nwr b u e) (hk5 b u (keep3 b u hb e)))
          (by rw [← em]; exact hmv.heap P _ (nwr P _ hPs) (hk5 P _ hP3)) (AllBare.movedS (I1.bare.push hgb) hmv)
        rw [sh_eta s1 s' hmv.os] at J
        exact ⟨upd H1 P (.tbl (ps ++ more)), ⟨⟨ps ++ more, upd_same, by rw [← em]; exact ht3⟩, fun b hb => upd_ne hb⟩, J⟩
  refine ⟨lim2, ?_⟩
  cases hf : codeAmong gpos ps.toList with
  | none =>
    refine wpAny_genexprCodeX hcode (cd.code hP2 ht) (cd.tab hP2) hf fun c' h' tk hx3 hge hlt hco' _ htab' _ => ?_
    obtain ⟨o1, vs, f1, tf, fl, tg, inF, tx, tt, op, _, _, _, _, _, _, _, _, _, htr, _⟩ := hco'
    exact cont _ h' tk _ hx3 (Nat.le_trans hge (Nat.le_of_lt hlt)) htab'.2 ⟨_, rfl⟩ htr
  | some cv =>
    refine wpAny_genexprCode_hit hcode (cd.code hP2 ht) hf ?_
    exact cont cv (hv.push io) s1.toks ps (Heap.ExtBut.refl _ _) (Nat.le_refl _) hP2 ⟨#[], by simp⟩ ht
def tAllV (P : Addr) (pb : Int → Bool) (te : TE) : TE := fun σ H Q => te σ H fun v H1 => ∃ (d : Addr) (kvs : List (List Key × V)), v = .ref d ∧ H1 d = some (.dT kvs) ∧ IntVals kvs ∧ TabG H1 P ∧ ∀ H2, Tabbed P H1 H2 → Q (.bl (kvs.all fun p => vP pb p.2)) H2
theorem pe_allV {c P : Addr} {elt e : Expr} {x : Str} {px p pos gpos apos cpos : Pos} {scope : Scope} {pb : Int → Bool} {te : TE} {k : Nat}
    (hr : Room k X.A) (hg : Gl X "all") (hm : X.mg "all" = none) (TB : TabB X.base X.mg c P) (hcode : X.env.code = .ref c) (S : GenS X.env scope x) (hi : PE X e te) (hel : EltI X.prog X.w scope x elt pb)
    (hbase : attributeBase e "values" X.env (eval e X.env) = eval e X.env := by rfl) (hline : (apos.endLine == cpos.line) = true := by rfl)
    (hs : ∀ v, genFold (.Call (.Attribute e "values" apos) [] [] cpos) X.env v = pure v := by intro _; rfl)
    (he : starEach [.GeneratorExp elt [⟨.Name x px, .Call (.Attribute e "values" apos) [] [] cpos, [], 0⟩] scope gpos] X.env = (false, eval (.GeneratorExp elt [⟨.Name x px, .Call (.Attribute e "values" apos) [] [] cpos, [], 0⟩] scope gpos) X.env) :: starEach [] X.env := by rfl) :
    PE X (.Call (.Name "all" p) [.GeneratorExp elt [⟨.Name x px, .Call (.Attribute e "values" apos) [] [] cpos, [], 0⟩] scope gpos] [] pos) (tAllV P pb te) := by
  refine ⟨fun pins s σ H Q I h => ?_⟩
  refine wpAny_Call_Name_kw (ld_blt I hg hm boot_all ?_)
  refine PyProof.Rows.callWith_builtin1 ?_ he (by rfl)
  rw [he]
  show wpAny _ _ (spliced ((false, eval (.GeneratorExp elt [⟨.Name x px, .Call (.Attribute e "values" apos) [] [] cpos, [], 0⟩] scope gpos) X.env) :: backTo pos (starEach [] X.env))) _ _ s
  refine Calls.spliced_cons (gen_vals (R := fun kvs H1 => ∀ H2, Tabbed P H1 H2 → Q (.bl (kvs.all fun p => vP pb p.2)) H2) hr TB hcode S hi hel hbase hline hs I h fun kvs H1 es g s5 hR hal hG => ?_)
  obtain ⟨fp, wr, G, F, St, W, hst, htr, hI⟩ := hG
  refine Calls.spliced_nil ?_
  refine call_all_walkS (W.self 0 _ _ _ hst ⟨g, fp, wr, G, _, F, St, _, rfl, W, hst, htr, fun s' hmv => ?_⟩)
  obtain ⟨H2, hT, J⟩ := hI s' hmv
  refine ⟨.bl _, H2, J, rfl, ?_⟩
  rw [all_trE pb es, hal]
  exact hR H2 hT
end
end KH
set_option Elab.async false
set_option linter.all false
set_option maxRecDepth 100000
namespace KS
open PySem PySem.Spec PyProof.Rows L2
open PySem.W (Frag)
section
variable {X : Cx} {o i : Expr} {td ty : TE} {pos tpos : Pos}
def sDDelT (td ty : TE) : TS := fun D σ H => td σ H fun x H1 => ty σ H1 fun y H2 => ∃ a kvs k b, x = .ref a ∧ y = .ref b ∧ H2 a = some (.dT kvs) ∧ H2 b = some (.tup (k.map kV)) ∧ (valV kvs k).isSome = true ∧ D.nx σ (upd H2 a (.dT (dropK kvs k)))
theorem ps_ddelT (hu : X.A.units + 1 < cLine) (ho : PE X o td) (hi : PE X i ty) : PS X (.Delete [.Subscript o i tpos] pos) (sDDelT td ty) := by
  refine ⟨fun pins s σ H D I h => ?_⟩
  refine wpAny_Delete (wpAny_deleteEach_cons (wpAny_delete_Subscript (thn (ho.run pins s σ H _ I h) fun u s1 ⟨x, H1, I1, rx, q1⟩ => thn (hi.run pins s1 σ H1 _ I1 q1) fun iv s2 ⟨y, H2, I2, ry, a, kvs, k, b, ex, ey, ha, hb, l, q2⟩ => ?_)))
  subst ex ey
  obtain rfl : u = Value.ref a := rx
  obtain rfl : iv = Value.ref b := ry
  obtain ⟨z, hd, xs', rel, dd⟩ := dt_of I2.hok ha
  have hz : xs'.length ≤ sizeLine := by rw [← Paired.length rel]; exact z
  have r := rel.val k
  have hp : ∃ p, PySem.atKey xs' k = some p := by
    cases e : PySem.atKey xs' k with
    | some p => exact ⟨p, rfl⟩
    | none =>
      rw [e] at r
      cases e2 : valV kvs k with
      | none => rw [e2] at l; cases l
      | some v => rw [e2] at r; exact (show False from r).elim
  obtain ⟨p, hp⟩ := hp
  refine wpAny_delItem_heap (knd := tupleKind (mixKind X.prog X.w)) (k := k) (tupleKind_room_in1 hu) (key_of I2.hok hb) hd dd hp (fun h' dd' hs => ?_) hz
  obtain ⟨o, es, ep, hq, h2, h3, h4, _, h5⟩ := dd'
  have I3 : Inv X _ σ (upd H2 a (.dT (dropK kvs k))) { s2 with heap := h', toks := s2.toks + (tupleKind (mixKind X.prog X.w)).draws k } :=
    d_write I2 (by rw [ha]; exact True.intro) hs ⟨o, hq⟩ ⟨Nat.le_trans (dropK_le kvs k) z, hd, _, (L2.DX.KT_drop k rel).keeps (fun c ys ec => (by rw [upd_ne (ne_of ec ha (fun z => nomatch z))]; exact ec)), o, es, ep, hq, h2, h3, h4, h5⟩
  exact wpAny_deleteEach_nil ⟨σ, _, I3, q2⟩
end
end KS
set_option Elab.async false
set_option linter.all false
set_option maxRecDepth 100000
namespace KM
open PySem PySem.Spec PyProof.Rows L2 KB KC
abbrev Row := List Key
abbrev W := List (Row × Int)
def iv (ws : W) : List (List Key × V) := ws.map fun p => (p.1, V.int p.2)
def look (ws : W) (k : Row) : Option Int := (ws.find? fun p => decide (p.1 = k)).map (·.2)
def putI (ws : W) (k : Row) (n : Int) : W := if (ws.any fun p => decide (p.1 = k)) = true then ws.map (fun p => if p.1 = k then (p.1, n) else p) else ws ++ [(k, n)]
def dropI (ws : W) (k : Row) : W := ws.filter fun p => decide (p.1 ≠ k)
theorem iv_len (ws : W) : (iv ws).length = ws.length := List.length_map ..
theorem valV_iv (ws : W) (k : Row) : valV (iv ws) k = (look ws k).map V.int := by
  unfold valV iv look
  rw [List.find?_map]
  cases e : ws.find? ((fun kv : Row × V => decide (kv.1 = k)) ∘ fun p : Row × Int => (p.1, V.int p.2)) with
  | none =>
    have e2 : ws.find? (fun p => decide (p.1 = k)) = none := e
    rw [e2]; rfl
  | some p =>
    have e2 : ws.find? (fun p => decide (p.1 = k)) = some p := e
    rw [e2]; rfl
theorem putK_iv (ws : W) (k : Row) (n : Int) : putK (iv ws) k (.int n) = iv (putI ws k n) := by
  unfold putK putI iv
  rw [List.any_map]
  have e : (ws.any ((fun kv : Row × V => decide (kv.1 = k)) ∘ fun p : Row × Int => (p.1, V.int p.2))) = ws.any fun p => decide (p.1 = k) := rfl
  rw [e]
  split
  · rw [List.map_map, List.map_map]
    refine List.map_congr_left fun p _ => ?_
    show (if p.1 = k then (p.1, V.int n) else (p.1, V.int p.2)) = _
    simp only [Function.comp]
    split <;> rfl
  · rw [List.map_append]; rfl
theorem dropK_iv (ws : W) (k : Row) : dropK (iv ws) k = iv (dropI ws k) := by
  unfold dropK dropI iv
  rw [List.filter_map]
  rfl
theorem intVals_iv (ws : W) : IntVals (iv ws) := fun p hp => by
  obtain ⟨q, _, rfl⟩ := List.mem_map.mp hp
  exact ⟨_, rfl⟩
def Nd (ws : W) : Prop := (ws.map (·.1)).Nodup
theorem nd_nil : Nd [] := List.nodup_nil
theorem nd_cons {p : Row × Int} {r : W} : Nd (p :: r) ↔ (∀ n, (p.1, n) ∉ r) ∧ Nd r := by
  unfold Nd
  rw [List.map_cons, List.nodup_cons]
  constructor
  · rintro ⟨a, b⟩
    exact ⟨fun n h => a (List.mem_map.mpr ⟨_, h, rfl⟩), b⟩
  · rintro ⟨a, b⟩
    refine ⟨fun h => ?_, b⟩
    obtain ⟨q, hq, e⟩ := List.mem_map.mp h
    exact a q.2 (by rw [← e]; exact hq)
theorem look_mem {ws : W} (nd : Nd ws) {k : Row} {n : Int} : look ws k = some n ↔ (k, n) ∈ ws := by
  induction ws with
  | nil => simp [look]
  | cons p r ih =>
    obtain ⟨h1, h2⟩ := nd_cons.mp nd
    unfold look at ih ⊢
    rw [List.find?_cons]
    by_cases e : p.1 = k
    · simp only [e, decide_true, Option.map_some, Option.some.injEq, List.mem_cons]
      constructor
      · intro q; exact .inl (by rw [← e, ← q])
      · rintro (q | q)
        · rw [← q]
        · exact absurd q (by rw [← e]; exact h1 n)
    · simp only [e, decide_false, List.mem_cons, ih h2]
      constructor
      · exact .inr
      · rintro (q | q)
        · exact absurd (by rw [← q]) e
        · exact q
theorem look_none {ws : W} {k : Row} : look ws k = none ↔ ∀ n, (k, n) ∉ ws := by
  unfold look
  rw [Option.map_eq_none_iff, List.find?_eq_none]
  constructor
  · intro h n hn
    exact h _ hn (by simp)
  · intro h p hp e
    have e2 : p.1 = k := by simpa using e
    exact h p.2 (by rw [← e2]; exact hp)
theorem any_look (ws : W) (k : Row) : (ws.any fun p => decide (p.1 = k)) = (look ws k).isSome := by
  cases e : look ws k with
  | none =>
    rw [look_none] at e
    rw [List.any_eq_false.mpr]
    · rfl
    · intro p hp q
      have e2 : p.1 = k := by simpa using q
      exact e p.2 (by rw [← e2]; exact hp)
  | some n =>
    unfold look at e
    obtain ⟨p, hp, _⟩ := Option.map_eq_some_iff.mp e
    have h1 := List.mem_of_find?_eq_some hp
    have h2 := List.find?_some hp
    rw [List.any_eq_true.mpr ⟨p, h1, h2⟩]
    rfl
theorem keys_putI (ws : W) (k : Row) (n : Int) : (putI ws k n).map (·.1) = if (look ws k).isSome = true then ws.map (·.1) else ws.map (·.1) ++ [k] := by
  unfold putI
  rw [any_look]
  split
  · rw [List.map_map]
    refine List.map_congr_left fun p _ => ?_
    simp only [Function.comp]
    split <;> rfl
  · rw [List.map_append]; rfl
theorem nd_put {ws : W} (nd : Nd ws) (k : Row) (n : Int) : Nd (putI ws k n) := by
  unfold Nd
  rw [keys_putI]
  split
  · exact nd
  · rename_i h
    rw [List.nodup_append]
    refine ⟨nd, List.nodup_cons.mpr ⟨List.not_mem_nil, List.nodup_nil⟩, fun a ha b hb e => h ?_⟩
    rw [List.mem_singleton] at hb
    obtain ⟨q, hq, e2⟩ := List.mem_map.mp ha
    have h3 : look ws k ≠ none := fun z => look_none.mp z q.2 (by rw [← hb, ← e, ← e2]; exact hq)
    cases z : look ws k with
    | none => exact absurd z h3
    | some m => rfl
theorem mem_put {ws : W} {k j : Row} {n m : Int} : (j, m) ∈ putI ws k n ↔ if j = k then m = n else (j, m) ∈ ws := by
  unfold putI
  rw [any_look]
  split
  · rename_i h
    rw [List.mem_map]
    constructor
    · rintro ⟨p, hp, e⟩
      by_cases c : p.1 = k
      · rw [if_pos c] at e
        cases e
        rw [if_pos c]
      · rw [if_neg c] at e
        subst e
        rw [if_neg c]
        exact hp
    · intro q
      by_cases c : j = k
      · rw [if_pos c] at q
        subst c q
        have h2 : ∃ x, look ws j = some x := Option.isSome_iff_exists.mp h
        have h3 : ¬ ∀ x, (j, x) ∉ ws := fun z => by rw [look_none.mpr z] at h; cases h
        obtain ⟨x, hx⟩ := Classical.not_forall.mp h3
        exact ⟨(j, x), Classical.not_not.mp hx, by rw [if_pos rfl]⟩
      · rw [if_neg c] at q
        exact ⟨_, q, by rw [if_neg c]⟩
  · rename_i h
    rw [List.mem_append, List.mem_singleton]
    have h2 : ∀ x, (k, x) ∉ ws := look_none.mp (by cases z : look ws k with | none => rfl | some x => rw [z] at h; exact absurd rfl h)
    constructor
    · rintro (q | q)
      · rw [if_neg (fun e => h2 m (by rw [← e]; exact q))]
        exact q
      · cases q
        rw [if_pos rfl]
    · intro q
      by_cases c : j = k
      · rw [if_pos c] at q
        subst c q
        exact .inr rfl
      · rw [if_neg c] at q
        exact .inl q
theorem nd_filter {ws : W} (nd : Nd ws) (p : Row × Int → Bool) : Nd (ws.filter p) := by
  induction ws with
  | nil => exact nd
  | cons x r ih =>
    obtain ⟨h1, h2⟩ := nd_cons.mp nd
    rw [List.filter_cons]
    split
    · exact nd_cons.mpr ⟨fun n h => h1 n (List.mem_filter.mp h).1, ih h2⟩
    · exact ih h2
def Rep (ws : W) (f : Row → Int) : Prop := Nd ws ∧ ∀ k n, (k, n) ∈ ws ↔ (f k = n ∧ n ≠ 0)
theorem rep_look {ws : W} {f : Row → Int} (r : Rep ws f) (k : Row) : look ws k = if f k = 0 then none else some (f k) := by
  split
  · rename_i h
    exact look_none.mpr fun n hn => by
      obtain ⟨a, b⟩ := (r.2 k n).mp hn
      omega
  · rename_i h
    exact (look_mem r.1).mpr ((r.2 _ _).mpr ⟨rfl, h⟩)
theorem rep_nil : Rep [] fun _ => 0 := ⟨nd_nil, fun k n => Iff.intro (fun h => nomatch h) (fun h => absurd h.1.symm h.2)⟩
theorem rep_getD {ws : W} {f : Row → Int} (r : Rep ws f) (k : Row) : (look ws k).getD 0 = f k := by
  rw [rep_look r]
  split
  · rename_i h; rw [h]; rfl
  · rfl
def addW (ws : W) (k : Row) (w : Int) : W :=
  if (look ws k).getD 0 + w ≠ 0 then putI ws k ((look ws k).getD 0 + w) else if (look ws k).isSome = true then dropI ws k else ws
theorem rep_add {ws : W} {f : Row → Int} (r : Rep ws f) (k : Row) (w : Int) : Rep (addW ws k w) fun j => if j = k then f j + w else f j := by
  unfold addW
  rw [rep_getD r]
  split
  · rename_i h
    refine ⟨nd_put r.1 _ _, fun j n => ?_⟩
    rw [mem_put]
    by_cases c : j = k
    · subst c
      simp only [if_true]
      constructor
      · rintro rfl; exact ⟨rfl, h⟩
      · rintro ⟨a, _⟩; exact a.symm
    · simp only [if_neg c]
      exact r.2 j n
  · rename_i h
    have h0 : f k + w = 0 := Classical.not_not.mp h
    have base : ∀ j n, j ≠ k → ((j, n) ∈ ws ↔ ((if j = k then f j + w else f j) = n ∧ n ≠ 0)) := fun j n c => by
      rw [if_neg c]; exact r.2 j n
    split
    · refine ⟨nd_filter r.1 _, fun j n => ?_⟩
      unfold dropI
      rw [List.mem_filter]
      by_cases c : j = k
      · subst c
        simp only [if_true, h0]
        constructor
        · rintro ⟨_, q⟩; simp at q
        · rintro ⟨a, b⟩; exact absurd a.symm b
      · rw [base j n c]
        simp [c]
    · rename_i h2
      refine ⟨r.1, fun j n => ?_⟩
      by_cases c : j = k
      · subst c
        simp only [if_true, h0]
        constructor
        · intro q
          rw [(look_mem r.1).mpr q] at h2
          exact absurd rfl h2
        · rintro ⟨a, b⟩; exact absurd a.symm b
      · exact base j n c
def tot : W → Row → Int
  | [], _ => 0
  | p :: r, j => (if j = p.1 then p.2 else 0) + tot r j
theorem tot_append (a b : W) (j : Row) : tot (a ++ b) j = tot a j + tot b j := by
  induction a with
  | nil => simp [tot]
  | cons p r ih => simp only [List.cons_append, tot, ih]; omega
def scale (ws : W) (n : Int) : W := ws.map fun p => (p.1, p.2 * n)
theorem tot_scale (a : W) (n : Int) (j : Row) : tot (scale a n) j = tot a j * n := by
  induction a with
  | nil => simp [tot, scale]
  | cons p r ih =>
    show (if j = p.1 then p.2 * n else 0) + tot (scale r n) j = ((if j = p.1 then p.2 else 0) + tot r j) * n
    rw [ih, Int.add_mul]
    split <;> simp
def neg (ws : W) : W := ws.map fun p => (p.1, -p.2)
theorem tot_neg (a : W) (j : Row) : tot (neg a) j = - tot a j := by
  induction a with
  | nil => simp [tot, neg]
  | cons p r ih =>
    show (if j = p.1 then -p.2 else 0) + tot (neg r) j = -((if j = p.1 then p.2 else 0) + tot r j)
    rw [ih]
    split <;> omega
def mk (rows : W) : W := rows.foldl (fun ws p => addW ws p.1 p.2) []
theorem rep_foldl : ∀ (rows : W) {ws : W} {f : Row → Int}, Rep ws f → Rep (rows.foldl (fun ws p => addW ws p.1 p.2) ws) fun j => f j + tot rows j
  | [], ws, f, r => by
    have e : (fun j => f j + tot [] j) = f := funext fun j => by simp [tot]
    rw [e]; exact r
  | p :: rows, ws, f, r => by
    have e : (fun j => f j + tot (p :: rows) j) = fun j => (if j = p.1 then f j + p.2 else f j) + tot rows j := funext fun j => by
      simp only [tot]
      split <;> omega
    rw [e]
    exact rep_foldl rows (rep_add r p.1 p.2)
theorem rep_mk (rows : W) : Rep (mk rows) (tot rows) := by
  have h := rep_foldl rows rep_nil
  have e : (fun j => 0 + tot rows j) = tot rows := funext fun j => by omega
  rw [e] at h
  exact h
theorem tot_mem {ws : W} (nd : Nd ws) : ∀ k n, (k, n) ∈ ws → tot ws k = n := by
  induction ws with
  | nil => intro k n h; nomatch h
  | cons p r ih =>
    obtain ⟨h1, h2⟩ := nd_cons.mp nd
    intro k n h
    have z : ∀ (r : W), (∀ n, (k, n) ∉ r) → tot r k = 0 := by
      intro r
      induction r with
      | nil => intro _; rfl
      | cons q t ih2 =>
        intro hq
        have e1 : ¬ k = q.1 := fun e => hq q.2 (by rw [e]; exact List.mem_cons_self ..)
        show (if k = q.1 then q.2 else 0) + tot t k = 0
        rw [if_neg e1, ih2 fun n hn => hq n (List.mem_cons_of_mem _ hn)]
        rfl
    rcases List.mem_cons.mp h with e | h
    · cases e
      show (if k = k then n else 0) + tot r k = n
      rw [if_pos rfl, z r h1]; omega
    · have e1 : ¬ k = p.1 := fun e => h1 n (by rw [← e]; exact h)
      show (if k = p.1 then p.2 else 0) + tot r k = n
      rw [if_neg e1, ih h2 k n h]; omega
theorem tot_not {k : Row} : ∀ {r : W}, (∀ n, (k, n) ∉ r) → tot r k = 0
  | [], _ => rfl
  | q :: t, hq => by
    have e1 : ¬ k = q.1 := fun e => hq q.2 (by rw [e]; exact List.mem_cons_self ..)
    show (if k = q.1 then q.2 else 0) + tot t k = 0
    rw [if_neg e1, tot_not fun n hn => hq n (List.mem_cons_of_mem _ hn)]
    rfl
theorem tot_rep {ws : W} {f : Row → Int} (r : Rep ws f) (k : Row) : tot ws k = f k := by
  by_cases h : f k = 0
  · rw [h]
    exact tot_not fun n hn => by
      obtain ⟨a, b⟩ := (r.2 k n).mp hn
      omega
  · exact tot_mem r.1 k (f k) ((r.2 _ _).mpr ⟨rfl, h⟩)
theorem rep_congr {ws : W} {f g : Row → Int} (r : Rep ws f) (e : ∀ k, f k = g k) : Rep ws g := by
  have : f = g := funext e
  rw [← this]; exact r
theorem sub_len : ∀ (a b : W), Nd a → (∀ p ∈ a, p ∈ b) → a.length ≤ b.length
  | [], b, _, _ => Nat.zero_le _
  | p :: r, b, nd, h => by
    obtain ⟨h1, h2⟩ := nd_cons.mp nd
    have hp : p ∈ b := h p (List.mem_cons_self ..)
    have l : (b.filter fun q => decide (q ≠ p)).length < b.length := List.length_filter_lt_length_iff_exists.mpr ⟨p, hp, by simp⟩
    have ih2 := sub_len r (b.filter fun q => decide (q ≠ p)) h2 fun q hq => List.mem_filter.mpr ⟨h q (List.mem_cons_of_mem _ hq), decide_eq_true fun e => h1 p.2 (by rw [e] at hq; exact hq)⟩
    rw [List.length_cons]
    omega
theorem rep_le {a b : W} {f : Row → Int} (ra : Rep a f) (rb : Rep b f) : a.length ≤ b.length :=
  sub_len a b ra.1 fun p hp => (rb.2 p.1 p.2).mpr ((ra.2 p.1 p.2).mp hp)
theorem rep_len {a b : W} {f : Row → Int} (ra : Rep a f) (rb : Rep b f) : a.length = b.length := Nat.le_antisymm (rep_le ra rb) (rep_le rb ra)
theorem eqT_rep {a b : W} {f g : Row → Int} (ra : Rep a f) (rb : Rep b g) : KB.eqT (iv a) (iv b) = true ↔ ∀ k, f k = g k := by
  unfold KB.eqT
  rw [Bool.and_eq_true, List.all_eq_true, iv_len, iv_len, beq_iff_eq]
  constructor
  · rintro ⟨hl, ha⟩
    have h1 : ∀ k n, (k, n) ∈ a → (k, n) ∈ b := fun k n hn => by
      have z := ha (k, .int n) (List.mem_map.mpr ⟨(k, n), hn, rfl⟩)
      have z2 : valV (iv b) k = some (V.int n) := by simpa using z
      rw [valV_iv] at z2
      obtain ⟨m, hm, e⟩ := Option.map_eq_some_iff.mp z2
      cases e
      exact (look_mem rb.1).mp hm
    have h2 : ∀ k n, (k, n) ∈ b → (k, n) ∈ a := by
      intro k n hn
      apply Classical.byContradiction
      intro na
      have l : (b.filter fun q => decide (q ≠ (k, n))).length < b.length := List.length_filter_lt_length_iff_exists.mpr ⟨_, hn, by simp⟩
      have l2 := sub_len a (b.filter fun q => decide (q ≠ (k, n))) ra.1 fun p hp => List.mem_filter.mpr ⟨h1 p.1 p.2 hp, decide_eq_true fun e => na (by rw [← e]; exact hp)⟩
      omega
    intro k
    by_cases c : f k = 0
    · by_cases d : g k = 0
      · rw [c, d]
      · have z := h2 k (g k) ((rb.2 _ _).mpr ⟨rfl, d⟩)
        exact ((ra.2 _ _).mp z).1
    · have z := h1 k (f k) ((ra.2 _ _).mpr ⟨rfl, c⟩)
      exact (((rb.2 _ _).mp z).1).symm
  · intro h
    have rb2 : Rep b f := rep_congr rb fun k => (h k).symm
    refine ⟨rep_len ra rb2, fun p hp => ?_⟩
    obtain ⟨q, hq, rfl⟩ := List.mem_map.mp hp
    refine decide_eq_true ?_
    rw [valV_iv, (look_mem rb.1).mpr ((rb2.2 q.1 q.2).mpr ((ra.2 q.1 q.2).mp hq))]
    rfl
def sumW (ws : W) (p : Row × Int) : W := putI ws p.1 ((look ws p.1).getD 0 + p.2)
def SRep (ws : W) (f : Row → Int) : Prop := Nd ws ∧ (∀ k n, (k, n) ∈ ws → n = f k) ∧ ∀ k, (∀ n, (k, n) ∉ ws) → f k = 0
theorem srep_getD {ws : W} {f : Row → Int} (r : SRep ws f) (k : Row) : (look ws k).getD 0 = f k := by
  cases e : look ws k with
  | none => exact (r.2.2 k (look_none.mp e)).symm
  | some n => exact r.2.1 k n ((look_mem r.1).mp e)
theorem srep_sum {ws : W} {f : Row → Int} (r : SRep ws f) (p : Row × Int) : SRep (sumW ws p) fun j => if j = p.1 then f j + p.2 else f j := by
  unfold sumW
  rw [srep_getD r]
  refine ⟨nd_put r.1 _ _, fun k n h => ?_, fun k h => ?_⟩
  · rw [mem_put] at h
    show n = if k = p.1 then f k + p.2 else f k
    by_cases c : k = p.1
    · rw [if_pos c] at h ⊢
      rw [h, c]
    · rw [if_neg c] at h ⊢
      exact r.2.1 k n h
  · show (if k = p.1 then f k + p.2 else f k) = 0
    by_cases c : k = p.1
    · exact absurd (mem_put.mpr (by rw [if_pos c])) (h (f p.1 + p.2))
    · rw [if_neg c]
      exact r.2.2 k fun n hn => h n (mem_put.mpr (by rw [if_neg c]; exact hn))
def sumAll (rows : W) : W := rows.foldl sumW []
theorem srep_foldl : ∀ (rows : W) {ws : W} {f : Row → Int}, SRep ws f → SRep (rows.foldl sumW ws) fun j => f j + tot rows j
  | [], ws, f, r => by
    have e : (fun j => f j + tot [] j) = f := funext fun j => by simp [tot]
    rw [e]; exact r
  | p :: rows, ws, f, r => by
    have e : (fun j => f j + tot (p :: rows) j) = fun j => (if j = p.1 then f j + p.2 else f j) + tot rows j := funext fun j => by
      simp only [tot]
      split <;> omega
    rw [e]
    exact srep_foldl rows (srep_sum r p)
theorem srep_all (rows : W) : SRep (sumAll rows) (tot rows) := by
  have h := srep_foldl rows (ws := []) (f := fun _ => 0) (show SRep [] (fun _ => 0) from And.intro nd_nil (And.intro (fun k n h => nomatch h) fun _ _ => rfl))
  have e : (fun j => 0 + tot rows j) = tot rows := funext fun j => by omega
  rw [e] at h
  exact h
def sums (rows : W) : W := (sumAll rows).filter fun p => decide (p.2 ≠ 0)
theorem rep_sums (rows : W) : Rep (sums rows) (tot rows) := by
  have s := srep_all rows
  refine ⟨nd_filter s.1 _, fun k n => ?_⟩
  unfold sums
  rw [List.mem_filter]
  constructor
  · rintro ⟨a, b⟩
    exact ⟨(s.2.1 k n a).symm, by simpa using b⟩
  · rintro ⟨a, b⟩
    refine ⟨?_, by simpa using b⟩
    have h : ¬ ∀ x, (k, x) ∉ sumAll rows := fun z => b (by rw [← a]; exact s.2.2 k z)
    obtain ⟨x, hx⟩ := Classical.not_forall.mp h
    have hx2 := Classical.not_not.mp hx
    rw [← a, ← s.2.1 k x hx2]
    exact hx2
theorem merge_nd : ∀ {more acc : W}, Nd (acc ++ more) → KG.mergeT (iv acc) (iv more) = iv (acc ++ more)
  | [], acc, _ => by rw [List.append_nil]; rfl
  | p :: r, acc, nd => by
    have e : acc ++ p :: r = (acc ++ [p]) ++ r := by simp
    have hn : ∀ n, (p.1, n) ∉ acc := fun n hn => by
      unfold Nd at nd
      rw [List.map_append, List.nodup_append] at nd
      exact nd.2.2 p.1 (List.mem_map.mpr ⟨_, hn, rfl⟩) p.1 (List.mem_map.mpr ⟨p, List.mem_cons_self .., rfl⟩) rfl
    have e2 : putK (iv acc) p.1 (.int p.2) = iv (acc ++ [p]) := by
      rw [putK_iv]
      unfold putI
      rw [any_look, look_none.mpr hn]
      rfl
    show KG.mergeT (putK (iv acc) p.1 (.int p.2)) (iv r) = _
    rw [e2, e]
    exact merge_nd (by rw [← e]; exact nd)
theorem merge_nil {ws : W} (nd : Nd ws) : KG.mergeT [] (iv ws) = iv ws := merge_nd (acc := []) nd
theorem rep_perm {a b : W} {f : Row → Int} (ra : Rep a f) (p : b.Perm a) : Rep b f :=
  ⟨(List.Perm.nodup_iff (p.map fun q : Row × Int => q.1)).mpr ra.1, fun k n => p.mem_iff.trans (ra.2 k n)⟩
end KM
set_option Elab.async false
set_option linter.all false
set_option maxRecDepth 100000
namespace KM
open PySem PySem.Spec PyProof.Rows L2 KB KC
def lessK : Key → Key → Bool
  | .inl a, .inl b => decide (a < b)
  | .inl _, .inr _ => true
  | .inr _, .inl _ => false
  | .inr s, .inr t => decide (s.cps.toList < t.cps.toList)
def bef : Row → Row → Bool
  | [], [] => false
  | [], _ :: _ => true
  | _ :: _, [] => false
  | x :: xs, y :: ys => if x = y then bef xs ys else lessK x y
theorem str_ext {s t : Str} (h : s.cps.toList = t.cps.toList) : s = t := by
  cases s; cases t
  congr
  exact Array.toList_inj.mp h
theorem lessK_irrefl (x : Key) : lessK x x = false := by
  cases x with
  | inl a => exact decide_eq_false (Int.lt_irrefl a)
  | inr s => exact decide_eq_false (List.lt_irrefl _)
theorem lessK_trans {x y z : Key} (a : lessK x y = true) (b : lessK y z = true) : lessK x z = true := by
  cases x <;> cases y <;> cases z <;> simp only [lessK, decide_eq_true_eq] at a b ⊢ <;> first | (exact List.lt_trans a b) | (cases a; done) | (cases b; done) | omega
theorem lessK_tri {x y : Key} (h : x ≠ y) (a : lessK x y = false) : lessK y x = true := by
  cases x with
  | inl i =>
    cases y with
    | inl j =>
      simp only [lessK, decide_eq_false_iff_not, decide_eq_true_eq] at a ⊢
      have e : i ≠ j := fun e => h (by rw [e])
      omega
    | inr t => exact absurd a (by simp [lessK])
  | inr s =>
    cases y with
    | inl j => rfl
    | inr t =>
      simp only [lessK, decide_eq_false_iff_not, decide_eq_true_eq] at a ⊢
      have e : s.cps.toList ≠ t.cps.toList := fun e => h (by rw [str_ext e])
      apply Classical.byContradiction
      intro q
      exact e (List.le_antisymm (List.not_lt.mp q) (List.not_lt.mp a))
theorem bef_irrefl : ∀ x : Row, bef x x = false
  | [] => rfl
  | x :: r => by
    show (if x = x then bef r r else lessK x x) = false
    rw [if_pos rfl]
    exact bef_irrefl r
theorem bef_tri : ∀ {x y : Row}, x ≠ y → bef x y = false → bef y x = true
  | [], [], h, _ => absurd rfl h
  | [], _ :: _, _, a => absurd a (by simp [bef])
  | _ :: _, [], _, _ => rfl
  | x :: xs, y :: ys, h, a => by
    simp only [bef] at a ⊢
    by_cases e : x = y
    · subst e
      rw [if_pos rfl] at a ⊢
      exact bef_tri (fun z => h (by rw [z])) a
    · rw [if_neg e] at a
      rw [if_neg (fun z => e z.symm)]
      exact lessK_tri e a
theorem bef_trans : ∀ {x y z : Row}, bef x y = true → bef y z = true → bef x z = true
  | [], _, [], a, b => by
    rename_i y
    cases y with
    | nil => exact b
    | cons _ _ => exact absurd b (by simp [bef])
  | [], _, _ :: _, _, _ => rfl
  | _ :: _, [], _, a, _ => absurd a (by simp [bef])
  | _ :: _, _ :: _, [], _, b => absurd b (by simp [bef])
  | x :: xs, y :: ys, z :: zs, a, b => by
    simp only [bef] at a b ⊢
    by_cases e : x = y
    · subst e
      rw [if_pos rfl] at a
      by_cases e2 : x = z
      · subst e2
        rw [if_pos rfl] at b ⊢
        exact bef_trans a b
      · rw [if_neg e2] at b ⊢
        exact b
    · rw [if_neg e] at a
      by_cases e2 : y = z
      · subst e2
        rw [if_neg e]
        exact a
      · rw [if_neg e2] at b
        have t := lessK_trans a b
        by_cases e3 : x = z
        · subst e3
          rw [lessK_irrefl] at t
          cases t
        · rw [if_neg e3]
          exact t
def rho (l : List Row) (x : Row) : Int := (l.filter fun z => bef z x).length
theorem filter_len_lt {α : Type} {p q : α → Bool} : ∀ {l : List α}, (∀ x ∈ l, p x = true → q x = true) → (∃ x ∈ l, q x = true ∧ p x = false) → (l.filter p).length < (l.filter q).length
  | [], _, ⟨x, hx, _⟩ => nomatch hx
  | a :: l, h, ⟨x, hx, hq, hp⟩ => by
    have le : ∀ l : List α, (∀ x ∈ l, p x = true → q x = true) → (l.filter p).length ≤ (l.filter q).length := by
      intro l
      induction l with
      | nil => intro _; exact Nat.le_refl _
      | cons b t ih =>
        intro h
        have ih2 := ih fun x hx => h x (List.mem_cons_of_mem _ hx)
        have hb := h b (List.mem_cons_self ..)
        rw [List.filter_cons, List.filter_cons]
        cases e : p b with
        | true => rw [hb e]; simp only [if_true, List.length_cons]; omega
        | false =>
          simp only [Bool.false_eq_true, if_false]
          split
          · rw [List.length_cons]; omega
          · exact ih2
    have ht : ∀ x ∈ l, p x = true → q x = true := fun x hx => h x (List.mem_cons_of_mem _ hx)
    rcases List.mem_cons.mp hx with e | hx
    · subst e
      rw [List.filter_cons, List.filter_cons, hq, hp]
      simp only [Bool.false_eq_true, if_false, if_true, List.length_cons]
      have := le l ht
      omega
    · have ih := filter_len_lt ht ⟨x, hx, hq, hp⟩
      have ha := h a (List.mem_cons_self ..)
      rw [List.filter_cons, List.filter_cons]
      cases e : p a with
      | true => rw [ha e]; simp only [if_true, List.length_cons]; omega
      | false =>
        simp only [Bool.false_eq_true, if_false]
        split
        · rw [List.length_cons]; omega
        · exact ih
theorem rho_lt {l : List Row} {x y : Row} (hx : x ∈ l) (h : bef x y = true) : rho l x < rho l y := by
  unfold rho
  have := filter_len_lt (l := l) (p := fun z => bef z x) (q := fun z => bef z y) (fun z _ hz => bef_trans hz h) ⟨x, hx, h, bef_irrefl x⟩
  omega
theorem rho_iff {l : List Row} {x y : Row} (hx : x ∈ l) (hy : y ∈ l) : bef x y = decide (rho l x < rho l y) := by
  cases e : bef x y with
  | true => exact (decide_eq_true (rho_lt hx e)).symm
  | false =>
    refine (decide_eq_false ?_).symm
    by_cases c : x = y
    · subst c; omega
    · have := rho_lt hy (bef_tri c e)
      omega
def dK : Key → PyData
  | .inl a => .int a
  | .inr s => .str s
def rkK : Key → PyData
  | .inl a => .tuple [.int 0, .int a]
  | .inr s => .tuple [.int 1, .str s]
def rk (k : Row) : List PyData := k.map rkK
theorem eqv_int (a b : Int) : PyData.eqv (.int a) (.int b) = decide (a = b) := by
  rw [Bool.eq_iff_iff]; simp [PyData.eqv]
theorem eqv_str (a b : Str) : PyData.eqv (.str a) (.str b) = decide (a = b) := by
  rw [Bool.eq_iff_iff]; simp [PyData.eqv]
theorem eqv_rkK (x y : Key) : PyData.eqv (rkK x) (rkK y) = decide (x = y) := by
  cases x <;> cases y <;> (rw [Bool.eq_iff_iff]; simp [rkK, PyData.eqv, PyData.eqvAll])
theorem ltD_rkK {x y : Key} (h : x ≠ y) : ltD (rkK x) (rkK y) = lessK x y := by
  cases x <;> cases y <;> simp [rkK, ltD, ltL, lessK, eqv_int, eqv_str]
  all_goals (intro _ e; exact h (by rw [e]))
theorem ltL_rk : ∀ x y : Row, ltL (rk x) (rk y) = bef x y
  | [], [] => rfl
  | [], _ :: _ => rfl
  | _ :: _, [] => rfl
  | x :: xs, y :: ys => by
    show (if PyData.eqv (rkK x) (rkK y) = true then ltL (rk xs) (rk ys) else ltD (rkK x) (rkK y)) = if x = y then bef xs ys else lessK x y
    rw [eqv_rkK]
    by_cases e : x = y
    · rw [if_pos (decide_eq_true e), if_pos e]
      exact ltL_rk xs ys
    · rw [if_neg (by simp [e]), if_neg e]
      exact ltD_rkK e
theorem okD_rkK (x y : Key) : okD (rkK x) (rkK y) = true := by
  cases x <;> cases y <;> simp [rkK, okD, okL, eqv_int, eqv_str]
theorem okL_rk : ∀ x y : Row, okL (rk x) (rk y) = true
  | [], _ => by unfold rk; simp [okL]
  | _ :: _, [] => by unfold rk; simp [okL]
  | x :: xs, y :: ys => by
    show (if PyData.eqv (rkK x) (rkK y) = true then okL (rk xs) (rk ys) else okD (rkK x) (rkK y)) = true
    split
    · exact okL_rk xs ys
    · exact okD_rkK x y
theorem pure_rk : ∀ x : Row, KS.pureL (rk x) = true
  | [] => rfl
  | k :: r => by
    show (KS.pureD (rkK k) && KS.pureL (rk r)) = true
    rw [pure_rk r]
    cases k <;> rfl
end KM
set_option Elab.async false
set_option linter.all false
set_option maxRecDepth 100000
set_option maxHeartbeats 2000000
namespace TL
open PySem PySem.Spec PyProof.Rows L2 KB KC KD LamX
def Beh (P : Program) (w : World) (K : PySem.W.Frag) (mg : Str → Option Value) (base : Heap) (k : Nat) (f c' : Addr) (q : Str) (body : Expr) (scope : Scope) (N : List Str) (H : Hp) (Q : VK) (E1 : XK) : Prop :=
  ∀ E : XK, (∀ cls d H', E1 cls d H' → E cls d H') → ∀ (A : Around) (outer : List Env) (s : Shared), Room k (A.deeper (envOfC q scope s.heap.objs.size f (.ref c'))) →
    ∃ t, PE (cxOf (L2.CX P w) P w K mg base N q scope f (.ref c') A outer s H E) body t ∧ t (start N []) H Q
def LamAt (P : Program) (w : World) (K : PySem.W.Frag) (mg : Str → Option Value) (base : Heap) (k : Nat) (f : Addr) (H : Hp) (Q : VK) (E1 : XK) : Prop :=
  ∃ (c' : Addr) (q : Str) (params : Arguments) (body : Expr) (scope : Scope) (N : List Str), H f = some (LamO f q params body scope c') ∧ H c' = some (CodeO c' q) ∧ FnScope N [] scope ∧
    (∀ pm ctv, bindArgs (PySem.W.kla_fn "<lambda>" q params body scope [] pm (.ref c') ctv) ⟨[], []⟩ = pure []) ∧ Beh P w K mg base k f c' q body scope N H Q E1
section
variable {X : Cx}
theorem pe_callLam {k i : Nat} {a : Str} {E : L2.St → XK} {p1 p2 : Pos} (hr : Room (k + 1) X.A) (hx : ∀ σ, PassesAt (L2.CX X.prog X.w) X σ (E σ)) (hN : X.N[i]? = some a) (hv : Vis X.env.scope a) (hd : (a == ("__debug__" : Str)) = false := by decide) (hcd : (a == ("__classdict__" : Str)) = false := by decide) :
    PE X (.Call (.Name a p1) [] [] p2) (fun σ H Q => ∃ f, σ[i]? = some (some (.ref f)) ∧ LamAt X.prog X.w X.K X.mg X.base k f H Q (E σ)) := by
  refine ⟨fun pins s σ H Q I hw => ?_⟩
  obtain ⟨f, hs, c', q, params, body, scope, N, hf, hc, S, hb, beh⟩ := hw
  have nm := (pe_var (pos := p1) (i := i) hN hv hd hcd).run pins s σ H (fun v H1 => v = .ref f ∧ H1 = H) I ⟨_, hs, rfl, rfl⟩
  refine wpAny_Call_Name_kw (thn nm fun u s1 hu => ?_)
  obtain ⟨v, H1, I1, rv, ev, eH⟩ := hu
  subst ev
  subst eH
  have eu : u = Value.ref f := rv
  subst eu
  obtain ⟨⟨pm, ctv, of1⟩, _, _⟩ := I1.hok f _ hf
  refine PySem.W.callWith_F0 ⟨_, _, _, _, of1⟩ ?_
  have run := lam_run (CX := L2.CX X.prog X.w) (Q := Q) (E := E σ) (vs := []) (us := []) (args := ⟨[], []⟩) (ps := []) S hr I1.env0 hf hc (fun pm ctv => .of_eq (hb pm ctv)) .nil rfl (fun hr' => beh (E σ) (fun _ _ _ z => z) _ _ _ hr')
  refine wpAny_call (codeAny_mono run fun r s2 hq => ?_)
  match r, hq with
  | .error e, hq => exact hx σ pins H1 s1 e s2 I1 hq
  | .ok (.ret u), hq => exact I1.after hq
  | .ok .next, hq => exact False.elim hq
  | .ok .brk, hq => exact False.elim hq
  | .ok .cont, hq => exact False.elim hq
end
theorem LamAt.mono {P : Program} {w : World} {K : PySem.W.Frag} {mg : Str → Option Value} {base : Heap} {k : Nat} {f : Addr} {H : Hp} {Q : VK} {E1 E2 : XK} (h : LamAt P w K mg base k f H Q E1) (e : ∀ cls d H', E1 cls d H' → E2 cls d H') : LamAt P w K mg base k f H Q E2 := by
  obtain ⟨c', q, params, body, scope, N, hf, hc, S, hb, beh⟩ := h
  exact ⟨c', q, params, body, scope, N, hf, hc, S, hb, fun E he => beh E fun cls d H' z => he cls d H' (e cls d H' z)⟩
@[irreducible] def spToldV (P : Program) (w : World) (K : PySem.W.Frag) (mg : Str → Option Value) (base : Heap) (k : Nat) (CR : Addr) (ret : Str) : Sp := fun vs H Q _ => ∃ f, vs = [.ref f] ∧
  LamAt P w K mg base k f H Q (fun cls _ H' => ∃ b, PySem.W.exmOne K cls (.ref CR) = some b ∧ (b = true → Q (.str ret) H') ∧ (b = false → False))
section
variable {P : Program} {w : World} {K : PySem.W.Frag} {mg : Str → Option Value} {base : Heap}
theorem ok_toldV {x a e ret : Str} {pg : Arguments} {sg : Scope} {Ng : List Str} {f CR : Addr} {fd : FuncData} {j k : Nat} {p1 p2 p3 p4 p5 p6 p7 p8 : Pos}
    (F : FunD K x x pg [.Try [.Return (some (.Call (.Name a p1) [] [] p2)) p3] [.ExceptHandler (some (.Name e p4)) none [.Return (some (.Constant (.str ret) j p5)) p6] p7] [] [] p8] sg [] [] f fd) (S : FnScope Ng [a] sg) (hN : Ng[0]? = some a) (hva : Vis sg a)
    (h0 : ∀ f : Addr, (L2.start Ng [V.ref f])[0]? = some (some (V.ref f))) (hge : sg.names.lookup e = some .globalImplicit) (hme : mg e = some (.ref CR)) (hde : (e == ("__debug__" : Str)) = false) (hd : (a == ("__debug__" : Str)) = false) (hcd : (a == ("__classdict__" : Str)) = false) :
    FnOk P w K mg base CX0 (k + 2) f fd [a] (spToldV P w K mg base k CR ret) := by
  refine F.ok S (fun vs H Q E h => ?_) (fun cdv A outer s H vs Q E hr h => ?_)
  · unfold spToldV at h
    obtain ⟨_, rfl, _⟩ := h; rfl
  · unfold spToldV at h
    obtain ⟨fl, rfl, hl⟩ := h
    have hgl : Gl (cxOf CX0 P w K mg base Ng x sg f cdv A outer s H E).nox e := hge
    refine ⟨_, PSs.nox <| pss_one (ps_try_only (c := .ref CR) (tb := fun W => tRet fun σ H Q => ∃ fz, σ[0]? = some (some (V.ref fz)) ∧ LamAt P w K mg base k fz H Q (WE W σ)) rfl rfl ⟨hgl, hde, .inl hme⟩ L2.takes0
      (fun W pn xe tk _ => pss_one (ps_ret (pe_callLam (k := k) (i := 0) (E := fun σ => WE W σ) hr (fun σ => passAt tk σ) hN hva hd hcd))) (fun a oe cls d pn _ _ => pss_one (ps_ret pe_str))), ?_⟩
    exact ⟨fl, h0 fl, hl.mono fun cls d H' ⟨b, e1, e2, e3⟩ => ⟨b, e1, fun hb a _ => e2 hb, fun hb => e3 hb⟩⟩
end
end TL
set_option linter.all false
namespace Q1
abbrev Sp2 := Int × Int
structure M (g : Int) (ts : List Int) (s : Sp2) : Prop where
  m1 : s.1 ∈ ts
  m2 : ∀ u ∈ ts, ¬ (s.1 - g < u ∧ u < s.1)
  m3 : s.2 - g ∈ ts
  m4 : ∀ u ∈ ts, ¬ (s.2 - g < u ∧ u < s.2)
  m5 : ∀ x, s.1 ≤ x → x < s.2 - g → ∃ u ∈ ts, x < u ∧ u < x + g
  m6 : s.1 + g ≤ s.2
theorem M.apart {g : Int} {ts : List Int} {a b : Sp2} (hg : 0 < g) (ha : M g ts a) (hb : M g ts b) (h : a.1 ≤ b.1) : a = b ∨ a.2 ≤ b.1 := by
  by_cases e : a.2 ≤ b.1
  · exact .inr e
  · left
    have e1 : a.1 = b.1 := by
      by_cases e2 : b.1 ≤ a.2 - g
      · by_cases e3 : a.1 < b.1
        · exfalso
          by_cases e4 : a.1 ≤ b.1 - g
          · obtain ⟨u, hu, h1, h2⟩ := ha.m5 (b.1 - g) e4 (by omega)
            exact hb.m2 u hu ⟨h1, by omega⟩
          · exact hb.m2 a.1 ha.m1 ⟨by omega, e3⟩
        · omega
      · exact absurd ⟨(by omega : a.2 - g < b.1), (by omega : b.1 < a.2)⟩ (ha.m4 b.1 hb.m1)
    have e2 : a.2 = b.2 := by
      have l1 := ha.m6
      have l2 := hb.m6
      rcases Int.lt_trichotomy a.2 b.2 with h1 | h1 | h1
      · obtain ⟨u, hu, h3, h4⟩ := hb.m5 (a.2 - g) (by omega) (by omega)
        exact absurd ⟨h3, by omega⟩ (ha.m4 u hu)
      · exact h1
      · obtain ⟨u, hu, h3, h4⟩ := ha.m5 (b.2 - g) (by omega) (by omega)
        exact absurd ⟨h3, by omega⟩ (hb.m4 u hu)
    exact Prod.ext e1 e2
theorem M.congr {g : Int} {ts us : List Int} (h : ∀ x, x ∈ ts ↔ x ∈ us) {s : Sp2} (m : M g ts s) : M g us s :=
  ⟨(h _).mp m.m1, fun u hu => m.m2 u ((h _).mpr hu), (h _).mp m.m3, fun u hu => m.m4 u ((h _).mpr hu), fun x h1 h2 => by
    obtain ⟨u, hu, h3⟩ := m.m5 x h1 h2
    exact ⟨u, (h _).mp hu, h3⟩, m.m6⟩
structure Spans (g : Int) (ts : List Int) (S : List Sp2) : Prop where
  mem : ∀ s, s ∈ S ↔ M g ts s
  cover : ∀ u ∈ ts, ∃ s ∈ S, s.1 ≤ u ∧ u + g ≤ s.2
  asc : S.Pairwise fun a b => a.2 ≤ b.1
theorem Spans.congr {g : Int} {ts us : List Int} (h : ∀ x, x ∈ ts ↔ x ∈ us) {S : List Sp2} (m : Spans g ts S) : Spans g us S :=
  ⟨fun s => ⟨fun z => ((m.mem s).mp z).congr h, fun z => (m.mem s).mpr (z.congr fun x => (h x).symm)⟩, fun u hu => m.cover u ((h u).mpr hu), m.asc⟩
theorem asc_eq {g : Int} (hg : 0 < g) : ∀ {A B : List Sp2}, (∀ s ∈ A, s.1 + g ≤ s.2) → A.Pairwise (fun a b => a.2 ≤ b.1) → B.Pairwise (fun a b => a.2 ≤ b.1) → (∀ s, s ∈ A ↔ s ∈ B) → A = B
  | [], [], _, _, _, _ => rfl
  | [], b :: B, _, _, _, h => absurd ((h b).mpr List.mem_cons_self) (by simp)
  | a :: A, [], _, _, _, h => absurd ((h a).mp List.mem_cons_self) (by simp)
  | a :: A, b :: B, w, pa, pb, h => by
    have wB : ∀ s ∈ b :: B, s.1 + g ≤ s.2 := fun s hs => w s ((h s).mpr hs)
    rw [List.pairwise_cons] at pa pb
    have wa := w a List.mem_cons_self
    have wb := wB b List.mem_cons_self
    have e : a = b := by
      rcases List.mem_cons.mp ((h a).mp List.mem_cons_self) with z | z
      · exact z
      rcases List.mem_cons.mp ((h b).mpr List.mem_cons_self) with y | y
      · exact y.symm
      have h1 := pb.1 a z
      have h2 := pa.1 b y
      omega
    subst e
    have na : ∀ {C : List Sp2}, (∀ x ∈ C, a.2 ≤ x.1) → a ∉ C := fun hc hm => by
      have := hc a hm
      omega
    rw [asc_eq hg (fun s hs => w s (List.mem_cons_of_mem _ hs)) pa.2 pb.2 fun s => ?_]
    constructor
    · intro hs
      rcases List.mem_cons.mp ((h s).mp (List.mem_cons_of_mem _ hs)) with z | z
      · exact absurd (z ▸ hs) (na pa.1)
      · exact z
    · intro hs
      rcases List.mem_cons.mp ((h s).mpr (List.mem_cons_of_mem _ hs)) with z | z
      · exact absurd (z ▸ hs) (na pb.1)
      · exact z
theorem Spans.uniq {g : Int} (hg : 0 < g) {ts : List Int} {A B : List Sp2} (a : Spans g ts A) (b : Spans g ts B) : A = B :=
  asc_eq hg (fun s hs => ((a.mem s).mp hs).m6) a.asc b.asc fun s => (a.mem s).trans (b.mem s).symm
def ov (g t : Int) (s : Sp2) : Bool := decide (s.1 < t + g) && decide (t < s.2)
def inner (g t : Int) (S : List Sp2) : List Sp2 := S.filter (ov g t)
def others (g t : Int) (S : List Sp2) : List Sp2 := S.filter fun s => decide (s ∉ inner g t S)
theorem ov_iff {g t : Int} {s : Sp2} : ov g t s = true ↔ s.1 < t + g ∧ t < s.2 := by
  unfold ov
  simp
theorem mem_inner {g t : Int} {S : List Sp2} {s : Sp2} : s ∈ inner g t S ↔ s ∈ S ∧ s.1 < t + g ∧ t < s.2 := by
  unfold inner
  rw [List.mem_filter, ov_iff]
theorem mem_others {g t : Int} {S : List Sp2} {s : Sp2} : s ∈ others g t S ↔ s ∈ S ∧ ¬ (s.1 < t + g ∧ t < s.2) := by
  unfold others
  rw [List.mem_filter, decide_eq_true_eq, mem_inner]
  constructor
  · rintro ⟨h1, h2⟩; exact ⟨h1, fun h => h2 ⟨h1, h⟩⟩
  · rintro ⟨h1, h2⟩; exact ⟨h1, fun h => h2 h.2⟩
structure Joint (g t : Int) (S : List Sp2) (b e : Int) : Prop where
  b1 : b = t ∨ ∃ s ∈ inner g t S, b = s.1
  b2 : b ≤ t
  b3 : ∀ s ∈ inner g t S, b ≤ s.1
  e1 : e = t + g ∨ ∃ s ∈ inner g t S, e = s.2
  e2 : t + g ≤ e
  e3 : ∀ s ∈ inner g t S, s.2 ≤ e
section
variable {g t b e : Int} {ts : List Int} {S : List Sp2}
theorem joint_M (hg : 0 < g) (H : Spans g ts S) (J : Joint g t S b e) : M g (t :: ts) (b, e) := by
  have cov := H.cover
  refine ⟨?_, fun u hu => ?_, ?_, fun u hu => ?_, fun x h1 h2 => ?_, ?_⟩
  · rcases J.b1 with h | ⟨s, hs, h⟩
    · show b ∈ t :: ts
      rw [h]; exact List.mem_cons_self
    · show b ∈ t :: ts
      rw [h]
      exact List.mem_cons_of_mem _ ((H.mem s).mp (mem_inner.mp hs).1).m1
  · show ¬ (b - g < u ∧ u < b)
    rintro ⟨h1, h2⟩
    have hb := J.b2
    rcases List.mem_cons.mp hu with rfl | hu
    · omega
    · rcases J.b1 with h | ⟨s, hs, h⟩
      · obtain ⟨s', hs', h3, h4⟩ := cov u hu
        have := J.b3 s' (mem_inner.mpr ⟨hs', by omega, by omega⟩)
        omega
      · exact ((H.mem s).mp (mem_inner.mp hs).1).m2 u hu ⟨by omega, by omega⟩
  · show e - g ∈ t :: ts
    rcases J.e1 with h | ⟨s, hs, h⟩
    · have : e - g = t := by omega
      rw [this]; exact List.mem_cons_self
    · rw [h]
      exact List.mem_cons_of_mem _ ((H.mem s).mp (mem_inner.mp hs).1).m3
  · show ¬ (e - g < u ∧ u < e)
    rintro ⟨h1, h2⟩
    have he := J.e2
    rcases List.mem_cons.mp hu with rfl | hu
    · omega
    · rcases J.e1 with h | ⟨s, hs, h⟩
      · obtain ⟨s', hs', h3, h4⟩ := cov u hu
        have := J.e3 s' (mem_inner.mpr ⟨hs', by omega, by omega⟩)
        omega
      · exact ((H.mem s).mp (mem_inner.mp hs).1).m4 u hu ⟨by omega, by omega⟩
  · have h1 : b ≤ x := h1
    have h2 : x < e - g := h2
    show ∃ u ∈ t :: ts, x < u ∧ u < x + g
    by_cases hx : x < t
    · -- ahead of t: in the inner span that begins at b
      by_cases hx2 : t < x + g
      · exact ⟨t, List.mem_cons_self, hx, hx2⟩
      · rcases J.b1 with h | ⟨s, hs, h⟩
        · omega
        · obtain ⟨hs1, hs2, hs3⟩ := mem_inner.mp hs
          have m := (H.mem s).mp hs1
          obtain ⟨u, hu, h3⟩ := m.m5 x (by omega) (by omega)
          exact ⟨u, List.mem_cons_of_mem _ hu, h3⟩
    · rcases J.e1 with h | ⟨s, hs, h⟩
      · omega
      · obtain ⟨hs1, hs2, hs3⟩ := mem_inner.mp hs
        have m := (H.mem s).mp hs1
        by_cases hx3 : s.1 ≤ x
        · obtain ⟨u, hu, h3⟩ := m.m5 x hx3 (by omega)
          exact ⟨u, List.mem_cons_of_mem _ hu, h3⟩
        · exact ⟨s.1, List.mem_cons_of_mem _ m.m1, by omega, by omega⟩
  · have := J.b2
    have := J.e2
    show b + g ≤ e
    omega
theorem others_M (hg : 0 < g) (H : Spans g ts S) {s : Sp2} (h : s ∈ others g t S) : M g (t :: ts) s := by
  obtain ⟨h1, h2⟩ := mem_others.mp h
  have m := (H.mem s).mp h1
  have l := m.m6
  refine ⟨List.mem_cons_of_mem _ m.m1, fun u hu => ?_, List.mem_cons_of_mem _ m.m3, fun u hu => ?_, fun x h3 h4 => ?_, m.m6⟩
  · rcases List.mem_cons.mp hu with rfl | hu
    · omega
    · exact m.m2 u hu
  · rcases List.mem_cons.mp hu with rfl | hu
    · omega
    · exact m.m4 u hu
  · obtain ⟨u, hu, h5⟩ := m.m5 x h3 h4
    exact ⟨u, List.mem_cons_of_mem _ hu, h5⟩
theorem joint_mem (hg : 0 < g) (H : Spans g ts S) (J : Joint g t S b e) (s : Sp2) : s ∈ others g t S ++ [(b, e)] ↔ M g (t :: ts) s := by
  have mb := joint_M hg H J
  have lb := J.b2
  have le := J.e2
  rw [List.mem_append, List.mem_singleton]
  constructor
  · rintro (h | rfl)
    · exact others_M hg H h
    · exact mb
  · intro m
    have ls := m.m6
    have ap : s = (b, e) ∨ s.2 ≤ b ∨ e ≤ s.1 := by
      rcases Int.le_total s.1 b with h | h
      · rcases m.apart hg mb h with z | z
        · exact .inl z
        · exact .inr (.inl z)
      · rcases mb.apart hg m h with z | z
        · exact .inl z.symm
        · exact .inr (.inr z)
    rcases ap with z | ap
    · exact .inr z
    · left
      have notT : ∀ u, u ∈ t :: ts → s.1 ≤ u → u < s.2 → u ∈ ts := fun u hu h1 h2 => by
        rcases List.mem_cons.mp hu with rfl | hu
        · exfalso; omega
        · exact hu
      refine mem_others.mpr ⟨(H.mem s).mpr ⟨notT _ m.m1 (by omega) (by omega), fun u hu => m.m2 u (List.mem_cons_of_mem _ hu), notT _ m.m3 (by omega) (by omega), fun u hu => m.m4 u (List.mem_cons_of_mem _ hu), fun x h1 h2 => ?_, m.m6⟩, by omega⟩
      obtain ⟨u, hu, h3, h4⟩ := m.m5 x h1 h2
      exact ⟨u, notT u hu (by omega) (by omega), h3, h4⟩
theorem joint_cover (H : Spans g ts S) (J : Joint g t S b e) : ∀ u ∈ t :: ts, ∃ s ∈ others g t S ++ [(b, e)], s.1 ≤ u ∧ u + g ≤ s.2 := by
  intro u hu
  have lb := J.b2
  have le := J.e2
  have hm : (b, e) ∈ others g t S ++ [(b, e)] := List.mem_append.mpr (.inr (List.mem_singleton.mpr rfl))
  rcases List.mem_cons.mp hu with rfl | hu
  · exact ⟨(b, e), hm, lb, le⟩
  · obtain ⟨s, hs, h1, h2⟩ := H.cover u hu
    by_cases h : s.1 < t + g ∧ t < s.2
    · have hi := mem_inner.mpr ⟨hs, h⟩
      have := J.b3 s hi
      have := J.e3 s hi
      exact ⟨(b, e), hm, by show b ≤ u; omega, by show u + g ≤ e; omega⟩
    · exact ⟨s, List.mem_append.mpr (.inl (mem_others.mpr ⟨hs, h⟩)), h1, h2⟩
theorem asc_nodup (hg : 0 < g) : ∀ {A : List Sp2}, (∀ s ∈ A, s.1 + g ≤ s.2) → A.Pairwise (fun a b => a.2 ≤ b.1) → A.Nodup
  | [], _, _ => List.nodup_nil
  | a :: A, w, p => by
    rw [List.pairwise_cons] at p
    refine List.nodup_cons.mpr ⟨fun h => ?_, asc_nodup hg (fun s hs => w s (List.mem_cons_of_mem _ hs)) p.2⟩
    have := p.1 a h
    have := w a List.mem_cons_self
    omega
theorem joint_nodup (hg : 0 < g) (H : Spans g ts S) (J : Joint g t S b e) : (others g t S ++ [(b, e)]).Nodup := by
  have nS := asc_nodup hg (fun s hs => ((H.mem s).mp hs).m6) H.asc
  have lb := J.b2
  have le := J.e2
  refine List.nodup_append.mpr ⟨nS.filter _, by simp, fun x hx y hy => ?_⟩
  rw [List.mem_singleton] at hy
  subst hy
  rintro rfl
  have := (mem_others.mp hx).2
  exact this ⟨by show b < t + g; omega, by show t < e; omega⟩
def lt2 (a b : Sp2) : Bool := decide (a.1 < b.1) || (decide (a.1 = b.1) && decide (a.2 < b.2))
theorem asc_of_sorted (hg : 0 < g) {A : List Sp2} (hm : ∀ s ∈ A, M g ts s) (nd : A.Nodup) (so : A.Pairwise fun a b => lt2 b a = false) : A.Pairwise fun a b => a.2 ≤ b.1 := by
  induction A with
  | nil => exact .nil
  | cons a A ih =>
    rw [List.pairwise_cons] at so
    rw [List.nodup_cons] at nd
    refine List.pairwise_cons.mpr ⟨fun x hx => ?_, ih (fun s hs => hm s (List.mem_cons_of_mem _ hs)) nd.2 so.2⟩
    have h1 := so.1 x hx
    unfold lt2 at h1
    rw [Bool.or_eq_false_iff, decide_eq_false_iff_not] at h1
    rcases (hm a List.mem_cons_self).apart hg (hm x (List.mem_cons_of_mem _ hx)) (by omega) with z | z
    · exact absurd (z ▸ hx) nd.1
    · exact z
theorem joined_spans (hg : 0 < g) (H : Spans g ts S) (J : Joint g t S b e) {A : List Sp2} (pm : A.Perm (others g t S ++ [(b, e)])) (so : A.Pairwise fun a b => lt2 b a = false) : Spans g (t :: ts) A := by
  have hm : ∀ s, s ∈ A ↔ M g (t :: ts) s := fun s => (pm.mem_iff).trans (joint_mem hg H J s)
  refine ⟨hm, fun u hu => ?_, asc_of_sorted hg (fun s hs => (hm s).mp hs) (pm.nodup_iff.mpr (joint_nodup hg H J)) so⟩
  obtain ⟨s, hs, h⟩ := joint_cover H J u hu
  exact ⟨s, pm.mem_iff.mpr hs, h⟩
theorem taken_eq (hg : 0 < g) (H : Spans g ts S) {A : List Sp2} (pm : A.Perm (inner g t S)) (so : A.Pairwise fun a b => lt2 b a = false) : A = inner g t S := by
  have hi : ∀ s ∈ inner g t S, M g ts s := fun s hs => (H.mem s).mp (mem_inner.mp hs).1
  have ai : (inner g t S).Pairwise fun a b => a.2 ≤ b.1 := H.asc.filter _
  have nd : (inner g t S).Nodup := (asc_nodup hg (fun s hs => ((H.mem s).mp hs).m6) H.asc).filter _
  have hA : ∀ s ∈ A, M g ts s := fun s hs => hi s (pm.mem_iff.mp hs)
  exact asc_eq hg (fun s hs => (hA s hs).m6) (asc_of_sorted hg hA (pm.nodup_iff.mpr nd) so) ai fun s => pm.mem_iff
theorem taken_law (hg : 0 < g) (H : Spans g ts S) (J : Joint g t S b e) {A : List Sp2} (pm : A.Perm (others g t S ++ [(b, e)])) : S.filter (fun s => decide (s ∉ A) || decide (s = (b, e))) = inner g t S := by
  unfold inner
  refine List.filter_congr fun s hs => ?_
  have lb := J.b2
  have le := J.e2
  have hA : s ∈ A ↔ s ∈ others g t S ∨ s = (b, e) := by rw [pm.mem_iff, List.mem_append, List.mem_singleton]
  rw [Bool.eq_iff_iff, ov_iff, Bool.or_eq_true, decide_eq_true_eq, decide_eq_true_eq, hA, mem_others]
  constructor
  · rintro (h | rfl)
    · by_cases z : s.1 < t + g ∧ t < s.2
      · exact z
      · exact absurd (.inl ⟨hs, z⟩) h
    · exact ⟨by show b < t + g; omega, by show t < e; omega⟩
  · intro h
    by_cases z : s = (b, e)
    · exact .inr z
    · left
      rintro (y | y)
      · exact y.2 h
      · exact z y
end
def lsStep (g : Int) (acc : List Sp2) (t : Int) : List Sp2 :=
  match acc.getLast? with
  | some l => if t < l.2 then acc.dropLast ++ [(l.1, t + g)] else acc ++ [(t, t + g)]
  | none => [(t, t + g)]
theorem spans_nil {g : Int} : Spans g [] [] := ⟨fun s => ⟨fun h => by simp at h, fun m => absurd m.m1 (by simp)⟩, fun u hu => absurd hu (by simp), .nil⟩
theorem ls_spans {g t : Int} (hg : 0 < g) {ts : List Int} {S : List Sp2} (H : Spans g ts S) (ht : ∀ u ∈ ts, u ≤ t) : Spans g (t :: ts) (lsStep g S t) := by
  have hs1 : ∀ s ∈ S, s.1 ≤ t := fun s hs => ht _ ((H.mem s).mp hs).m1
  have hs2 : ∀ s ∈ S, s.2 ≤ t + g := fun s hs => by have := ht _ ((H.mem s).mp hs).m3; omega
  rcases List.eq_nil_or_concat S with rfl | ⟨init, l, rfl⟩
  · have J : Joint g t [] t (t + g) := ⟨.inl rfl, Int.le_refl _, fun s hs => absurd hs (by simp [inner]), .inl rfl, Int.le_refl _, fun s hs => absurd hs (by simp [inner])⟩
    exact joined_spans hg H J (A := [(t, t + g)]) (List.Perm.refl _) (by simp)
  · rw [List.concat_eq_append] at H hs1 hs2 ⊢
    have asc := H.asc
    rw [List.pairwise_append] at asc
    have hl := hs1 l (by simp)
    have hl2 := hs2 l (by simp)
    have ml := (H.mem l).mp (by simp)
    have noi : ∀ s ∈ init, s.2 ≤ t := fun s hs => by have := asc.2.2 s hs l (by simp); omega
    have w : ∀ s ∈ init ++ [l], s.1 + g ≤ s.2 := fun s hs => ((H.mem s).mp hs).m6
    unfold lsStep
    rw [List.getLast?_concat]
    show Spans g (t :: ts) (if t < l.2 then _ else _)
    by_cases h : t < l.2
    · rw [if_pos h, List.dropLast_concat]
      have hin : ∀ s, s ∈ inner g t (init ++ [l]) ↔ s = l := fun s => by
        rw [mem_inner]
        constructor
        · rintro ⟨h1, h2, h3⟩
          rcases List.mem_append.mp h1 with z | z
          · have := noi s z; omega
          · exact List.mem_singleton.mp z
        · rintro rfl
          exact ⟨by simp, by omega, h⟩
      have J : Joint g t (init ++ [l]) l.1 (t + g) := ⟨.inr ⟨l, (hin l).mpr rfl, rfl⟩, hl, fun s hs => by rw [(hin s).mp hs]; exact Int.le_refl _, .inl rfl, Int.le_refl _, fun s hs => by rw [(hin s).mp hs]; exact hl2⟩
      have eo : others g t (init ++ [l]) = init := by
        unfold others
        rw [List.filter_append, List.filter_eq_self.mpr fun s hs => ?_]
        · rw [List.filter_cons_of_neg (by simpa using (hin l).mpr rfl)]
          simp
        · rw [decide_eq_true_eq, hin]
          rintro rfl
          have h1 := noi s hs
          omega
      refine joined_spans hg H J (by rw [eo]) ?_
      refine List.pairwise_append.mpr ⟨asc.1.imp_of_mem fun {a b} ha hb hab => ?_, by simp, fun a ha b hb => ?_⟩
      · have := w a (by simp [ha])
        unfold lt2
        simp
        omega
      · rw [List.mem_singleton] at hb
        subst hb
        have h1 := asc.2.2 a ha l (by simp)
        have := w a (by simp [ha])
        unfold lt2
        simp
        omega
    · rw [if_neg h]
      have hin : ∀ s, s ∉ inner g t (init ++ [l]) := fun s hs => by
        obtain ⟨h1, h2, h3⟩ := mem_inner.mp hs
        rcases List.mem_append.mp h1 with z | z
        · have := noi s z; omega
        · rw [List.mem_singleton.mp z] at h3
          exact h h3
      have J : Joint g t (init ++ [l]) t (t + g) := ⟨.inl rfl, Int.le_refl _, fun s hs => absurd hs (hin s), .inl rfl, Int.le_refl _, fun s hs => absurd hs (hin s)⟩
      have eo : others g t (init ++ [l]) = init ++ [l] := by
        unfold others
        exact List.filter_eq_self.mpr fun s _ => by rw [decide_eq_true_eq]; exact hin s
      refine joined_spans hg H J (by rw [eo]) ?_
      refine List.pairwise_append.mpr ⟨H.asc.imp_of_mem fun {a b} ha hb hab => ?_, by simp, fun a ha b hb => ?_⟩
      · have := w a ha
        unfold lt2
        simp
        omega
      · rw [List.mem_singleton] at hb
        subst hb
        have h1 := hs1 a ha
        have h2 := hs2 a ha
        have := w a ha
        have h3 : a.2 ≤ t := by
          rcases List.mem_append.mp ha with z | z
          · exact noi a z
          · rw [List.mem_singleton.mp z]; omega
        unfold lt2
        simp
        omega
def lawSp (g : Int) (ts : List Int) : List Sp2 := ts.foldl (lsStep g) []
theorem lawSp_spans {g : Int} (hg : 0 < g) {ts : List Int} (so : ts.Pairwise (· ≤ ·)) : Spans g ts (lawSp g ts) := by
  have go : ∀ (r p : List Int) (S : List Sp2), Spans g p S → (∀ u ∈ p, ∀ v ∈ r, u ≤ v) → r.Pairwise (· ≤ ·) → Spans g (p ++ r) (r.foldl (lsStep g) S) := by
    intro r
    induction r with
    | nil => intro p S h _ _; simpa using h
    | cons t r ih =>
      intro p S h hp hr
      rw [List.pairwise_cons] at hr
      have h1 := ls_spans hg h fun u hu => hp u hu t List.mem_cons_self
      have h2 := ih (p ++ [t]) (lsStep g S t) (h1.congr fun x => by simp [or_comm]) (fun u hu v hv => ?_) hr.2
      · simpa using h2
      · rcases List.mem_append.mp hu with z | z
        · exact hp u z v (List.mem_cons_of_mem _ hv)
        · rw [List.mem_singleton.mp z]; exact hr.1 v hv
  exact go ts [] [] spans_nil (by simp) so
end Q1
set_option Elab.async false
set_option linter.all false
set_option maxRecDepth 100000
set_option maxHeartbeats 4000000
namespace SrtU
open PySem PyProof.Rows Srt SrtO
section
variable {prog : Program} {w : World} {A : Around} {E : Value → Shared → Prop} {s : Shared}
theorem collect_tup {l : Addr} {vs : List Value} {Q : List Value → Shared → Prop} (hl : s.heap.IsTuple l vs.toArray)
    (h : Q vs { s with heap := (s.heap.push (seqObj "list" #[] 0)).update s.heap.objs.size (Obj.mapSeq (· ++ vs.toArray)) }) (hsz : vs.length ≤ sizeLine) :
    wpAny (model prog w) A (collect (.ref l)) Q E s := by
  obtain ⟨o, ho, hc, n, hd⟩ := id hl
  unfold collect
  refine wpAny_bind (wpAny_runValue (codeAny_builtin entry_proto_collect' ?_))
  show wpAny _ _ (do again (.builtin "list.__iadd__" ⟨[← newList [], .ref l], []⟩)) _ _ s
  refine wpAny_bind (wpAny_newList (wpAny_pure ⟨Code.quiet_builtin _ (by decide +kernel), codeAny_builtin entry_list_iadd' ?_⟩))
  show wpAny _ _ (Builtin.List.listExtendWith (.ref s.heap.objs.size) (.ref l) (.ref s.heap.objs.size)) _ _ { s with heap := s.heap.push (seqObj "list" #[] 0) }
  unfold Builtin.List.listExtendWith
  have ho' : (s.heap.push (seqObj "list" #[] 0)).get? l = some o := Heap.get?_push_of_some _ ho
  refine wpAny_bind (wpAny_typeOf (T := "tuple") ⟨o, ho', hc⟩ ?_)
  have ht : (Value.type "tuple" == Value.type "tuple") = true := by rfl
  rw [if_pos (by rw [ht]; simp)]
  refine wpAny_bind (listItems_at ho' hd ?_)
  refine wpAny_bind (listItems_at (xs := #[]) (n := 0) (Heap.get?_push_size _ rfl) rfl ?_)
  rw [if_neg (by simp)]
  refine wpAny_bind (listUpdate_at (xs := #[]) (n := 0) (Heap.get?_push_size _ rfl) rfl ?_ (Nat.zero_le _) (by show (#[] ++ vs.toArray).size ≤ sizeLine + 1; simp only [Array.size_append, List.size_toArray, List.length_nil]; omega))
  refine wpAny_pure ?_
  show wpAny (model prog w) A (do
      let o ← load s.heap.objs.size
      match o.data with
      | .seq xs _ => pure xs.toList
      | _ => unsupported "internal:collect") Q E { s with heap := (s.heap.push (seqObj "list" #[] 0)).update s.heap.objs.size (Obj.mapSeq (· ++ vs.toArray)) }
  refine wpAny_bind (wpAny_load (get?_update_seq (Heap.get?_push_size _ rfl) _) ?_)
  show wpAny _ _ (pure ((#[] : Array Value) ++ vs.toArray).toList) Q E _
  rw [show ((#[] : Array Value) ++ vs.toArray).toList = vs by simp]
  exact wpAny_pure h
theorem sorted_ordT {l : Addr} {vs : List Value} {ltv : Value → Value → Bool} {Q : Value → Shared → Prop} (O : Swo ltv) (hl : s.heap.IsTuple l vs.toArray) (hz : vs.length ≤ sizeLine)
    (hS : 2 ≤ vs.length → ∀ (h₁ : Heap) (a : Addr), h₁.get? a = some (seqObj "list" vs.toArray 0) → (∀ b o, s.heap.get? b = some o → b ≠ a ∧ h₁.get? b = some o) → SortableO prog w A.in1.in1 { s with heap := h₁ } a vs ltv)
    (h : ∀ out : List Value, Srtd ltv out → Stb ltv out vs → Q (.ref (s.heap.objs.size + 1)) { s with heap := sortedAll s.heap vs out.toArray }) :
    wpAny (model prog w) A (call (.builtin "sorted") [.ref l]) Q E s := by
  refine Calls.call_function_entry kind_sorted plain_sorted entry_sorted (args_sorted1 _) ?_
  unfold Builtin.«sorted»
  refine wpAny_bind (m := checkCount "sorted" 1 1 _) (wpAny_pure ?_)
  refine wpAny_bind (collect_tup hl ?_ hz)
  refine wpAny_bind (wpAny_newList ?_ hz)
  have hsz : ((s.heap.push (seqObj "list" #[] 0)).update s.heap.objs.size (Obj.mapSeq (· ++ vs.toArray))).objs.size = s.heap.objs.size + 1 := by
    rw [Heap.size_update, size_push']
  have hoL : (((s.heap.push (seqObj "list" #[] 0)).update s.heap.objs.size (Obj.mapSeq (· ++ vs.toArray))).push (seqObj "list" vs.toArray 0)).get? (s.heap.objs.size + 1) = some (seqObj "list" vs.toArray 0) := by
    rw [← hsz]; exact Heap.get?_push_size _ rfl
  have keep : ∀ b o, s.heap.get? b = some o → b ≠ s.heap.objs.size + 1 ∧ (((s.heap.push (seqObj "list" #[] 0)).update s.heap.objs.size (Obj.mapSeq (· ++ vs.toArray))).push (seqObj "list" vs.toArray 0)).get? b = some o := fun b o q => by
    have hlt : b < s.heap.objs.size := Heap.lt_size q
    refine ⟨Nat.ne_of_lt (Nat.lt_succ_of_lt hlt), Heap.get?_push_of_some _ ?_⟩
    rw [Heap.get?_update_ne _ _ _ _ (Nat.ne_of_lt hlt)]
    exact Heap.get?_push_of_some _ q
  show wpAny _ _ _ _ _ { s with heap := ((s.heap.push (seqObj "list" #[] 0)).update s.heap.objs.size (Obj.mapSeq (· ++ vs.toArray))).push (seqObj "list" vs.toArray 0) }
  rw [hsz]
  refine wpAny_bind (wpAny_holding (wpAny_call_entry slot_list_sort ⟨_, hoL, rfl⟩ entry_list_sort (list_sort_ord O hoL hz (fun h2 => hS h2 _ _ hoL keep) fun out hs hb => ⟨_, rfl, ?_⟩) (args_list_sort _)))
  exact wpAny_pure ⟨_, rfl, h out hs hb⟩
theorem sorted_pairsT {l : Addr} {vs : List Value} {k : Value → Int × Int} {Q : Value → Shared → Prop} (hl : s.heap.IsTuple l vs.toArray) (hz : vs.length ≤ sizeLine) (hp : ∀ v ∈ vs, IsPair s.heap v (k v).1 (k v).2)
    (h : ∀ (h' : Heap) (d : Addr) (out : List Value), Srtd (fun v u => lexB (k v) (k u)) out → Stb (fun v u => lexB (k v) (k u)) out vs → (∀ b o, s.heap.get? b = some o → h'.get? b = some o) → s.heap.objs.size ≤ d → (∃ n, h'.get? d = some (seqObj "list" out.toArray n)) → Q (.ref d) { s with heap := h' }) :
    wpAny (model prog w) A (call (.builtin "sorted") [.ref l]) Q E s := by
  refine sorted_ordT (swo_lex k) hl hz (fun h2 h₁ a ha kk => ?_) fun out hs hb => ?_
  · refine pairs_sortableO (s := { s with heap := h₁ }) (by omega) (fun v hm => (hp v hm).keeps fun b o e _ => (kk b o e).2) fun o e => ?_
    have e' : some o = some (seqObj "list" vs.toArray 0) := e.symm.trans ha
    cases e'
    intro c
    exact absurd (Value.type.inj c) (by decide)
  · exact h _ _ out hs hb (fun b o e => sortedAll_old e) (Nat.le_succ _) (sortedAll_at s.heap vs out.toArray)
end
end SrtU
namespace R8
open PySem PySem.Spec PyProof.Rows L2 KB KC KS Q1
def pD (p : Sp2) : PyData := .tuple [.int p.1, .int p.2]
def Ps (H : Hp) (us : List Addr) (S : List Sp2) : Prop := Paired (fun (t : Addr) (p : Sp2) => H t = some (.tup [.int p.1, .int p.2])) us S
theorem paired_mono {α β : Type} {R R' : α → β → Prop} (f : ∀ a b, R a b → R' a b) : ∀ {l : List α} {m : List β}, Paired R l m → Paired R' l m
  | _, _, .nil => .nil
  | _, _, .cons h t => .cons (f _ _ h) (paired_mono f t)
theorem paired_app {α β : Type} {R : α → β → Prop} : ∀ {l l' : List α} {m m' : List β}, Paired R l m → Paired R l' m' → Paired R (l ++ l') (m ++ m')
  | _, _, _, _, .nil, h => h
  | _, _, _, _, .cons h t, h' => .cons h (paired_app t h')
theorem Ps.ex {H H' : Hp} {us : List Addr} {S : List Sp2} (p : Ps H us S) (e : ∀ b xs, H b = some (.tup xs) → H' b = some (.tup xs)) : Ps H' us S := paired_mono (fun a b h => e a _ h) p
theorem Ps.dp {K : PySem.W.Frag} {H : Hp} : ∀ {us : List Addr} {S : List Sp2}, Ps H us S → DpAll K H (us.map V.ref) (S.map pD)
  | _, _, .nil => .nil
  | _, _, .cons h t => .cons (.tup (SqT.of h) (.cons (.int _) (.cons (.int _) .nil))) (Ps.dp t)
theorem Ps.at {H : Hp} : ∀ {us : List Addr} {S : List Sp2}, Ps H us S → ∀ {i : Nat} {t : Addr}, us[i]? = some t → ∃ p, S[i]? = some p ∧ H t = some (.tup [.int p.1, .int p.2])
  | _, _, .nil, i, t, h => by simp at h
  | _, _, .cons (a := a) (b := b) h r, i, t, e => by
    cases i with
    | zero => cases e; exact ⟨b, rfl, h⟩
    | succ i => exact Ps.at r (i := i) e
theorem Ps.at2 {H : Hp} : ∀ {us : List Addr} {S : List Sp2}, Ps H us S → ∀ {i : Nat} {p : Sp2}, S[i]? = some p → ∃ t, us[i]? = some t ∧ H t = some (.tup [.int p.1, .int p.2])
  | _, _, .nil, i, t, h => by simp at h
  | _, _, .cons (a := a) (b := b) h r, i, t, e => by
    cases i with
    | zero => cases e; exact ⟨a, rfl, h⟩
    | succ i => exact Ps.at2 r (i := i) e
def kH (H : Hp) : V → Int × Int
  | .ref t => match H t with
    | some (.tup [.int i, .int j]) => (i, j)
    | _ => (0, 0)
  | _ => (0, 0)
theorem kH_at {H : Hp} {t : Addr} {p : Sp2} (h : H t = some (.tup [.int p.1, .int p.2])) : kH H (.ref t) = p := by
  unfold kH
  simp only [h]
theorem Ps.kH {H : Hp} : ∀ {us : List Addr} {S : List Sp2}, Ps H us S → (us.map V.ref).map (kH H) = S
  | _, _, .nil => rfl
  | _, _, .cons h t => by rw [List.map_cons, List.map_cons, kH_at h, Ps.kH t]
theorem eqv_pD (a b : Sp2) : PyData.eqv (pD a) (pD b) = decide (a = b) := by
  obtain ⟨a1, a2⟩ := a
  obtain ⟨b1, b2⟩ := b
  unfold pD
  simp only [PyData.eqv, PyData.eqvAll, Bool.and_true, Prod.mk.injEq]
  rw [Bool.eq_iff_iff]
  simp
theorem any_pD (S : List Sp2) (p : Sp2) : ((S.map pD).any fun z => PyData.eqv z (pD p)) = decide (p ∈ S) := by
  rw [Bool.eq_iff_iff, List.any_eq_true, decide_eq_true_eq]
  constructor
  · rintro ⟨z, hz, h⟩
    obtain ⟨q, hq, rfl⟩ := List.mem_map.mp hz
    rw [eqv_pD, decide_eq_true_eq] at h
    exact h ▸ hq
  · intro h
    exact ⟨pD p, List.mem_map.mpr ⟨p, h, rfl⟩, by rw [eqv_pD]; exact decide_eq_true rfl⟩
theorem shaped_pD (p : Sp2) : SeqAt.shaped (pD p) = true := by
  unfold SeqAt.shaped pD
  simp [PyData.canLay0, PyData.canLayAll0, PyData.depth, PyData.depthAll]
theorem lay_pD : ∀ S : List Sp2, PyData.canLayAll0 (S.map pD) = true
  | [] => by simp [PyData.canLayAll0]
  | p :: S => by
    rw [List.map_cons]
    unfold PyData.canLayAll0
    rw [lay_pD S]
    simp [pD, PyData.canLay0, PyData.canLayAll0]
def rInP (neg : Bool) : R2 := fun x y H Q => ∃ (t a : Addr) (p : Sp2) (us : List Addr) (S : List Sp2), x = .ref t ∧ y = .ref a ∧ H t = some (.tup [.int p.1, .int p.2]) ∧ H a = some (.tup (us.map V.ref)) ∧ Ps H us S ∧ Q (.bl (if neg then !decide (p ∈ S) else decide (p ∈ S))) H
section
variable {X : Cx}
theorem op_inP (hu : X.A.units + 65 < cLine) : OpR X (compareOp .In) (rInP false) := by
  intro pins s σ H x y v u Q I rx ry h
  obtain ⟨t, a, p, us, S, rfl, rfl, ht, ha, hp, q⟩ := h
  obtain ⟨as, r1⟩ := Dp.reads I (pD p) (.ref t) v (.tup (SqT.of ht) (.cons (.int _) (.cons (.int _) .nil))) rx
  obtain ⟨bs, r2⟩ := Dp.reads I (.tuple (S.map pD)) (.ref a) u (.tup (SqT.of ha) hp.dp) ry
  refine SeqAt.in_tuple_reads r2 r1 (lay_pD S) (SeqAt.canLay_of_shaped (shaped_pD p)) (room_in_shaped (shaped_pD p) hu) ⟨.bl _, H, I, rfl, ?_⟩
  rw [any_pD]
  exact q
theorem op_notInP (hu : X.A.units + 65 < cLine) : OpR X (compareOp .NotIn) (rInP true) := by
  intro pins s σ H x y v u Q I rx ry h
  obtain ⟨t, a, p, us, S, rfl, rfl, ht, ha, hp, q⟩ := h
  obtain ⟨as, r1⟩ := Dp.reads I (pD p) (.ref t) v (.tup (SqT.of ht) (.cons (.int _) (.cons (.int _) .nil))) rx
  obtain ⟨bs, r2⟩ := Dp.reads I (.tuple (S.map pD)) (.ref a) u (.tup (SqT.of ha) hp.dp) ry
  refine SeqAt.notIn_tuple_reads r2 r1 (lay_pD S) (SeqAt.canLay_of_shaped (shaped_pD p)) (room_in_shaped (shaped_pD p) hu) ⟨.bl _, H, I, rfl, ?_⟩
  rw [any_pD]
  exact q
end
theorem refs_ex : ∀ {l : List V}, (∀ v ∈ l, ∃ t, v = V.ref t) → ∃ us : List Addr, l = us.map V.ref
  | [], _ => ⟨[], rfl⟩
  | v :: l, h => by
    obtain ⟨t, rfl⟩ := h v List.mem_cons_self
    obtain ⟨us, rfl⟩ := refs_ex fun v hv => h v (List.mem_cons_of_mem _ hv)
    exact ⟨t :: us, rfl⟩
theorem ps_of {H : Hp} : ∀ {us : List Addr}, (∀ t ∈ us, ∃ p : Sp2, H t = some (.tup [.int p.1, .int p.2])) → Ps H us ((us.map V.ref).map (kH H))
  | [], _ => .nil
  | t :: us, h => by
    obtain ⟨p, hp⟩ := h t List.mem_cons_self
    refine .cons ?_ (ps_of fun u hu => h u (List.mem_cons_of_mem _ hu))
    rw [kH_at hp]
    exact hp
theorem Ps.mem {H : Hp} : ∀ {us : List Addr} {S : List Sp2}, Ps H us S → ∀ t ∈ us, ∃ p : Sp2, H t = some (.tup [.int p.1, .int p.2])
  | _, _, .nil, t, h => by simp at h
  | _, _, .cons (b := b) h r, t, ht => by
    rcases List.mem_cons.mp ht with rfl | ht
    · exact ⟨b, h⟩
    · exact Ps.mem r t ht
theorem lexB_lt2 {a b : Sp2} (h : SrtO.lexB a b = false) : lt2 a b = false := by
  have := SrtO.lexB_no.mp h
  unfold lt2
  rw [Bool.or_eq_false_iff, Bool.and_eq_false_iff, decide_eq_false_iff_not, decide_eq_false_iff_not, decide_eq_false_iff_not]
  omega
theorem sort_out {H : Hp} {us : List Addr} {S : List Sp2} {ys : List V} (hp : Ps H us S) (so : SrtO.Srtd (ltP (kH H)) ys) (st : SrtO.Stb (ltP (kH H)) ys (us.map V.ref)) :
    ∃ (us' : List Addr) (S' : List Sp2), ys = us'.map V.ref ∧ Ps H us' S' ∧ S'.Perm S ∧ S'.Pairwise (fun a b => lt2 b a = false) := by
  have pm := st.perm
  obtain ⟨us', rfl⟩ := refs_ex (l := ys) fun v hv => by
    obtain ⟨t, _, e⟩ := List.mem_map.mp (pm.mem_iff.mp hv)
    exact ⟨t, e.symm⟩
  refine ⟨us', (us'.map V.ref).map (kH H), rfl, ps_of fun t ht => ?_, ?_, ?_⟩
  · have := pm.mem_iff.mp (List.mem_map.mpr ⟨t, ht, rfl⟩)
    obtain ⟨t', ht', e⟩ := List.mem_map.mp this
    cases e
    exact hp.mem t ht'
  · rw [← hp.kH]
    exact pm.map _
  · refine List.pairwise_map.mpr (so.imp fun {a b} h => lexB_lt2 h)
def rSortPL : List V → Hp → VK → Prop := fun vs H Q => ∃ (a : Addr) (us : List Addr) (S : List Sp2), vs = [.ref a] ∧ (H a = some (.lst (us.map V.ref)) ∨ H a = some (.tup (us.map V.ref))) ∧ Ps H us S ∧
  ∀ (q : Addr) (us' : List Addr) (S' : List Sp2), H q = none → Ps H us' S' → S'.Perm S → S'.Pairwise (fun a b => lt2 b a = false) → Q (.ref q) (upd H q (.lst (us'.map V.ref)))
section
variable {X : Cx}
theorem cr_sortPL : CallR X (.builtin "sorted") rSortPL := by
  intro pins s σ H vs us0 Q I r h
  obtain ⟨a, us, S, rfl, ha | ha, hp, q⟩ := h
  · refine cr_sortedPO pins s σ H _ us0 Q I r ⟨a, us.map V.ref, kH H, rfl, SqL.of ha, fun x hx => ?_, fun ys p so st hn => ?_⟩
    · obtain ⟨t, ht, rfl⟩ := List.mem_map.mp hx
      obtain ⟨p, h⟩ := hp.mem t ht
      exact ⟨t, rfl, by rw [kH_at h]; exact h⟩
    · obtain ⟨us', S', rfl, h1, h2, h3⟩ := sort_out hp so st
      exact q p us' S' hn h1 h2 h3
  · obtain ⟨its, rv, hl, hz⟩ := I.tuple (SqT.of ha)
    obtain ⟨u, rfl, ru⟩ := vals1 r
    obtain rfl : u = Value.ref a := ru
    obtain ⟨e1, e2⟩ := refs_back rv fun x m => by
      obtain ⟨t, _, e⟩ := List.mem_map.mp m
      exact ⟨t, e.symm⟩
    refine SrtU.sorted_pairsT (k := fun u => kH H (backV u)) hl (by rw [← rv.length]; exact hz) (fun v hv => ?_) fun h' d out h1 h2 kp hd hn => ?_
    · obtain ⟨t, rfl⟩ := e2 v hv
      have hm : V.ref t ∈ us.map V.ref := by rw [e1]; exact List.mem_map.mpr ⟨_, hv, rfl⟩
      obtain ⟨t', ht', e⟩ := List.mem_map.mp hm
      cases e
      obtain ⟨p, hpt⟩ := hp.mem t ht'
      obtain ⟨_, its2, r2, o, ho, hc, n, hd⟩ := I.hok _ _ hpt
      obtain ⟨u1, u2, rfl, ri, rj⟩ := vals2 r2
      obtain ⟨t1, rfl⟩ := ri
      obtain ⟨t2, rfl⟩ := rj
      have e : kH H (backV (.ref t)) = p := kH_at hpt
      rw [e]
      exact ⟨t, o, t1, t2, n, rfl, ho, hc, hd⟩
    · have h3 : ∀ u ∈ out, ∃ a, u = Value.ref a := fun u hu => e2 u (h2.perm.mem_iff.mp hu)
      obtain ⟨n, hn⟩ := hn
      have hb : SrtO.Stb (ltP (kH H)) (out.map backV) (us.map V.ref) := by
        rw [e1]
        exact SrtO.Stb.map (ltP_swo (kH H)) backV h2
      obtain ⟨us', S', e, k1, k2, k3⟩ := sort_out hp (SrtO.srtd_map h1) hb
      have hq := q d us' S' (I.hok.fresh hd) k1 k2 k3
      rw [← e] at hq
      refine ⟨.ref d, upd H d (.lst (out.map backV)), I.laid (t' := s.toks) kp hd ⟨?_, out, n, vals_back h3, hn⟩, rfl, hq⟩
      rw [hb.len]
      exact hz
end
def minDef : List Int → Int → Int
  | [], d => d
  | n :: ns, _ => W.minOf n ns
theorem minOf_spec : ∀ (ns : List Int) (n : Int), W.minOf n ns ∈ n :: ns ∧ ∀ y ∈ n :: ns, W.minOf n ns ≤ y
  | [], n => ⟨List.mem_cons_self, fun y hy => by rw [List.mem_singleton.mp hy]; exact Int.le_refl _⟩
  | m :: ns, n => by
    have e : W.minOf n (m :: ns) = W.minOf (if m < n then m else n) ns := by
      unfold W.minOf
      rw [List.foldl_cons]
      have : (W.DatumOrd.lt m n = true) = (m < n) := by
        show (decide (m < n) = true) = _
        simp
      simp only [this]
    obtain ⟨h1, h2⟩ := minOf_spec ns (if m < n then m else n)
    rw [e]
    refine ⟨?_, fun y hy => ?_⟩
    · rcases List.mem_cons.mp h1 with h | h
      · rw [h]
        split
        · simp
        · simp
      · simp [h]
    · have h0 := h2 _ List.mem_cons_self
      rcases List.mem_cons.mp hy with e | hy
      · generalize W.minOf (if m < n then m else n) ns = z at h0
        split at h0 <;> omega
      rcases List.mem_cons.mp hy with e | hy
      · generalize W.minOf (if m < n then m else n) ns = z at h0
        split at h0 <;> omega
      · exact h2 y (List.mem_cons_of_mem _ hy)
theorem minDef_eq {ns : List Int} {d m : Int} (h : m ∈ ns) (hm : ∀ y ∈ ns, m ≤ y) : minDef ns d = m := by
  cases ns with
  | nil => simp at h
  | cons n ns =>
    obtain ⟨h1, h2⟩ := minOf_spec ns n
    show W.minOf n ns = m
    exact Int.le_antisymm (h2 m h) (hm _ h1)
def rMinDef (K : PySem.W.Frag) : List V → List V → Hp → VK → Prop := fun vs zs H Q => ∃ (a : Addr) (ns : List Int) (d : Int), vs = [.ref a] ∧ zs = [.int d] ∧ SqL K H a (ns.map V.int) ∧ Q (.int (minDef ns d)) H
theorem dp_ints {K : PySem.W.Frag} {H : Hp} : ∀ ns : List Int, DpAll K H (ns.map V.int) (ns.map PyData.int)
  | [] => .nil
  | n :: ns => .cons (.int _) (dp_ints ns)
theorem cr_minDef {X : Cx} (hc : X.calm = true) (hu : X.A.units + 66 < cLine) : CallRK X (.builtin "min") [Str.ofString "default"] (rMinDef X.K) := by
  intro pins s σ H xs zs us ws Q I r rz h
  obtain ⟨a, ns, d, rfl, rfl, ha, q⟩ := h
  obtain rfl := Vals.ref1 r
  obtain ⟨u, rfl, t, rfl⟩ := vals1 rz
  obtain ⟨its, rv, hl, hz⟩ := I.list ha
  obtain ⟨as, ra⟩ := Dp.readsAll I (ns.map PyData.int) _ its (dp_ints ns) rv
  show wpAny _ _ (call (.builtin "min") [.ref a] [(Str.ofString "default", .int d t)]) _ _ s
  refine W.min_list_datum_default (α := Int) (xs := ns) (I.ok.hd hc) hl.isList ⟨as, ra⟩ (by show X.A.units + 1 + 0 < cLine; omega) (fun e h' tk hk => ?_) fun y ys i v h' tk e hv hh hk => ?_
  · subst e
    exact ⟨.int d, H, I.kept (t' := tk) hk, ⟨t, rfl⟩, q⟩
  · subst e
    obtain ⟨bs, rb⟩ := hh
    have : ∃ t, v = Value.int (W.minOf y ys) t := by
      cases rb
      exact ⟨_, rfl⟩
    obtain ⟨t2, rfl⟩ := this
    exact ⟨.int _, H, I.kept (t' := tk) hk, ⟨t2, rfl⟩, q⟩
end R8
set_option Elab.async false
set_option linter.all false
set_option maxRecDepth 100000
set_option maxHeartbeats 4000000
namespace CP
open PySem PySem.Spec PyProof.Rows L2 KB KC KD LamX
def CloO (f : Addr) (q : Str) (params : Arguments) (body : Expr) (scope : Scope) (clo : List (Str × Addr)) (c' : Addr) : HO := .ext fun h => ∃ pm ctv, h.get? f = some (PySem.W.kla_obj "<lambda>" q params body scope clo pm c' ctv)
theorem cloO_ok {P : Program} {w : World} {H : Hp} {h : Heap} {f c' : Addr} {q : Str} {params : Arguments} {body : Expr} {scope : Scope} {clo : List (Str × Addr)} {pm ctv : Value} (e : h.get? f = some (PySem.W.kla_obj "<lambda>" q params body scope clo pm c' ctv)) :
    ObjOk P w H h f (CloO f q params body scope clo c') := ⟨⟨pm, ctv, e⟩, ⟨_, e⟩, fun h1 h2 ⟨a, b, z⟩ k => ⟨a, b, k _ z⟩⟩
def tClo (T : List (Addr × Str)) (q : Str) (params : Arguments) (body : Expr) (scope : Scope) (clo : List (Str × Addr)) : TE := fun _ H Q => Tabs T H ∧ ∀ f c' H1, ExtN H H1 → Tabs T H1 → H1 f = some (CloO f q params body scope clo c') → H1 c' = some (CodeO c' q) → H f = none → Q (.ref f) H1
section
variable {X : Cx}
theorem pe_cloV {T : List (Addr × Str)} {c P : Addr} {params : Arguments} {body : Expr} {scope : Scope} {pos : Pos} (TB : TabB X.base X.mg c P) (hcode : X.env.code = .ref c) (hm : (P, X.env.qual ++ "<lambda>") ∈ T) (hu : ∀ p ∈ T, p.1 = P → p.2 = X.env.qual ++ "<lambda>")
    (hdef : defaultsOf params X.env = ([], [])) (hfree : ∀ y ∈ scope.names, y.2 = .free → X.env.scope.names.lookup y.1 = some .cell ∨ X.env.scope.names.lookup y.1 = some .free) : PE X (.Lambda params body scope pos) (tClo T (X.env.qual ++ "<lambda>") params body scope (cloFrom X.env.cells scope.names [])) := by
  refine ⟨fun pins s σ H Q I h => ?_⟩
  obtain ⟨hT, h⟩ := h
  obtain ⟨ps, hP, ht, ha⟩ := hT _ hm
  refine PySem.W.kla_eval hdef ?_
  have bP : s.heap.BuiltinsAt X.mg P := TB.bm.keeps I.bk
  have hP' : s.heap.get? P = some { cls := .none, data := .fields ps } := I.hok P _ hP
  have hcl : closureFor scope X.env = pure (cloFrom X.env.cells scope.names []) := closure_ok fun y hy e => (hfree y hy e).elim (fun z => I.ok.has _ (.inl z)) fun z => I.ok.has _ (.inr z)
  have end_ : ∀ (c' : Addr) (ctv : Value) (H1 : Hp) (h' : Heap) (tk : Nat), Inv X pins σ H1 { s with heap := h', toks := tk } → s.heap.objs.size ≤ h'.objs.size → ExtN H H1 → Tabs T H1 → H1 h'.objs.size = none → H1 c' = some (CodeO c' (X.env.qual ++ "<lambda>")) →
      EP X pins σ Q (.ref h'.objs.size) { s with heap := h'.push (PySem.W.kla_obj "<lambda>" (X.env.qual ++ "<lambda>") params body scope (cloFrom X.env.cells scope.names []) ((X.mg "__name__").getD .none) c' ctv), toks := tk } := by
    intro c' ctv H1 h' tk I1 hz e1 t1 n1 co
    have J : Inv X pins σ (upd H1 h'.objs.size (CloO h'.objs.size (X.env.qual ++ "<lambda>") params body scope (cloFrom X.env.cells scope.names []) c')) { s with heap := h'.push (PySem.W.kla_obj "<lambda>" (X.env.qual ++ "<lambda>") params body scope (cloFrom X.env.cells scope.names []) ((X.mg "__name__").getD .none) c' ctv), toks := tk } :=
      I1.laid (t' := tk) (fun b u e => Heap.get?_push_of_some _ e) (Nat.le_refl _) (cloO_ok (Heap.get?_push_size _ rfl))
    exact ⟨.ref h'.objs.size, _, J, rfl, h h'.objs.size c' _ (e1.trans (extN_upd n1)) (tabs_upd t1 n1) upd_same (by rw [upd_ne (ne_of_none co n1)]; exact co) (I.hok.fresh hz)⟩
  cases hc : codeAmong pos ps.toList with
  | none =>
    refine PySem.W.kla_makeFunction (mg := X.mg) (c := c) (P := P) (ps := ps) hcl I.ok.glob (I.mod.glob.keeps I.bk) hcode (TB.code.keeps I.bk) hP' ht hc TB.gP bP fun c' ctv h' tk hx hge hlt hrec htb => ?_
    obtain ⟨c2, oc, vs, t, e2, hoc, hd, hv⟩ := hrec
    cases e2
    have nC : H c' = none := I.hok.fresh hge
    have nPc : P ≠ c' := ne_of_none hP nC
    have I1 := inv_table (t' := tk) (more := #[rawInt pos.line, rawInt pos.col, .ref c']) (h' := h') I hP hx htb hge ⟨oc, vs, t, hoc, hd, hv⟩
    have hE : ExtN H (upd (upd H P (.tbl (ps ++ #[rawInt pos.line, rawInt pos.col, .ref c']))) c' (CodeO c' (X.env.qual ++ "<lambda>"))) := fun b o e n => by
      rw [upd_ne (ne_of_none e nC), upd_ne (fun z => n ps (Option.some.inj (e.symm.trans (by rw [z]; exact hP))))]
      exact e
    have eL : (ps ++ #[rawInt pos.line, rawInt pos.col, .ref c']).toList = ps.toList ++ [rawInt pos.line, rawInt pos.col, .ref c'] := by simp
    refine end_ c' ctv _ h' tk I1 (Nat.le_trans hge (Nat.le_of_lt hlt)) hE (fun p hp => ?_) ?_ upd_same
    · by_cases hb : p.1 = P
      · rw [hu p hp hb, hb]
        refine ⟨_, by rw [upd_ne nPc, upd_same], by rw [eL]; exact PySem.TriplesOk_snoc _ _ _ _ ht, fun p' cv hcv => ?_⟩
        rw [eL] at hcv
        rcases among_app _ ht hcv with z | z
        · obtain ⟨c0, e1, e2⟩ := ha p' cv z
          exact ⟨c0, e1, hE _ _ e2 codeO_ne⟩
        · exact ⟨c', z, upd_same⟩
      · obtain ⟨ps', a1, a2, a3⟩ := hT p hp
        refine ⟨ps', by rw [upd_ne (ne_of_none a1 nC), upd_ne hb]; exact a1, a2, fun p' cv hcv => ?_⟩
        obtain ⟨c0, e1, e2⟩ := a3 p' cv hcv
        exact ⟨c0, e1, hE _ _ e2 codeO_ne⟩
    · have n1 : h'.objs.size ≠ c' := Nat.ne_of_gt hlt
      have n2 : h'.objs.size ≠ P := Nat.ne_of_gt (Nat.lt_of_lt_of_le (Heap.lt_size hP') (Nat.le_trans hge (Nat.le_of_lt hlt)))
      rw [upd_ne n1, upd_ne n2]
      exact I.hok.fresh (Nat.le_trans hge (Nat.le_of_lt hlt))
  | some cv =>
    obtain ⟨c', e, hco⟩ := ha pos cv hc
    subst e
    refine PySem.W.kla_makeFunctionHit (mg := X.mg) (c := c) (P := P) (ps := ps) hcl I.ok.glob (I.mod.glob.keeps I.bk) hcode (TB.code.keeps I.bk) hP' ht hc bP fun ctv h' tk hx hsz => ?_
    exact end_ c' ctv H h' tk (I.kept (t' := tk) hx) hsz (ExtN.refl H) hT (I.hok.fresh hsz) hco
end
structure LamP (sc scope : Scope) (pn y : Str) : Prop where
  kind : scope.kind = .function
  co : scope.isCoroutine = false
  gen : scope.isGenerator = false
  own : ∀ z ∈ scope.names, z.2 ≠ .cell
  par : scope.names.lookup pn = some .local
  fy : scope.names.lookup y = some .free
  ne : pn ≠ y
  free : ∀ z ∈ scope.names, z.2 = .free → sc.names.lookup z.1 = some .cell ∨ sc.names.lookup z.1 = some .free
def cxP (X : Cx) (A : Around) (s : Shared) (H : Hp) (E : XK) (scope : Scope) (f c' : Addr) (pn y : Str) : Cx := { lamCx X A X.stack s H E scope f c' with N := [pn, y] }
section
variable {X : Cx} {pins : List (Addr × Obj)} {σ : L2.St} {H : Hp} {s : Shared}
theorem clo_start {A : Around} {E : XK} {scope : Scope} {f c' : Addr} {h₁ : Heap} {tk j : Nat} {pn y : Str} {u : Value} {v vy : V} (I : Inv X pins σ H s) (L : LamP X.env.scope scope pn y) (e0 : Env0 X.prog X.w X.K X.mg X.base A X.stack s H) (hd : A.handled = none)
    (hns : h₁.Ns s.heap.objs.size fun z => ([(pn, u)] : List (Str × Value)).reverse.lookup z) (kp : ∀ b o, s.heap.get? b = some o → h₁.get? b = some o) (rv : RelV v u) (hy : X.N[j]? = some y) (hσ : σ[j]? = some (some vy)) :
    Inv (cxP X A s H E scope f c' pn y) [] [some v, some vy] H { s with heap := h₁, toks := tk } := by
  have down : ∀ {z c}, (cloFrom X.env.cells scope.names []).lookup z = some c → X.env.cells.lookup z = some c := fun {z c} e => by
    rcases cloFrom_mem (PySem.mem_of_lookup e) with hm | ⟨h1, h2⟩
    · cases hm
    · have hz : ∃ c1, X.env.cells.lookup z = some c1 := (L.free _ h1 rfl).elim (fun k => I.ok.has _ (.inl k)) fun k => I.ok.has _ (.inr k)
      obtain ⟨c1, hc⟩ := hz
      have e2 : c = c1 := by
        rw [h2, hc] <;> rfl
      rw [e2]
      exact hc
  have upw : ∀ {z}, scope.names.lookup z = some .free → ∃ c, (cloFrom X.env.cells scope.names []).lookup z = some c := fun {z} hl => by
    have hz : (z, NameKind.free) ∈ scope.names := PySem.mem_of_lookup hl
    exact mem_lookup (cloFrom_has (cells := X.env.cells) (acc := []) hz)
  have cellK : ∀ {c : Addr} {w' : Option Value}, s.heap.IsCell c w' → h₁.IsCell c w' := fun {c w'} ⟨o, ho, hd⟩ => ⟨o, kp _ _ ho, hd⟩
  have noA : ∀ b : Addr, b ∉ (cxP X A s H E scope f c' pn y).ex := fun b z => absurd (show b ∈ ([] : List Addr) from z) (by simp)
  have ok : (cxP X A s H E scope f c' pn y).Ok := ⟨e0.mod, L.kind, rfl, rfl, Nat.le_refl _, fun a b c e1 e2 => I.ok.inj a b c (down e1) (down e2), fun a ha => by
      have ha : scope.names.lookup a = some .cell ∨ scope.names.lookup a = some .free := ha
      rcases ha with ha | ha
      · exact absurd rfl (L.own _ (PySem.mem_of_lookup ha))
      · exact upw ha, fun a c z _ => (by
      have z : false = true := z
      cases z), fun _ => hd, Around.frames_deeper e0.frames, .inr ⟨rfl, rfl⟩, fun b z => absurd z (noA b), e0.bs, e0.bsz, fun b _ _ => noA b, fun b z => absurd z (noA b), e0.funs, e0.frf⟩
  refine ⟨ok, rfl, e0.bare, Un.kept kp, ⟨_, hns, fun i z v' e1 e2 e3 => ?_⟩, fun z c e => ?_, e0.hok.fresh (Nat.le_refl _), fun z c e => ?_, fun q hq => absurd (show q ∈ ([] : List (Addr × Obj)) ++ [] from hq) (by simp), e0.hok.kept kp, rfl⟩
  · match i, e1, e2 with
    | 0, e1, e2 =>
      cases e1
      cases e2
      exact ⟨u, rv, .inl ⟨L.par, by simp [List.lookup]⟩⟩
    | 1, e1, e2 =>
      cases e1
      cases e2
      obtain ⟨m, hn, hl⟩ := I.loc
      have hk := L.free _ (PySem.mem_of_lookup L.fy) rfl
      obtain ⟨w', r, q⟩ := hl j y vy hy hσ (hk.elim (fun k => .inr (.inl k)) fun k => .inr (.inr k))
      obtain ⟨c2, h2⟩ := upw L.fy
      refine ⟨w', r, .inr ⟨.inr L.fy, c2, h2, ?_⟩⟩
      have c1 := down h2
      rcases q with ⟨k', _⟩ | ⟨_, c3, e', z⟩
      · have k' : X.env.scope.names.lookup y = some .local := k'
        rcases hk with k2 | k2 <;> rw [show X.env.scope.names.lookup y = _ from k2] at k' <;> cases k'
      · rw [c1] at e'
        cases e'
        exact cellK z
    | i + 2, e1, e2 => cases e1
  · obtain ⟨w', z⟩ := I.cell z c (down e)
    exact ⟨w', cellK z⟩
  · exact I.freeC z c (down e)
theorem clo_run {A : Around} {E : XK} {k j : Nat} {f c' : Addr} {params : Arguments} {body : Expr} {scope : Scope} {pn y : Str} {u : Value} {v vy : V} {Q : VK} (I : Inv X pins σ H s) (L : LamP X.env.scope scope pn y) (hr : Room (k + 1) A) (e0 : Env0 X.prog X.w X.K X.mg X.base A X.stack s H)
    (hf : H f = some (CloO f (X.env.qual ++ "<lambda>") params body scope (cloFrom X.env.cells scope.names []) c')) (hc : H c' = some (CodeO c' (X.env.qual ++ "<lambda>")))
    (hb : ∀ pm ctv, BindsTo s (PySem.W.kla_fn "<lambda>" (X.env.qual ++ "<lambda>") params body scope (cloFrom X.env.cells scope.names []) pm (.ref c') ctv) ⟨[u], []⟩ [(pn, u)]) (rv : RelV v u) (hy : X.N[j]? = some y) (hσ : σ[j]? = some (some vy))
    (hbody : Room k (A.deeper (lamEnv X scope s.heap.objs.size f c')) → ∃ t, PE (cxP X A s H E scope f c' pn y) body t ∧ t [some v, some vy] H Q) :
    codeAny (model X.prog X.w) A (.call (.ref f) ⟨[u], []⟩) (CR (L2.CX X.prog X.w) X.stack X.prog X.w H s Q E) s := by
  obtain ⟨⟨pm, ctv, of1⟩, _, _⟩ := e0.hok f _ hf
  obtain ⟨⟨oc, vsc, t, hoc, hdc, hvc⟩, _, _⟩ := e0.hok c' _ hc
  refine PySem.W.kla_callFunE hr.depth of1 rfl L.co L.gen rfl ⟨c', oc, vsc, t, rfl, hoc, hdc, hvc⟩ ?_
  refine hb pm ctv _ _ _ _ ?_
  refine wpAny_newFunctionEnv (fun z hz => L.own z hz) (fun z hz => ?_) (fun h₁ hns hsb => ⟨I.nolimit.fresh _ hsb, ?_⟩) L.kind
  · rw [List.mem_singleton.mp hz]
    exact L.par
  · show codeAny _ _ (.expr body (lamEnv X scope s.heap.objs.size f c')) _ _
    have kp : ∀ b o, s.heap.get? b = some o → h₁.get? b = some o := fun b o e => hsb.extBut b o (Nat.ne_of_lt (Heap.lt_size e)) (Heap.get?_push_of_some _ e)
    have J : Inv (cxP X A s H E scope f c' pn y) [] [some v, some vy] H { s with heap := h₁, toks := s.toks + ([(pn, u)] : List (Str × Value)).length } := clo_start I L e0 hr.hd hns kp rv hy hσ
    obtain ⟨t, ht, hq⟩ := hbody (hr.deeper _)
    refine PySem.W.kla_codeExpr (wpAny_mono (ht.run [] _ _ H Q J hq) (fun v s' hq => ?_) fun e s' hq => hq)
    obtain ⟨w', H', J', rv, q⟩ := hq
    exact ⟨w', H', J'.os, J'.bare, J'.base, J'.hok, rv, q⟩
end
end CP
set_option Elab.async false
set_option linter.all false
set_option maxRecDepth 100000
set_option maxHeartbeats 4000000
namespace CP
open PySem PySem.Spec PyProof.Rows PySem.Calls L2 KB KC KD KS LamX PySem.SeqAt PySem.W
def KeyI (X : Cx) (σ : L2.St) (f : Addr) (H : Hp) (bs : List Str) (kf : Str → Int) : Prop :=
  ∀ x ∈ bs, ∀ (H1 : Hp), Ex H H1 → ∀ (pins : List (Addr × Obj)) (s1 : Shared) (v : Value) (R : Value → Shared → Prop), RelV (.str x) v → Inv X pins σ H1 s1 →
    (∀ t H2 s2, Inv X pins σ H2 s2 → Ex H1 H2 → Un (frs X.stack) [] H1 H2 s1.heap s2.heap → R (.int (kf x) t) s2) → wpAny (model X.prog X.w) X.A.in1.in1 (call (.ref f) [v]) R (fun _ _ => False) s1
theorem KeyI.ex {X : Cx} {σ : L2.St} {f : Addr} {H H1 : Hp} {bs : List Str} {kf : Str → Int} (k : KeyI X σ f H bs kf) (e : Ex H H1) : KeyI X σ f H1 bs kf := fun x hx H2 e2 => k x hx H2 (e.trans e2)
section
variable {X : Cx} {pins : List (Addr × Obj)} {σ : L2.St}
theorem each_vals {α : Type} {g : α → V} : ∀ {vs : List Value} {bs : List α}, Vals (bs.map g) vs → EachIs (fun v b => RelV (g b) v) vs bs
  | [], [], _ => .nil
  | v :: vs, b :: bs, .cons h r => .cons h (each_vals r)
  | [], _ :: _, r => by cases r
  | _ :: _, [], r => by cases r
theorem vals_each {α : Type} {g : α → V} : ∀ {vs : List Value} {bs : List α}, EachIs (fun v b => RelV (g b) v) vs bs → Vals (bs.map g) vs
  | _, _, .nil => .nil
  | _, _, .cons h r => .cons h (vals_each r)
theorem ints_each {h : Heap} {kf : Str → Int} : ∀ {vs : List Value} {bs : List Str}, EachIs (fun v b => RelV (V.int (kf b)) v) vs bs → EachIs (fun v b => ∃ as, Reads h v (PyData.int (kf b)) as) vs bs
  | _, _, .nil => .nil
  | _, _, .cons a r => by
    obtain ⟨t, rfl⟩ := a
    exact .cons ⟨[], .int _ t⟩ (ints_each r)
theorem sort_bodyI {f D : Addr} {H : Hp} {s : Shared} {h2 : Heap} {tk : Nat} {bs : List Str} {vs : List Value} {kf : Str → Int} {P : PySem.Fin → Shared → Prop} {E : Value → Shared → Prop}
    (I : Inv X pins σ H s) (hk : ∀ b o, s.heap.get? b = some o → h2.get? b = some o) (hD : h2.get? D = some (seqObj "list" vs.toArray 0)) (hsD : s.heap.objs.size ≤ D)
    (rv : Vals (bs.map V.str) vs) (hz : bs.length ≤ sizeLine) (hu : X.A.units + 66 < cLine) (hcall : KeyI X σ f H bs kf)
    (q : ∀ (H' : Hp) (s' : Shared), Inv X pins σ H' s' → Ex H H' → H D = none → H' D = some (.lst ((bs.mergeSort fun a b => decide (kf a ≤ kf b)).map V.str)) → P (.done (.ret .none)) s') :
    wpAny (model X.prog X.w) X.A.in1.in1 (ksk_tree D (.ref f) false) P E { s with heap := h2, toks := tk } := by
  have lv : vs.length = bs.length := by
    have := rv.length
    rw [List.length_map] at this
    exact this.symm
  have szl : vs.toArray.size = bs.length := by rw [List.size_toArray, lv]
  have nD : H D = none := I.hok.fresh hsD
  unfold ksk_tree
  refine wpAny_bind (listItems_at hD rfl ?_)
  refine wpAny_bind (listUpdate_at hD rfl ?_ (by rw [szl]; exact hz) (Nat.zero_le _))
  obtain ⟨e1, ho1⟩ : ∃ e1, (h2.update D (Obj.mapSeq fun _ => (#[] : Array Value))).get? D = some (seqObj "list" #[] e1) := ⟨_, get?_update_seq hD fun _ => #[]⟩
  refine wpAny_bind (seqEpoch_at ho1 rfl ?_)
  refine wpAny_bind (wpAny_newTuple ?_ (by show vs.length ≤ _; omega))
  refine wpAny_bind (wpAny_newList ?_ (Nat.zero_le _))
  refine wpAny_holding ?_
  generalize hh4 : (h2.update D (Obj.mapSeq fun _ => (#[] : Array Value))).push (seqObj "tuple" vs.toArray 0) = h4
  have z4 : h4.objs.size = h2.objs.size + 1 := by rw [← hh4, size_push', Heap.size_update]
  have keep4 : ∀ b o, b ≠ D → h2.get? b = some o → h4.get? b = some o := fun b o hb e => by
    rw [← hh4]
    exact Heap.get?_push_of_some _ ((Heap.get?_update_ne _ _ _ _ hb).trans e)
  have hD4 : h4.get? D = some (seqObj "list" #[] e1) := by rw [← hh4]; exact Heap.get?_push_of_some _ ho1
  have I1 : Inv X pins σ (upd H h4.objs.size (.lst [])) { s with heap := h4.push (seqObj "list" #[] 0), toks := tk } :=
    I.laid (t' := tk) (fun b o e => Heap.get?_push_of_some _ (keep4 b o (fun z => by rw [z] at e; exact absurd (Heap.lt_size e) (Nat.not_lt.mpr hsD)) (hk b o e))) (by rw [z4]; exact Nat.le_succ_of_le (Nat.le_trans hsD (Nat.le_of_lt (Heap.lt_size hD))))
      ⟨Nat.zero_le _, [], 0, .nil, Heap.get?_push_size _ rfl⟩
  have hkn : H h4.objs.size = none := I.hok.fresh (by rw [z4]; exact Nat.le_succ_of_le (Nat.le_trans hsD (Nat.le_of_lt (Heap.lt_size hD))))
  have hDk : D ≠ h4.objs.size := by rw [z4]; exact Nat.ne_of_lt (Nat.lt_succ_of_lt (Heap.lt_size hD))
  have hD2 : (upd H h4.objs.size (.lst [])) D = none := by rw [upd_ne hDk]; exact nD
  have fD : ∀ H', H' D = none → FpOk X pins H' D := fun H' n => I.fpOk hsD n
  have I3 : Inv X (pins ++ [(D, seqObj "list" #[] e1)]) σ (upd H h4.objs.size (.lst [])) { s with heap := h4.push (seqObj "list" #[] 0), toks := tk } := I1.pins_of fun p hp => by
    rcases List.mem_append.mp hp with hp | hp
    · exact I1.pin p (List.mem_append_right _ hp)
    · rw [List.mem_singleton.mp hp]
      obtain ⟨_, f1, f2, _⟩ := fD _ hD2
      exact ⟨Heap.get?_push_of_some _ hD4, hD2, f1, f2, fun v z => by cases z⟩
  unfold ksk_rest
  refine wpAny_bind (wpAny_rule ?_)
  first
    | rw [List.forIn_toArray]
    | (rw [← Array.forIn_toList]; simp only [List.toList_toArray])
  refine wpAny_bind (ksk_fold (fun i s' => ∃ (Hi : Hp), Inv X (pins ++ [(D, seqObj "list" #[] e1)]) σ Hi s' ∧ Ex H Hi ∧ Hi h4.objs.size = some (.lst ((bs.take i).map fun x => V.int (kf x)))) vs 0 _ ⟨_, I3, Ex.upd hkn, upd_same⟩ ?step ?done)
  case step =>
    rintro j v s' hv ⟨Hi, Ii, ei, hki⟩
    simp only [Nat.zero_add] at hki ⊢
    have jl : j < vs.length := (List.getElem?_eq_some_iff.mp hv).1
    obtain ⟨x, hx⟩ : ∃ x, bs[j]? = some x := ⟨_, List.getElem?_eq_getElem (by omega)⟩
    obtain ⟨v', hv', rx⟩ := rv.get (i := j) (x := .str x) (by rw [List.getElem?_map, hx]; rfl)
    obtain rfl : v' = v := Option.some.inj (hv'.symm.trans hv)
    have hxm : x ∈ bs := List.mem_of_getElem? hx
    refine wpAny_bind (wpAny_attempt (wpAny_mono (hcall x hxm Hi ei _ s' v' (fun u s'' => ∃ t H3, u = .int (kf x) t ∧ Inv X (pins ++ [(D, seqObj "list" #[] e1)]) σ H3 s'' ∧ Ex Hi H3) rx Ii fun t H3 s2 J e3 _ => ⟨t, H3, rfl, J, e3⟩) (fun u s'' he => ?_) fun _ _ hF => hF.elim))
    obtain ⟨t, H3, rfl, J, e3⟩ := he
    have hk3 := e3 _ _ hki
    obtain ⟨hzy, its, n, ri, hraw⟩ := lst_raw J hk3
    have il : its.length = j := by
      have := ri.length
      rw [List.length_map, List.length_take] at this
      omega
    try dsimp only
    refine wpAny_bind (listUpdate_at hraw rfl ?_ (by rw [List.size_toArray]; omega) (by rw [Array.size_push, List.size_toArray]; omega))
    have tk1 : (bs.take (j + 1)).map (fun x => V.int (kf x)) = (bs.take j).map (fun x => V.int (kf x)) ++ [V.int (kf x)] := by
      rw [List.take_add_one, hx, List.map_append]
      rfl
    refine wpAny_pure ⟨rfl, _, lst_write (tk := s''.toks) (zs := (bs.take (j + 1)).map fun x => V.int (kf x)) (vs := its ++ [.int (kf x) t]) J hk3 hraw (by rw [List.length_map, List.length_take]; omega) (by rw [tk1]; exact ri.append (.cons ⟨t, rfl⟩ .nil)) (·.push (.int (kf x) t)) (by simp), fun b o e => ?_, upd_same⟩
    rw [upd_ne (ne_of_none e hkn)]
    exact e3 _ _ (ei _ _ e)
  case done =>
    rintro s' ⟨Hi, Ii, ei, hki⟩
    rw [Nat.zero_add, List.take_of_length_le (by omega)] at hki
    obtain ⟨_, its, n, ri, hraw⟩ := lst_raw Ii hki
    have il : its.length = bs.length := by
      have := ri.length
      rw [List.length_map] at this
      exact this.symm
    try dsimp only
    refine wpAny_bind (listItems_at hraw rfl ?_)
    have hal : AllAlike (bs.map fun x => PyData.int (kf x)) := AllAlike.of fun _ _ => rfl
    have hsk : Sortable (bs.map fun x => PyData.int (kf x)) := Sortable.others fun _ => ⟨fun z => (nomatch z), fun _ z => (nomatch z)⟩
    have ek : EachIs (fun v d => ∃ as, Reads s'.heap v d as) its (bs.map fun x => PyData.int (kf x)) := each_map (R := fun v d => ∃ as, Reads s'.heap v d as) (fun x => PyData.int (kf x)) (ints_each (each_vals (g := fun x => V.int (kf x)) ri))
    have S : SortsAt X.prog X.w X.A.in1.in1 s' (dataKind s'.heap (bs.map fun x => PyData.int (kf x))) its := SortsAt.data (s := s') ek hal hsk fun d hd => by
      obtain ⟨x, _, rfl⟩ := List.mem_map.mp hd
      show X.A.units + 1 + 1 + (PyData.int (kf x)).depth < cLine
      have : (PyData.int (kf x)).depth = 0 := rfl
      omega
    obtain ⟨kd, hlt, hkd⟩ := S.kind
    have hK : PyProof.Rows.KeysOf (dataKind s'.heap (bs.map fun x => PyData.int (kf x))) (its.toArray.zip vs.toArray) := keysOf_zip (by rw [List.toList_toArray]; exact S.keys)
    have hss : (its.toArray.zip vs.toArray).size = vs.length := by rw [Array.size_zip, List.size_toArray, List.size_toArray]; omega
    have out_of : ∀ st' : SortSt, (arrOf st').Perm (its.toArray.zip vs.toArray) → SortedToK (dataKind s'.heap (bs.map fun x => PyData.int (kf x))) (arrOf st') (its.toArray.zip vs.toArray).size → Stable (dataKind s'.heap (bs.map fun x => PyData.int (kf x))) (arrOf st') (its.toArray.zip vs.toArray) →
        ((arrOf st').map (·.2)).toList = sortVals (dataKind s'.heap (bs.map fun x => PyData.int (kf x))) false its vs := fun st' hp hs ht => by
      have e := sort_out (rev := false) (keys := its.toArray) (items := vs.toArray) (xs := arrOf st') hK (by simpa using hp) (by simpa using hs) (by simpa using ht)
      simpa using e
    have eout : EachIs (fun v x => RelV (.str x) v) (sortVals (dataKind s'.heap (bs.map fun x => PyData.int (kf x))) false its vs) (bs.mergeSort fun a b => decide (kf a ≤ kf b)) := by
      have h := keyedOut_each (rev := false) (fun x => PyData.int (kf x)) ⟨s'.heap, its, hal, rfl, ek⟩ (each_vals (g := V.str) rv)
      rw [dataLe_int] at h
      exact h
    have vout : Vals ((bs.mergeSort fun a b => decide (kf a ≤ kf b)).map V.str) (sortVals (dataKind s'.heap (bs.map fun x => PyData.int (kf x))) false its vs) := vals_each (g := V.str) eout
    have lout : (bs.mergeSort fun a b => decide (kf a ≤ kf b)).length = bs.length := List.length_mergeSort ..
    have tail : ∀ st' : SortSt, ((arrOf st').map (·.2)).toList = sortVals (dataKind s'.heap (bs.map fun x => PyData.int (kf x))) false its vs → failedOf st' = none →
        wpAny (model X.prog X.w) X.A.in1.in1 (ksk_tail D false e1 (.ref h4.objs.size) st') P E s' := by
      intro st' ho hf
      have osz : ((arrOf st').map (·.2)).size = bs.length := by
        rw [← Array.length_toList, ho, ← vout.length, List.length_map, lout]
      have J1 := lst_write (tk := s'.toks) (zs := []) (vs := []) Ii hki hraw (Nat.zero_le _) .nil (fun _ => (#[] : Array Value)) rfl
      obtain ⟨pD, nD5, _⟩ := J1.pin (D, seqObj "list" #[] e1) (List.mem_append_right _ (List.mem_append_right _ (List.mem_singleton.mpr rfl)))
      unfold ksk_tail
      try dsimp only
      refine wpAny_bind (listUpdate_at hraw rfl ?_ (by rw [List.size_toArray]; omega) (Nat.zero_le _))
      refine wpAny_bind (wpAny_letGo ?_)
      refine wpAny_bind (seqEpoch_at pD rfl ?_)
      refine wpAny_bind (listUpdate_at pD rfl ?_ (Nat.zero_le _) (by simp only [Bool.false_eq_true, if_false]; rw [osz]; omega))
      rw [hf]
      simp only [bne_self_eq_false, Bool.false_eq_true, if_false]
      refine wpAny_pure ?_
      have J2 := J1.pins_of (pins' := pins) fun p hp => J1.pin p (List.mem_append_right _ (List.mem_append_left _ hp))
      have eD := get?_update_seq pD fun _ => (arrOf st').map (·.2)
      have J3 := J2.take (t' := s'.toks) (o := .lst ((bs.mergeSort fun a b => decide (kf a ≤ kf b)).map V.str)) (h' := (s'.heap.update h4.objs.size (Obj.mapSeq fun _ => (#[] : Array Value))).update D (Obj.mapSeq fun _ => (arrOf st').map (·.2))) (fun b u hb e => (Heap.get?_update_ne _ _ _ _ hb).trans e) (fD _ nD5)
        ⟨by rw [List.length_map, lout]; exact hz, _, _, vout, by rw [← ho, Array.toArray_toList]; exact eD⟩
      refine q _ _ J3 (fun b o e => ?_) nD upd_same
      rw [upd_ne (ne_of_none e nD), upd_ne (ne_of_none e hkn)]
      exact ei b o e
    unfold ksk_end
    simp only [Bool.false_eq_true, if_false]
    by_cases h2s : vs.toArray.size < 2
    · rw [if_pos h2s, if_pos h2s]
      refine wpAny_bind (wpAny_pure ?_)
      rw [StateT.run_pure]
      refine wpAny_bind (wpAny_pure ?_)
      try dsimp only
      refine tail (SortSt.mk' general' (its.toArray.zip vs.toArray) #[] 7 none) (out_of _ (Array.Perm.refl _) (fun i j hij hj => ?_) (Stable.refl _)) rfl
      rw [hss] at hj
      rw [List.size_toArray] at h2s
      have : i = j := by omega
      subst this
      exact KeyOrd.kle_refl _
    · rw [if_neg h2s, if_neg h2s]
      rw [List.size_toArray] at h2s
      refine wpAny_bind (hkd (by omega) _ ?_)
      refine wpAny_bind (wpAny_mono (PyProof.Rows.H.wpS_sortRunsSt (kd := kd) (a₀ := its.toArray.zip vs.toArray) (st := SortSt.mk' kd (its.toArray.zip vs.toArray) #[] 7 none)
        (Q := fun _ st' => failedOf st' = none ∧ ((arrOf st').map (·.2)).toList = sortVals (dataKind s'.heap (bs.map fun x => PyData.int (kf x))) false its vs)
        hlt hK ⟨Array.Perm.refl _, rfl, rfl⟩ rfl (Stable.refl _) (by rw [hss]; omega) fun st' a1 a2 a3 a4 => ⟨a2, out_of st' a1 a3 a4⟩) ?_ fun _ _ e => e)
      rintro ⟨⟨⟩, st'⟩ s'' ⟨rfl, hf, ho⟩
      try dsimp only at ho ⊢
      exact tail st' ho hf
end
end CP
set_option Elab.async false
set_option linter.all false
set_option maxRecDepth 100000
set_option maxHeartbeats 4000000
namespace CP
open PySem PySem.Spec PyProof.Rows PySem.Calls L2 KB KC KD KS LamX PySem.SeqAt PySem.W
section
variable {prog : Program} {w : World} {A : Around} {E : Value → Shared → Prop} {s : Shared} {T : String} {r d : Addr} {n : Nat} {P : Nat → Value → Prop} {OK : Heap → Prop}
theorem collect_src {R : List Value → Shared → Prop} (K : KdlSrc prog w T r d n P OK) (hh : A.handled = none) (hok : OK s.heap) (hn : n ≤ sizeLine)
    (h : ∀ (h' : Heap) (tk : Nat) (acc : Array Value), (∀ b o, s.heap.get? b = some o → h'.get? b = some o) → s.heap.objs.size < h'.objs.size → ItemsOf P acc n → R acc.toList { s with heap := h', toks := tk }) :
    wpAny (model prog w) A (collect (.ref r)) R E s := by
  have hlt := K.there _ hok
  unfold collect
  refine wpAny_bind (wpAny_runValue (codeAny_builtin PyProof.Rows.entry_proto_collect' ?_))
  rw [Around.under_plainId PySem.F.plain_proto_collect _]
  show wpAny _ A.in1 (newList [] >>= fun l => again (.builtin "list.__iadd__" ⟨[l, .ref r], []⟩)) _ _ s
  refine wpAny_bind (wpAny_newObj_type ?_)
  refine wpAny_pure ⟨plainId_quiet PySem.F.plain_list_iadd _, codeAny_builtin PyProof.Rows.entry_list_iadd' ?_⟩
  rw [Around.under_plainId PySem.F.plain_list_iadd _]
  have hS₁ : (s.heap.push { cls := .type "list", data := .seq ([] : List Value).toArray }).get? s.heap.objs.size = some { cls := .type "list", data := .seq #[] } := Heap.get?_push_size _ rfl
  show wpAny _ A.in1 (Builtin.List.listExtendWith (.ref s.heap.objs.size) (.ref r) (.ref s.heap.objs.size)) _ _ _
  have key := kdl_extend (A := A) (s := { s with heap := s.heap.push { cls := .type "list", data := .seq ([] : List Value).toArray } })
    (R := fun (q : Result) (s' : Shared) => ∃ (h' : Heap) (tk : Nat) (acc' : Array Value) (c' : Nat), q = .ok (.ret (.ref s.heap.objs.size)) ∧ s' = { s with heap := h', toks := tk } ∧
      (∀ b o, s.heap.get? b = some o → h'.get? b = some o) ∧ h'.get? s.heap.objs.size = some { cls := .type "list", dict := none, data := .seq acc' c', slots := #[] } ∧ ItemsOf P acc' n)
    K hh (K.keep _ _ hok fun b _ o e => Heap.get?_push_of_some _ e) s.heap.objs.size (Nat.ne_of_gt hlt.1) (Nat.ne_of_gt hlt.2) (.ref s.heap.objs.size) 0 hS₁
    (fun h' tk acc' c' hk hS' hacc => ⟨h', tk, acc', c', rfl, rfl, fun b o e => hk b o (Nat.ne_of_lt (Heap.lt_size e)) (Heap.get?_push_of_some _ e), hS', hacc⟩) hn
  refine wpAny_mono key (fun fin s' x => ?_) fun e s' x => ?_
  · cases fin with
    | done f =>
      obtain ⟨h', tk, acc', c', e, rfl, hk, hS', hacc⟩ := x
      cases e
      show wpAny _ A (load s.heap.objs.size >>= _) _ _ _
      refine wpAny_bind (wpAny_load hS' ?_)
      refine wpAny_pure ?_
      exact h h' tk acc' hk (Heap.lt_size hS') hacc
    | again c₁ =>
      refine ⟨x.1, codeAny_mono x.2 fun q s₂ y => ?_⟩
      obtain ⟨h', tk, acc', c', rfl, rfl, hk, hS', hacc⟩ := y
      show wpAny _ A (load s.heap.objs.size >>= _) _ _ _
      refine wpAny_bind (wpAny_load hS' ?_)
      refine wpAny_pure ?_
      exact h h' tk acc' hk (Heap.lt_size hS') hacc
  · obtain ⟨_, _, _, _, e', _⟩ := x
    cases e'
end
theorem vals_keys {prog : Program} {w : World} {kvs : List (Key × V)} {vs : List (Key × Value)} (rk : kvs.map (·.1) = vs.map (·.1)) {acc : Array Value} (hacc : ItemsOf (fun i v => ∃ k x, vs[i]? = some (k, x) ∧ (mixKind prog w).is k v = true) acc vs.length) : Vals (kvs.map fun kv => kV kv.1) acc.toList := by
  have hl : kvs.length = vs.length := by
    have := congrArg List.length rk
    simpa using this
  have el : acc.toList.length = acc.size := by simp
  refine vals_of_at (by rw [List.length_map, el, hacc.1, hl]) fun j x u h1 h2 => ?_
  obtain ⟨k, y, hky, hi⟩ := hacc.2 j u (by rw [← Array.getElem?_toList]; exact h2)
  have e1 : (kvs.map (·.1))[j]? = some k := by
    rw [rk, List.getElem?_map, hky] <;> rfl
  have e2 : (kvs.map fun kv => kV kv.1)[j]? = some (kV k) := by
    have e3 : (kvs.map fun kv => kV kv.1) = (kvs.map (·.1)).map kV := by rw [List.map_map] <;> rfl
    rw [e3, List.getElem?_map, e1] <;> rfl
  rw [e2] at h1
  cases h1
  exact keyIs_rel hi
section
variable {X : Cx} {pins : List (Addr × Obj)} {σ : L2.St}
theorem collect_dK {A : Around} {s : Shared} {H : Hp} {p : Addr} {kvs : List (Key × V)} {R : List Value → Shared → Prop} {E : Value → Shared → Prop} (I : Inv X pins σ H s) (hh : A.handled = none) (hp : H p = some (.dK kvs))
    (h : ∀ (h' : Heap) (tk : Nat) (us : List Value), (∀ b o, s.heap.get? b = some o → h'.get? b = some o) → s.heap.objs.size < h'.objs.size → Vals (kvs.map fun kv => kV kv.1) us → kvs.length ≤ sizeLine → R us { s with heap := h', toks := tk }) :
    wpAny (model X.prog X.w) A (collect (.ref p)) R E s := by
  obtain ⟨z, lo, vs, rk, hd⟩ := (show ObjOk X.prog X.w H s.heap p (.dK kvs) from I.hok p _ hp)
  obtain ⟨ep, hat⟩ := hd.dictAt
  have hl : kvs.length = vs.length := Paired.length rk
  exact collect_src (kdl_dict (knd := mixKind X.prog X.w) (kvs := vs) (ep := ep) lo) hh hat (by rw [← hl]; exact z) fun h' tk acc hk hlt hacc => h h' tk acc.toList hk hlt (vals_keys (KV.keys rk) hacc) z
def rSortDS : List V → Hp → VK → Prop := fun xs H Q => ∃ (p : Addr) (kvs : List (Key × V)) (bs : List Str), xs = [.ref p] ∧ H p = some (.dK kvs) ∧ kvs.map (fun kv => kV kv.1) = bs.map V.str ∧ ∀ D, H D = none → Q (.ref D) (upd H D (.lst ((bs.mergeSort fun a b => decide (a.cps.toList ≤ b.cps.toList)).map V.str)))
def rSortDI : List V → Hp → VK → Prop := fun xs H Q => ∃ (p : Addr) (kvs : List (Key × V)) (bs : List Int), xs = [.ref p] ∧ H p = some (.dK kvs) ∧ kvs.map (fun kv => kV kv.1) = bs.map V.int ∧ ∀ D, H D = none → Q (.ref D) (upd H D (.lst ((bs.mergeSort fun a b => decide (a ≤ b)).map V.int)))
theorem sorted_flat {α : Type} {enc : α → PyData} {g : α → V} {bs : List α} {le : α → α → Bool} {s : Shared} {H : Hp} {p : Addr} {kvs : List (Key × V)} {Q : VK} (hc : X.calm = true) (hu : X.A.units + 66 < cLine) (I : Inv X pins σ H s) (hp : H p = some (.dK kvs)) (hb : kvs.map (fun kv => kV kv.1) = bs.map g)
    (hal : ∀ b b', alike (enc b) (enc b') = true) (hk : ∀ b, enc b ≠ .none ∧ ∀ xs, enc b ≠ .tuple xs) (hd : ∀ b, (enc b).depth ≤ 1) (hle : dataLe false enc = le) (rd : ∀ (h : Heap) (b : α) (v : Value), RelV (g b) v → Reads h v (enc b) [])
    (q : ∀ D, H D = none → Q (.ref D) (upd H D (.lst ((bs.mergeSort le).map g)))) : wpAny (model X.prog X.w) X.A (call (.builtin "sorted") [.ref p]) (EP X pins σ Q) X.xe s := by
  refine call_function_entry kind_sorted plain_sorted entry_sorted (args_sorted1 _) ?_
  unfold Builtin.«sorted»
  refine wpAny_bind (m := checkCount "sorted" 1 1 _) (wpAny_pure ?_)
  refine wpAny_bind (collect_dK (A := X.A.in1) I (I.ok.hd hc) hp fun h' tk us hkp hlt rv hz => ?_)
  rw [hb] at rv
  have lu : bs.length = us.length := by
    have := rv.length
    rw [List.length_map] at this
    exact this
  have lz : bs.length ≤ sizeLine := by
    have := congrArg List.length hb
    rw [List.length_map, List.length_map] at this
    omega
  refine wpAny_bind (wpAny_newList ?_ (by show us.length ≤ _; omega))
  have hoL : (h'.push (seqObj "list" us.toArray 0)).get? h'.objs.size = some (seqObj "list" us.toArray 0) := Heap.get?_push_size _ rfl
  have er : EachIs (fun v b => ∃ as, Reads (h'.push (seqObj "list" us.toArray 0)) v (enc b) as ∧ h'.objs.size ∉ as) us bs := by
    have := each_vals (g := g) rv
    clear hoL rv lu
    exact go this
  refine wpAny_bind (wpAny_holding ?_)
  refine list_sort_data (A := X.A.in1) (s := { s with heap := h'.push (seqObj "list" us.toArray 0), toks := tk }) (a := h'.objs.size) (n := 0) (enc := enc) (R := fun v b => RelV (g b) v) hoL (each_vals (g := g) rv) er (AllAlike.of hal) (Sortable.others hk) lz (fun b _ => by
    have := hd b
    show X.A.units + 1 + 1 + (enc b).depth < cLine
    omega) fun out hol eo => ?_
  rw [hle] at eo
  have vo := vals_each (g := g) eo
  refine wpAny_pure ⟨_, rfl, ?_⟩
  obtain ⟨e, he⟩ := sortedHeap_at (out := (List.toArray out)) (vs := us) hoL
  have J := I.laid (t' := tk) (a := h'.objs.size) (o := .lst ((bs.mergeSort le).map g)) (h' := sortedHeap (h'.push (seqObj "list" us.toArray 0)) h'.objs.size us (List.toArray out)) (fun b u e1 => by
      have e2 := hkp b u e1
      have l2 := Heap.lt_size e2
      rw [sortedHeap_old (Nat.ne_of_lt l2) (by rw [Heap.size_push]; exact Nat.lt_succ_of_lt l2)]
      exact Heap.get?_push_of_some _ e2) (Nat.le_of_lt hlt) ⟨by rw [List.length_map, List.length_mergeSort]; exact lz, out, e, vo, he⟩
  exact ⟨.ref h'.objs.size, _, J, rfl, q _ (I.hok.fresh (Nat.le_of_lt hlt))⟩
where
  go {h' : Heap} {us : List Value} : ∀ {vs : List Value} {cs : List α}, EachIs (fun v b => RelV (g b) v) vs cs → EachIs (fun v b => ∃ as, Reads (h'.push (seqObj "list" us.toArray 0)) v (enc b) as ∧ h'.objs.size ∉ as) vs cs
    | _, _, .nil => .nil
    | _, _, .cons a r => .cons ⟨[], rd _ _ _ a, by simp⟩ (go r)
theorem cr_sortDS (hc : X.calm = true) (hu : X.A.units + 66 < cLine) : CallR X (.builtin "sorted") rSortDS := by
  intro pins s σ H xs us Q I r h
  obtain ⟨p, kvs, bs, rfl, hp, hb, q⟩ := h
  rw [Vals.ref1 r]
  exact sorted_flat (enc := fun x : Str => PyData.str x) hc hu I hp hb (fun _ _ => rfl) (fun _ => ⟨fun z => (nomatch z), fun _ z => (nomatch z)⟩) (fun _ => by simp [PyData.depth]) (dataLe_str fun x => x) (fun h b v ⟨t, e⟩ => by rw [e]; exact .str b t) q
theorem cr_sortDI (hc : X.calm = true) (hu : X.A.units + 66 < cLine) : CallR X (.builtin "sorted") rSortDI := by
  intro pins s σ H xs us Q I r h
  obtain ⟨p, kvs, bs, rfl, hp, hb, q⟩ := h
  rw [Vals.ref1 r]
  exact sorted_flat (enc := fun x : Int => PyData.int x) hc hu I hp hb (fun _ _ => rfl) (fun _ => ⟨fun z => (nomatch z), fun _ z => (nomatch z)⟩) (fun _ => by simp [PyData.depth]) (dataLe_int fun x => x) (fun h b v ⟨t, e⟩ => by rw [e]; exact .int b t) q
end
end CP
set_option Elab.async false
set_option linter.all false
set_option maxRecDepth 100000
set_option maxHeartbeats 4000000
namespace CP
open PySem PySem.Spec PyProof.Rows PySem.Calls L2 KB KC KD KS LamX PySem.SeqAt PySem.W
def CallS (X : Cx) (f : Value) (ks : List Str) (r : L2.St → List V → List V → Hp → VK → Prop) : Prop :=
  ∀ (pins : List (Addr × Obj)) (s : Shared) (σ : L2.St) (H : Hp) (xs zs : List V) (us ws : List Value) (Q : VK), Inv X pins σ H s → Vals xs us → Vals zs ws → r σ xs zs H Q → wpAny (model X.prog X.w) X.A (call f us (ks.zip ws)) (EP X pins σ Q) X.xe s
section
variable {X : Cx}
theorem pe_callS {x : Str} {p pos : Pos} {e : Expr} {es : List Expr} {kws : List Keyword} {t tk : TA} {id : String} {ks : List Str} {r : L2.St → List V → List V → Hp → VK → Prop} (hc : CallS X (.builtin id) ks r) (hg : Gl X x) (hm : X.mg x = none) (hv : bootBuiltins x = some (.builtin id)) (ha : PA X (e :: es) t) (hk : PK X kws tk) (hn : x ≠ "__name__" := by decide) (hdb : (x == ("__debug__" : Str)) = false := by decide)
    (h1 : backTo pos (starEach (e :: es) X.env) = (false, eval e X.env) :: backTo pos (starEach es X.env) := by rfl) (h2 : (backTo pos (starEach (e :: es) X.env)).any (·.1) = false := by rfl)
    (h3 : (backToKw pos (keywordEach kws X.env)).all (·.1.isSome) = true := by rfl) (h4 : (backToKw pos (keywordEach kws X.env)).any (·.1.isNone) = false := by rfl) (h5 : (backToKw pos (keywordEach kws X.env)).filterMap (·.1) = ks := by rfl) :
    PE X (.Call (.Name x p) (e :: es) kws pos) (fun σ H Q => t σ H fun vs H1 => tk σ H1 fun zs H2 => r σ vs zs H2 Q) := by
  refine ⟨fun pins s σ H Q I h => wpAny_Call_Name_kw (ld_blt I hg hm hv ?_ hn hdb)⟩
  refine PyProof.Rows.callWith_kw (thn (ha.run pos pins s σ H _ I h) fun us sA ⟨vs, HA, IA, rA, qA⟩ => thn (hk.run pos pins sA σ HA _ IA qA) fun ws sB ⟨zs, HB, IB, rB, qB⟩ => ?_) h1 h2 h3 h4
  rw [h5]
  exact hc pins sB σ HB vs zs us ws Q IB rA rB qB
def rSortKC (X : Cx) : L2.St → List V → List V → Hp → VK → Prop := fun σ xs zs H Q => ∃ (p f : Addr) (kvs : List (Key × V)) (bs : List Str) (kf : Str → Int), xs = [.ref p] ∧ zs = [.ref f] ∧ H p = some (.dK kvs) ∧ kvs.map (fun kv => kV kv.1) = bs.map V.str ∧ KeyI X σ f H bs kf ∧
  ∀ H' D, Ex H H' → H D = none → H' D = some (.lst ((bs.mergeSort fun a b => decide (kf a ≤ kf b)).map V.str)) → Q (.ref D) H'
theorem cs_sortKC (hc : X.calm = true) (hu : X.A.units + 66 < cLine) : CallS X (.builtin "sorted") [Str.ofString "key"] (rSortKC X) := by
  intro pins s σ H xs zs us ws Q I r rz h
  obtain ⟨p, f, kvs, bs, kf, rfl, rfl, hp, hb, hcall, q⟩ := h
  obtain rfl := Vals.ref1 r
  obtain rfl := Vals.ref1 rz
  show wpAny _ _ (call (.builtin "sorted") [.ref p] [(Str.ofString "key", .ref f)]) _ _ s
  refine call_function_entry_kw kind_sorted plain_sorted entry_sorted (ksk_s1 _ _) ?_
  unfold Builtin.«sorted»
  refine wpAny_bind (m := checkCount "sorted" 1 1 _) (wpAny_pure ?_)
  refine wpAny_bind (collect_dK (A := X.A.in1) I (I.ok.hd hc) hp fun h' tk us hkp hlt rv hz => ?_)
  rw [hb] at rv
  have lu : bs.length = us.length := by
    have := rv.length
    rw [List.length_map] at this
    exact this
  have lz : bs.length ≤ sizeLine := by
    have := congrArg List.length hb
    rw [List.length_map, List.length_map] at this
    omega
  refine wpAny_bind (wpAny_newList ?_ (by show us.length ≤ _; omega))
  have hoL : (h'.push (seqObj "list" us.toArray 0)).get? h'.objs.size = some (seqObj "list" us.toArray 0) := Heap.get?_push_size _ rfl
  refine wpAny_bind (wpAny_holding (wpAny_call_entry_kw slot_list_sort ⟨_, hoL, rfl⟩ entry_list_sort ?body (ksk_l1 _ _)))
  case body =>
    show wpAny (model X.prog X.w) X.A.in1.in1 (Builtin.«list.sort» ⟨[.ref h'.objs.size], [(Str.ofString "key", .ref f)]⟩) _ _ _
    rw [ksk_t1]
    refine sort_bodyI (s := s) (h2 := h'.push (seqObj "list" us.toArray 0)) (tk := tk) I (fun b u e => Heap.get?_push_of_some _ (hkp b u e)) hoL (Nat.le_of_lt hlt) rv lz hu hcall fun H' s' J e1 e2 e3 => ⟨_, rfl, ?_⟩
    exact wpAny_pure ⟨_, rfl, .ref h'.objs.size, H', J, rfl, q H' h'.objs.size e1 e2 e3⟩
def leastF (kf : Str → Int) (x : Str) (xs : List Str) : Str := xs.foldl (fun a y => if decide (kf y < kf a) = true then y else a) x
def rMinKC (X : Cx) : L2.St → List V → List V → Hp → VK → Prop := fun σ xs zs H Q => ∃ (p f : Addr) (x : Str) (bs : List Str) (kf : Str → Int), xs = [.ref p] ∧ zs = [.ref f] ∧ H p = some (.lst ((x :: bs).map V.str)) ∧ KeyI X σ f H (x :: bs) kf ∧ ∀ H', Ex H H' → Q (.str (leastF kf x bs)) H'
theorem walksV {prog : Program} {w : World} {A : Around} (hh : A.handled = none) (I l : Addr) (hne : l ≠ I) (ys : List V) :
    Walks prog w A I [I, l] [I] ys.length (fun i v => ∃ x, ys[i]? = some x ∧ RelV x v) (fun i h => h.IsListIter I l i ∧ ∃ its : List Value, Vals ys its ∧ h.IsList l its.toArray) where
  sub := fun b hb => by simp at hb; simp [hb]
  frame := fun i h h' st hk => by
    obtain ⟨h1, its, rv, h2⟩ := st
    exact ⟨h1.at fun o e => hk I (by simp) o e, its, rv, h2.at fun o e => hk l (by simp) o e⟩
  item := fun i s Q E hi st hQ => by
    obtain ⟨h1, its, rv, h2⟩ := st
    refine (Walks.list hh I l hne its.toArray).item i s Q E (by rw [List.size_toArray, ← rv.length]; exact hi) ⟨h1, h2⟩ fun v h' tk hv st' hk => ?_
    obtain ⟨x, hx⟩ : ∃ x, ys[i]? = some x := ⟨_, List.getElem?_eq_getElem hi⟩
    obtain ⟨u, hu, ru⟩ := rv.get hx
    have e : u = v := Option.some.inj (hu.symm.trans (by simpa using hv))
    rw [e] at ru
    exact hQ v h' tk ⟨x, hx, ru⟩ ⟨st'.1, its, rv, st'.2⟩ hk
  done := fun s Q E st hQ => by
    obtain ⟨h1, its, rv, h2⟩ := st
    refine (Walks.list hh I l hne its.toArray).done s Q E ⟨?_, h2⟩ hQ
    rw [List.size_toArray, ← rv.length]
    exact h1
  self := fun i s Q E st hQ => wpAny_pyIter_listiter st.1 hQ
theorem cs_minKC (hc : X.calm = true) : CallS X (.builtin "min") [Str.ofString "key"] (rMinKC X) := by
  intro pins s σ H xs zs us ws Q I r rz h
  obtain ⟨p, f, x, bs, kf, rfl, rfl, hp, hcall, q⟩ := h
  obtain rfl := Vals.ref1 r
  obtain rfl := Vals.ref1 rz
  obtain ⟨hz, its0, n0, rv0, hraw0⟩ := lst_raw I hp
  have hisl : s.heap.IsList p its0.toArray := ⟨_, hraw0, rfl, n0, rfl⟩
  have hplt : p < s.heap.objs.size := Heap.lt_size hraw0
  show wpAny _ _ (call (.builtin "min") [.ref p] [(Str.ofString "key", .ref f)]) _ _ s
  refine call_min_walkK (wpAny_pyIter_list hisl ?_)
  generalize hoI : ({ cls := .type "list_iterator", data := .fields #[.ref p, .int 0 0] } : Obj) = oI
  have sz2 : (s.heap.push oI).objs.size = s.heap.objs.size + 1 := Heap.size_push _ _
  have I2 : Inv X pins σ H { s with heap := s.heap.push oI } := I.kept (t' := s.toks) fun b o e => Heap.get?_push_of_some _ e
  have nIt : H s.heap.objs.size = none := I.hok.fresh (Nat.le_refl _)
  have nS : H (s.heap.push oI).objs.size = none := by rw [sz2]; exact I.hok.fresh (Nat.le_succ _)
  have fpI : ∀ H', H' s.heap.objs.size = none → FpOk X pins H' s.heap.objs.size := fun H' n => I.fpOk (Nat.le_refl _) n
  have fpS : ∀ H', H' (s.heap.push oI).objs.size = none → FpOk X pins H' (s.heap.push oI).objs.size := fun H' n => I.fpOk (by rw [sz2]; exact Nat.le_succ _) n
  have nfr : ∀ b, s.heap.objs.size ≤ b → b ∉ frs X.stack := fun b hb z => by
    rcases List.mem_cons.mp (I.stkSub _ z) with e | e
    · have h1 := I.lt
      rw [← e] at h1
      exact Nat.lt_irrefl _ (Nat.lt_of_lt_of_le h1 hb)
    · exact I.nofs hb e
  have gd : ∀ {i : Nat} {v : Value}, (∃ y, ((x :: bs).map V.str)[i]? = some y ∧ RelV y v) → ∃ b, (x :: bs)[i]? = some b ∧ (x :: bs).getD i x = b ∧ RelV (.str b) v := fun {i v} ⟨y, hy, ry⟩ => by
    rw [List.getElem?_map] at hy
    obtain ⟨b, hb, rfl⟩ := Option.map_eq_some_iff.mp hy
    exact ⟨b, hb, by rw [List.getD_eq_getElem?_getD, hb]; rfl, ry⟩
  refine ⟨s.heap.objs.size, [s.heap.objs.size, p], [s.heap.objs.size], (fun a b => b = a), ((x :: bs).map V.str).length, (fun i v => ∃ y, ((x :: bs).map V.str)[i]? = some y ∧ RelV y v), (fun i s' => s'.heap.IsListIter s.heap.objs.size p i ∧ ∃ its : List Value, Vals ((x :: bs).map V.str) its ∧ s'.heap.IsList p its.toArray),
    (fun s' => ∃ Hi, Inv X pins σ Hi s' ∧ Ex H Hi ∧ Hi s.heap.objs.size = none ∧ Hi (s.heap.push oI).objs.size = none), (fun i k _ => ∃ t, k = .int (kf ((x :: bs).getD i x)) t), (fun i j => decide (kf ((x :: bs).getD i x) < kf ((x :: bs).getD j x))),
    rfl, (walksV (A := X.A.in1) (I.ok.hd hc) s.heap.objs.size p (Nat.ne_of_lt hplt) ((x :: bs).map V.str)).toS, ⟨⟨oI, Heap.get?_push_size _ (by rw [← hoI]; rfl), by rw [← hoI], by rw [← hoI]; rfl⟩, its0, rv0, hisl.at fun o e => Heap.get?_push_of_some _ e⟩, fun b hb => ?_, by simp, ?_, ⟨H, I2, Ex.refl H, nIt, nS⟩, fun v s' hP hJ => ?_⟩
  · show b < (s.heap.push oI).objs.size
    rw [sz2]
    rcases List.mem_cons.mp hb with e | hb
    · rw [e]
      exact Nat.lt_succ_self _
    · rw [List.mem_singleton.mp hb]
      exact Nat.lt_succ_of_lt hplt
  · refine ⟨fun s1 s' hJ hm => ?_, fun _ _ _ _ h _ => h, fun i v s1 o Q' E' hi hP hJ hst hS hQ => ?_, fun i j ki kj s1 Q' E' _ hi hj hQ => ?_⟩
    · obtain ⟨Hi, J, e, n1, n2⟩ := hJ
      obtain ⟨h1, g1, d1, t1, o1⟩ := s'
      have eg : g1 = s1.gens := hm.gens
      have ed : d1 = s1.drawn := hm.drawn
      have eo : o1 = s1.os := hm.os
      subst eg
      subst ed
      subst eo
      refine ⟨Hi, J.turnedL (t' := t1) (ch := [(s.heap.push oI).objs.size, s.heap.objs.size]) (fun b o hb e => hm.heap b o hb e) (fun b hb => ?_), e, n1, n2⟩
      rcases List.mem_cons.mp hb with z | hb
      · rw [z]
        exact fpS Hi n2
      · rw [List.mem_singleton.mp hb]
        exact fpI Hi n1
    · obtain ⟨Hi, J, e, n1, n2⟩ := hJ
      obtain ⟨b, hb, hbd, rb⟩ := gd hP
      have hS : s1.heap.get? (s.heap.push oI).objs.size = some o := hS
      refine wpAny_of_in1 (wpAny_mono (hcall b (List.mem_of_getElem? hb) Hi e pins s1 v (fun u s2 => Q' u s2) rb J fun t H2 s2 J2 e2 un => ?_) (fun _ _ h => h) fun _ _ (h : False) => h.elim)
      obtain ⟨hit, its, rvi, hli⟩ := hst
      obtain ⟨oi, hoi, hci, hdi⟩ := hit
      have k1 := un.keep _ _ hoi n1 (nfr _ (Nat.le_refl _)) (by simp)
      have k2 := un.keep _ _ hS n2 (nfr _ (by rw [sz2]; exact Nat.le_succ _)) (by simp)
      have f1 := un.free _ _ hoi n1 (by simp)
      have f2 := un.free _ _ hS n2 (by simp)
      obtain ⟨_, its2, n2', rv2, hraw2⟩ := lst_raw J2 (e2 _ _ (e _ _ hp))
      exact hQ (.int (kf b) t) s2 ⟨H2, J2, e.trans e2, f1, f2⟩ ⟨⟨oi, k1, hci, hdi⟩, its2, rv2, ⟨_, hraw2, rfl, n2', rfl⟩⟩ k2 ⟨t, by rw [hbd]⟩ fun _ _ h => h
    · obtain ⟨t, rfl⟩ := hi
      obtain ⟨u, rfl⟩ := hj
      exact CmpOf.ints_lt (prog := X.prog) (w := X.w) (A := X.A.in1) (P := fun i v => ∃ t, v = .int (kf ((x :: bs).getD i x)) t) (fun i => kf ((x :: bs).getD i x)) (fun i v h => h) i j _ _ _ _ _ ⟨t, rfl⟩ ⟨u, rfl⟩ hQ
  · obtain ⟨Hi, J, e, n1, n2⟩ := hJ
    obtain ⟨b, hb, hbd, rb⟩ := gd hP
    have hf := (argBest_fold (fun a y => decide (kf a < kf y)) x x bs bs.length (Nat.le_refl _)).2
    rw [List.take_length] at hf
    have hn : ((x :: bs).map V.str).length - 1 = bs.length := by simp
    rw [hn] at hbd
    have eb : leastF kf x bs = b := by
      rw [← hbd]
      exact hf.symm
    rw [← eb] at rb
    exact ⟨.str (leastF kf x bs), Hi, J, rb, q Hi e⟩
theorem keyI_clo {σ : L2.St} {k j : Nat} {f c' : Addr} {params : Arguments} {body : Expr} {scope : Scope} {pn y : Str} {H : Hp} {bs : List Str} {kf : Str → Int} {vy : V} (L : LamP X.env.scope scope pn y) (hr : Room (k + 3) X.A)
    (hf : H f = some (CloO f (X.env.qual ++ "<lambda>") params body scope (cloFrom X.env.cells scope.names []) c')) (hc : H c' = some (CodeO c' (X.env.qual ++ "<lambda>")))
    (hb : ∀ (s : Shared) (clo : List (Str × Addr)) (pm ctv u : Value), BindsTo s (PySem.W.kla_fn "<lambda>" (X.env.qual ++ "<lambda>") params body scope clo pm (.ref c') ctv) ⟨[u], []⟩ [(pn, u)]) (hy : X.N[j]? = some y) (hσ : σ[j]? = some (some vy))
    (hbody : ∀ (A : Around) (s : Shared) (H1 : Hp) (E : XK), Room k (A.deeper (lamEnv X scope s.heap.objs.size f c')) → ∀ x ∈ bs, Ex H H1 → ∃ tt, PE (cxP X A s H1 E scope f c' pn y) body tt ∧ ∀ Q : VK, (∀ H2, Ex H1 H2 → Q (.int (kf x)) H2) → tt [some (.str x), some vy] H1 Q) : KeyI X σ f H bs kf := by
  intro x hx H1 e1 pins s1 v R rv I hR
  have hr2 : Room (k + 1) X.A.in1.in1 := (show Room (k + 2) X.A.in1 from Room.in1 hr).in1
  have rc := clo_run (Q := fun y H2 => ∃ H', H' = H2 ∧ y = .int (kf x) ∧ Ex H1 H') (E := fun _ _ _ => False) (u := v) (v := .str x) (vy := vy) I L hr2 I.env0.in1.in1 (e1 _ _ hf) (e1 _ _ hc) (fun pm ctv => hb s1 _ pm ctv _) rv hy hσ
    (fun hr' => let ⟨tt, h1, h2⟩ := hbody _ s1 H1 (fun _ _ _ => False) hr' x hx e1; ⟨tt, h1, h2 _ fun H2 e2 => ⟨H2, rfl, rfl, e2⟩⟩)
  refine wpAny_call (codeAny_mono rc fun r s2 hq => ?_)
  cases r with
  | error e =>
    exact (no_err hq).elim
  | ok fl =>
    cases fl with
    | ret u =>
      obtain ⟨w', H2, os, bare, un, hok, rw', H', rfl, rfl, e2⟩ := hq
      obtain ⟨t, rfl⟩ := rw'
      have J := I.call' (s' := s2) os un hok bare (fun b z => absurd z (by simp))
      exact hR t H' s2 J e2 un
    | next => exact False.elim hq
    | brk => exact False.elim hq
    | cont => exact False.elim hq
where
  no_err {H1 : Hp} {s1 s2 : Shared} {e : Value} (h : L2.CX X.prog X.w X.stack H1 s1 (fun _ _ _ => False) e s2) : False := by
    obtain ⟨_, _, _, _, _, _, _, _, _, _, _, _, z⟩ := h
    exact z
end
end CP
set_option Elab.async false
set_option linter.all false
set_option maxRecDepth 100000
set_option maxHeartbeats 4000000
namespace K7
open PySem PySem.Spec PyProof.Rows L2 KB KC KS LamX R8
theorem Ex.on {H H1 : Hp} {a : Addr} {o : HO} (e : Ex H H1) (n : H a = none) : Ex H (upd H1 a o) := fun b u h => by rw [L2.upd_ne (ne_of_none h n)]; exact e b u h
theorem ifT {c A B : Prop} [Decidable c] (h : c) (a : A) : if c then A else B := by rw [if_pos h]; exact a
theorem ifF {c A B : Prop} [Decidable c] (h : ¬ c) (b : B) : if c then A else B := by rw [if_neg h]; exact b
theorem paired_snoc' {α β : Type} {R : α → β → Prop} {l : List α} {m : List β} {a : α} {b : β} (p : Paired R l m) (h : R a b) : Paired R (l ++ [a]) (m ++ [b]) := paired_app p (.cons h .nil)
theorem paired_len {α β : Type} {R : α → β → Prop} : ∀ {l : List α} {m : List β}, Paired R l m → l.length = m.length
  | _, _, .nil => rfl
  | _, _, .cons _ t => by rw [List.length_cons, List.length_cons, paired_len t]
def KT' (H H' : Hp) : Prop := ∀ b xs, H b = some (.tup xs) → H' b = some (.tup xs)
theorem lcG {J : It} {n : Nat} {G : Hp → Prop} {Y : Nat → Hp → V → Hp → Prop} (w : Walk J n G Y) {α : Type} (R : Hp → V → α → Prop) (out : Nat → Option α) (stab : ∀ H H' v a, KT' H H' → R H v a → R H' v a)
    {g : TG} {tt : TT} {te : TE} {vs : List Nat} {σ : L2.St} {HL : Hp} {D : Addr} {Qd : Hp → Prop} (hD : HL D = none) (hz : n ≤ 1000000) (hG : ∀ H, Ex HL H → G H) (hY : ∀ i H x H1, i < n → Ex HL H → Y i H x H1 → Ex H H1)
    (turn : ∀ (i : Nat) (x : V) (H H1 : Hp) (R0 : V → Hp → Prop) (N0 : Hp → Prop), i < n → Ex HL H → Y i H x H1 → (out i = none → ∀ H2, Ex H1 H2 → N0 H2) → (∀ a, out i = some a → ∀ H2 y, Ex H1 H2 → R H2 y a → R0 y H2) →
      g x (wipe σ vs) H1 fun σ2 H2 => wipe σ2 vs = wipe σ vs ∧ tt σ2 H2 fun b H3 => if b = true then te σ2 H3 R0 else N0 H3)
    (fin : ∀ H xs, Ex HL H → H D = some (.lst xs) → Paired (R H) xs ((List.range n).filterMap out) → Qd H) :
    ∃ W : Nat → Nat → Hp → Prop, (∃ m, W 0 m (upd HL D (.lst []))) ∧ ∀ i m H, W i m H →
      (J.stop i H ∧ Qd H) ∨ (J.go i H ∧ ∃ Nx : Hp → Prop, (∀ H', Nx H' → ∃ m', m' < m ∧ W (i + 1) m' H') ∧ ∀ x H', J.yld i H x H' → g x (wipe σ vs) H' fun σ2 H2 => wipe σ2 vs = wipe σ vs ∧ tt σ2 H2 fun b H3 =>
        if b = true then te σ2 H3 fun y H4 => ∃ acc, H4 D = some (.lst acc) ∧ acc.length < sizeLine ∧ Nx (upd H4 D (.lst (acc ++ [y]))) else Nx H3) := by
  refine lc_it w (fun i H => Ex HL H ∧ ∃ xs, H D = some (.lst xs) ∧ Paired (R H) xs ((List.range i).filterMap out)) ⟨Ex.upd hD, [], upd_same, .nil⟩ (fun i H _ h => hG H h.1) ?_ fun H ⟨e, xs, hx, hp⟩ => fin H xs e hx hp
  rintro i x H H1 hi ⟨e, xs, hx, hp⟩ hy
  have e1 := hY i H x H1 hi e hy
  have hs : (List.range (i + 1)).filterMap out = (List.range i).filterMap out ++ (out i).toList := by
    rw [List.range_succ, List.filterMap_append]
    cases h : out i <;> simp [h]
  refine turn i x H H1 _ _ hi e hy (fun hn H2 e2 => ?_) fun a ha H2 y e2 hr => ?_
  · refine ⟨(e.trans e1).trans e2, xs, e2 _ _ (e1 _ _ hx), ?_⟩
    rw [hs, hn]
    simpa using paired_mono (fun v b h => stab _ _ v b (fun b' xs' h' => e2 _ _ (e1 _ _ h')) h) hp
  · have hx2 := e2 _ _ (e1 _ _ hx)
    have kt : KT' H2 (upd H2 D (.lst (xs ++ [y]))) := fun b ys h => by
      rw [L2.upd_ne (fun z => by rw [z, hx2] at h; cases h)]; exact h
    refine ⟨xs, hx2, ?_, Ex.on ((e.trans e1).trans e2) hD, xs ++ [y], upd_same, ?_⟩
    · have l1 := paired_len hp
      have l2 := List.length_filterMap_le out (List.range i)
      rw [List.length_range] at l2
      have : sizeLine = 16777216 := rfl
      omega
    · rw [hs, ha]
      exact paired_snoc' (paired_mono (fun v b h => stab _ _ v b (fun b' xs' h' => kt _ _ (e2 _ _ (e1 _ _ h'))) h) hp) (stab _ _ _ _ kt hr)
def RInt : Hp → V → Int → Prop := fun _ v a => v = .int a
def RStr : Hp → V → Str → Prop := fun _ v a => v = .str a
theorem RInt.stab : ∀ H H' v a, KT' H H' → RInt H v a → RInt H' v a := fun _ _ _ _ _ h => h
theorem RStr.stab : ∀ H H' v a, KT' H H' → RStr H v a → RStr H' v a := fun _ _ _ _ _ h => h
theorem rint_map {H : Hp} : ∀ {xs : List V} {ns : List Int}, Paired (RInt H) xs ns → xs = ns.map V.int
  | _, _, .nil => rfl
  | _, _, .cons h t => by rw [List.map_cons, ← rint_map t]; rw [show _ = _ from h]
theorem rstr_map {H : Hp} : ∀ {xs : List V} {ns : List Str}, Paired (RStr H) xs ns → xs = ns.map V.str
  | _, _, .nil => rfl
  | _, _, .cons h t => by rw [List.map_cons, ← rstr_map t]; rw [show _ = _ from h]
theorem range_fm {α β : Type} (f : α → Option β) : ∀ xs : List α, (List.range xs.length).filterMap (fun i => xs[i]?.bind f) = xs.filterMap f := by
  intro xs
  induction xs with
  | nil => rfl
  | cons a xs ih =>
    rw [List.length_cons, List.range_succ_eq_map, List.filterMap_cons, List.filterMap_map]
    have e : ((fun i => ((a :: xs)[i]?).bind f) ∘ Nat.succ) = fun i => xs[i]?.bind f := by
      funext i
      simp
    rw [e, ih]
    simp [List.filterMap_cons]
theorem yat_ex {xs : List V} {i : Nat} {H H1 : Hp} {x : V} (h : YAt xs i H x H1) : Ex H H1 := by
  obtain ⟨rfl, _⟩ := h
  exact Ex.refl _
theorem yfn_ex {f : Nat → V} {i : Nat} {H H1 : Hp} {x : V} (h : YFn f i H x H1) : Ex H H1 := by
  obtain ⟨rfl, _⟩ := h
  exact Ex.refl _
theorem pf {X : Cx} (i : Nat) {f x : Str} {p1 p2 : Pos} (hN : X.N[i]? = some x := by rfl) (hv : Vis X.env.scope x := by first | exact .inl rfl | exact .inr (.inl rfl) | exact .inr (.inr rfl) | exact .inr rfl) (hd : (x == ("__debug__" : Str)) = false := by decide) (hcd : (x == ("__classdict__" : Str)) = false := by decide)
    (hb : attributeBase (.Name x p1) f X.env (eval (.Name x p1) X.env) = eval (.Name x p1) X.env := by rfl) : PE X (.Attribute (.Name x p1) f p2) (tFld X.K (tVar i) f) :=
  pe_fld (pe_var (i := i) hN hv hd hcd) hb
def veB : List Value := [.type "ValueError", .type "Exception", .type "BaseException", .type "object"]
structure TxtX (K : PySem.W.Frag) (mg : Str → Option Value) (CE : Addr) : Prop where
  g : mg "GroupError" = some (.ref CE)
  x : PySem.W.excIn K CE veB "ValueError.__new__" = true
  k : PySem.W.keepIn K (.ref CE) = true
  b : PySem.W.subIn K (.ref CE) (.type "BaseException") = some true
  t : PySem.W.typeIn K (.ref CE) = some (.type "type")
  e : PySem.W.exmOne K (.ref CE) (.ref CE) = some true
def rIxP : R2 := fun x y H Q => ∃ p xs i v, x = .ref p ∧ y = .int i ∧ H p = some (.tup xs) ∧ atI xs i = some v ∧ Q v H
theorem ix_tupD {X : Cx} : IxR X rIxP := by
  intro value slice pins s σ H x y v u Q I rx ry h hs
  obtain ⟨p, xs, i, z, e1, e2, hq, he, q⟩ := h
  exact ix_tup value slice pins s σ H x y v u Q I rx ry ⟨p, xs, i, z, e1, e2, SqT.of hq, he, q⟩ hs
theorem filt_fm {α : Type} (f : α → Bool) (xs : List α) : xs.filterMap (fun p => if f p = true then some p else none) = xs.filter f := by
  induction xs with
  | nil => rfl
  | cons a xs ih => cases h : f a <;> simp [h, ih]
theorem map_fm {α β : Type} (f : α → β) (xs : List α) : xs.filterMap (fun p => some (f p)) = xs.map f := by
  induction xs with
  | nil => rfl
  | cons a xs ih => simp
theorem at0 {a b : V} : atI [a, b] 0 = some a := rfl
theorem at1 {a b : V} : atI [a, b] 1 = some b := rfl
theorem wipe_set {σ : L2.St} {i : Nat} {x : Option V} : wipe ((wipe σ [i]).set i x) [i] = wipe σ [i] := by
  show ((σ.set i none).set i x).set i none = σ.set i none
  rw [List.set_set, List.set_set]
end K7

namespace K7
open PySem PySem.Spec PyProof.Rows L2 KB KC KS LamX R8
def putA {α : Type} (es : List (Key × α)) (k : Key) (a : α) : List (Key × α) := if (es.any fun e => decide (e.1 = k)) = true then es.map (fun e => if e.1 = k then (e.1, a) else e) else es ++ [(k, a)]
def foldA {α : Type} (es : List (Key × α)) : List (Key × α) := es.foldl (fun acc e => putA acc e.1 e.2) []
abbrev KvR {α : Type} (R : Hp → V → α → Prop) (H : Hp) (kvs : List (Key × V)) (es : List (Key × α)) : Prop := Paired (fun (p : Key × V) (e : Key × α) => p.1 = e.1 ∧ R H p.2 e.2) kvs es
theorem any_eq {α : Type} {R : Hp → V → α → Prop} {H : Hp} {k : Key} : ∀ {kvs : List (Key × V)} {es : List (Key × α)}, KvR R H kvs es → (kvs.any fun e => decide (e.1 = k)) = es.any fun e => decide (e.1 = k)
  | _, _, .nil => rfl
  | _, _, .cons h t => by rw [List.any_cons, List.any_cons, h.1, any_eq t]
theorem kvR_put {α : Type} {R : Hp → V → α → Prop} {H : Hp} {k : Key} {z : V} {a : α} {kvs : List (Key × V)} {es : List (Key × α)} (r : KvR R H kvs es) (hr : R H z a) : KvR R H (putK kvs k z) (putA es k a) := by
  unfold putK putA
  rw [any_eq r]
  split
  · exact go r
  · exact paired_snoc' r ⟨rfl, hr⟩
where
  go : ∀ {kvs : List (Key × V)} {es : List (Key × α)}, KvR R H kvs es → KvR R H (kvs.map fun kv => if kv.1 = k then (kv.1, z) else kv) (es.map fun e => if e.1 = k then (e.1, a) else e)
    | _, _, .nil => .nil
    | _, _, .cons (a := p) (b := e) h t => by
      rw [List.map_cons, List.map_cons]
      refine .cons ?_ (go t)
      by_cases c : p.1 = k
      · rw [if_pos c, if_pos (h.1 ▸ c)]
        exact ⟨h.1, hr⟩
      · rw [if_neg c, if_neg (h.1 ▸ c)]
        exact h
theorem putA_len {α : Type} (es : List (Key × α)) (k : Key) (a : α) : (putA es k a).length ≤ es.length + 1 := by
  unfold putA
  split
  · rw [List.length_map]; omega
  · rw [List.length_append]; simp
theorem foldA_snoc {α : Type} (es : List (Key × α)) (k : Key) (a : α) : foldA (es ++ [(k, a)]) = putA (foldA es) k a := by
  unfold foldA
  rw [List.foldl_append]
  rfl
theorem foldA_len_go {α : Type} : ∀ (es acc : List (Key × α)), (es.foldl (fun acc e => putA acc e.1 e.2) acc).length ≤ acc.length + es.length
  | [], acc => by simp
  | e :: es, acc => by
    rw [List.foldl_cons]
    have := foldA_len_go es (putA acc e.1 e.2)
    have := putA_len acc e.1 e.2
    rw [List.length_cons]
    omega
theorem foldA_len {α : Type} (es : List (Key × α)) : (foldA es).length ≤ es.length := by
  have := foldA_len_go es []
  unfold foldA
  simpa using this
theorem foldA_self_go {α : Type} : ∀ (es acc : List (Key × α)), ((acc ++ es).map (·.1)).Nodup → es.foldl (fun acc e => putA acc e.1 e.2) acc = acc ++ es
  | [], acc, _ => by simp
  | e :: es, acc, h => by
    have ne : ¬ (acc.any fun x => decide (x.1 = e.1)) = true := by
      rw [List.any_eq_true]
      rintro ⟨x, hx, hk⟩
      have hk := of_decide_eq_true hk
      rw [List.map_append, List.nodup_append] at h
      exact h.2.2 x.1 (List.mem_map.mpr ⟨x, hx, rfl⟩) e.1 (by simp) hk
    have ep : putA acc e.1 e.2 = acc ++ [e] := by unfold putA; rw [if_neg ne]
    rw [List.foldl_cons, ep, foldA_self_go es (acc ++ [e])]
    · simp
    · simpa using h
theorem foldA_self {α : Type} {es : List (Key × α)} (h : (es.map (·.1)).Nodup) : foldA es = es := foldA_self_go es [] (by simpa using h)
def KT2 (H H' : Hp) : Prop := ∀ b o, (∀ ks, o ≠ .dK ks) → H b = some o → H' b = some o
theorem dcG {J : It} {n : Nat} {G : Hp → Prop} {Y : Nat → Hp → V → Hp → Prop} (w : Walk J n G Y) {α : Type} (R : Hp → V → α → Prop) (out : Nat → Option (Key × α)) (stab : ∀ H H' v a, KT2 H H' → R H v a → R H' v a)
    {g : TG} {tt : TT} {tk tv : TE} {vs : List Nat} {σ : L2.St} {HL : Hp} {D : Addr} {Qd : Hp → Prop} (hD : HL D = none) (hz : n ≤ 1000000) (hG : ∀ H, Ex HL H → G H) (hY : ∀ i H x H1, i < n → Ex HL H → Y i H x H1 → Ex H H1)
    (turn : ∀ (i : Nat) (x : V) (H H1 : Hp) (R0 : V → V → Hp → Prop) (N0 : Hp → Prop), i < n → Ex HL H → Y i H x H1 → (out i = none → ∀ H2, Ex H1 H2 → N0 H2) → (∀ k a, out i = some (k, a) → ∀ H2 z, Ex H1 H2 → R H2 z a → R0 (kV k) z H2) →
      g x (wipe σ vs) H1 fun σ2 H2 => wipe σ2 vs = wipe σ vs ∧ tt σ2 H2 fun b H3 => if b = true then tk σ2 H3 fun y H4 => tv σ2 H4 fun z H5 => R0 y z H5 else N0 H3)
    (fin : ∀ H kvs, Ex HL H → H D = some (.dK kvs) → KvR R H kvs (foldA ((List.range n).filterMap out)) → Qd H) :
    ∃ W : Nat → Nat → Hp → Prop, (∃ m, W 0 m (upd HL D (.dK []))) ∧ ∀ i m H, W i m H →
      (J.stop i H ∧ Qd H) ∨ (J.go i H ∧ ∃ Nx : Hp → Prop, (∀ H', Nx H' → ∃ m', m' < m ∧ W (i + 1) m' H') ∧ ∀ x H', J.yld i H x H' → g x (wipe σ vs) H' fun σ2 H2 => wipe σ2 vs = wipe σ vs ∧ tt σ2 H2 fun b H3 =>
        if b = true then tk σ2 H3 fun y H4 => tv σ2 H4 fun z H5 => ∃ kvs k, y = kV k ∧ H5 D = some (.dK kvs) ∧ kvs.length < sizeLine ∧ Nx (upd H5 D (.dK (putK kvs k z))) else Nx H3) := by
  refine ⟨fun i m H => m = n - i ∧ i ≤ n ∧ (Ex HL H ∧ ∃ kvs, H D = some (.dK kvs) ∧ KvR R H kvs (foldA ((List.range i).filterMap out))), ⟨n, by simp, Nat.zero_le _, Ex.upd hD, [], upd_same, .nil⟩, ?_⟩
  rintro i m H ⟨rfl, hi, e, kvs, hx, hp⟩
  have q := hG H e
  by_cases hlt : i < n
  · refine .inr ⟨w.goes i H hlt q, (fun H' => i + 1 ≤ n ∧ (Ex HL H' ∧ ∃ kvs, H' D = some (.dK kvs) ∧ KvR R H' kvs (foldA ((List.range (i + 1)).filterMap out)))), fun H' p' => ⟨n - (i + 1), by omega, rfl, p'⟩, fun x H1 y => ?_⟩
    have y := w.yields i H x H1 hlt q y
    have e1 := hY i H x H1 hlt e y
    have hs : (List.range (i + 1)).filterMap out = (List.range i).filterMap out ++ (out i).toList := by
      rw [List.range_succ, List.filterMap_append]
      cases h : out i <;> simp [h]
    refine turn i x H H1 (fun y z H5 => ∃ kvs k, y = kV k ∧ H5 D = some (.dK kvs) ∧ kvs.length < sizeLine ∧ (fun H' => i + 1 ≤ n ∧ (Ex HL H' ∧ ∃ kvs, H' D = some (.dK kvs) ∧ KvR R H' kvs (foldA ((List.range (i + 1)).filterMap out)))) (upd H5 D (.dK (putK kvs k z)))) _ hlt e y (fun hn H2 e2 => ?_) fun k a ha H2 z e2 hr => ?_
    · refine ⟨hlt, (e.trans e1).trans e2, kvs, e2 _ _ (e1 _ _ hx), ?_⟩
      rw [hs, hn]
      simpa using paired_mono (fun v b h => ⟨h.1, stab _ _ v.2 b.2 (fun b' o' _ h' => e2 _ _ (e1 _ _ h')) h.2⟩) hp
    · have hx2 := e2 _ _ (e1 _ _ hx)
      have kt : KT2 H2 (upd H2 D (.dK (putK kvs k z))) := fun b o ho h => by
        rw [L2.upd_ne (fun z => by rw [z, hx2] at h; exact ho _ (Option.some.inj h).symm)]; exact h
      refine ⟨kvs, k, rfl, hx2, ?_, hlt, Ex.on ((e.trans e1).trans e2) hD, putK kvs k z, upd_same, ?_⟩
      · have l1 := paired_len hp
        have l2 := foldA_len ((List.range i).filterMap out)
        have l3 := List.length_filterMap_le out (List.range i)
        rw [List.length_range] at l3
        have : sizeLine = 16777216 := rfl
        omega
      · rw [hs, ha]
        show KvR R _ _ (foldA (_ ++ [(k, a)]))
        rw [foldA_snoc]
        exact kvR_put (paired_mono (fun v b h => ⟨h.1, stab _ _ v.2 b.2 (fun b' o' n' h' => kt _ _ n' (e2 _ _ (e1 _ _ h'))) h.2⟩) hp) (stab _ _ _ _ kt hr)
  · have e' : i = n := by omega
    subst e'
    exact .inl ⟨w.stops H q, fin H kvs e hx hp⟩
def RTrue : Hp → V → Unit → Prop := fun _ v _ => v = .bl true
theorem RInt.stab2 : ∀ H H' v a, KT2 H H' → RInt H v a → RInt H' v a := fun _ _ _ _ _ h => h
theorem RTrue.stab : ∀ H H' v a, KT2 H H' → RTrue H v a → RTrue H' v a := fun _ _ _ _ _ h => h
theorem kvR_keys {α : Type} {R : Hp → V → α → Prop} {H : Hp} : ∀ {kvs : List (Key × V)} {es : List (Key × α)}, KvR R H kvs es → kvs.map (fun kv => kV kv.1) = es.map fun e => kV e.1
  | _, _, .nil => rfl
  | _, _, .cons h t => by rw [List.map_cons, List.map_cons, kvR_keys t, h.1]
end K7

namespace K7
open PySem PySem.Spec PyProof.Rows L2 KB KC KD KS LamX R8 CP
theorem ps_setDc {X : Cx} {i : Nat} {y : Str} {py : Pos} {kx vx tg iter : Expr} {ifs : List Expr} {scope : Scope} {own : List (Str × Nat)} {pos spos : Pos} {wi : TI} {g : TG} {tt : L2.TT} {tk tv : TE} (hc : X.calm = true) (hN : X.N.Nodup) (hy : X.N[i]? = some y) (hyl : X.env.scope.names.lookup y = some .local)
    (hsw : swapsWith (.DictComp kx vx [⟨tg, iter, ifs, 0⟩] scope pos) (some (.Name y py)) spos.line X.env = pure true) (hi : PI X tg iter wi) (ok : BlkOk X.N X.env.scope scope own)
    (hg : ∀ (s : Shared) (H : Hp) (C : Addr) (cl : List (Str × Addr)) (fp : List Addr), PG (X.blk s H scope (compEnvC scope cl C X.env) fp) tg g) (ht : ∀ (s : Shared) (H : Hp) (C : Addr) (cl : List (Str × Addr)) (fp : List Addr), PTs (X.blk s H scope (compEnvC scope cl C X.env) fp) ifs tt)
    (hk : ∀ (s : Shared) (H : Hp) (C : Addr) (cl : List (Str × Addr)) (fp : List Addr), PE (X.blk s H scope (compEnvC scope cl C X.env) fp) kx tk)
    (he : ∀ (s : Shared) (H : Hp) (C : Addr) (cl : List (Str × Addr)) (fp : List Addr), PE (X.blk s H scope (compEnvC scope cl C X.env) fp) vx tv) (hs : ∀ x, foldedSetIterable iter X.env x = pure x := by intro _; rfl) :
    PS X (.Assign [.Name y py] (.DictComp kx vx [⟨tg, iter, ifs, 0⟩] scope pos) spos) (tAsg (tDc wi g tt tk tv (own.map (·.2))) (gName i)) := by
  refine ⟨fun pins s σ H D I h => ?_⟩
  rw [exec_Assign_Name_used _ _ _ _ hsw]
  refine wpAny_bind (wpAny_standAt (wpAny_bind ?_))
  show wpAny _ X.A (do let _ ← comprehension (.DictComp kx vx [⟨tg, iter, ifs, 0⟩] scope pos) scope X.env (firstIterPos [⟨tg, iter, ifs, 0⟩] pos) newDict false (eval iter X.env) (some (assign (.Name y py) X.env))) _ _ s
  have h : tDc wi g tt tk tv (own.map (·.2)) σ H (fun x H1 => gName i x σ H1 D.nx) := h
  refine wpAny_bind (thn (dc_core (Qf := fun _ s' => SP X pins D .next s') hc hN I hi ok hg ht hk he hs h fun L C s' m H' I' q hn f => ?_) fun _ s' hq => wpAny_pure (wpAny_pure hq))
  show wpAny _ _ (assign (.Name y py) X.env (.ref L)) _ _ _
  refine wpAny_assign_Name (store_ok2 (v := V.ref L) I' hN hy (.inl hyl) rfl (fun s2 I2 ⟨a, sb, ha⟩ => ?_) (.inr hyl))
  obtain ⟨f0, f1, f2, f3, f4, f5⟩ := f
  have haC : C ≠ a := by
    rcases ha with z | z
    · rw [z]; exact f1
    · exact fun e => f4 y a z e.symm
  refine ⟨m, hn.sameBut sb haC, fun h3 sb3 => ?_⟩
  exact ⟨_, H', I2.turned (t' := s2.toks) (fun b o hb e => (sb3.2 b hb).trans e) f0 f1 f3 f4 f5, q⟩
theorem sw_dict {kx vx : Expr} {gs : List Comprehension} {scope : Scope} {pos py : Pos} {y : Str} {l : Nat} {env : Env} (hk : env.scope.kind = .function) (hy : env.scope.names.lookup y = some .local) (hl : (py.line == pos.line) = true)
    (ha : (scope.names.any fun (n, k) => n == y && (k == .local || k == .cell)) = false) : swapsWith (.DictComp kx vx gs scope pos) (some (.Name y py)) l env = pure true := by
  have ky : env.kindOf y = some .local := hy
  have hb : env.blockKind = .function := by unfold Env.blockKind; rw [hk]; rfl
  unfold swapsWith
  simp only [hb, ky, ha, Expr.pos, hl]
  rfl
end K7
set_option Elab.async false
set_option linter.all false
set_option maxRecDepth 100000
set_option maxHeartbeats 4000000
namespace K18
open PySem PySem.Spec PyProof.Rows L2 KB KC
def top (i : Nat) : Stmt := PySem.Challenge.pw_streamstack_k18_cabinets_and_what_change.main.body.getD i (.Pass ⟨0, 0, 0, 0⟩)
abbrev sVRank : Stmt := top 4
abbrev sRRank : Stmt := top 5
abbrev sRun : Stmt := top 9
abbrev sCab : Stmt := top 10
abbrev sAsc : Stmt := top 11
abbrev sVault : Stmt := top 12
abbrev sDice : Stmt := top 14
abbrev sRoll : Stmt := top 15
abbrev sRounds : Stmt := top 16
abbrev sTold : Stmt := top 17
abbrev sKey : Stmt := top 18
abbrev sPairs : Stmt := top 19
abbrev sLaw : Stmt := top 20
abbrev sUM (j : Nat) : Stmt := inClass sRun j
abbrev sCM (j : Nat) : Stmt := inClass sCab j
abbrev sVM (j : Nat) : Stmt := inClass sVault j
abbrev FnP (K : PySem.W.Frag) (x q : Str) (st : Stmt) (dvs : List V) (f : Addr) (fd : FuncData) : Prop := FunD K x q (defArgs st) (defBody st) (defScope st) dvs [] f fd
def rIxD : R2 := fun x y H Q => ∃ p xs i v, x = .ref p ∧ y = .int i ∧ H p = some (.lst xs) ∧ atI xs i = some v ∧ Q v H
theorem ix_listD {X : Cx} : IxR X rIxD := by
  intro value slice pins s σ H x y v u Q I rx ry h hs
  obtain ⟨p, xs, i, z, e1, e2, hq, he, q⟩ := h
  exact ix_list value slice pins s σ H x y v u Q I rx ry ⟨p, xs, i, z, e1, e2, SqL.of hq, he, q⟩ hs
theorem sc_int {a b : Int} : scal (.int a) (.int b) = true := rfl
theorem at3_0 {a b c : V} : atI [a, b, c] 0 = some a := rfl
theorem at3_1 {a b c : V} : atI [a, b, c] 1 = some b := rfl
theorem at3_2 {a b c : V} : atI [a, b, c] 2 = some c := rfl
theorem at2_0 {a b : V} : atI [a, b] 0 = some a := rfl
theorem at2_1 {a b : V} : atI [a, b] 1 = some b := rfl
theorem ix3_0 : ixN (0 + 1 + 1 + 1) 0 = some 0 := rfl
theorem ix3_1 : ixN (0 + 1 + 1 + 1) 1 = some 1 := rfl
theorem ix3_2 : ixN (0 + 1 + 1 + 1) 2 = some 2 := rfl
theorem upd2 {H : Hp} {a : Addr} {o o' : HO} : upd (upd H a o) a o' = upd H a o' := by
  funext b
  by_cases e : b = a
  · subst e; rw [upd_same, upd_same]
  · rw [upd_ne e, upd_ne e, upd_ne e]
structure TxtL (mg : Str → Option Value) : Prop where
  abs : mg "abs" = none
  int : mg "int" = none
  range : mg "range" = none
  dict : mg "dict" = none
  list : mg "list" = none
  tuple : mg "tuple" = none
  len : mg "len" = none
  sorted : mg "sorted" = none
  max : mg "max" = none
  min : mg "min" = none
  enum : mg "enumerate" = none
  isi : mg "isinstance" = none
  str : mg "str" = none
  any : mg "any" = none
  rev : mg "reversed" = none
def IsDice (H : Hp) (d : Addr) : Prop := ∃ a b k : Int, H d = some (.lst [.int a, .int b, .int k])
def ExD (d : Addr) (H H' : Hp) : Prop := ∀ b o, b ≠ d → H b = some o → H' b = some o
def spDice : Sp := fun vs H Q _ => ∃ c : Int, vs = [.int c] ∧ ∀ p a b k, H p = none → Q (.ref p) (upd H p (.lst [.int a, .int b, .int k]))
@[irreducible] def spRoll : Sp := fun vs H Q _ => ∃ (d : Addr) (m : Int), vs = [.ref d, .int m] ∧ IsDice H d ∧ 0 < m ∧ m ≤ 100000000 ∧
  ∀ (r : Int) a b k, 0 ≤ r → r < m → Q (.int r) (upd H d (.lst [.int a, .int b, .int k]))
section
variable {P : Program} {w : World} {K : PySem.W.Frag} {mg : Str → Option Value} {base : Heap} {f : Addr} {fd : FuncData}
theorem scDice : FnScope ["cell"] ["cell"] (defScope sDice) := ⟨rfl, rfl, rfl, by decide +kernel, rfl, by decide +kernel, by decide +kernel⟩
theorem ok_dice (F : FnP K "_law_dice" "_law_dice" sDice [] f fd) (T : TxtL mg) : FnOk P w K mg base CX0 1 f fd ["cell"] spDice := by
  refine F.ok scDice (fun vs H Q E h => ?_) (fun cdv A outer s H vs Q E hr h => ?_)
  · obtain ⟨c, rfl, _⟩ := h; rfl
  · obtain ⟨c, rfl, k⟩ := h
    refine ⟨_, PSs.nox <| pss_cons (ps_if (pt_chain op_lt op_lt (pe_op op_sub pe_int pe_int) (pv 0) pe_int)
        (pss_one (ps_ret (pe_lst (pa_cons (pe_callB call_abs (by rfl) T.abs (by decide +kernel) (pa_cons (pv 0) pa_nil)) (pa_cons pe_int (pa_cons pe_int pa_nil)))))) pss_nil)
      (pss_one (ps_ret (pe_lst (pa_cons (pv 0) (pa_cons (pe_op op_add pe_int (pe_op op_mod (pe_callTy call_int1 (by rfl) T.int (by decide +kernel) (pa_cons (pv 0) pa_nil)) pe_int))
        (pa_cons (pe_callTy call_int1 (by rfl) T.int (by decide +kernel) (pa_cons (pe_cmpR op_ge (pv 0) (pe_op op_pow pe_int pe_int) (nomark _)) pa_nil)) pa_nil)))))), ?_⟩
    simp only [tSeq, tIfS, tIf, tTest, tChain, tOp, tC, tVar, tRet, tLst, tTup, tCons, tCB, tNil, tAsg, gName, tCall, tDrop, tOr, tAnd, tNot, gSub, rI0, rI, tNext, L2.start, List.set_cons_zero, List.set_cons_succ, List.map, List.replicate, List.length, List.append_nil, List.getElem?_cons_zero, List.getElem?_cons_succ, List.cons_append, List.nil_append, Option.some.injEq, exists_eq_left', exists_eq_left, exists_and_left, V.int.injEq, V.ref.injEq, List.cons.injEq, and_true, true_and, V.bl.injEq, reduceCtorEq, false_and, and_false, exists_false, or_false, false_or, HO.lst.injEq]
    have hs : 0 + 1 + 1 + 1 ≤ sizeLine := by decide
    have hp : CPow 10 18 := by unfold CPow; decide
    have h9 : (0 : Int) < 1009 := by decide
    split
    · split
      · exact ⟨hs, fun p e => k p _ _ _ e⟩
      · exact ⟨h9, hp, hs, fun p e => k p _ _ _ e⟩
    · rw [if_neg (fun z => z)]
      exact ⟨h9, hp, hs, fun p e => k p _ _ _ e⟩
theorem scRoll : FnScope ["dice", "many", "found"] ["dice", "many"] (defScope sRoll) := ⟨rfl, rfl, rfl, by decide +kernel, rfl, by decide +kernel, by decide +kernel⟩
theorem ok_roll (F : FnP K "_law_roll" "_law_roll" sRoll [] f fd) (T : TxtL mg) : FnOk P w K mg base CX0 1 f fd ["dice", "many"] spRoll := by
  refine F.ok scRoll (fun vs H Q E h => ?_) (fun cdv A outer s H vs Q E hr h => ?_)
  · unfold spRoll at h
    obtain ⟨d, m, rfl, _⟩ := h; rfl
  · unfold spRoll at h
    obtain ⟨d, m, rfl, ⟨a, b, k, hd⟩, h0, h1, q⟩ := h
    refine ⟨_, PSs.nox <| pss_cons (ps_if (PW.pt (pw_or (pt_cmpR op_eq (pe_ix ix_listD (pv 0) pe_int (fun _ _ => rfl)) pe_int (nomark _)) (pw_or1 (PW.pt (pw_and (pt_cmpR op_eq (pe_ix ix_listD (pv 0) pe_int (fun _ _ => rfl)) pe_int (nomark _)) (pw_and1 (pt_cmpR op_gt (pe_ix ix_listD (pv 0) pe_int (fun _ _ => rfl)) pe_int (nomark _))))))))
        (pss_cons (ps_set (i := 2) scRoll.nd rfl (Or.inl rfl) (pe_op op_mod (pe_callTy call_int1 (by rfl) T.int (by decide +kernel) (pa_cons (pe_ix ix_listD (pv 0) pe_int (fun _ _ => rfl)) pa_nil)) (pv 1)))
          (pss_cons (ps_asg (pe_op op_fdiv (pe_ix ix_listD (pv 0) pe_int (fun _ _ => rfl)) (pv 1)) (pg_sub (pv 0) pe_int set_list)) (pss_one (ps_ret (pv 2))))) pss_nil)
      (pss_cons (ps_asg pe_int (pg_sub (pv 0) pe_int set_list))
      (pss_cons (ps_if (pt_cmpR op_gt (pv 1) pe_int (nomark _)) pss_never pss_nil)
      (pss_cons (ps_asg (pe_op op_mod (pe_callTy call_int1 (by rfl) T.int (by decide +kernel) (pa_cons (pe_op op_add (pe_op op_add (pe_op op_mul (pe_ix ix_listD (pv 0) pe_int (fun _ _ => rfl)) pe_int) (pe_op op_mul (pe_ix ix_listD (pv 0) pe_int (fun _ _ => rfl)) pe_int)) pe_int) pa_nil)) pe_int) (pg_sub (pv 0) pe_int set_list))
      (pss_cons (ps_asg (pe_op op_add (pe_ix ix_listD (pv 0) pe_int (fun _ _ => rfl)) pe_int) (pg_sub (pv 0) pe_int set_list))
      (pss_one (ps_ret (pe_op op_mod (pe_callTy call_int1 (by rfl) T.int (by decide +kernel) (pa_cons (pe_op op_fdiv (pe_ix ix_listD (pv 0) pe_int (fun _ _ => rfl)) pe_int) pa_nil)) (pv 1)))))))), ?_⟩
    have hm : decide ((100000000 : Int) < m) = false := decide_eq_false (by omega)
    simp only [tSeq, tIfS, tIf, tTest, tChain, tOp, tC, tVar, tRet, tLst, tTup, tCons, tCB, tNil, tAsg, gName, tCall, tDrop, tOr, tAnd, tNot, gSub, rI0, rI, tNext, L2.start, List.set_cons_zero, List.set_cons_succ, List.map, List.replicate, List.length, List.append_nil, List.getElem?_cons_zero, List.getElem?_cons_succ, List.cons_append, List.nil_append, Option.some.injEq, exists_eq_left', exists_eq_left, exists_and_left, V.int.injEq, V.ref.injEq, List.cons.injEq, and_true, true_and, V.bl.injEq, reduceCtorEq, false_and, and_false, exists_false, or_false, false_or, HO.lst.injEq, rIxD, rSetL, rEq, sc_int, hd, upd_same, upd2, at3_0, at3_1, at3_2, ix3_0, ix3_1, ix3_2, hm, if_true, if_false, Bool.false_eq_true]
    have g0 : (0 : Int) < 2147483647 := by decide
    have gm : ∀ x : Int, CMul x 48271 := fun x => .inr ⟨by decide, by decide⟩
    have gn : ∀ x : Int, CMul x 69621 := fun x => .inr ⟨by decide, by decide⟩
    have gd : ∀ x : Int, CDiv x 7 := fun x => ⟨by decide, by decide⟩
    have gq : ∀ x : Int, CDiv x m := fun x => ⟨h0, by omega⟩
    have lo : ∀ x : Int, 0 ≤ x % m := fun x => Int.emod_nonneg _ (by omega)
    have hi : ∀ x : Int, x % m < m := fun x => Int.emod_lt_of_pos _ h0
    split
    · exact ⟨h0, gq _, q _ _ _ _ (lo _) (hi _)⟩
    · split
      · split
        · exact ⟨h0, gq _, q _ _ _ _ (lo _) (hi _)⟩
        · exact ⟨gm _, gn _, g0, gd _, h0, q _ _ _ _ (lo _) (hi _)⟩
      · exact ⟨gm _, gn _, g0, gd _, h0, q _ _ _ _ (lo _) (hi _)⟩
end
end K18
set_option Elab.async false
set_option linter.all false
set_option maxRecDepth 100000
set_option maxHeartbeats 4000000
namespace K18
open PySem PySem.Spec PyProof.Rows L2 KB KC KS
@[irreducible] def spRounds (K : PySem.W.Frag) : Sp := fun vs H Q _ => ∃ (s : Addr) (ns : List Int), vs = [.ref s, .int 1] ∧ SqL K H s (ns.map V.int) ∧ ∀ H' p d, Ex H H' → H' p = some (.lst [.ref d]) → IsDice H' d → Q (.ref p) H'
theorem IsDice.upd_ne {H : Hp} {d a : Addr} {o : HO} (h : IsDice H d) (n : H a = none) : IsDice (upd H a o) d := by
  obtain ⟨x, y, z, e⟩ := h
  exact ⟨x, y, z, by rw [L2.upd_ne (ne_of_none e n)]; exact e⟩
theorem Ex.on {H H1 : Hp} {a : Addr} {o : HO} (e : Ex H H1) (n : H a = none) : Ex H (upd H1 a o) := fun b u h => by rw [L2.upd_ne (ne_of_none h n)]; exact e b u h
section
variable {P : Program} {w : World} {K : PySem.W.Frag} {mg : Str → Option Value} {base : Heap} {f fD : Addr} {fd fdD : FuncData}
theorem scRounds : FnScope ["script", "most", "cells", "cell"] ["script", "most"] (defScope sRounds) := ⟨rfl, rfl, rfl, by decide +kernel, rfl, by decide +kernel, by decide +kernel⟩
theorem ok_rounds (F : FnP K "_law_rounds" "_law_rounds" sRounds [] f fd) (T : TxtL mg) (FD : FnP K "_law_dice" "_law_dice" sDice [] fD fdD) (gD : mg "_law_dice" = some (.ref fD)) :
    FnOk P w K mg base CX0 2 f fd ["script", "most"] (spRounds K) := by
  have GD : FnOk P w K mg base CX0 1 fD fdD ["cell"] spDice := ok_dice FD T
  have bD : Binds K fdD ["cell"] [] := FD.bindsN fun _ _ _ _ _ _ us hl => match us, hl with | [_], _ => rfl
  refine F.ok scRounds (fun vs H Q E h => ?_) (fun cdv A outer s H vs Q E hr h => ?_)
  · unfold spRounds at h
    obtain ⟨c, d, rfl, _⟩ := h; rfl
  · unfold spRounds at h
    obtain ⟨a, ns, rfl, hS, q⟩ := h
    refine ⟨_, PSs.nox <| pss_cons (ps_set (i := 2) scRounds.nd rfl (Or.inl rfl) (pe_slice sl_list (pv 0) po_none (po_some (pv 1))))
      (pss_cons (ps_if (pt_cmpR (op_eqD hr.units) (pv 2) (pe_lst pa_nil) (nomark _)) (pss_one (ps_set (i := 2) scRounds.nd rfl (Or.inl rfl) (pe_lst (pa_cons pe_int pa_nil)))) pss_nil)
      (pss_one (ps_ret (pe_lc (own := [("cell", 3)]) (g := gName 3) (tt := tYes) rfl scRounds.nd (pi_list (pv 2)) (blkOk_by (N := ["script", "most", "cells", "cell"]) (sc := defScope sRounds) (by decide +kernel))
        (fun _ _ _ _ _ => pg_name (i := 3) scRounds.nd rfl (Or.inl rfl)) (fun _ _ _ _ _ => pts_nil)
        (fun _ _ _ _ _ => pe_call GD hr rfl gD FD.kp bD .nil pass0 (pa_cons (pv 3) pa_nil)))))), ?_⟩
    have fin : ∀ (c : Addr) (n : Int) (H1 : Hp), Ex H H1 → H1 c = some (.lst [.int n]) →
        (tRet (tLc (iList K (tVar 2)) (gName 3) tYes (tCall spDice [] E0 (tCons (tVar 3) tNil)) [3])) { nx := fun _ H' => Q .non H', rt := Q } [some (.ref a), some (.int 1), some (.ref c), none] H1 := by
      intro c n H1 e1 hc
      refine ⟨_, rfl, c, rfl, ⟨_, SqL.of hc⟩, fun D hD => lc_list (xs := [V.int n])
        (fun i H2 => Ex H1 H2 ∧ ((i = 0 ∧ H2 D = some (.lst [])) ∨ (i = 1 ∧ ∃ d, H2 D = some (.lst [.ref d]) ∧ IsDice H2 d))) ?_ ?_ ?_ ?_⟩
      · exact ⟨Ex.upd hD, .inl ⟨rfl, upd_same⟩⟩
      · rintro i H2 _ ⟨e2, _⟩
        exact SqL.of (e2 c _ hc)
      · rintro i x H2 hx ⟨e2, h2⟩
        rcases h2 with ⟨rfl, h2⟩ | ⟨rfl, _⟩
        · cases hx
          refine ⟨rfl, ?_⟩
          refine ⟨_, rfl, n, rfl, fun p x y z hp => ⟨[], ?_, (by decide), ?_⟩⟩
          · rw [L2.upd_ne (ne_of_none h2 hp)]; exact h2
          · refine ⟨Ex.on (e2.trans (Ex.upd hp)) hD, .inr ⟨rfl, p, upd_same, x, y, z, ?_⟩⟩
            rw [L2.upd_ne (fun e => by rw [e, h2] at hp; cases hp), upd_same]
        · cases hx
      · rintro H2 ⟨e2, h2⟩
        rcases h2 with ⟨h, _⟩ | ⟨_, d, h2, h3⟩
        · cases h
        · exact q H2 D d (e1.trans e2) h2 h3
    refine ⟨_, rfl, _, rfl, 1, rfl, a, _, rfl, hS, fun p hp => ?_⟩
    cases ns with
    | nil =>
      refine ⟨_, rfl, (by decide), fun p2 hp2 => ⟨.list [], .list [], .lst (.inl (.inl ?_)) .nil, .lst (.inl (.inl upd_same)) .nil, rfl, rfl, true, rfl, ?_⟩⟩
      · rw [L2.upd_ne (ne_of_none upd_same hp2)]; exact upd_same
      · refine ⟨(by decide), fun p3 hp3 => fin p3 0 _ ?_ upd_same⟩
        exact ((Ex.upd hp).trans (Ex.upd hp2)).trans (Ex.upd hp3)
    | cons n r =>
      have e : cutV ((n :: r).map V.int) none (some 1) = [V.int n] := by
        unfold cutV HT.sIx
        simp
      rw [e] at *
      refine ⟨_, rfl, (by decide), fun p2 hp2 => ⟨.list [.int n], .list [], .lst (.inl (.inl ?_)) (.cons (.int _) .nil), .lst (.inl (.inl upd_same)) .nil, rfl, rfl, false, rfl, ?_⟩⟩
      · rw [L2.upd_ne (ne_of_none upd_same hp2)]; exact upd_same
      · refine fin p n _ ((Ex.upd hp).trans (Ex.upd hp2)) ?_
        rw [L2.upd_ne (ne_of_none upd_same hp2)]; exact upd_same
end
end K18
set_option Elab.async false
set_option linter.all false
set_option maxRecDepth 100000
set_option maxHeartbeats 4000000
namespace K18
open PySem PySem.Spec PyProof.Rows L2 KB KC KS KM
theorem take_snoc {α : Type} {l : List α} {i : Nat} {x : α} (h : l[i]? = some x) : l.take (i + 1) = l.take i ++ [x] := by
  rw [List.take_add_one, h]; rfl
def isT : Key → Bool
  | .inl _ => false
  | .inr _ => true
theorem scal_kV (x y : Key) : scal (kV x) (kV y) = true := by cases x <;> cases y <;> rfl
theorem dec_kV (x y : Key) : decide (kV x = kV y) = decide (x = y) := by
  by_cases e : x = y
  · rw [e, decide_eq_true rfl, decide_eq_true rfl]
  · rw [decide_eq_false (fun z => e (kV_inj z)), decide_eq_false e]
@[irreducible] def rIsiK (K : PySem.W.Frag) : List V → Hp → VK → Prop := rIsi K
theorem call_isiK {X : Cx} : CallR X (.builtin "isinstance") (rIsiK X.K) := by
  unfold rIsiK
  exact call_isi
theorem isi_kV (K : PySem.W.Frag) (H : Hp) (x : Key) (Q : VK) (q : Q (.bl (isT x)) H) : rIsiK K [kV x, .ty "str"] H Q := by
  unfold rIsiK
  cases x with
  | inl i => exact ⟨_, _, _, _, false, rfl, .ty "str", .base (.int i), kit_ty (by decide +kernel), q⟩
  | inr s => exact ⟨_, _, _, _, true, rfl, .ty "str", .base (.str s), kit_ty (by decide +kernel), q⟩
theorem dp_kV (K : PySem.W.Frag) (H : Hp) (x : Key) : Dp K H (kV x) (dK x) := by
  cases x with
  | inl i => exact .int i
  | inr s => exact .str s
section
variable {P : Program} {w : World} {K : PySem.W.Frag} {mg : Str → Option Value} {base : Heap} {f fV : Addr} {fd fdV : FuncData}
@[irreducible] def spVRank : Sp := fun vs H Q _ => ∃ x : Key, vs = [kV x] ∧ ∀ p, H p = none → Q (.ref p) (upd H p (.tup [.int (if isT x = true then 1 else 0), kV x]))
theorem scVRank : FnScope ["value"] ["value"] (defScope sVRank) := ⟨rfl, rfl, rfl, by decide +kernel, rfl, by decide +kernel, by decide +kernel⟩
theorem ok_vrank (F : FnP K "value_rank" "value_rank" sVRank [] f fd) (T : TxtL mg) : FnOk P w K mg base CX0 1 f fd ["value"] spVRank := by
  refine F.ok scVRank (fun vs H Q E h => ?_) (fun cdv A outer s H vs Q E hr h => ?_)
  · unfold spVRank at h
    obtain ⟨_, rfl, _⟩ := h; rfl
  · unfold spVRank at h
    obtain ⟨x, rfl, fin⟩ := h
    refine ⟨_, PSs.nox <| pss_one (ps_ret (pe_tup (pa_cons (pe_ifExp (pt_val (pe_callB call_isiK (by rfl) T.isi PyProof.Rows.boot_isinstance (pa_cons (pv 0) (pa_cons (pe_bltn (v := .ty "str") (u := .type "str") (by rfl) T.str (by decide +kernel) rfl) pa_nil)))) pe_int pe_int) (pa_cons (pv 0) pa_nil)))), ?_⟩
    refine ⟨_, rfl, isi_kV _ _ _ _ ⟨_, rfl, ?_⟩⟩
    cases e : isT x with
    | true =>
      rw [e] at fin
      exact iteT ⟨_, rfl, (by show 2 ≤ sizeLine; decide), fun p hp => fin p hp⟩
    | false =>
      rw [e] at fin
      exact iteF ⟨_, rfl, (by show 2 ≤ sizeLine; decide), fun p hp => fin p hp⟩
theorem vrank_step {H : Hp} {x : Key} {Q : VK} {E : XK} (q : ∀ p, H p = none → Q (.ref p) (upd H p (.tup [.int (if isT x = true then 1 else 0), kV x]))) : spVRank [kV x] H Q E := by
  unfold spVRank
  exact ⟨x, rfl, q⟩
theorem dp_rkK (K : PySem.W.Frag) {H : Hp} {p : Addr} {x : Key} (h : H p = some (.tup [.int (if isT x = true then 1 else 0), kV x])) : Dp K H (.ref p) (rkK x) := by
  cases x with
  | inl i => exact .tup (SqT.of h) (.cons (.int _) (.cons (.int _) .nil))
  | inr s => exact .tup (SqT.of h) (.cons (.int _) (.cons (.str _) .nil))
theorem dpAll_snoc {K : PySem.W.Frag} {H : Hp} : ∀ {vs : List V} {ds : List PyData} {v : V} {d : PyData}, DpAll K H vs ds → Dp K H v d → DpAll K H (vs ++ [v]) (ds ++ [d])
  | _, _, _, _, .nil, h => .cons h .nil
  | _, _, _, _, .cons a b, h => .cons a (dpAll_snoc b h)
theorem dpAll_length {K : PySem.W.Frag} {H : Hp} : ∀ {vs : List V} {ds : List PyData}, DpAll K H vs ds → vs.length = ds.length
  | _, _, .nil => rfl
  | _, _, .cons _ b => congrArg (· + 1) (dpAll_length b)
@[irreducible] def spRRank (K : PySem.W.Frag) : Sp := fun vs H Q _ => ∃ (q : Addr) (k : KM.Row), vs = [.ref q] ∧ H q = some (.tup (k.map kV)) ∧ k.length ≤ 1000 ∧ ∀ H' p, Ex H H' → Dp K H' (.ref p) (.tuple (rk k)) → Q (.ref p) H'
theorem scRRank : FnScope ["row", "value"] ["row"] (defScope sRRank) := ⟨rfl, rfl, rfl, by decide +kernel, rfl, by decide +kernel, by decide +kernel⟩
theorem ok_rrank (F : FnP K "row_rank" "row_rank" sRRank [] f fd) (T : TxtL mg) (FV : FnP K "value_rank" "value_rank" sVRank [] fV fdV) (gV : mg "value_rank" = some (.ref fV)) : FnOk P w K mg base CX0 2 f fd ["row"] (spRRank K) := by
  have GV : FnOk P w K mg base CX0 1 fV fdV ["value"] spVRank := ok_vrank FV T
  have bV : Binds K fdV ["value"] [] := FV.bindsN fun _ _ _ _ _ _ us hl => match us, hl with | [_], _ => rfl
  refine F.ok scRRank (fun vs H Q E h => ?_) (fun cdv A outer s H vs Q E hr h => ?_)
  · unfold spRRank at h
    obtain ⟨_, _, rfl, _⟩ := h; rfl
  · unfold spRRank at h
    obtain ⟨q, k, rfl, hq, hl, fin⟩ := h
    refine ⟨_, PSs.nox <| pss_one (ps_ret (pe_callTy call_tuple_of (by rfl) T.tuple (by decide +kernel) (pa_cons (pe_lc (own := [("value", 1)]) (g := gName 1) (tt := tYes) rfl scRRank.nd (pi_tup (pv 0)) (blkOk_by (N := ["row", "value"]) (sc := defScope sRRank) (by decide +kernel))
        (fun _ _ _ _ _ => pg_name (i := 1) scRRank.nd rfl (Or.inl rfl)) (fun _ _ _ _ _ => pts_nil)
        (fun _ _ _ _ _ => pe_call GV hr (by rfl) gV FV.kp bV .nil pass0 (pa_cons (pv 1) pa_nil))) pa_nil))), ?_⟩
    refine ⟨_, rfl, q, rfl, ⟨_, SqT.of hq⟩, fun D hD => lc_tup (xs := k.map kV) (fun i H2 => Ex H H2 ∧ ∃ us, H2 D = some (.lst us) ∧ DpAll K H2 us (rk (k.take i)) ∧ i ≤ k.length) ⟨Ex.upd hD, [], upd_same, .nil, Nat.zero_le _⟩ (fun i H2 _ ⟨e, _⟩ => SqT.of (e _ _ hq)) ?_ ?_⟩
    · rintro i x H2 hx ⟨e2, us, hu, hd, hi⟩
      rw [List.getElem?_map] at hx
      obtain ⟨kx, hx', rfl⟩ := Option.map_eq_some_iff.mp hx
      have hil : i < k.length := (List.getElem?_eq_some_iff.mp hx').1
      refine ⟨rfl, ?_⟩
      refine ⟨_, rfl, vrank_step fun p hp => ⟨us, by rw [L2.upd_ne (ne_of_none hu hp)]; exact hu, ?_, ?_⟩⟩
      · have h1 := dpAll_length hd
        unfold rk at h1
        rw [List.length_map, List.length_take] at h1
        have : sizeLine = 16777216 := rfl
        omega
      · have keep : ∀ b xs, Rd (upd H2 p (.tup [.int (if isT kx = true then 1 else 0), kV kx])) b (.tup xs) → Rd (upd (upd H2 p (.tup [.int (if isT kx = true then 1 else 0), kV kx])) D (.lst (us ++ [.ref p]))) b (.tup xs) := by
          intro b xs h
          have nD : ∀ z, (upd H2 p (.tup [.int (if isT kx = true then 1 else 0), kV kx])) D = some z → z = .lst us := fun z hz => by
            rw [L2.upd_ne (ne_of_none hu hp), hu] at hz
            exact (Option.some.inj hz).symm
          rcases h with h | ⟨o, h⟩
          · exact .inl (by rw [L2.upd_ne (fun z => by rw [z] at h; cases nD _ h)]; exact h)
          · exact .inr ⟨o, by rw [L2.upd_ne (fun z => by rw [z] at h; cases nD _ h)]; exact h⟩
        have hd1 : DpAll K (upd H2 p (.tup [.int (if isT kx = true then 1 else 0), kV kx])) (us ++ [.ref p]) (rk (k.take i) ++ [rkK kx]) := dpAll_snoc (dpAll_ex (Ex.upd hp) hd) (dp_rkK K upd_same)
        have ek : rk (k.take (i + 1)) = rk (k.take i) ++ [rkK kx] := by
          unfold rk
          rw [take_snoc hx', List.map_append]; rfl
        refine ⟨Ex.on (e2.trans (Ex.upd hp)) hD, _, upd_same, ?_, hil⟩
        rw [ek]
        refine dpAll_tups keep ?_ hd1
        rw [← ek]
        exact pure_rk _
    · rintro H2 ⟨e2, us, hu, hd, _⟩
      rw [List.length_map, List.take_length] at hd
      refine ⟨D, us, rfl, .inl ⟨SqL.of hu, fun l hl2 => fin _ l (e2.trans (Ex.upd hl2)) (.tup (SqT.of upd_same) (dpAll_ex (Ex.upd hl2) hd))⟩⟩
theorem rrank_step {K : PySem.W.Frag} {H : Hp} {q : Addr} {k : KM.Row} {Q : VK} {E : XK} (h : H q = some (.tup (k.map kV))) (hl : k.length ≤ 1000) (fin : ∀ H' p, Ex H H' → Dp K H' (.ref p) (.tuple (rk k)) → Q (.ref p) H') : spRRank K [.ref q] H Q E := by
  unfold spRRank
  exact ⟨q, k, rfl, h, hl, fin⟩
end
end K18
set_option Elab.async false
set_option linter.all false
set_option maxRecDepth 100000
set_option maxHeartbeats 4000000
namespace K18
open PySem PySem.Spec PyProof.Rows L2 KB KC KD KS KM LamX R8
theorem okC {P : Program} {w : World} {K : PySem.W.Frag} {mg : Str → Option Value} {base : Heap} {CX : CXT} {x qual : Str} {st : Stmt} {dvs : List V} {f c : Addr} {fd : FuncData} {N ps : List Str} {k : Nat} {sp : Sp} (F : FnP K x qual st dvs f fd) (hc : fd.code = .ref c) (S : FnScope N ps (defScope st)) (len : ∀ vs H Q E, sp vs H Q E → vs.length = ps.length)
    (hbody : ∀ (A : Around) (outer : List Env) (s : Shared) (H : Hp) (vs : List V) (Q : VK) (E : XK), Room k (A.deeper (envOfC qual (defScope st) s.heap.objs.size f (.ref c))) → sp vs H Q E →
      ∃ t, PSs (cxOf CX P w K mg base N qual (defScope st) f (.ref c) A outer s H E) (defBody st) t ∧ t { nx := fun _ H' => Q .non H', rt := Q } (start N vs) H) : FnOk P w K mg base CX (k + 1) f fd ps sp := by
  obtain ⟨oc, od, dV, kV, doc, pm, an, cdv, ct, osl, rfl, lk, hcd, hD, hK⟩ := F.ex
  have e : cdv = .ref c := hc
  subst e
  exact fn_of lk hcd S len hbody
abbrev qA : Str := "ascending.<locals>.<lambda>"
abbrev qL : Str := "law.<locals>.<lambda>"
abbrev qK : Str := "Vault.keep.<locals>.<genexpr>"
abbrev TT (Pa Pl Pk : Addr) : List (Addr × Str) := [(Pa, qA), (Pl, qL), (Pk, qK)]
structure Apt (Pa Pl Pk : Addr) : Prop where
  al : Pa ≠ Pl
  ak : Pa ≠ Pk
  lk : Pl ≠ Pk
def okK : Key → Bool
  | .inl _ => true
  | .inr s => PyData.strOk s
theorem lay_rk : ∀ {k : KM.Row}, k.all okK = true → PyData.canLayAll0 (rk k) = true
  | [], _ => rfl
  | x :: r, h => by
    rw [List.all_cons, Bool.and_eq_true] at h
    show (PyData.canLay0 (rkK x) && PyData.canLayAll0 (rk r)) = true
    rw [lay_rk h.2, Bool.and_true]
    cases x with
    | inl i => rfl
    | inr s =>
      have h1 : PyData.strOk s = true := h.1
      simp [rkK, PyData.canLay0, PyData.canLayAll0, h1]
theorem depth_rk : ∀ k : KM.Row, PyData.depthAll (rk k) ≤ 1
  | [] => Nat.zero_le _
  | x :: r => by
    show max (PyData.depth (rkK x)) (PyData.depthAll (rk r)) ≤ 1
    have h := depth_rk r
    have h2 : PyData.depth (rkK x) ≤ 1 := by cases x <;> exact Nat.le_refl _
    omega
theorem shaped_rk {k : KM.Row} (h : k.all okK = true) : SeqAt.shaped (.tuple (rk k)) = true := by
  show (PyData.canLayAll0 (rk k) && decide (PyData.depthAll (rk k) + 1 ≤ 64)) = true
  have := depth_rk k
  rw [lay_rk h, decide_eq_true (by omega)]
  rfl
def KeysOk (kvs : List (List Key × V)) : Prop := (kvs.map (·.1)).Nodup ∧ ∀ x ∈ kvs, x.1 ≠ [] ∧ x.1.all okK = true ∧ x.1.length ≤ 1000
def PairsAt (H : Hp) (ts : List Addr) (us : List (List Key × V)) : Prop := Paired (fun (t : Addr) (x : List Key × V) => ∃ q, H t = some (.tup [.ref q, x.2]) ∧ H q = some (.tup (x.1.map kV))) ts us
def Asc (us : List (List Key × V)) : Prop := us.Pairwise fun x y => bef x.1 y.1 = true
theorem asc_of {kvs us : List (List Key × V)} (nd : (kvs.map (·.1)).Nodup) (pm : us.Perm kvs) (so : us.Pairwise fun x y => ¬ rho (kvs.map (·.1)) y.1 < rho (kvs.map (·.1)) x.1) : Asc us := by
  have nd2 : us.Pairwise fun x y => x.1 ≠ y.1 := by
    have h : (us.map (·.1)).Nodup := (pm.map _).nodup_iff.mpr nd
    rw [List.nodup_iff_pairwise_ne, List.pairwise_map] at h
    exact h
  have hm : ∀ x ∈ us, x.1 ∈ kvs.map (·.1) := fun x hx => List.mem_map.mpr ⟨x, pm.mem_iff.mp hx, rfl⟩
  have h := so.and nd2
  refine List.Pairwise.imp_of_mem (fun {x y} hx hy k => ?_) h
  refine bef_tri (Ne.symm k.2) ?_
  rw [rho_iff (hm y hy) (hm x hx)]
  exact decide_eq_false k.1
@[irreducible] def spAsc (Pa Pl Pk : Addr) : Sp := fun vs H Q _ => ∃ (d : Addr) (kvs : List (List Key × V)), vs = [.ref d] ∧ H d = some (.dT kvs) ∧ KeysOk kvs ∧ Tabs (TT Pa Pl Pk) H ∧
  ∀ H' q ts us, ExtN H H' → Tabs (TT Pa Pl Pk) H' → H' q = some (.tup (ts.map V.ref)) → us.Perm kvs → Asc us → PairsAt H' ts us → Q (.ref q) H'
section
variable {P : Program} {w : World} {K : PySem.W.Frag} {mg : Str → Option Value} {base : Heap} {Pa Pl Pk c f fR fV : Addr} {fd fdR fdV : FuncData}
theorem scAsc : FnScope ["table"] ["table"] (defScope sAsc) := ⟨rfl, rfl, rfl, by decide +kernel, rfl, by decide +kernel, by decide +kernel⟩
theorem ok_asc (F : FnP K "ascending" "ascending" sAsc [] f fd) (hc : fd.code = .ref c) (TB : LamX.TabB base mg c Pa) (ap : Apt Pa Pl Pk) (T : TxtL mg)
    (FR : FnP K "row_rank" "row_rank" sRRank [] fR fdR) (gR : mg "row_rank" = some (.ref fR)) (FV : FnP K "value_rank" "value_rank" sVRank [] fV fdV) (gV : mg "value_rank" = some (.ref fV)) :
    FnOk P w K mg base CX0 6 f fd ["table"] (spAsc Pa Pl Pk) := by
  have GR : FnOk P w K mg base CX0 2 fR fdR ["row"] (spRRank K) := ok_rrank FR T FV gV
  have bR : Binds K fdR ["row"] [] := FR.bindsN fun _ _ _ _ _ _ us hl => match us, hl with | [_], _ => rfl
  refine okC F hc scAsc (fun vs H Q E h => ?_) (fun A outer s H vs Q E hr h => ?_)
  · unfold spAsc at h
    obtain ⟨_, _, rfl, _⟩ := h; rfl
  · unfold spAsc at h
    obtain ⟨d, kvs, rfl, hd, ⟨nd, hok⟩, ht, fin⟩ := h
    have hu66 : (A.deeper (envOfC (Str.ofString "ascending") (defScope sAsc) s.heap.objs.size f (.ref c))).units + 66 < cLine := by
      have := hr.un
      omega
    have qr : (Str.ofString "ascending" ++ Str.ofString ".<locals>.") ++ Str.ofString "<lambda>" = qA := by decide +kernel
    refine ⟨_, PSs.nox <| pss_one (ps_ret (pe_callTy call_tuple_of (by rfl) T.tuple (by decide +kernel) (pa_cons (pe_callBK (cr_sortedItK rfl hu66) (by rfl) T.sorted boot_sorted
      (pa_cons (pe_bm0 PySem.F.plainAttrs_dict PySem.F.slot_dict_items PySem.F.type_dict_items L2.DX.mt_itemsT (pv 0)) pa_nil)
      (pk_cons (pe_lamV (T := TT Pa Pl Pk) TB rfl (show (Pa, (Str.ofString "ascending" ++ Str.ofString ".<locals>.") ++ Str.ofString "<lambda>") ∈ TT Pa Pl Pk by rw [qr]; exact List.mem_cons_self ..)
        (show ∀ p ∈ TT Pa Pl Pk, p.1 = Pa → p.2 = (Str.ofString "ascending" ++ Str.ofString ".<locals>.") ++ Str.ofString "<lambda>" by
          rw [qr]
          intro p hp e
          rcases List.mem_cons.mp hp with z | h
          · rw [z]
          · rcases List.mem_cons.mp h with z | h
            · rw [z] at e; exact absurd e.symm ap.al
            · rcases List.mem_cons.mp h with z | h
              · rw [z] at e; exact absurd e.symm ap.ak
              · cases h) rfl (by decide +kernel) rfl) pk_nil)) pa_nil))), ?_⟩
    refine ⟨_, rfl, .inr (.inr (.inl ⟨rfl, .inr ⟨_, hd⟩⟩)), d, _, rfl, rfl, hd, fun p hp => ?_⟩
    have e1 : KS.Ex H (upd H p (L2.DX.itemsO p d)) := Ex.upd hp
    refine ⟨ht.ext e1, fun fl c' H2 e2 t2 hfl hc' _ => ?_⟩
    refine ⟨p, d, fl, kvs, fun x => rk x.1, fun x => rho (kvs.map (·.1)) x.1, rfl, rfl, e2 _ _ upd_same (fun _ z => nomatch z), e2 _ _ (e1 _ _ hd) (fun _ z => nomatch z), ?_, ?_, ?_, ?_, ?_, ?_, fun H3 D zs e3 hD hD3 pm so ps => ?_⟩
    · intro x hx
      exact shaped_rk (hok x hx).2.1
    · intro x _
      exact pure_rk _
    · intro x hx
      show ∃ l r, rk x.1 = _
      cases e : x.1 with
      | nil => exact absurd e (hok x hx).1
      | cons k r =>
        cases k with
        | inl i => exact ⟨_, _, rfl⟩
        | inr z => exact ⟨_, _, rfl⟩
    · intro x _ y _
      exact okL_rk _ _
    · intro x hx y hy
      rw [ltL_rk]
      exact rho_iff (List.mem_map.mpr ⟨x, hx, rfl⟩) (List.mem_map.mpr ⟨y, hy, rfl⟩)
    · refine keyCall_lam (k := 2) (N := ["pair"]) (pn := "pair") ⟨rfl, rfl, rfl, by decide +kernel, rfl, by decide +kernel, by decide +kernel⟩ hr hfl hc' (fun s pm ctv u => .of_eq rfl) ?_
      intro A2 outer2 s2 H4 hr2 x hx t q Q2 e4 h1 h2 hfin
      refine ⟨_, pe_call GR hr2 (by rfl) gR FR.kp bR .nil pass0 (pa_cons (pe_ix ix_tup (pv 0) pe_int (fun _ _ => rfl)) pa_nil), ?_⟩
      exact ⟨_, rfl, t, _, 0, _, rfl, rfl, SqT.of h1, rfl, rrank_step h2 (hok x hx).2.2 fun H5 y e5 dp => hfin _ _ e5 dp⟩
    · refine ⟨D, _, rfl, .inl ⟨SqL.of hD3, fun l hl => ?_⟩⟩
      have e4 : KS.Ex H3 (upd H3 l (.tup (zs.map fun z => V.ref z.1))) := Ex.upd hl
      have em : (zs.map fun z => V.ref z.1) = (zs.map (·.1)).map V.ref := by rw [List.map_map]; rfl
      refine fin _ l (zs.map (·.1)) (zs.map (·.2)) (((ExtN.of e1).trans e2).trans (ExtN.of (e3.trans e4))) (t2.ext (e3.trans e4)) (by rw [upd_same, em]) pm (asc_of nd pm so) ?_
      have go : ∀ (zs : List (Addr × (List Key × V))), (∀ z ∈ zs, ∃ q, H3 z.1 = some (.tup [.ref q, z.2.2]) ∧ H3 q = some (.tup (z.2.1.map kV))) → PairsAt H3 (zs.map (·.1)) (zs.map (·.2)) := by
        intro zs
        induction zs with
        | nil => intro _; exact Paired.nil
        | cons z r ih => exact fun h => Paired.cons (h z (List.mem_cons_self ..)) (ih fun y hy => h y (List.mem_cons_of_mem _ hy))
      exact paired_mono (fun t x ⟨q, h1, h2⟩ => ⟨q, e4 _ _ h1, e4 _ _ h2⟩) (go zs ps)
end
end K18

namespace K18
open PySem PySem.Spec PyProof.Rows L2 KB KC KD KS KM LamX R8
theorem asc_step {Pa Pl Pk d : Addr} {kvs : List (List Key × V)} {H : Hp} {Q : VK} {E : XK} (hd : H d = some (.dT kvs)) (ok : KeysOk kvs) (tb : Tabs (TT Pa Pl Pk) H)
    (fin : ∀ H' q ts us, ExtN H H' → Tabs (TT Pa Pl Pk) H' → H' q = some (.tup (ts.map V.ref)) → us.Perm kvs → Asc us → PairsAt H' ts us → Q (.ref q) H') : spAsc Pa Pl Pk [.ref d] H Q E := by
  unfold spAsc
  exact ⟨d, kvs, rfl, hd, ok, tb, fin⟩
end K18
set_option Elab.async false
set_option linter.all false
set_option maxRecDepth 100000
set_option maxHeartbeats 2000000
namespace Q18
open KM
variable {β : Type}
def look (t : List (KM.Row × β)) (k : KM.Row) : Option β := (t.find? fun p => decide (p.1 = k)).map (·.2)
def Nd (t : List (KM.Row × β)) : Prop := (t.map (·.1)).Nodup
def Asc (t : List (KM.Row × β)) : Prop := t.Pairwise fun x y => bef x.1 y.1 = true
theorem look_mem {t : List (KM.Row × β)} (nd : Nd t) {k : KM.Row} {v : β} : look t k = some v ↔ (k, v) ∈ t := by
  induction t with
  | nil => simp [look]
  | cons a t ih =>
    unfold Nd at nd ih
    rw [List.map_cons, List.nodup_cons] at nd
    unfold look
    rw [List.find?_cons]
    by_cases c : a.1 = k
    · simp only [c, decide_true, Option.map_some, Option.some.injEq, List.mem_cons]
      constructor
      · intro h
        exact .inl (Prod.ext c.symm h.symm)
      · rintro (h | h)
        · rw [← h]
        · exact absurd (List.mem_map.mpr ⟨_, h, c.symm⟩) nd.1
    · simp only [c, decide_false, List.mem_cons]
      have := ih nd.2
      unfold look at this
      rw [this]
      constructor
      · exact .inr
      · rintro (h | h)
        · exact absurd (by rw [← h]) c
        · exact h
theorem look_none {t : List (KM.Row × β)} {k : KM.Row} : look t k = none ↔ k ∉ t.map (·.1) := by
  unfold look
  rw [Option.map_eq_none_iff, List.find?_eq_none]
  simp only [decide_eq_true_eq, List.mem_map, not_exists, not_and]
theorem look_perm {a b : List (KM.Row × β)} (nd : Nd a) (p : b.Perm a) (k : KM.Row) : look b k = look a k := by
  have nb : Nd b := by unfold Nd at *; exact (p.map _).nodup_iff.mpr nd
  cases e : look a k with
  | none =>
    rw [look_none] at e ⊢
    exact fun h => e ((p.map _).mem_iff.mp h)
  | some v => exact (look_mem nb).mpr (p.mem_iff.mpr ((look_mem nd).mp e))
theorem asc_nd {t : List (KM.Row × β)} (h : Asc t) : Nd t := by
  unfold Nd
  rw [List.nodup_iff_pairwise_ne, List.pairwise_map]
  refine h.imp fun {x y} k z => ?_
  rw [z, bef_irrefl] at k
  cases k
theorem asc_un {a b : List (KM.Row × β)} (ha : Asc a) (hb : Asc b) (h : ∀ x, x ∈ a ↔ x ∈ b) : a = b := by
  have nn : ∀ {t : List (KM.Row × β)}, Asc t → t.Nodup := fun {t} h => by
    rw [List.nodup_iff_pairwise_ne]
    refine List.Pairwise.imp (fun {x y} k z => ?_) h
    rw [z, bef_irrefl] at k
    cases k
  have na := nn ha
  have nb := nn hb
  have p : a.Perm b := (List.perm_ext_iff_of_nodup na nb).mpr h
  refine p.eq_of_pairwise (fun x y _ _ h1 h2 => ?_) ha hb
  have := bef_trans h1 h2
  rw [bef_irrefl] at this
  cases this
abbrev Tb := List (KM.Row × Option Int)
structure Rn where
  num : Nat
  prs : Tb
structure Cb where
  mem : Tb
  runs : List Rn
  nxt : Nat
def runsVal : List Rn → KM.Row → Option (Option Int)
  | [], _ => none
  | r :: rs, k => match look r.prs k with
    | some o => some o
    | none => runsVal rs k
def cval (c : Cb) (k : KM.Row) : Option (Option Int) := match look c.mem k with
  | some o => some o
  | none => runsVal c.runs k
def val (c : Cb) (k : KM.Row) : Option Int := (cval c k).join
def put (c : Cb) (k : KM.Row) (o : Option Int) : Cb := { c with mem := if (look c.mem k).isSome = true then c.mem.map (fun p => if p.1 = k then (p.1, o) else p) else c.mem ++ [(k, o)] }
def RowsOf (c : Cb) (rs : Tb) : Prop := Asc rs ∧ ∀ k o, (k, o) ∈ rs ↔ ∃ v, o = some v ∧ val c k = some v
def JoinR (c c' : Cb) : Prop := ∃ rs, RowsOf c rs ∧ c' = if rs = [] then ⟨[], [], c.nxt⟩ else ⟨[], [⟨c.nxt, rs⟩], c.nxt + 1⟩
def FlushR (c c' : Cb) : Prop := if c.mem = [] then c' = c else ∃ ps, ps.Perm c.mem ∧ Asc ps ∧ if 6 < c.runs.length + 1 then JoinR ⟨[], ⟨c.nxt, ps⟩ :: c.runs, c.nxt + 1⟩ c' else c' = ⟨[], ⟨c.nxt, ps⟩ :: c.runs, c.nxt + 1⟩
structure Ok (c : Cb) : Prop where
  nd : Nd c.mem
  lt : c.mem.length < 8
  l6 : c.runs.length ≤ 6
  asc : ∀ r ∈ c.runs, Asc r.prs
  ds : c.runs.Pairwise fun a b => b.num < a.num
  nx : ∀ r ∈ c.runs, r.num < c.nxt
theorem rows_look {c : Cb} {rs : Tb} (h : RowsOf c rs) (k : KM.Row) : look rs k = (val c k).map some := by
  have nd := asc_nd h.1
  cases e : val c k with
  | none =>
    rw [Option.map_none, look_none]
    intro z
    obtain ⟨⟨k', o⟩, hx, rfl⟩ := List.mem_map.mp z
    obtain ⟨v, _, hv⟩ := (h.2 k' o).mp hx
    rw [e] at hv
    cases hv
  | some v => exact (look_mem nd).mpr ((h.2 k (some v)).mpr ⟨v, rfl, e⟩)
theorem rows_un {c c' : Cb} {rs rs' : Tb} (h : RowsOf c rs) (h' : RowsOf c' rs') (e : ∀ k, val c k = val c' k) : rs = rs' :=
  asc_un h.1 h'.1 fun ⟨k, o⟩ => by rw [h.2, h'.2, e k]
theorem join_val {c c' : Cb} (h : JoinR c c') (k : KM.Row) : val c' k = val c k := by
  obtain ⟨rs, hr, rfl⟩ := h
  have hl := rows_look hr k
  by_cases z : rs = []
  · rw [if_pos z]
    rw [z] at hl
    have hl : (none : Option (Option Int)) = (val c k).map some := hl
    cases e : val c k with
    | none => rfl
    | some v => rw [e] at hl; cases hl
  · rw [if_neg z]
    show (match look ([] : Tb) k with | some o => some o | none => runsVal [⟨c.nxt, rs⟩] k).join = _
    show (runsVal [⟨c.nxt, rs⟩] k).join = _
    unfold runsVal
    rw [hl]
    cases val c k <;> rfl
theorem flush_val {c c' : Cb} (ok : Ok c) (h : FlushR c c') (k : KM.Row) : val c' k = val c k := by
  unfold FlushR at h
  by_cases z : c.mem = []
  · rw [if_pos z] at h
    rw [h]
  · rw [if_neg z] at h
    obtain ⟨ps, pm, _, h⟩ := h
    have e1 : val ⟨[], ⟨c.nxt, ps⟩ :: c.runs, c.nxt + 1⟩ k = val c k := by
      show (runsVal (⟨c.nxt, ps⟩ :: c.runs) k).join = (cval c k).join
      unfold runsVal cval
      rw [look_perm ok.nd pm k]
    split at h
    · rw [join_val h, e1]
    · rw [h, e1]
theorem join_ok {c c' : Cb} (h : JoinR c c') : Ok c' ∧ c'.mem = [] := by
  obtain ⟨rs, hr, rfl⟩ := h
  split
  · exact ⟨⟨List.nodup_nil, (by show 0 < 8; decide), (by show 0 ≤ 6; decide), (fun r hr => by cases hr), List.Pairwise.nil, (fun r hr => by cases hr)⟩, rfl⟩
  · refine ⟨⟨List.nodup_nil, (by show 0 < 8; decide), (by show 1 ≤ 6; decide), fun r hr' => ?_, List.pairwise_singleton _ _, fun r hr' => ?_⟩, rfl⟩
    · rw [List.mem_singleton.mp hr']; exact hr.1
    · rw [List.mem_singleton.mp hr']; exact Nat.lt_succ_self _
theorem flush_ok {c c' : Cb} (nd : Nd c.mem) (l8 : c.mem.length ≤ 8) (l6 : c.runs.length ≤ 6) (asc : ∀ r ∈ c.runs, Asc r.prs) (ds : c.runs.Pairwise fun a b => b.num < a.num) (nx : ∀ r ∈ c.runs, r.num < c.nxt) (h : FlushR c c') : Ok c' ∧ c'.mem = [] := by
  unfold FlushR at h
  by_cases z : c.mem = []
  · rw [if_pos z] at h
    rw [h]
    exact ⟨⟨nd, (by rw [z]; decide), l6, asc, ds, nx⟩, z⟩
  · rw [if_neg z] at h
    obtain ⟨ps, pm, ha, h⟩ := h
    split at h
    · exact join_ok h
    · rename_i h6
      rw [h]
      refine ⟨⟨List.nodup_nil, (by show 0 < 8; decide), (by show c.runs.length + 1 ≤ 6; omega), fun r hr => ?_, List.pairwise_cons.mpr ⟨nx, ds⟩, fun r hr => ?_⟩, rfl⟩
      · rcases List.mem_cons.mp hr with rfl | hr
        · exact ha
        · exact asc r hr
      · rcases List.mem_cons.mp hr with rfl | hr
        · exact Nat.lt_succ_self _
        · exact Nat.lt_succ_of_lt (nx r hr)
theorem look_upd (t : Tb) (k j : KM.Row) (o : Option Int) : look (t.map (fun p => if p.1 = k then (p.1, o) else p)) j = if j = k then (look t k).map (fun _ => o) else look t j := by
  induction t with
  | nil => by_cases ej : j = k <;> simp [look, ej]
  | cons a t ih =>
    unfold look at ih ⊢
    rw [List.map_cons, List.find?_cons, List.find?_cons, List.find?_cons]
    by_cases e : a.1 = k
    · rw [if_pos e]
      by_cases ej : j = k
      · rw [if_pos ej] at ih ⊢
        subst ej
        simp [e]
      · rw [if_neg ej] at ih ⊢
        have n1 : ¬ a.1 = j := fun z => ej (z ▸ e)
        simp only [n1, decide_false]
        exact ih
    · rw [if_neg e]
      by_cases ej : j = k
      · rw [if_pos ej] at ih ⊢
        subst ej
        simp only [e, decide_false]
        exact ih
      · rw [if_neg ej] at ih ⊢
        by_cases b : a.1 = j
        · simp only [b, decide_true]
        · simp only [b, decide_false]
          exact ih
theorem look_put (t : Tb) (k j : KM.Row) (o : Option Int) : look (if (look t k).isSome = true then t.map (fun p => if p.1 = k then (p.1, o) else p) else t ++ [(k, o)]) j = if j = k then some o else look t j := by
  by_cases c : (look t k).isSome = true
  · rw [if_pos c, look_upd]
    obtain ⟨v, hv⟩ := Option.isSome_iff_exists.mp c
    rw [hv]
    rfl
  · rw [if_neg c]
    have hn : look t k = none := by cases h : look t k <;> simp_all
    unfold look at hn ⊢
    rw [List.find?_append]
    by_cases ej : j = k
    · rw [if_pos ej, ej]
      have : t.find? (fun p => decide (p.1 = k)) = none := by simpa using hn
      rw [this]
      simp
    · rw [if_neg ej]
      have n1 : ¬ k = j := fun z => ej z.symm
      cases h : t.find? fun p => decide (p.1 = j) <;> simp [n1]
theorem put_val (c : Cb) (k j : KM.Row) (o : Option Int) : val (put c k o) j = if j = k then o else val c j := by
  unfold val cval put
  rw [look_put]
  by_cases e : j = k
  · rw [if_pos e, if_pos e]; rfl
  · rw [if_neg e, if_neg e]
end Q18
set_option Elab.async false
set_option linter.all false
set_option maxRecDepth 100000
set_option maxHeartbeats 2000000
namespace Q18
open KM
def PutR (c c' : Cb) (k : KM.Row) (o : Option Int) : Prop := if 8 ≤ (put c k o).mem.length then FlushR (put c k o) c' else c' = put c k o
theorem flush_val' {c c' : Cb} (nd : Nd c.mem) (h : FlushR c c') (k : KM.Row) : val c' k = val c k := by
  unfold FlushR at h
  by_cases z : c.mem = []
  · rw [if_pos z] at h
    rw [h]
  · rw [if_neg z] at h
    obtain ⟨ps, pm, _, h⟩ := h
    have e1 : val ⟨[], ⟨c.nxt, ps⟩ :: c.runs, c.nxt + 1⟩ k = val c k := by
      show (runsVal (⟨c.nxt, ps⟩ :: c.runs) k).join = (cval c k).join
      unfold runsVal cval
      rw [look_perm nd pm k]
    split at h
    · rw [join_val h, e1]
    · rw [h, e1]
theorem upd_keys (t : Tb) (k : KM.Row) (o : Option Int) : (t.map (fun p => if p.1 = k then (p.1, o) else p)).map (·.1) = t.map (·.1) := by
  rw [List.map_map]
  refine List.map_congr_left fun p _ => ?_
  show (if p.1 = k then (p.1, o) else p).1 = p.1
  split <;> rfl
theorem put_nd {c : Cb} (nd : Nd c.mem) (k : KM.Row) (o : Option Int) : Nd (put c k o).mem := by
  unfold put
  by_cases h : (look c.mem k).isSome = true
  · show Nd (if _ then _ else _)
    rw [if_pos h]
    unfold Nd
    rw [upd_keys]
    exact nd
  · show Nd (if _ then _ else _)
    rw [if_neg h]
    have hn : look c.mem k = none := by cases e : look c.mem k <;> simp_all
    rw [look_none] at hn
    unfold Nd
    rw [List.map_append]
    refine List.nodup_append.mpr ⟨nd, List.nodup_cons.mpr ⟨by simp, List.nodup_nil⟩, ?_⟩
    intro a ha b hb e
    have : b = k := by simpa using hb
    exact hn (this ▸ e ▸ ha)
theorem put_len (c : Cb) (k : KM.Row) (o : Option Int) : (put c k o).mem.length ≤ c.mem.length + 1 := by
  unfold put
  show (if _ then _ else _ : Tb).length ≤ _
  split <;> simp
theorem put_step {c c' : Cb} {k : KM.Row} {o : Option Int} (ok : Ok c) (h : PutR c c' k o) : Ok c' ∧ ∀ j, val c' j = if j = k then o else val c j := by
  have nd := put_nd ok.nd k o
  unfold PutR at h
  split at h
  · have := put_len c k o
    have := ok.lt
    refine ⟨(flush_ok nd (by omega) ok.l6 ok.asc ok.ds ok.nx h).1, fun j => ?_⟩
    rw [flush_val' nd h, put_val]
  · rename_i h8
    rw [h]
    exact ⟨⟨nd, by omega, ok.l6, ok.asc, ok.ds, ok.nx⟩, fun j => put_val c k j o⟩
theorem flush_step {c c' : Cb} (ok : Ok c) (h : FlushR c c') : Ok c' ∧ c'.mem = [] ∧ ∀ k, val c' k = val c k :=
  have a := flush_ok ok.nd (Nat.le_of_lt ok.lt) ok.l6 ok.asc ok.ds ok.nx h
  ⟨a.1, a.2, flush_val ok h⟩
structure Agree (vr : List Rn) (vn : Nat) (c : Cb) : Prop where
  le : vn ≤ c.nxt
  lt : ∀ r ∈ vr, r.num < vn
  eq : ∀ r ∈ vr, ∀ s ∈ c.runs, r.num = s.num → r = s
theorem join_agree {vr : List Rn} {vn : Nat} {c c' : Cb} (a : Agree vr vn c) (h : JoinR c c') : Agree vr vn c' := by
  obtain ⟨rs, _, rfl⟩ := h
  split
  · exact ⟨a.le, a.lt, fun r _ s hs => by cases hs⟩
  · refine ⟨Nat.le_succ_of_le a.le, a.lt, fun r hr s hs e => ?_⟩
    rw [List.mem_singleton.mp hs] at e
    have := a.lt r hr
    have := a.le
    have e : r.num = c.nxt := e
    omega
theorem flush_agree {vr : List Rn} {vn : Nat} {c c' : Cb} (a : Agree vr vn c) (h : FlushR c c') : Agree vr vn c' := by
  unfold FlushR at h
  by_cases z : c.mem = []
  · rw [if_pos z] at h
    rw [h]
    exact a
  · rw [if_neg z] at h
    obtain ⟨ps, pm, _, h⟩ := h
    have a1 : Agree vr vn ⟨[], ⟨c.nxt, ps⟩ :: c.runs, c.nxt + 1⟩ := by
      refine ⟨Nat.le_succ_of_le a.le, a.lt, fun r hr s hs e => ?_⟩
      rcases List.mem_cons.mp hs with rfl | hs
      · have := a.lt r hr
        have := a.le
        have e : r.num = c.nxt := e
        omega
      · exact a.eq r hr s hs e
    split at h
    · exact join_agree a1 h
    · rw [h]
      exact a1
theorem put_agree {vr : List Rn} {vn : Nat} {c c' : Cb} {k : KM.Row} {o : Option Int} (a : Agree vr vn c) (h : PutR c c' k o) : Agree vr vn c' := by
  have a1 : Agree vr vn (put c k o) := ⟨a.le, a.lt, a.eq⟩
  unfold PutR at h
  split at h
  · exact flush_agree a1 h
  · rw [h]
    exact a1
theorem keep_agree {vr vr' : List Rn} {vn vn' : Nat} {c : Cb} (ok : Ok c) (a : Agree vr vn c) (h : ∀ r ∈ vr', r ∈ vr ∨ r ∈ c.runs) (l : vn ≤ vn') (l2 : vn' ≤ c.nxt) (l3 : ∀ r ∈ c.runs, r.num < vn') : Agree vr' vn' c := by
  refine ⟨l2, fun r hr => ?_, fun r hr s hs e => ?_⟩
  · rcases h r hr with h | h
    · exact Nat.lt_of_lt_of_le (a.lt r h) l
    · exact l3 r h
  · rcases h r hr with h | h
    · exact a.eq r h s hs e
    · have := ok.ds
      by_cases q : r = s
      · exact q
      · exfalso
        have := (List.pairwise_iff_getElem.mp ok.ds)
        obtain ⟨i, hi, ri⟩ := List.getElem_of_mem h
        obtain ⟨j, hj, sj⟩ := List.getElem_of_mem hs
        rcases Nat.lt_trichotomy i j with x | x | x
        · have := this i j hi hj x
          rw [ri, sj] at this
          omega
        · subst x
          exact q (ri.symm.trans sj)
        · have := this j i hj hi x
          rw [ri, sj] at this
          omega
theorem restored_agree {vr : List Rn} {vn : Nat} {rs : List Rn} (lt : ∀ r ∈ vr, r.num < vn) (h : ∀ r ∈ rs, r ∈ vr) (un : ∀ r ∈ vr, ∀ s ∈ vr, r.num = s.num → r = s) : Agree vr vn ⟨[], rs, vn⟩ :=
  ⟨Nat.le_refl _, lt, fun r hr s hs e => un r hr s (h s hs) e⟩
end Q18
set_option Elab.async false
set_option linter.all false
set_option maxRecDepth 100000
set_option maxHeartbeats 2000000
namespace Q18
open KM
def fetch (vr : List Rn) (n : Nat) : Option Rn := vr.find? fun r => decide (r.num = n)
def Un (vr : List Rn) : Prop := ∀ r ∈ vr, ∀ s ∈ vr, r.num = s.num → r = s
theorem fetch_mem {vr : List Rn} (un : Un vr) {r : Rn} (h : r ∈ vr) : fetch vr r.num = some r := by
  unfold fetch
  cases e : vr.find? fun s => decide (s.num = r.num) with
  | none =>
    rw [List.find?_eq_none] at e
    exact absurd (decide_eq_true rfl) (e r h)
  | some s =>
    have hs := List.find?_some e
    have hm := List.mem_of_find?_eq_some e
    rw [un s hm r h (of_decide_eq_true hs)]
theorem fetch_all {vr : List Rn} (un : Un vr) {rs : List Rn} (h : ∀ r ∈ rs, r ∈ vr) : (rs.map (·.num)).filterMap (fetch vr) = rs := by
  induction rs with
  | nil => rfl
  | cons r rs ih =>
    rw [List.map_cons, List.filterMap_cons, fetch_mem un (h r (List.mem_cons_self ..)), ih fun s hs => h s (List.mem_cons_of_mem _ hs)]
structure Vt where
  runs : List Rn
  tells : List (PySem.Str × List Nat)
  nxt : Nat
structure VOk (v : Vt) (T : PySem.Str → List Rn) : Prop where
  un : Un v.runs
  lt : ∀ r ∈ v.runs, r.num < v.nxt
  te : ∀ n ns, (n, ns) ∈ v.tells → ns = (T n).map (·.num) ∧ ∀ r ∈ T n, r ∈ v.runs
theorem vok_restored {v : Vt} {T : PySem.Str → List Rn} (h : VOk v T) {n : PySem.Str} {ns : List Nat} (m : (n, ns) ∈ v.tells) : ns.filterMap (fetch v.runs) = T n := by
  obtain ⟨e, hr⟩ := h.te n ns m
  rw [e]
  exact fetch_all h.un hr
theorem val_runs {c c' : Cb} (e : c.mem = []) (e' : c'.mem = []) (er : c.runs = c'.runs) (k : KM.Row) : val c k = val c' k := by
  unfold val cval
  rw [e, e', er]
def keepR (v : Vt) (n : PySem.Str) (rs : List Rn) (v' : Vt) : Prop :=
  (∀ r, r ∈ v'.runs ↔ r ∈ v.runs ∨ r ∈ rs) ∧ v'.tells = v.tells ++ [(n, rs.map (·.num))] ∧ v.nxt ≤ v'.nxt ∧ (∀ r ∈ rs, r.num < v'.nxt)
theorem vok_keep {v v' : Vt} {T : PySem.Str → List Rn} {n : PySem.Str} {c : Cb} (h : VOk v T) (ok : Ok c) (a : Agree v.runs v.nxt c) (fr : ∀ ns, (n, ns) ∉ v.tells) (k : keepR v n c.runs v') : VOk v' (fun m => if m = n then c.runs else T m) := by
  obtain ⟨hm, ht, hn, hl⟩ := k
  have uc : Un c.runs := fun r hr s hs e => by
    have := (List.pairwise_iff_getElem.mp ok.ds)
    obtain ⟨i, hi, ri⟩ := List.getElem_of_mem hr
    obtain ⟨j, hj, sj⟩ := List.getElem_of_mem hs
    rcases Nat.lt_trichotomy i j with x | x | x
    · have := this i j hi hj x
      rw [ri, sj] at this
      omega
    · subst x
      exact ri.symm.trans sj
    · have := this j i hj hi x
      rw [ri, sj] at this
      omega
  refine ⟨fun r hr s hs e => ?_, fun r hr => ?_, fun m ns hm' => ?_⟩
  · rcases (hm r).mp hr with r1 | r1 <;> rcases (hm s).mp hs with s1 | s1
    · exact h.un r r1 s s1 e
    · exact a.eq r r1 s s1 e
    · exact (a.eq s s1 r r1 e.symm).symm
    · exact uc r r1 s s1 e
  · rcases (hm r).mp hr with r1 | r1
    · exact Nat.lt_of_lt_of_le (h.lt r r1) hn
    · exact hl r r1
  · rw [ht] at hm'
    rcases List.mem_append.mp hm' with x | x
    · have nn : ¬ m = n := fun z => fr ns (z ▸ x)
      show ns = (if m = n then c.runs else T m).map (·.num) ∧ ∀ r ∈ (if m = n then c.runs else T m), r ∈ v'.runs
      rw [if_neg nn]
      exact ⟨(h.te m ns x).1, fun r hr => (hm r).mpr (.inl ((h.te m ns x).2 r hr))⟩
    · have x := List.mem_singleton.mp x
      have e1 : m = n := congrArg Prod.fst x
      have e2 : ns = c.runs.map (·.num) := congrArg Prod.snd x
      show ns = (if m = n then c.runs else T m).map (·.num) ∧ ∀ r ∈ (if m = n then c.runs else T m), r ∈ v'.runs
      rw [if_pos e1]
      exact ⟨e2, fun r hr => (hm r).mpr (.inr hr)⟩
def forgetR (v : Vt) (n : PySem.Str) (v' : Vt) : Prop :=
  v'.tells = v.tells.filter (fun p => decide (p.1 ≠ n)) ∧ v'.nxt = v.nxt ∧ v'.runs = v.runs.filter (fun r => v'.tells.any fun p => p.2.contains r.num)
theorem vok_forget {v v' : Vt} {T : PySem.Str → List Rn} {n : PySem.Str} (h : VOk v T) (k : forgetR v n v') : VOk v' T := by
  obtain ⟨ht, hn, hr⟩ := k
  have sub : ∀ r ∈ v'.runs, r ∈ v.runs := fun r x => by
    rw [hr] at x
    exact (List.mem_filter.mp x).1
  refine ⟨fun r x s y => h.un r (sub r x) s (sub s y), fun r x => ?_, fun m ns x => ?_⟩
  · rw [hn]; exact h.lt r (sub r x)
  · have x0 : (m, ns) ∈ v.tells := by
      rw [ht] at x
      exact (List.mem_filter.mp x).1
    obtain ⟨e, q⟩ := h.te m ns x0
    refine ⟨e, fun r rr => ?_⟩
    rw [hr, List.mem_filter]
    refine ⟨q r rr, List.any_eq_true.mpr ⟨_, x, ?_⟩⟩
    show ns.contains r.num = true
    rw [List.contains_iff_mem, e]
    exact List.mem_map.mpr ⟨r, rr, rfl⟩
theorem agree_forget {v v' : Vt} {n : PySem.Str} {c : Cb} (a : Agree v.runs v.nxt c) (k : forgetR v n v') : Agree v'.runs v'.nxt c := by
  obtain ⟨ht, hn, hr⟩ := k
  have sub : ∀ r ∈ v'.runs, r ∈ v.runs := fun r x => by
    rw [hr] at x
    exact (List.mem_filter.mp x).1
  exact ⟨hn ▸ a.le, fun r x => hn ▸ a.lt r (sub r x), fun r x => a.eq r (sub r x)⟩
end Q18
set_option Elab.async false
set_option linter.all false
set_option maxRecDepth 100000
set_option maxHeartbeats 2000000
namespace TK
open PySem PySem.Spec PyProof.Rows L2 KB KC KS LamX R8
section
variable {X : Cx} {pins : List (Addr × Obj)} {σ : L2.St} {H : Hp} {s : Shared} {d : Addr} {o : Obj}
theorem frzT2 {kvs : List (List Key × V)} (I : Inv X pins σ H s) (h : H d = some (.frz o (.dT kvs))) :
    (d == sysModules) = false ∧ s.heap.get? d = some o ∧ o.ExactDict ∧ ∃ (es : Array DictEntry) (ep : Nat), o.data = .dict es ep ∧ es.size = kvs.length ∧
      ∀ (i : Nat) (hi : i < es.size) (k : List Key) (v : V), kvs[i]? = some (k, v) → ∃ q : Addr, es[i].key = .ref q ∧ H q = some (.tup (k.map kV)) ∧ RelV v es[i].val := by
  obtain ⟨hd, z, hs, xs, pr, o', es, ep, ho, hx, hdt, he, _⟩ := I.hok d _ h
  rw [hd] at ho
  cases ho
  refine ⟨hs, hd, hx, es, ep, hdt, ?_, fun i hi k v e => ?_⟩
  · have l1 : es.size = xs.length := size_of_entries he
    have l2 : kvs.length = xs.length := Paired.length pr
    omega
  · obtain ⟨b, hb, e1, e2, e3⟩ := paired_get pr e
    have q := entry_at he i
    rw [hb, Array.getElem?_eq_getElem hi] at q
    have q2 : es[i] = _ := Option.some.inj q
    rw [q2]
    exact ⟨b.2.1, rfl, e2, e3⟩
end
def ItT (d : Addr) (o : Obj) (kvs : List (List Key × V)) : It :=
  ⟨fun i H => H d = some (.frz o (.dT kvs)) ∧ i < kvs.length, fun i H x H' => ∃ T k v q, kvs[i]? = some (k, v) ∧ H q = some (.tup (k.map kV)) ∧ x = .ref T ∧ H T = none ∧ H' = upd H T (.tup [.ref q, v]), fun i H => H d = some (.frz o (.dT kvs)) ∧ kvs.length ≤ i⟩
theorem walk_itT {d : Addr} {o : Obj} {kvs : List (List Key × V)} : Walk (ItT d o kvs) kvs.length (fun H => H d = some (.frz o (.dT kvs)))
    (fun i H x H' => ∃ T k v q, kvs[i]? = some (k, v) ∧ H q = some (.tup (k.map kV)) ∧ x = .ref T ∧ H T = none ∧ H' = upd H T (.tup [.ref q, v])) :=
  ⟨fun _ _ hi q => ⟨q, hi⟩, fun _ q => ⟨q, Nat.le_refl _⟩, fun _ _ _ _ _ _ y => y⟩
section
variable {P : Program} {w : World} {K : PySem.W.Frag} {d : Addr} {o : Obj} {es : Array DictEntry} {ep : Nat}
theorem turn_itT {kvs : List (List Key × V)} {elts : List Expr} {kk : Nat} {tpos : Pos} (it : Addr) (hod : o.data = .dict es ep) :
    Turn P w K (.Tuple elts kk tpos) (ItT d o kvs) [it] it (fun i h => ∃ ok ov, IsItemIter h it d i kvs.length ep ok ov) where
  mem := List.mem_singleton.mpr rfl
  obj := fun i h ⟨ok, ov, e⟩ b hb => by
    rw [List.mem_singleton.mp hb]
    exact ⟨_, e, fun v z => nomatch z⟩
  keep := fun i h h' ⟨ok, ov, e⟩ k => ⟨ok, ov, k it (List.mem_singleton.mpr rfl) _ e⟩
  item := by
    intro X hP hw hK hc i pins s σ H E I hf ⟨ok, ov, he⟩ ⟨hd, hi⟩
    subst hP hw hK
    obtain ⟨hs, hgd, hx, es', ep', hdt, hsz, ent⟩ := frzT2 I hd
    obtain ⟨rfl, rfl⟩ := dict_ep hod hdt
    obtain ⟨⟨k, v⟩, hkv⟩ : ∃ p, kvs[i]? = some p := ⟨kvs[i], List.getElem?_eq_getElem hi⟩
    have hi2 : i < es'.size := by rw [hsz]; exact hi
    obtain ⟨q, hq1, hq2, hq3⟩ := ent i hi2 k v hkv
    rw [← hsz] at he ⊢
    have hlt : it < s.heap.objs.size := Heap.lt_size he
    refine DT.nextI he ⟨o, hgd, hx, hdt⟩ hi2 fun h' ho hT hz hk => ?_
    refine ⟨_, rfl, wpAny_letOwnedTupleGo_items (s := { s with heap := h' }) ho fun h'' he' sb => ?_⟩
    rw [hq1] at hT
    have hT2 := (sb.2 _ (Nat.ne_of_gt hlt)).trans hT
    have I1 : Inv X pins σ (upd H s.heap.objs.size (.tup [.ref q, v])) { s with heap := h'' } :=
      I.turnedNew (t' := s.toks) (ch := [it]) (fun b ob hb e => (sb.2 b fun z => hb (List.mem_singleton.mpr z)).trans (hk b ob (fun z => hb (List.mem_singleton.mpr z)) e)) hf (Nat.le_refl _)
        ⟨(by show 2 ≤ sizeLine; decide), [.ref q, es'[i].val], .cons rfl (.cons hq3 .nil), ⟨_, hT2, rfl, _, rfl⟩⟩
    refine ⟨.ref s.heap.objs.size, _, I1, rfl, ⟨_, k, v, q, hkv, hq2, rfl, I.hok.fresh (Nat.le_refl _), rfl⟩, ⟨_, _, he'⟩, fun b hb => ?_⟩
    rw [List.mem_singleton.mp hb, upd_ne (Nat.ne_of_lt hlt)]
    exact (hf it (List.mem_singleton.mpr rfl)).1
  done := by
    intro X hP hw hK hc i pins s σ H E I hf ⟨ok, ov, he⟩ ⟨hd, hi⟩
    subst hP hw hK
    obtain ⟨f0, f1, f2, f3, f4, f5⟩ := hf it (List.mem_singleton.mpr rfl)
    obtain ⟨hs, hgd, hx, es', ep', hdt, hsz, ent⟩ := frzT2 I hd
    obtain ⟨rfl, rfl⟩ := dict_ep hod hdt
    rw [← hsz] at he hi
    exact DT.endI (I.ok.hd hc) he ⟨o, hgd, hx, hdt⟩ hi fun h' eb => ⟨rfl, I.turned (t' := s.toks) (fun b ob hb e => eb b ob hb e) f0 f1 f3 f4 f5⟩
  self := fun A i s Q E ⟨_, _, e⟩ h => PySem.W.kcp_self e h
end
def iItT (td : TE) : TI := fun σ H R => td σ H fun x H1 => ∃ d o kvs, x = .ref d ∧ H1 d = some (.frz o (.dT kvs)) ∧ R (ItT d o kvs) H1
section
variable {X : Cx} {tg e : Expr} {td : TE} {apos cpos : Pos}
theorem pi_itT {elts : List Expr} {kk : Nat} {tpos : Pos} (he : PE X e td) (hbase : attributeBase e "items" X.env (eval e X.env) = eval e X.env := by rfl) (hline : (apos.endLine == cpos.line) = true := by rfl) :
    PI X (.Tuple elts kk tpos) (.Call (.Attribute e "items" apos) [] [] cpos) (iItT td) := by
  refine ⟨fun pins s σ H R I h => ?_⟩
  refine wpAny_Call_method (T := "dict") (id := "dict.items") hbase rfl hline PySem.F.plainAttrs_dict PySem.F.slot_dict_items PySem.F.type_dict_items (thn (he.run pins s σ H _ I h) fun u s1 ⟨x, H1, I1, rx, d, o, kvs, ex, hd, q⟩ => ?_)
  subst ex
  obtain rfl : u = Value.ref d := rx
  obtain ⟨hs, hgd, hx, es, ep, hdt, hsz, ent⟩ := frzT2 I1 hd
  have raw : DT.Raw s1.heap d es ep := ⟨o, hgd, hx, hdt⟩
  refine ⟨raw.typeIs, fun b z => (by cases z; exact ⟨o, hgd, hx.2.1⟩), ?_⟩
  have I2 : Inv X pins σ H1 { s1 with heap := s1.heap.push { cls := .type "dict_items", data := .fields #[.ref d] } } := I1.kept (t' := s1.toks) fun b ob q => Heap.get?_push_of_some _ q
  have fin : wpAny (model X.prog X.w) X.A (pyIter (.ref s1.heap.objs.size)) (PIE X pins σ (.Tuple elts kk tpos) R) X.xe { s1 with heap := s1.heap.push { cls := .type "dict_items", data := .fields #[.ref d] } } := by
    refine DT.iterI (d := d) (es := es) (ep := ep) ⟨_, Heap.get?_push_size _ rfl, rfl, rfl⟩ (raw.push _) (pi_one (tk := s1.toks) I2 _ (turn_itT _ hdt) ⟨.none, .none, ?_⟩ q)
    rw [← hsz]
    exact Heap.get?_push_size _ rfl
  show wpAny _ _ (callWith cpos (.builtin "dict.items") [.ref d] [] []) _ X.xe s1
  exact method_meetsIn PySem.F.slot_dict_items PySem.F.entry_dict_items rfl (PySem.evalArgs_none ⟨rfl, raw.typeIs, PySem.F.args_dict_items_1 _, _, DT.meetsItems (es := es) (ep := ep) hs, raw, fin⟩)
end
section
variable {X : Cx}
theorem dset {pins : List (Addr × Obj)} {σ : L2.St} {H : Hp} {s : Shared} {E : Value → Shared → Prop} {D b : Addr} {kvs : List (List Key × V)} {k : List Key} {v : V} {r : Value} {Q : Unit → Shared → Prop} (hu : X.A.units + 1 < cLine) (I : Inv X pins σ H s) (hD : H D = some (.dT kvs)) (hz : kvs.length < sizeLine)
    (hb : H b = some (.tup (k.map kV))) (rv : RelV v r) (h : ∀ s', Inv X pins σ (upd H D (.dT (putK kvs k v))) s' → Q () s') : wpAny (model X.prog X.w) X.A (dictSet D (.ref b) r) Q E s := by
  obtain ⟨z, hd, xs, rel, dd⟩ := dt_of I.hok hD
  have hzx : xs.length ≤ sizeLine := by rw [← Paired.length rel]; exact z
  have hl : (putK kvs k v).length ≤ sizeLine := by have := length_putK kvs k v; omega
  refine wpAny_dictSet_heap (hsz := hzx) (show (tupleKind (mixKind X.prog X.w)).room X.A from Nat.lt_of_succ_lt hu) (key_of I.hok hb) dd fun h' dd' hs => h _ ?_
  obtain ⟨q, es, ep, hq, h2, h3, h4, _, h5⟩ := dd'
  refine d_write I (by rw [hD]; exact True.intro) hs ⟨q, hq⟩ ⟨hl, hd, _, (rel.put k hb rv).keeps fun c ys ec => ?_, q, es, ep, hq, h2, h3, h4, h5⟩
  rw [upd_ne (ne_of ec hD (fun z => nomatch z))]
  exact ec
end
section
variable {X : Cx}
def tDcT (wi : TI) (g : TG) (tt : TT) (tk tv : TE) (vs : List Nat) : TE := fun σ H Q => wi σ H fun J H1 => ∀ D, H1 D = none → ∃ W : Nat → Nat → Hp → Prop, (∃ m, W 0 m (upd H1 D (.dT []))) ∧ ∀ i m H, W i m H →
  (J.stop i H ∧ Q (.ref D) H) ∨ (J.go i H ∧ ∃ Nx : Hp → Prop, (∀ H', Nx H' → ∃ m', m' < m ∧ W (i + 1) m' H') ∧ ∀ x H', J.yld i H x H' → g x (wipe σ vs) H' fun σ2 H2 => wipe σ2 vs = wipe σ vs ∧ tt σ2 H2 fun b H3 =>
    if b = true then tk σ2 H3 fun y H4 => tv σ2 H4 fun z H5 => ∃ kvs k q, y = .ref q ∧ H5 q = some (.tup (k.map kV)) ∧ H5 D = some (.dT kvs) ∧ kvs.length < sizeLine ∧ Nx (upd H5 D (.dT (putK kvs k z))) else Nx H3)
theorem dcT_core {pins : List (Addr × Obj)} {s : Shared} {σ : L2.St} {H : Hp} {Q : VK} {kx vx tg iter : Expr} {ifs : List Expr} {scope : Scope} {own : List (Str × Nat)} {pos pos' : Pos} {wi : TI} {g : TG} {tt : TT} {tk tv : TE} {use : Option (Value → Sem Unit)} {Qf : Value → Shared → Prop}
    (hu : X.A.units + 1 < cLine) (hc : X.calm = true) (hN : X.N.Nodup) (I : Inv X pins σ H s) (hi : PI X tg iter wi) (ok : BlkOk X.N X.env.scope scope own)
    (hg : ∀ (s : Shared) (H : Hp) (C : Addr) (cl : List (Str × Addr)) (fp : List Addr), PG (X.blk s H scope (compEnvC scope cl C X.env) fp) tg g)
    (ht : ∀ (s : Shared) (H : Hp) (C : Addr) (cl : List (Str × Addr)) (fp : List Addr), PTs (X.blk s H scope (compEnvC scope cl C X.env) fp) ifs tt)
    (hk : ∀ (s : Shared) (H : Hp) (C : Addr) (cl : List (Str × Addr)) (fp : List Addr), PE (X.blk s H scope (compEnvC scope cl C X.env) fp) kx tk)
    (he : ∀ (s : Shared) (H : Hp) (C : Addr) (cl : List (Str × Addr)) (fp : List Addr), PE (X.blk s H scope (compEnvC scope cl C X.env) fp) vx tv) (hs : ∀ x, foldedSetIterable iter X.env x = pure x)
    (h : tDcT wi g tt tk tv (own.map (·.2)) σ H Q)
    (hRR : ∀ D C s' m H', Inv X pins σ H' s' → Q (.ref D) H' → s'.heap.Ns C m → FpOk X pins H' C → compPost (model X.prog X.w) X.A X.xe use Qf (.ref D) C (.ok .next) s') :
    wpAny (model X.prog X.w) X.A (comprehension (.DictComp kx vx [⟨tg, iter, ifs, 0⟩] scope pos) scope X.env pos' newDict false (eval iter X.env) use) Qf X.xe s := by
  have hfr : ∀ y ∈ scope.names, y.2 = .free → ∃ c, X.env.cells.lookup y.1 = some c := fun y hy e => (ok.free y hy e).elim (fun k => I.ok.has _ (.inl k)) fun k => I.ok.has _ (.inr k)
  refine wpAny_comprehension_free (use := use) rfl hs (closure_ok hfr) ok.kind (fun y hy e => by rw [ok.uniq y hy, e]) (thn (hi.run pins s σ H _ I h) fun xv s1 hx => thn hx fun itv s2 h2 => ?_)
  obtain ⟨it, fp, tn, J, H2, rfl, I2, T, st2, f2, q⟩ := h2
  refine wpAny_newObj_type (newEnv_comp ?_)
  generalize hD : s2.heap.objs.size = D
  have hDn : H2 D = none := I2.hok.fresh (Nat.le_of_eq hD)
  obtain ⟨W, ⟨m0, w0⟩, turn⟩ := q D hDn
  generalize hs3 : ({ s2 with heap := s2.heap.push { cls := .type "dict", data := .dict #[] } } : Shared) = s3
  have I3 : Inv X pins σ (upd H2 D (.dT [])) s3 := by
    rw [← hs3, ← hD]
    exact I2.laid (t' := s2.toks) (fun b o e => Heap.get?_push_of_some _ e) (Nat.le_refl _) (dt_empty s2.heap I2.big)
  have h3 : s3.heap = s2.heap.push { cls := .type "dict", data := .dict #[] } := by rw [← hs3]
  have f3 : ∀ b ∈ fp, FpOk X pins (upd H2 D (.dT [])) b ∧ b < s3.heap.objs.size := fun b hb => by
    have hlt : b < s2.heap.objs.size := let ⟨o, e, _⟩ := T.obj _ _ st2 b hb; Heap.lt_size e
    refine ⟨⟨?_, (f2 b hb).2⟩, (by rw [h3, Heap.size_push]; exact Nat.lt_succ_of_lt hlt)⟩
    rw [upd_ne (by rw [← hD]; exact Nat.ne_of_lt hlt)]; exact (f2 b hb).1
  have st3 : tn 0 s3.heap := T.keep _ _ _ st2 fun b _ o e => (by rw [h3]; exact Heap.get?_push_of_some _ e)
  have I4 := block_start I3 ok hN f3
  generalize hcl : cellsFrom (s3.heap.objs.size + 1) scope.names (cloFrom X.env.cells scope.names []) = cl at I4 ⊢
  have pg := hg s3 (upd H2 D (.dT [])) s3.heap.objs.size cl fp
  have pt := ht s3 (upd H2 D (.dT [])) s3.heap.objs.size cl fp
  have pk := hk s3 (upd H2 D (.dT [])) s3.heap.objs.size cl fp
  have pe := he s3 (upd H2 D (.dT [])) s3.heap.objs.size cl fp
  have nfp : ∀ b ∈ fp, (upd H2 D (.dT [])) b = none := fun b hb => (f3 b hb).1.1
  have goal : codeAny (model X.prog X.w) X.A (.compStart (.DictComp kx vx [⟨tg, iter, ifs, 0⟩] scope pos) 0 (.ref it) (.ref D) (compEnvC scope cl s3.heap.objs.size X.env)) (compPost (model X.prog X.w) X.A X.xe use Qf (.ref D) s3.heap.objs.size) { s3 with heap := pushCells (s3.heap.push { cls := .type "dict", data := .dict #[] }) scope.names } := by
    generalize hce : compEnvC scope cl s3.heap.objs.size X.env = ce at I4 pg pt pk pe ⊢
    have cL : ce.locals = s3.heap.objs.size := (by subst hce; rfl)
    generalize hH3 : upd H2 D (.dT []) = H3 at I3 I4 pg pt pk pe w0 nfp f3
    generalize hs4 : ({ s3 with heap := pushCells (s3.heap.push { cls := .type "dict", data := .dict #[] }) scope.names } : Shared) = s4 at I4 ⊢
    have st4 : tn 0 s4.heap := T.keep _ _ _ st3 fun b _ o e => (by rw [← hs4]; exact pushCells_keeps _ _ _ _ (Heap.get?_push_of_some _ e))
    have stat : ∀ {σ' : L2.St} {H' : Hp} {s' : Shared}, Inv (X.blk s3 H3 scope ce fp) [] σ' H' s' → (∀ b ∈ fp, H' b = none) → ∀ b ∈ fp, FpOk (X.blk s3 H3 scope ce fp) [] H' b := fun {σ' H' s'} I' hn b hb =>
      ⟨hn b hb, (I'.ok.exf b hb).1, I'.ok.exfs b hb, .inl hb, fun x c e => (I'.ok.exf b hb).2 x c e, fun p hp => nomatch (show p ∈ ([] : List (Addr × Obj)) from hp)⟩
    have loop : codeAny (model X.prog X.w) X.A (.compLoop (.DictComp kx vx [⟨tg, iter, ifs, 0⟩] scope pos) 0 (.ref it) (.ref D) ce) (compPost (model X.prog X.w) X.A X.xe use Qf (.ref D) s3.heap.objs.size) s4 := by
      refine compLoop_anyD (fun n s' => ∃ i H', Inv (X.blk s3 H3 scope ce fp) [] (wipe σ (own.map (·.2))) H' s' ∧ tn i s'.heap ∧ (∀ b ∈ fp, H' b = none) ∧ W i n H') ?_ m0 ⟨0, H3, I4, st4, nfp, w0⟩
      rintro n s5 ⟨i, H5, I5, st5, n5, w5⟩
      rcases turn i n H5 w5 with ⟨stop, qq⟩ | ⟨go, Nx, hNx, step⟩
      · refine thnF (T.done (X.blk s3 H3 scope ce fp) rfl rfl rfl hc i [] s5 _ H5 (fun _ _ => False) I5 (stat I5 n5) st5 stop) fun r s6 ⟨hr, I6⟩ => ?_
        subst hr
        have I7 : Inv X pins σ H5 s6 := I3.call' (ch := fp) I6.os I6.base I6.hok I6.bare fun b hb => let z := (f3 b hb).1.2; ⟨z.2.2.1, z.1, z.2.2.2.1, z.2.2.2.2⟩
        have nC : H5 s3.heap.objs.size = none := cL ▸ (show H5 ce.locals = none from I6.free)
        obtain ⟨m, hn, _⟩ := I6.loc
        exact hRR D s3.heap.objs.size s6 m H5 I7 qq (cL ▸ (show s6.heap.Ns ce.locals m from hn)) (I3.fpOk (Nat.le_refl _) nC)
      · refine thnF (T.item (X.blk s3 H3 scope ce fp) rfl rfl rfl hc i [] s5 _ H5 (fun _ _ => False) I5 (stat I5 n5) st5 go) fun r s6 ⟨u, hr, h6⟩ => ?_
        subst hr
        refine thnF h6 fun _ s7 ⟨x, H7, I7, r7, y7, st7, n7⟩ => thnF (pg.run _ s7 _ H7 x u _ (I7.pinned (stat I7 n7) (T.obj _ _ st7)) r7 (step x H7 y7)) fun _ s8 ⟨σ8, H8, I8, hw8, q8⟩ => thnF (pt.run _ s8 σ8 H8 _ I8 q8) fun b s9 ⟨H9, I9, q9⟩ => ?_
        have fin : ∀ {s' : Shared} {H' : Hp}, Inv (X.blk s3 H3 scope ce fp) ([] ++ pinsAt fp s7.heap) σ8 H' s' → Nx H' → ∃ m, m < n ∧ ∃ i H', Inv (X.blk s3 H3 scope ce fp) [] (wipe σ (own.map (·.2))) H' s' ∧ tn i s'.heap ∧ (∀ b ∈ fp, H' b = none) ∧ W i m H' := fun {s' H'} I' nx => by
          obtain ⟨m', hm, w'⟩ := hNx H' nx
          have pin' : ∀ b ∈ fp, ∀ o, s7.heap.get? b = some o → s'.heap.get? b = some o ∧ H' b = none := fun b hb o e => let z := I'.pin (b, o) (List.mem_append_right _ (List.mem_append_right _ (mem_pinsAt hb e))); ⟨z.1, z.2.1⟩
          refine ⟨m', hm, i + 1, H', (I'.unpinned (pins := [])).weak (by rw [← hw8, wipe_length]) (fun j v e => (wipe_some (hw8 ▸ e)).1), T.keep _ _ _ st7 fun b hb o e => (pin' b hb o e).1, fun b hb => ?_, w'⟩
          obtain ⟨o, e, _⟩ := T.obj _ _ st7 b hb
          exact (pin' b hb o e).2
        cases b with
        | false => exact fin I9 (by simpa using q9)
        | true =>
          have q9 : tk σ8 H9 _ := (if_pos rfl).mp q9
          show wpAny _ _ _ _ _ _
          refine thnF (pk.run _ s9 σ8 H9 _ I9 q9) fun z s10 ⟨yk, H10, I10, r10, q10⟩ => thnF (pe.run _ s10 σ8 H10 _ I10 q10) fun z2 s11 ⟨yv, H11, I11, r11, kvs, k, qk, ek, hqk, hD11, hz11, nx⟩ => ?_
          subst ek
          cases r10
          exact dset (X := X.blk s3 H3 scope ce fp) hu I11 hD11 hz11 hqk r11 fun s12 I12 => fin I12 nx
    exact codeAny_compStart_dict loop (T.self X.A 0 _ _ _ st4 loop)
  exact goal
theorem pe_dcT {kx vx tg iter : Expr} {ifs : List Expr} {scope : Scope} {own : List (Str × Nat)} {pos : Pos} {wi : TI} {g : TG} {tt : TT} {tk tv : TE} (hu : X.A.units + 1 < cLine) (hc : X.calm = true) (hN : X.N.Nodup) (hi : PI X tg iter wi) (ok : BlkOk X.N X.env.scope scope own)
    (hg : ∀ (s : Shared) (H : Hp) (C : Addr) (cl : List (Str × Addr)) (fp : List Addr), PG (X.blk s H scope (compEnvC scope cl C X.env) fp) tg g)
    (ht : ∀ (s : Shared) (H : Hp) (C : Addr) (cl : List (Str × Addr)) (fp : List Addr), PTs (X.blk s H scope (compEnvC scope cl C X.env) fp) ifs tt)
    (hk : ∀ (s : Shared) (H : Hp) (C : Addr) (cl : List (Str × Addr)) (fp : List Addr), PE (X.blk s H scope (compEnvC scope cl C X.env) fp) kx tk)
    (he : ∀ (s : Shared) (H : Hp) (C : Addr) (cl : List (Str × Addr)) (fp : List Addr), PE (X.blk s H scope (compEnvC scope cl C X.env) fp) vx tv) (hs : ∀ x, foldedSetIterable iter X.env x = pure x := by intro _; rfl) :
    PE X (.DictComp kx vx [⟨tg, iter, ifs, 0⟩] scope pos) (tDcT wi g tt tk tv (own.map (·.2))) := by
  refine ⟨fun pins s σ H Q I h => ?_⟩
  rw [arm_eval_DictComp]
  refine dcT_core hu hc hN I hi ok hg ht hk he hs h fun D C s' m H' I' q hn ⟨f0, f1, f2, f3, f4, f5⟩ => ⟨m, hn, fun h'' sb => ?_⟩
  exact ⟨.ref D, H', I'.turned (t' := s'.toks) (fun b o hb e => (sb.2 b hb).trans e) f0 f1 f3 f4 f5, rfl, q⟩
end
abbrev Rw := List Key
def putT {α : Type} (es : List (Rw × α)) (k : Rw) (a : α) : List (Rw × α) := if (es.any fun e => decide (e.1 = k)) = true then es.map (fun e => if e.1 = k then (e.1, a) else e) else es ++ [(k, a)]
def foldT {α : Type} (es : List (Rw × α)) : List (Rw × α) := es.foldl (fun acc e => putT acc e.1 e.2) []
abbrev KvT {α : Type} (R : Hp → V → α → Prop) (H : Hp) (kvs : List (Rw × V)) (es : List (Rw × α)) : Prop := Paired (fun (p : Rw × V) (e : Rw × α) => p.1 = e.1 ∧ R H p.2 e.2) kvs es
theorem anyT_eq {α : Type} {R : Hp → V → α → Prop} {H : Hp} {k : Rw} : ∀ {kvs : List (Rw × V)} {es : List (Rw × α)}, KvT R H kvs es → (kvs.any fun e => decide (e.1 = k)) = es.any fun e => decide (e.1 = k)
  | _, _, .nil => rfl
  | _, _, .cons h t => by rw [List.any_cons, List.any_cons, h.1, anyT_eq t]
theorem kvT_put {α : Type} {R : Hp → V → α → Prop} {H : Hp} {k : Rw} {z : V} {a : α} {kvs : List (Rw × V)} {es : List (Rw × α)} (r : KvT R H kvs es) (hr : R H z a) : KvT R H (putK kvs k z) (putT es k a) := by
  unfold putK putT
  rw [anyT_eq r]
  split
  · exact go r
  · exact K7.paired_snoc' r ⟨rfl, hr⟩
where
  go : ∀ {kvs : List (Rw × V)} {es : List (Rw × α)}, KvT R H kvs es → KvT R H (kvs.map fun (kv : Rw × V) => if kv.1 = k then (kv.1, z) else kv) (es.map fun (e : Rw × α) => if e.1 = k then (e.1, a) else e)
    | _, _, .nil => .nil
    | _, _, .cons (a := p) (b := e) h t => by
      rw [List.map_cons, List.map_cons]
      refine .cons ?_ (go t)
      by_cases c : p.1 = k
      · rw [if_pos c, if_pos (h.1 ▸ c)]; exact ⟨h.1, hr⟩
      · rw [if_neg c, if_neg (h.1 ▸ c)]; exact h
theorem putT_len {α : Type} (es : List (Rw × α)) (k : Rw) (a : α) : (putT es k a).length ≤ es.length + 1 := by
  unfold putT
  split <;> simp
theorem foldT_snoc {α : Type} (es : List (Rw × α)) (k : Rw) (a : α) : foldT (es ++ [(k, a)]) = putT (foldT es) k a := by
  unfold foldT
  rw [List.foldl_append]; rfl
theorem foldT_len_go {α : Type} : ∀ (es acc : List (Rw × α)), (es.foldl (fun acc e => putT acc e.1 e.2) acc).length ≤ acc.length + es.length
  | [], acc => by simp
  | e :: es, acc => by
    rw [List.foldl_cons]
    have := foldT_len_go es (putT acc e.1 e.2)
    have := putT_len acc e.1 e.2
    rw [List.length_cons]; omega
theorem foldT_self_go {α : Type} : ∀ (es acc : List (Rw × α)), ((acc ++ es).map (·.1)).Nodup → es.foldl (fun acc e => putT acc e.1 e.2) acc = acc ++ es
  | [], acc, _ => by simp
  | e :: es, acc, h => by
    have ne : ¬ (acc.any fun x => decide (x.1 = e.1)) = true := by
      rw [List.any_eq_true]
      rintro ⟨x, hx, hk⟩
      rw [List.map_append, List.nodup_append] at h
      exact h.2.2 x.1 (List.mem_map.mpr ⟨x, hx, rfl⟩) e.1 (by simp) (of_decide_eq_true hk)
    have ep : putT acc e.1 e.2 = acc ++ [e] := by unfold putT; rw [if_neg ne]
    rw [List.foldl_cons, ep, foldT_self_go es (acc ++ [e]) (by simpa using h)]
    simp
theorem foldT_self {α : Type} {es : List (Rw × α)} (h : (es.map (·.1)).Nodup) : foldT es = es := foldT_self_go es [] (by simpa using h)
def KTT (H H' : Hp) : Prop := ∀ b o, (∀ ks, o ≠ .dT ks) → H b = some o → H' b = some o
theorem dcT {J : It} {n : Nat} {G : Hp → Prop} {Y : Nat → Hp → V → Hp → Prop} (w : Walk J n G Y) {α : Type} (R : Hp → V → α → Prop) (out : Nat → Option (Rw × α)) (stab : ∀ H H' v a, KTT H H' → R H v a → R H' v a)
    {g : TG} {tt : L2.TT} {tk tv : TE} {vs : List Nat} {σ : L2.St} {HL : Hp} {D : Addr} {Qd : Hp → Prop} (hD : HL D = none) (hz : n ≤ 1000000) (hG : ∀ H, Ex HL H → G H) (hY : ∀ i H x H1, i < n → Ex HL H → Y i H x H1 → Ex H H1)
    (turn : ∀ (i : Nat) (x : V) (H H1 : Hp) (R0 : V → V → Hp → Prop) (N0 : Hp → Prop), i < n → Ex HL H → Y i H x H1 → (out i = none → ∀ H2, Ex H1 H2 → N0 H2) → (∀ k a, out i = some (k, a) → ∀ H2 q z, Ex H1 H2 → H2 q = some (.tup (k.map kV)) → R H2 z a → R0 (.ref q) z H2) →
      g x (wipe σ vs) H1 fun σ2 H2 => wipe σ2 vs = wipe σ vs ∧ tt σ2 H2 fun b H3 => if b = true then tk σ2 H3 fun y H4 => tv σ2 H4 fun z H5 => R0 y z H5 else N0 H3)
    (fin : ∀ H kvs, Ex HL H → H D = some (.dT kvs) → KvT R H kvs (foldT ((List.range n).filterMap out)) → Qd H) :
    ∃ W : Nat → Nat → Hp → Prop, (∃ m, W 0 m (upd HL D (.dT []))) ∧ ∀ i m H, W i m H →
      (J.stop i H ∧ Qd H) ∨ (J.go i H ∧ ∃ Nx : Hp → Prop, (∀ H', Nx H' → ∃ m', m' < m ∧ W (i + 1) m' H') ∧ ∀ x H', J.yld i H x H' → g x (wipe σ vs) H' fun σ2 H2 => wipe σ2 vs = wipe σ vs ∧ tt σ2 H2 fun b H3 =>
        if b = true then tk σ2 H3 fun y H4 => tv σ2 H4 fun z H5 => ∃ kvs k q, y = .ref q ∧ H5 q = some (.tup (k.map kV)) ∧ H5 D = some (.dT kvs) ∧ kvs.length < sizeLine ∧ Nx (upd H5 D (.dT (putK kvs k z))) else Nx H3) := by
  refine ⟨fun i m H => m = n - i ∧ i ≤ n ∧ (Ex HL H ∧ ∃ kvs, H D = some (.dT kvs) ∧ KvT R H kvs (foldT ((List.range i).filterMap out))), ⟨n, by simp, Nat.zero_le _, Ex.upd hD, [], upd_same, .nil⟩, ?_⟩
  rintro i m H ⟨rfl, hi, e, kvs, hx, hp⟩
  have q := hG H e
  by_cases hlt : i < n
  · refine .inr ⟨w.goes i H hlt q, (fun H' => i + 1 ≤ n ∧ (Ex HL H' ∧ ∃ kvs, H' D = some (.dT kvs) ∧ KvT R H' kvs (foldT ((List.range (i + 1)).filterMap out)))), fun H' p' => ⟨n - (i + 1), by omega, rfl, p'⟩, fun x H1 y => ?_⟩
    have y := w.yields i H x H1 hlt q y
    have e1 := hY i H x H1 hlt e y
    have hs : (List.range (i + 1)).filterMap out = (List.range i).filterMap out ++ (out i).toList := by
      rw [List.range_succ, List.filterMap_append]
      cases h : out i <;> simp [h]
    refine turn i x H H1 (fun y z H5 => ∃ kvs k q, y = .ref q ∧ H5 q = some (.tup (k.map kV)) ∧ H5 D = some (.dT kvs) ∧ kvs.length < sizeLine ∧ (fun H' => i + 1 ≤ n ∧ (Ex HL H' ∧ ∃ kvs, H' D = some (.dT kvs) ∧ KvT R H' kvs (foldT ((List.range (i + 1)).filterMap out)))) (upd H5 D (.dT (putK kvs k z)))) _ hlt e y (fun hn H2 e2 => ?_) fun k a ha H2 q z e2 hq hr => ?_
    · refine ⟨hlt, (e.trans e1).trans e2, kvs, e2 _ _ (e1 _ _ hx), ?_⟩
      rw [hs, hn]
      simpa using paired_mono (fun v b h => ⟨h.1, stab _ _ v.2 b.2 (fun b' o' _ h' => e2 _ _ (e1 _ _ h')) h.2⟩) hp
    · have hx2 := e2 _ _ (e1 _ _ hx)
      have kt : KTT H2 (upd H2 D (.dT (putK kvs k z))) := fun b o ho h => by
        rw [L2.upd_ne (fun z => by rw [z, hx2] at h; exact ho _ (Option.some.inj h).symm)]; exact h
      refine ⟨kvs, k, q, rfl, hq, hx2, ?_, hlt, K7.Ex.on ((e.trans e1).trans e2) hD, putK kvs k z, upd_same, ?_⟩
      · have l1 := K7.paired_len hp
        have l2 := foldT_len_go ((List.range i).filterMap out) []
        have l3 := List.length_filterMap_le out (List.range i)
        rw [List.length_range] at l3
        have l2 : (foldT ((List.range i).filterMap out)).length ≤ 0 + _ := l2
        have : sizeLine = 16777216 := rfl
        omega
      · rw [hs, ha]
        show KvT R _ _ (foldT (_ ++ [(k, a)]))
        rw [foldT_snoc]
        exact kvT_put (paired_mono (fun v b h => ⟨h.1, stab _ _ v.2 b.2 (fun b' o' n' h' => kt _ _ n' (e2 _ _ (e1 _ _ h'))) h.2⟩) hp) (stab _ _ _ _ kt hr)
  · have e' : i = n := by omega
    subst e'
    exact .inl ⟨w.stops H q, fin H kvs e hx hp⟩
end TK
set_option linter.all false
namespace Q18
open KM TK
theorem any_look (t : Tb) (k : KM.Row) : (t.any fun e => decide (e.1 = k)) = (look t k).isSome := by
  unfold look
  rw [Option.isSome_map, Bool.eq_iff_iff, List.any_eq_true, List.find?_isSome]
theorem putT_put (t : Tb) (k : KM.Row) (o : Option Int) : putT t k o = if (look t k).isSome = true then t.map (fun p => if p.1 = k then (p.1, o) else p) else t ++ [(k, o)] := by
  unfold putT
  rw [any_look]
theorem put_mem (c : Cb) (k : KM.Row) (o : Option Int) : (put c k o).mem = putT c.mem k o := by
  unfold put
  rw [putT_put]
theorem look_putT (t : Tb) (k j : KM.Row) (o : Option Int) : look (putT t k o) j = if j = k then some o else look t j := by
  rw [putT_put]
  exact look_put t k j o
theorem foldT_app (a : Tb) (k : KM.Row) (o : Option Int) : foldT (a ++ [(k, o)]) = putT (foldT a) k o := foldT_snoc a k o
theorem look_append (a b : Tb) (j : KM.Row) : look (a ++ b) j = match look a j with | some o => some o | none => look b j := by
  unfold look
  rw [List.find?_append]
  cases a.find? fun p => decide (p.1 = j) <;> rfl
theorem look_fold (a : Tb) : ∀ (n : Nat) (b : Tb), b.length = n → Nd b → ∀ j, look (foldT (a ++ b)) j = match look b j with | some o => some o | none => look (foldT a) j := by
  intro n
  induction n with
  | zero =>
    intro b hb _ j
    rw [List.length_eq_zero_iff.mp hb, List.append_nil]; rfl
  | succ n ih =>
    intro b hb nd j
    obtain ⟨b', x, rfl⟩ : ∃ b' x, b = b' ++ [x] := ⟨b.dropLast, b.getLast (by intro z; rw [z] at hb; cases hb), (List.dropLast_concat_getLast _).symm⟩
    obtain ⟨k, o⟩ := x
    have nd' : Nd b' ∧ k ∉ b'.map (·.1) := by
      unfold Nd at nd ⊢
      rw [List.map_append, List.nodup_append] at nd
      exact ⟨nd.1, fun h => nd.2.2 _ h k (by simp) rfl⟩
    rw [← List.append_assoc, foldT_app, look_putT, look_append, ih b' (by simpa using hb) nd'.1 j]
    by_cases e : j = k
    · rw [if_pos e, e, look_none.mpr nd'.2]
      simp [look]
    · rw [if_neg e]
      have : look ([(k, o)] : Tb) j = none := look_none.mpr (by simpa using e)
      rw [this]
      cases look b' j <;> rfl
theorem fold_nd_go : ∀ (es acc : Tb), Nd acc → Nd (es.foldl (fun acc e => putT acc e.1 e.2) acc)
  | [], acc, h => h
  | e :: es, acc, h => by
    rw [List.foldl_cons]
    refine fold_nd_go es _ ?_
    have := put_nd (c := ⟨acc, [], 0⟩) h e.1 e.2
    rw [put_mem] at this
    exact this
theorem fold_nd (es : Tb) : Nd (foldT es) := fold_nd_go es [] List.nodup_nil
theorem fold_keys_go {U : List KM.Row} : ∀ (es acc : Tb), (∀ p ∈ es, p.1 ∈ U) → (∀ p ∈ acc, p.1 ∈ U) → ∀ p ∈ es.foldl (fun acc e => putT acc e.1 e.2) acc, p.1 ∈ U
  | [], acc, _, h => h
  | e :: es, acc, h1, h2 => by
    rw [List.foldl_cons]
    refine fold_keys_go es _ (fun p hp => h1 p (List.mem_cons_of_mem _ hp)) fun p hp => ?_
    unfold putT at hp
    split at hp
    · obtain ⟨q, hq, rfl⟩ := List.mem_map.mp hp
      split
      · exact h2 q hq
      · exact h2 q hq
    · rcases List.mem_append.mp hp with hp | hp
      · exact h2 p hp
      · rw [List.mem_singleton.mp hp]; exact h1 e List.mem_cons_self
theorem fold_keys {U : List KM.Row} {es : Tb} (h : ∀ p ∈ es, p.1 ∈ U) : ∀ p ∈ foldT es, p.1 ∈ U := fold_keys_go es [] h (fun _ z => by cases z)
def puts (c : Cb) : Tb := (c.runs.reverse.flatMap fun r => r.prs) ++ c.mem
theorem runs_fold (rs : List Rn) (nd : ∀ r ∈ rs, Nd r.prs) (k : KM.Row) : look (foldT (rs.reverse.flatMap fun r => r.prs)) k = runsVal rs k := by
  induction rs with
  | nil => rfl
  | cons r rs ih =>
    rw [List.reverse_cons, List.flatMap_append, show ([r].flatMap fun r => r.prs) = r.prs by simp, look_fold _ _ r.prs rfl (nd r List.mem_cons_self), ih fun s hs => nd s (List.mem_cons_of_mem _ hs)]
    rfl
theorem puts_look {c : Cb} (nm : Nd c.mem) (nd : ∀ r ∈ c.runs, Nd r.prs) (k : KM.Row) : look (foldT (puts c)) k = cval c k := by
  unfold puts
  rw [look_fold _ _ c.mem rfl nm, runs_fold _ nd]
  rfl
theorem rows_of {c : Cb} (nm : Nd c.mem) (nd : ∀ r ∈ c.runs, Nd r.prs) {rs : Tb} (p : rs.Perm ((foldT (puts c)).filter fun x => x.2.isSome)) (a : Asc rs) : RowsOf c rs := by
  refine ⟨a, fun k o => ?_⟩
  rw [p.mem_iff, List.mem_filter, ← look_mem (fold_nd _), puts_look nm nd]
  unfold val
  constructor
  · rintro ⟨h1, h2⟩
    obtain ⟨v, rfl⟩ := Option.isSome_iff_exists.mp h2
    exact ⟨v, rfl, by rw [h1]; rfl⟩
  · rintro ⟨v, rfl, h⟩
    refine ⟨?_, rfl⟩
    cases e : cval c k with
    | none => rw [e] at h; cases h
    | some o =>
      rw [e] at h
      have h : o = some v := h
      rw [h]
def U : List KM.Row := [[.inl 0, .inr ""], [.inl 0, .inr "x"], [.inl 1, .inr ""], [.inl 1, .inr "x"], [.inl 2, .inr ""], [.inl 2, .inr "x"], [.inl 3, .inr ""], [.inl 3, .inr "x"], [.inl 4, .inr ""], [.inl 4, .inr "x"], [.inr "y"], [.inr "z"], [.inl 0], [.inl 1], [.inl 2], [.inl 3], [.inl 4], [.inl 5], [.inl 6], [.inl 7], [.inl 8]]
structure Gk (c : Cb) : Prop where
  mem : ∀ p ∈ c.mem, p.1 ∈ U
  run : ∀ r ∈ c.runs, ∀ p ∈ r.prs, p.1 ∈ U
theorem Gk.puts {c : Cb} (g : Gk c) : ∀ p ∈ foldT (puts c), p.1 ∈ U := fold_keys fun p hp => by
  unfold Q18.puts at hp
  rcases List.mem_append.mp hp with h | h
  · obtain ⟨r, hr, h⟩ := List.mem_flatMap.mp h
    exact g.run r (List.mem_reverse.mp hr) p h
  · exact g.mem p h
theorem nodup_le {α : Type} [DecidableEq α] : ∀ {l m : List α}, l.Nodup → (∀ x ∈ l, x ∈ m) → l.length ≤ m.length
  | [], _, _, _ => Nat.zero_le _
  | x :: l, m, h, k => by
    rw [List.nodup_cons] at h
    have := nodup_le (m := m.erase x) h.2 fun y hy => (List.mem_erase_of_ne (fun z => h.1 (by rw [← z]; exact hy))).mpr (k y (List.mem_cons_of_mem _ hy))
    rw [List.length_erase, if_pos (k x List.mem_cons_self)] at this
    have : 0 < m.length := List.length_pos_of_mem (k x List.mem_cons_self)
    rw [List.length_cons]
    omega
theorem U_len {t : Tb} (nd : Nd t) (h : ∀ p ∈ t, p.1 ∈ U) : t.length ≤ 21 := by
  have := nodup_le (l := t.map (·.1)) (m := U) (show (t.map (·.1)).Nodup from nd) fun x hx => by
    obtain ⟨p, hp, rfl⟩ := List.mem_map.mp hx
    exact h p hp
  rw [List.length_map] at this
  exact this
theorem asc_nd' {t : Tb} (h : Asc t) : Nd t := asc_nd h
theorem gk_rows {c : Cb} (g : Gk c) {rs : Tb} (h : RowsOf c rs) : ∀ p ∈ rs, p.1 ∈ U := by
  intro p hp
  obtain ⟨v, _, hv⟩ := (h.2 p.1 p.2).mp hp
  unfold val cval at hv
  have lm : ∀ {t : Tb} {k : KM.Row} {o : Option Int}, look t k = some o → ∃ q ∈ t, q.1 = k := fun {t k o} e => by
    unfold look at e
    obtain ⟨q, hq, _⟩ := Option.map_eq_some_iff.mp e
    have h2 := List.find?_some hq
    exact ⟨q, List.mem_of_find?_eq_some hq, of_decide_eq_true h2⟩
  have go : ∀ (rs : List Rn), (∀ r ∈ rs, ∀ p ∈ r.prs, p.1 ∈ U) → (runsVal rs p.1).join = some v → p.1 ∈ U := by
    intro rs
    induction rs with
    | nil => intro _ e; cases e
    | cons r rs ih =>
      intro hr e
      unfold runsVal at e
      cases hl : look r.prs p.1 with
      | none =>
        rw [hl] at e
        exact ih (fun s hs => hr s (List.mem_cons_of_mem _ hs)) e
      | some o =>
        obtain ⟨q, hq, e2⟩ := lm hl
        rw [← e2]
        exact hr r List.mem_cons_self q hq
  cases hl : look c.mem p.1 with
  | none =>
    rw [hl] at hv
    exact go c.runs g.run hv
  | some o =>
    obtain ⟨q, hq, e2⟩ := lm hl
    rw [← e2]
    exact g.mem q hq
theorem gk_join {c c' : Cb} (g : Gk c) (h : JoinR c c') : Gk c' := by
  obtain ⟨rs, hr, rfl⟩ := h
  split
  · exact ⟨(fun _ z => by cases z), (fun _ z => by cases z)⟩
  · exact ⟨(fun _ z => by cases z), fun r z => by rw [List.mem_singleton.mp z]; exact gk_rows g hr⟩
theorem gk_flush {c c' : Cb} (g : Gk c) (h : FlushR c c') : Gk c' := by
  unfold FlushR at h
  by_cases z : c.mem = []
  · rw [if_pos z] at h
    rw [h]; exact g
  · rw [if_neg z] at h
    obtain ⟨ps, pm, _, h⟩ := h
    have g1 : Gk ⟨[], ⟨c.nxt, ps⟩ :: c.runs, c.nxt + 1⟩ := ⟨(fun _ z => by cases z), fun r hr p hp => by
      rcases List.mem_cons.mp hr with rfl | hr
      · exact g.mem p (pm.mem_iff.mp hp)
      · exact g.run r hr p hp⟩
    split at h
    · exact gk_join g1 h
    · rw [h]; exact g1
theorem gk_put {c c' : Cb} {k : KM.Row} {o : Option Int} (g : Gk c) (hk : k ∈ U) (h : PutR c c' k o) : Gk c' := by
  have g1 : Gk (put c k o) := ⟨fun p hp => by
    rw [put_mem] at hp
    have := fold_keys_go (U := U) [(k, o)] c.mem (fun p hp => by rw [List.mem_singleton.mp hp]; exact hk) g.mem
    exact this p hp, g.run⟩
  unfold PutR at h
  split at h
  · exact gk_flush g1 h
  · rw [h]; exact g1
end Q18
set_option Elab.async false
set_option linter.all false
set_option maxRecDepth 100000
set_option maxHeartbeats 2000000
namespace K18
open PySem PySem.Spec PyProof.Rows PySem.Calls L2 KB KC KD KS KM LamX R8 CP K7 TK
abbrev Cb := Q18.Cb
abbrev Rn := Q18.Rn
abbrev Tb := Q18.Tb
def NewN (H : Hp) (b : Addr) : Prop := ∀ o, H b = some o → ∃ ps, o = .tbl ps
theorem NewN.ne {H : Hp} {a b : Addr} {o : HO} (n : NewN H b) (h : H a = some o) (ho : ∀ ps, o ≠ .tbl ps) : a ≠ b := fun z => by
  obtain ⟨ps, e⟩ := n o (z ▸ h)
  exact ho ps e
theorem NewN.of {H : Hp} {b : Addr} (h : H b = none) : NewN H b := fun o ho => by rw [h] at ho; cases ho
theorem NewN.back {H H' : Hp} {b : Addr} (n : NewN H' b) (e : ExtN H H') : NewN H b := fun o ho => by
  by_cases q : ∀ ps, o ≠ .tbl ps
  · exact n o (e b o ho q)
  · exact Classical.byContradiction fun c => q fun ps z => c ⟨ps, z⟩
structure Kp (w : Addr → Prop) (H H' : Hp) : Prop where
  k : ∀ b o, H b = some o → (∀ ps, o ≠ .tbl ps) → ¬ w b → H' b = some o
  n : ∀ b, NewN H' b → NewN H b
theorem Kp.of {w : Addr → Prop} {H H' : Hp} (e : ExtN H H') : Kp w H H' := ⟨fun b o h n _ => e b o h n, fun b n => n.back e⟩
theorem Kp.ex {w : Addr → Prop} {H H' : Hp} (e : Ex H H') : Kp w H H' := Kp.of (ExtN.of e)
theorem Kp.trans {w : Addr → Prop} {H H1 H2 : Hp} (a : Kp w H H1) (b : Kp w H1 H2) : Kp w H H2 := ⟨fun x o h n m => b.k x o (a.k x o h n m) n m, fun x h => a.n x (b.n x h)⟩
theorem Kp.trans' {w v : Addr → Prop} {H H1 H2 : Hp} (a : Kp w H H1) (b : Kp v H1 H2) (h : ∀ x, v x → w x ∨ NewN H x) : Kp w H H2 := ⟨fun x o hx n m => b.k x o (a.k x o hx n m) n fun z => (h x z).elim m fun y => y.ne hx n rfl, fun x h => a.n x (b.n x h)⟩
theorem Kp.upd {w : Addr → Prop} {H : Hp} {a : Addr} {o o' : HO} (h : H a = some o') (ho : ∀ ps, o' ≠ .tbl ps) (hn : ∀ ps, o ≠ .tbl ps) (wa : w a) : Kp w H (upd H a o) := by
  refine ⟨fun b q hb _ n => ?_, fun b n => ?_⟩
  · rw [L2.upd_ne (fun z => n (by rw [z]; exact wa))]; exact hb
  · by_cases e : b = a
    · subst e
      obtain ⟨ps, z⟩ := n o upd_same
      exact absurd z (hn ps)
    · intro q hq
      exact n q (by rw [L2.upd_ne e]; exact hq)
theorem Kp.mono {w v : Addr → Prop} {H H' : Hp} (a : Kp w H H') (h : ∀ x, w x → v x) : Kp v H H' := ⟨fun b o hb n m => a.k b o hb n fun z => m (h b z), a.n⟩
def RV (H : Hp) (v : V) (o : Option Int) : Prop := match o with
  | none => v = .non
  | some n => ∃ t, v = .ref t ∧ H t = some (.tup [.int n])
theorem RV.kt {H H' : Hp} {v : V} {o : Option Int} (h : RV H v o) (e : ∀ b xs, H b = some (.tup xs) → H' b = some (.tup xs)) : RV H' v o := by
  cases o with
  | none => exact h
  | some n => exact let ⟨t, h1, h2⟩ := h; ⟨t, h1, e _ _ h2⟩
theorem RV.stab : ∀ H H' v a, KTT H H' → RV H v a → RV H' v a := fun _ _ _ _ k h => h.kt fun b xs z => k _ _ (fun _ z => nomatch z) z
theorem RV.non {H : Hp} {v : V} {o : Option Int} (h : RV H v o) : v = .non ↔ o = none := by
  cases o with
  | none => exact ⟨fun _ => rfl, fun _ => h⟩
  | some n =>
    obtain ⟨t, rfl, _⟩ := h
    exact ⟨(fun z => nomatch z), (fun z => nomatch z)⟩
abbrev KtTup (H H' : Hp) : Prop := ∀ b xs, H b = some (.tup xs) → H' b = some (.tup xs)
theorem Kp.tup {w : Addr → Prop} {H H' : Hp} (a : Kp w H H') (h : ∀ x, w x → ∀ xs, H x ≠ some (.tup xs)) : KtTup H H' := fun b xs hb => a.k b _ hb (fun _ z => nomatch z) fun z => h b z xs hb
theorem Ex.tup {H H' : Hp} (e : Ex H H') : KtTup H H' := fun b xs h => e b _ h
theorem kvT_kt {H H' : Hp} {kvs : List (Rw × V)} {es : Tb} (r : KvT RV H kvs es) (e : KtTup H H') : KvT RV H' kvs es := paired_mono (fun _ _ h => ⟨h.1, h.2.kt e⟩) r
theorem kvT_val {H : Hp} {k : Rw} : ∀ {kvs : List (Rw × V)} {es : Tb}, KvT RV H kvs es → (valV kvs k = none ∧ Q18.look es k = none) ∨ ∃ v o, valV kvs k = some v ∧ Q18.look es k = some o ∧ RV H v o
  | _, _, .nil => .inl ⟨rfl, rfl⟩
  | _, _, .cons (a := p) (b := e) (l₁ := l) (l₂ := m) h t => by
    by_cases c : p.1 = k
    · refine .inr ⟨p.2, e.2, ?_, ?_, h.2⟩
      · unfold valV; rw [List.find?_cons]; simp [c]
      · unfold Q18.look; rw [List.find?_cons]; simp [← h.1, c]
    · have e1 : valV (p :: l) k = valV l k := by unfold valV; rw [List.find?_cons]; simp [c]
      have e2 : Q18.look (e :: m) k = Q18.look m k := by unfold Q18.look; rw [List.find?_cons]; simp [← h.1, c]
      rw [e1, e2]
      exact kvT_val t
def Prs (H : Hp) (ts : List Addr) (ps : Tb) : Prop := Paired (fun (t : Addr) (x : Rw × Option Int) => ∃ q v, H t = some (.tup [.ref q, v]) ∧ H q = some (.tup (x.1.map kV)) ∧ RV H v x.2) ts ps
theorem Prs.kt {H H' : Hp} {ts : List Addr} {ps : Tb} (r : Prs H ts ps) (e : KtTup H H') : Prs H' ts ps := paired_mono (fun _ _ ⟨q, v, h1, h2, h3⟩ => ⟨q, v, e _ _ h1, e _ _ h2, h3.kt e⟩) r
abbrev rF (n : Nat) (p t : Addr) : List (Str × V) := [("number", .int n), ("pairs", .ref p), ("table", .ref t)]
def RunAt (CR m : Addr) (H : Hp) (r : Addr) (rn : Rn) : Prop := ∃ dx p t ts kvs, H r = some (.ins CR dx (rF rn.num p t)) ∧ H p = some (.tup (ts.map V.ref)) ∧ Prs H ts rn.prs ∧ H t = some (.dT kvs) ∧ KvT RV H kvs rn.prs ∧ t ≠ m
theorem RunAt.kp {CR m r : Addr} {rn : Rn} {w : Addr → Prop} {H H' : Hp} (h : RunAt CR m H r rn) (a : Kp w H H') (wt : ∀ x, w x → ∀ xs, H x ≠ some (.tup xs)) (wr : ∀ x, w x → ∀ dx n p t, H x ≠ some (.ins CR dx (rF n p t))) (wd : ∀ x, w x → ∀ ks, H x = some (.dT ks) → x = m) : RunAt CR m H' r rn := by
  obtain ⟨dx, p, t, ts, kvs, h1, h2, h3, h4, h5, h6⟩ := h
  have k := a.tup wt
  exact ⟨dx, p, t, ts, kvs, a.k _ _ h1 (fun _ z => nomatch z) (fun z => wr _ z _ _ _ _ h1), k _ _ h2, h3.kt k, a.k _ _ h4 (fun _ z => nomatch z) (fun z => h6 (wd _ z _ h4)), kvT_kt h5 k, h6⟩
theorem RunAt.ex {CR m r : Addr} {rn : Rn} {H H' : Hp} (h : RunAt CR m H r rn) (e : ExtN H H') : RunAt CR m H' r rn :=
  h.kp (Kp.of (w := fun _ => False) e) (fun _ z => z.elim) (fun _ z => z.elim) (fun _ z => z.elim)
theorem RunAt.move {CR m m' r : Addr} {rn : Rn} {H : Hp} (h : RunAt CR m H r rn) (n : NewN H m') : RunAt CR m' H r rn := by
  obtain ⟨dx, p, t, ts, kvs, h1, h2, h3, h4, h5, h6⟩ := h
  exact ⟨dx, p, t, ts, kvs, h1, h2, h3, h4, h5, n.ne h4 (fun _ z => nomatch z)⟩
abbrev cF (m l : Addr) (n : Nat) : List (Str × V) := [("memory", .ref m), ("runs", .ref l), ("next_number", .int n)]
structure CabAt (CR CC c m : Addr) (cb : Cb) (H : Hp) : Prop where
  o : ∃ dx l rs, H c = some (.ins CC dx (cF m l cb.nxt)) ∧ H l = some (.lst (rs.map V.ref)) ∧ Paired (RunAt CR m H) rs cb.runs
  m : ∃ mk, H m = some (.dT mk) ∧ KvT RV H mk cb.mem
theorem CabAt.exN {CR CC c m : Addr} {cb : Cb} {H H' : Hp} (x : CabAt CR CC c m cb H) (e : ExtN H H') : CabAt CR CC c m cb H' := by
  obtain ⟨⟨dx, l, rs, h1, h2, h3⟩, mk, h4, h5⟩ := x
  exact ⟨⟨dx, l, rs, e _ _ h1 (fun _ z => nomatch z), e _ _ h2 (fun _ z => nomatch z), paired_mono (fun _ _ h => h.ex e) h3⟩, mk, e _ _ h4 (fun _ z => nomatch z), kvT_kt h5 fun b xs h => e _ _ h (fun _ z => nomatch z)⟩
theorem CabAt.ex {CR CC c m : Addr} {cb : Cb} {H H' : Hp} (x : CabAt CR CC c m cb H) (e : Ex H H') : CabAt CR CC c m cb H' := x.exN (ExtN.of e)
def wC (c m : Addr) (b : Addr) : Prop := b = c ∨ b = m
theorem CabAt.wt {CR CC c m : Addr} {cb : Cb} {H : Hp} (x : CabAt CR CC c m cb H) : ∀ b, wC c m b → ∀ xs, H b ≠ some (.tup xs) := by
  obtain ⟨⟨dx, l, rs, h1, _⟩, mk, h4, _⟩ := x
  rintro b (rfl | rfl) xs h
  · rw [h1] at h; cases h
  · rw [h4] at h; cases h
theorem ins_ne {CC CR dx dx' m l p t : Addr} {n n' : Nat} : (HO.ins CC dx (cF m l n)) ≠ HO.ins CR dx' (rF n' p t) := fun h => by
  have h : cF m l n = rF n' p t := by cases h
  cases h
theorem CabAt.wr {CR CC c m : Addr} {cb : Cb} {H : Hp} (x : CabAt CR CC c m cb H) : ∀ b, wC c m b → ∀ dx n p t, H b ≠ some (.ins CR dx (rF n p t)) := by
  obtain ⟨⟨dx, l, rs, h1, _⟩, mk, h4, _⟩ := x
  rintro b (rfl | rfl) dx n p t h
  · rw [h1] at h; exact ins_ne (Option.some.inj h)
  · rw [h4] at h; cases h
theorem CabAt.wd {CR CC c m : Addr} {cb : Cb} {H : Hp} (x : CabAt CR CC c m cb H) : ∀ b, wC c m b → ∀ ks, H b = some (.dT ks) → b = m := by
  obtain ⟨⟨dx, l, rs, h1, _⟩, mk, h4, _⟩ := x
  rintro b (rfl | rfl) ks h
  · rw [h1] at h; cases h
  · rfl
theorem CabAt.run {CR CC c m r : Addr} {cb : Cb} {rn : Rn} {H H' : Hp} (x : CabAt CR CC c m cb H) (a : Kp (wC c m) H H') (h : RunAt CR m H r rn) : RunAt CR m H' r rn := h.kp a x.wt x.wr x.wd
theorem CabAt.tup {CR CC c m : Addr} {cb : Cb} {H H' : Hp} (x : CabAt CR CC c m cb H) (a : Kp (wC c m) H H') : KtTup H H' := a.tup x.wt
theorem tabs_kp {T : List (Addr × Str)} {H H' : Hp} (t : Tabs T H) (e : ∀ b o, H b = some o → (∀ xs, o ≠ .lst xs) → (∀ C dx fs, o ≠ .ins C dx fs) → (∀ ks, o ≠ .dK ks) → (∀ ks, o ≠ .dT ks) → H' b = some o) : Tabs T H' := fun p hp => by
  obtain ⟨ps, h1, h2, h3⟩ := t p hp
  refine ⟨ps, e _ _ h1 (fun _ z => nomatch z) (fun _ _ _ z => nomatch z) (fun _ z => nomatch z) (fun _ z => nomatch z), h2, fun pos cv hc => ?_⟩
  obtain ⟨c, e1, e2⟩ := h3 pos cv hc
  exact ⟨c, e1, e _ _ e2 (fun _ z => nomatch z) (fun _ _ _ z => nomatch z) (fun _ z => nomatch z) (fun _ z => nomatch z)⟩
theorem tabs_upd {T : List (Addr × Str)} {H : Hp} {a : Addr} {o o' : HO} (t : Tabs T H) (h : H a = some o') (ho : (∃ xs, o' = .lst xs) ∨ (∃ C dx fs, o' = .ins C dx fs) ∨ (∃ ks, o' = .dK ks) ∨ ∃ ks, o' = .dT ks) : Tabs T (upd H a o) :=
  tabs_kp t fun b u hb n1 n2 n3 n4 => by
    rw [L2.upd_ne (fun z => ?_)]
    · exact hb
    · rw [z, h] at hb
      cases hb
      rcases ho with ⟨_, z⟩ | ⟨_, _, _, z⟩ | ⟨_, z⟩ | ⟨_, z⟩
      · exact n1 _ z
      · exact n2 _ _ _ z
      · exact n3 _ z
      · exact n4 _ z
structure TxtC (K : PySem.W.Frag) (mg : Str → Option Value) (CR CC CV : Addr) : Prop where
  clR : Cls K CR
  rN : NoAttr K CR "number"
  rP : NoAttr K CR "pairs"
  rT : NoAttr K CR "table"
  clC : Cls K CC
  cM : NoAttr K CC "memory"
  cR : NoAttr K CC "runs"
  cN : NoAttr K CC "next_number"
  clV : Cls K CV
  vR : NoAttr K CV "runs"
  vT : NoAttr K CV "tellings"
  vN : NoAttr K CV "next_number"
  gR : mg "Run" = some (.ref CR)
  gC : mg "Cabinet" = some (.ref CC)
  gV : mg "Vault" = some (.ref CV)
def Cal (P : Program) (w : World) (K : PySem.W.Frag) (mg : Str → Option Value) (base : Heap) (k : Nat) (x : Str) (ps : List Str) (sp : Sp) : Prop :=
  ∃ f fd, FnOk P w K mg base CX0 k f fd ps sp ∧ mg x = some (.ref f) ∧ PySem.W.keepIn K (.ref f) = true ∧ Binds K fd ps []
def CalM (P : Program) (w : World) (K : PySem.W.Frag) (mg : Str → Option Value) (base : Heap) (C : Addr) (CX : CXT) (k : Nat) (m : Str) (ps : List Str) (sp : Sp) : Prop :=
  ∃ f fd, FnOk P w K mg base CX k f fd ps sp ∧ Meth K C m f ∧ Binds K fd ps []
def CalI (P : Program) (w : World) (K : PySem.W.Frag) (mg : Str → Option Value) (base : Heap) (C : Addr) (CX : CXT) (k : Nat) (ps : List Str) (sp : Sp) : Prop :=
  ∃ f fd, FnOk P w K mg base CX k f fd ps sp ∧ Mk K C f ∧ Binds K fd ps []
end K18
set_option Elab.async false
set_option linter.all false
set_option maxRecDepth 100000
set_option maxHeartbeats 2000000
namespace K18
open PySem PySem.Spec PyProof.Rows PySem.Calls L2 KB KC KD KS KM LamX R8 CP K7 TK
@[irreducible] def spRInit (K : PySem.W.Frag) (CR : Addr) : Sp := fun vs H Q _ => ∃ (r dx l : Addr) (n : Nat) (ts : List Addr) (ps : Tb), vs = [.ref r, .int n, .ref l] ∧ H r = some (.ins CR dx []) ∧ (H l = some (.lst (ts.map V.ref)) ∨ H l = some (.tup (ts.map V.ref))) ∧ Prs H ts ps ∧ Q18.Nd ps ∧ ps.length ≤ 1000 ∧
  ∀ H', (∀ b o, b ≠ r → H b = some o → H' b = some o) → (∀ m, H m ≠ none → RunAt CR m H' r ⟨n, ps⟩) → Q .non H'
section
variable {P : Program} {w : World} {K : PySem.W.Frag} {mg : Str → Option Value} {base : Heap} {CR CC CV f : Addr} {fd : FuncData}
theorem rinit_step {r dx l : Addr} {n : Nat} {ts : List Addr} {ps : Tb} {H : Hp} {Q : VK} {E : XK} (hr : H r = some (.ins CR dx [])) (hl : H l = some (.lst (ts.map V.ref)) ∨ H l = some (.tup (ts.map V.ref))) (hp : Prs H ts ps) (nd : Q18.Nd ps) (l9 : ps.length ≤ 1000)
    (fin : ∀ H', (∀ b o, b ≠ r → H b = some o → H' b = some o) → (∀ m, H m ≠ none → RunAt CR m H' r ⟨n, ps⟩) → Q .non H') : spRInit K CR [.ref r, .int n, .ref l] H Q E := by
  unfold spRInit
  exact ⟨r, dx, l, n, ts, ps, rfl, hr, hl, hp, nd, l9, fin⟩
abbrev nRI : List Str := ["self", "number", "pairs", "key", "row"]
theorem scRI : FnScope nRI ["self", "number", "pairs"] (defScope (sUM 0)) := ⟨rfl, rfl, rfl, by decide +kernel, rfl, by decide +kernel, by decide +kernel⟩
theorem ok_rinit (F : FnP K "__init__" "Run.__init__" (sUM 0) [] f fd) (B : TxtC K mg CR CC CV) (T : TxtL mg) : FnOk P w K mg base CX0 1 f fd ["self", "number", "pairs"] (spRInit K CR) := by
  refine F.ok scRI (fun vs H Q E h => ?_) (fun cdv A outer s H vs Q E hr h => ?_)
  · unfold spRInit at h
    obtain ⟨_, _, _, _, _, _, rfl, _⟩ := h; rfl
  · unfold spRInit at h
    obtain ⟨r, dx, l, n, ts, ps, rfl, hrr, hl, hp, nd, l9, fin⟩ := h
    have hu := hr.units
    have hu1 := Nat.lt_trans (Nat.add_lt_add_left (by decide : 1 < 64) _) hu
    refine ⟨_, PSs.nox <| pss_cons (ps_fld (pv 0) (pv 1) rfl) (pss_cons (ps_fld (pv 0) (pe_callTy call_tuple_of (by rfl) T.tuple (by decide +kernel) (pa_cons (pv 2) pa_nil)) rfl)
      (pss_one (ps_fld (pv 0) (pe_dcT (own := [("key", 3), ("row", 4)]) (g := gTup K 2 (gCons (gName 3) (gCons (gName 4) gNil))) (tt := tYes) (tk := tVar 3) (tv := tVar 4) hu1 rfl scRI.nd (pi_tup (pf 0)) (blkOk_by (N := nRI) (sc := defScope (sUM 0)) (by decide +kernel))
        (fun _ _ _ _ _ => pg_tup rfl (pgs_cons (pg_name (i := 3) scRI.nd rfl (Or.inl rfl)) (pgs_cons (pg_name (i := 4) scRI.nd rfl (Or.inl rfl)) pgs_nil)))
        (fun _ _ _ _ _ => pts_nil) (fun _ _ _ _ _ => pv 3) (fun _ _ _ _ _ => pv 4)) rfl))), ?_⟩
    refine ⟨_, rfl, _, rfl, r, CR, dx, _, rfl, hrr, B.clR, B.rN, (by show 0 < 1000; decide), ?_⟩
    show tSeq _ _ _ _ (upd H r (.ins CR dx [("number", .int n)]))
    have kt1 : KtTup H (upd H r (.ins CR dx [("number", .int n)])) := fun b xs h => by rw [L2.upd_ne (fun z => by rw [z, hrr] at h; cases h)]; exact h
    have main : ∀ (p : Addr) (H2 : Hp), (∀ b o, b ≠ r → H b = some o → H2 b = some o) → H2 r = some (.ins CR dx [("number", .int n), ("pairs", .ref p)]) → H2 p = some (.tup (ts.map V.ref)) →
        (sFld K (tVar 0) (tDcT (iTup K (tFld K (tVar 0) "pairs")) (gTup K 2 (gCons (gName 3) (gCons (gName 4) gNil))) tYes (tVar 3) (tVar 4) [3, 4]) "table") { nx := fun _ H' => Q .non H', rt := Q } [some (.ref r), some (.int n), some (.ref l), none, none] H2 := by
      intro p H2 e2 hr2 hp2
      have kt2 : KtTup H H2 := fun b xs h => e2 b _ (fun z => by rw [z, hrr] at h; cases h) h
      have hps := hp.kt kt2
      refine ⟨_, rfl, r, CR, dx, _, _, rfl, hr2, B.clR, B.rP, rfl, p, rfl, ⟨_, SqT.of hp2⟩, fun D hD => ?_⟩
      have lt : ts.length = ps.length := paired_len hp
      refine dcT walk_tup RV (fun j => ps[j]?.bind fun e => some (e.1, e.2)) RV.stab hD (by rw [List.length_map]; omega) (fun H5 e5 => SqT.of (e5 _ _ hp2)) (fun i H5 x H6 _ _ h => yat_ex h) (fun j v H5 H6 R0 N0 hj e5 hy hno hsm => ?_) (fun H5 kvs e5 hx5 hkv => ?_)
      · obtain ⟨rfl, hxi⟩ := hy
        rw [List.getElem?_map] at hxi
        obtain ⟨t, ht, rfl⟩ := Option.map_eq_some_iff.mp hxi
        obtain ⟨x, hx, q, v, h1, h2, h3⟩ := paired_get hps ht
        refine ⟨t, _, rfl, SqT.of (e5 _ _ h1), rfl, _, _, rfl, _, _, rfl, rfl, rfl, ?_⟩
        refine ⟨_, rfl, _, rfl, ?_⟩
        exact hsm x.1 x.2 (by rw [hx]; rfl) _ q v (Ex.refl _) (e5 _ _ h2) (h3.kt (Ex.tup e5))
      · rw [List.length_map, lt, range_fm, List.filterMap_some, foldT_self nd] at hkv
        refine ⟨_, rfl, r, CR, dx, _, rfl, e5 _ _ hr2, B.clR, B.rT, (by show 2 < 1000; decide), ?_⟩
        have nD : D ≠ r := fun z => by rw [z, hr2] at hD; cases hD
        refine fin _ (fun b o nb h => by rw [L2.upd_ne nb]; exact e5 _ _ (e2 b o nb h)) fun m hm => ⟨dx, p, D, ts, kvs, upd_same, ?_, ?_, ?_, ?_, fun z => ?_⟩
        · rw [L2.upd_ne (fun z => by rw [z, hr2] at hp2; cases hp2)]; exact e5 _ _ hp2
        · exact hps.kt fun b xs h => by rw [L2.upd_ne (fun z => by rw [z, hr2] at h; cases h)]; exact e5 _ _ h
        · rw [L2.upd_ne nD]; exact hx5
        · exact kvT_kt hkv fun b xs h => by rw [L2.upd_ne (fun z => by rw [z, e5 _ _ hr2] at h; cases h)]; exact h
        · by_cases c : m = r
          · exact nD (z.trans c)
          · cases ho : H m with
            | none => exact hm ho
            | some o =>
              have := e2 m o c ho
              rw [← z, hD] at this
              cases this
    have hr1 : (upd H r (.ins CR dx [("number", .int n)])) r = some (.ins CR dx [("number", .int n)]) := upd_same
    have ex1 : ∀ b o, b ≠ r → H b = some o → (upd H r (.ins CR dx [("number", .int n)])) b = some o := fun b o nb h => by rw [L2.upd_ne nb]; exact h
    generalize upd H r (.ins CR dx [("number", .int n)]) = H1 at kt1 hr1 ex1
    rcases hl with hl | hl
    · have hl1 : H1 l = some (.lst (ts.map V.ref)) := ex1 _ _ (fun z => by rw [z, hrr] at hl; cases hl) hl
      refine ⟨_, rfl, l, _, rfl, .inl ⟨SqL.of hl1, fun p hpn => ?_⟩⟩
      have nr : r ≠ p := fun z => by rw [← z, hr1] at hpn; cases hpn
      refine ⟨_, rfl, r, CR, dx, _, rfl, (by rw [L2.upd_ne nr]; exact hr1), B.clR, B.rP, (by show 1 < 1000; decide), ?_⟩
      refine main p _ (fun b o nb h => ?_) upd_same ?_
      · rw [L2.upd_ne nb, L2.upd_ne (fun z => by rw [z] at h nb; rw [ex1 p o nb h] at hpn; cases hpn)]; exact ex1 b o nb h
      · rw [L2.upd_ne nr.symm, upd_same]
    · have hl1 : H1 l = some (.tup (ts.map V.ref)) := kt1 _ _ hl
      refine ⟨_, rfl, l, _, rfl, .inr ⟨SqT.of hl1, ?_⟩⟩
      refine ⟨_, rfl, r, CR, dx, _, rfl, hr1, B.clR, B.rP, (by show 1 < 1000; decide), ?_⟩
      refine main l _ (fun b o nb h => ?_) upd_same ?_
      · rw [L2.upd_ne nb]; exact ex1 b o nb h
      · rw [L2.upd_ne (fun z => by rw [z, hr1] at hl1; cases hl1)]; exact hl1
@[irreducible] def spFind (CR : Addr) : Sp := fun vs H Q _ => ∃ (m r q : Addr) (rn : Rn) (k : Rw), vs = [.ref r, .ref q] ∧ RunAt CR m H r rn ∧ H q = some (.tup (k.map kV)) ∧
  ∀ p b v, H p = none → (match Q18.look rn.prs k with | some o => b = true ∧ RV H v o | none => b = false ∧ v = .non) → Q (.ref p) (upd H p (.tup [.bl b, v]))
theorem find_step {m r q : Addr} {rn : Rn} {k : Rw} {H : Hp} {Q : VK} {E : XK} (x : RunAt CR m H r rn) (hq : H q = some (.tup (k.map kV))) (fin : ∀ p b v, H p = none → (match Q18.look rn.prs k with | some o => b = true ∧ RV H v o | none => b = false ∧ v = .non) → Q (.ref p) (upd H p (.tup [.bl b, v]))) : spFind CR [.ref r, .ref q] H Q E := by
  unfold spFind
  exact ⟨m, r, q, rn, k, rfl, x, hq, fin⟩
theorem scRF : FnScope ["self", "key"] ["self", "key"] (defScope (sUM 1)) := ⟨rfl, rfl, rfl, by decide +kernel, rfl, by decide +kernel, by decide +kernel⟩
theorem ok_find (F : FnP K "find" "Run.find" (sUM 1) [] f fd) (B : TxtC K mg CR CC CV) : FnOk P w K mg base CX0 1 f fd ["self", "key"] (spFind CR) := by
  refine F.ok scRF (fun vs H Q E h => ?_) (fun cdv A outer s H vs Q E hr h => ?_)
  · unfold spFind at h
    obtain ⟨_, _, _, _, _, rfl, _⟩ := h; rfl
  · unfold spFind at h
    obtain ⟨m, r, q, rn, k, rfl, ⟨dx, p, t, ts, kvs, h1, h2, h3, h4, h5, h6⟩, hq, fin⟩ := h
    have hu := hr.units
    have hu1 := Nat.lt_trans (Nat.add_lt_add_left (by decide : 1 < 64) _) hu
    refine ⟨_, PSs.nox <| pss_one (ps_ret (pe_tup (pa_cons (pe_cmp (pc_din hu1 (pv 1) (pf 0))) (pa_cons (pe_dget1 hu1 (pf 0) (pv 1) ⟨rfl, rfl, rfl, rfl⟩) pa_nil)))), ?_⟩
    have hr2 := h1
    have kv := kvT_val (k := k) h5
    refine ⟨_, rfl, _, rfl, r, CR, dx, _, _, rfl, h1, B.clR, B.rT, rfl, t, _, rfl, DGet.t h4 hq, ?_⟩
    refine ⟨_, rfl, r, CR, dx, _, _, rfl, h1, B.clR, B.rT, rfl, t, rfl, .inr ⟨_, .inl h4⟩, _, rfl, _, DGet.t h4 hq, ?_⟩
    refine ⟨(by show 2 ≤ sizeLine; decide), fun z hz => ?_⟩
    rcases kv with ⟨e1, e2⟩ | ⟨v, o, e1, e2, e3⟩
    · rw [e1]
      exact fin z false .non hz (by rw [e2]; exact ⟨rfl, rfl⟩)
    · rw [e1]
      exact fin z true v hz (by rw [e2]; exact ⟨rfl, e3⟩)
end
end K18
set_option Elab.async false
set_option linter.all false
set_option maxRecDepth 100000
set_option maxHeartbeats 2000000
namespace K18
open PySem PySem.Spec PyProof.Rows PySem.Calls L2 KB KC KD KS KM LamX R8 CP K7 TK
@[irreducible] def spCInit (CR CC : Addr) : Sp := fun vs H Q _ => ∃ (c dx : Addr), vs = [.ref c] ∧ H c = some (.ins CC dx []) ∧
  ∀ H' m, (∀ b o, b ≠ c → H b = some o → H' b = some o) → H m = none → CabAt CR CC c m ⟨[], [], 0⟩ H' → Q .non H'
@[irreducible] def spAddRun (CR CC : Addr) : Sp := fun vs H Q _ => ∃ (c m dx l lp : Addr) (n : Nat) (rs ts : List Addr) (runs : List Rn) (ps : Tb), vs = [.ref c, .ref lp] ∧ H c = some (.ins CC dx (cF m l n)) ∧ H l = some (.lst (rs.map V.ref)) ∧ Paired (RunAt CR m H) rs runs ∧ runs.length ≤ 1000 ∧ H m ≠ none ∧
  H lp = some (.tup (ts.map V.ref)) ∧ Prs H ts ps ∧ Q18.Nd ps ∧ ps.length ≤ 1000 ∧
  ∀ H' dx' l' rs', (∀ b o, b ≠ c → H b = some o → H' b = some o) → H' c = some (.ins CC dx' (cF m l' (n + 1))) → H' l' = some (.lst (rs'.map V.ref)) → Paired (RunAt CR m H') rs' (⟨n, ps⟩ :: runs) → Q .non H'
section
variable {P : Program} {w : World} {K : PySem.W.Frag} {mg : Str → Option Value} {base : Heap} {CR CC CV f : Addr} {fd : FuncData}
theorem cinit_step {c dx : Addr} {H : Hp} {Q : VK} {E : XK} (hc : H c = some (.ins CC dx [])) (fin : ∀ H' m, (∀ b o, b ≠ c → H b = some o → H' b = some o) → H m = none → CabAt CR CC c m ⟨[], [], 0⟩ H' → Q .non H') : spCInit CR CC [.ref c] H Q E := by
  unfold spCInit
  exact ⟨c, dx, rfl, hc, fin⟩
theorem scCI : FnScope ["self"] ["self"] (defScope (sCM 0)) := ⟨rfl, rfl, rfl, by decide +kernel, rfl, by decide +kernel, by decide +kernel⟩
theorem ok_cinit (F : FnP K "__init__" "Cabinet.__init__" (sCM 0) [] f fd) (B : TxtC K mg CR CC CV) : FnOk P w K mg base CX0 1 f fd ["self"] (spCInit CR CC) := by
  refine F.ok scCI (fun vs H Q E h => ?_) (fun cdv A outer s H vs Q E hr h => ?_)
  · unfold spCInit at h
    obtain ⟨_, _, rfl, _⟩ := h; rfl
  · unfold spCInit at h
    obtain ⟨c, dx, rfl, hc, fin⟩ := h
    refine ⟨_, PSs.nox <| pss_cons (ps_fld (pv 0) pe_dnewT rfl) (pss_cons (ps_fld (pv 0) (pe_lst pa_nil) rfl) (pss_one (ps_fld (pv 0) pe_int rfl))), ?_⟩
    refine fun m hm => ?_
    have n1 : m ≠ c := fun z => by rw [z, hc] at hm; cases hm
    refine ⟨_, rfl, c, CC, dx, _, rfl, (by rw [L2.upd_ne n1.symm]; exact hc), B.clC, B.cM, (by show 0 < 1000; decide), ?_⟩
    refine ⟨Nat.zero_le _, fun l hl => ?_⟩
    have n2 : l ≠ c := fun z => by rw [z, upd_same] at hl; cases hl
    rw [L2.upd_ne n2] at hl
    have n3 : l ≠ m := fun z => by rw [z, upd_same] at hl; cases hl
    rw [L2.upd_ne n3] at hl
    refine ⟨_, rfl, c, CC, dx, _, rfl, (by rw [L2.upd_ne n2.symm]; exact upd_same), B.clC, B.cR, (by show 1 < 1000; decide), ?_⟩
    refine ⟨_, rfl, c, CC, dx, _, rfl, upd_same, B.clC, B.cN, (by show 2 < 1000; decide), ?_⟩
    rw [upd2]
    refine fin _ m (fun b o nb h => ?_) hm ⟨⟨dx, l, [], upd_same, ?_, .nil⟩, [], ?_, .nil⟩
    · rw [L2.upd_ne nb, L2.upd_ne (fun z => by rw [z, hl] at h; cases h), L2.upd_ne nb, L2.upd_ne (fun z => by rw [z, hm] at h; cases h)]; exact h
    · rw [L2.upd_ne n2, upd_same]; rfl
    · rw [L2.upd_ne n1, L2.upd_ne n3.symm, L2.upd_ne n1, upd_same]
theorem addrun_step {c m dx l lp : Addr} {n : Nat} {rs ts : List Addr} {runs : List Rn} {ps : Tb} {H : Hp} {Q : VK} {E : XK} (hc : H c = some (.ins CC dx (cF m l n))) (hl : H l = some (.lst (rs.map V.ref))) (hrs : Paired (RunAt CR m H) rs runs) (l9 : runs.length ≤ 1000) (hm : H m ≠ none)
    (hlp : H lp = some (.tup (ts.map V.ref))) (hps : Prs H ts ps) (nd : Q18.Nd ps) (p9 : ps.length ≤ 1000)
    (fin : ∀ H' dx' l' rs', (∀ b o, b ≠ c → H b = some o → H' b = some o) → H' c = some (.ins CC dx' (cF m l' (n + 1))) → H' l' = some (.lst (rs'.map V.ref)) → Paired (RunAt CR m H') rs' (⟨n, ps⟩ :: runs) → Q .non H') : spAddRun CR CC [.ref c, .ref lp] H Q E := by
  unfold spAddRun
  exact ⟨c, m, dx, l, lp, n, rs, ts, runs, ps, rfl, hc, hl, hrs, l9, hm, hlp, hps, nd, p9, fin⟩
theorem scAR : FnScope ["self", "pairs"] ["self", "pairs"] (defScope (sCM 4)) := ⟨rfl, rfl, rfl, by decide +kernel, rfl, by decide +kernel, by decide +kernel⟩
theorem ok_addrun (F : FnP K "add_run" "Cabinet.add_run" (sCM 4) [] f fd) (B : TxtC K mg CR CC CV) (ri : CalI P w K mg base CR CX0 1 ["self", "number", "pairs"] (spRInit K CR)) : FnOk P w K mg base CX0 3 f fd ["self", "pairs"] (spAddRun CR CC) := by
  obtain ⟨f1, fd1, G1, M1, b1⟩ := ri
  refine F.ok scAR (fun vs H Q E h => ?_) (fun cdv A outer s H vs Q E hr h => ?_)
  · unfold spAddRun at h
    obtain ⟨_, _, _, _, _, _, _, _, _, _, rfl, _⟩ := h; rfl
  · unfold spAddRun at h
    obtain ⟨c, m, dx, l, lp, n, rs, ts, runs, ps, rfl, hc, hl, hrs, l9, hm, hlp, hps, nd, p9, fin⟩ := h
    refine ⟨_, PSs.nox <| pss_cons (ps_fld (pv 0) (pe_op op_cat (pe_lst (pa_cons (pe_make M1 G1 (hr.mono (by decide)) (by rfl) B.gR b1 .nil pass0 (pa_cons (pf 0) (pa_cons (pv 1) pa_nil))) pa_nil)) (pf 0)) rfl) (pss_one (ps_fldaug (pv 0) pe_int in_add)), ?_⟩
    refine ⟨_, rfl, c, CC, dx, _, _, rfl, hc, B.clC, B.cN, rfl, _, rfl, fun r dr hr0 hdr nr => ?_⟩
    have e1 : Ex H (upd H dr (.own r)) := Ex.upd hdr
    have hr1 : (upd H dr (.own r)) r = none := by rw [L2.upd_ne nr.symm]; exact hr0
    have e2 : Ex (upd H dr (.own r)) (upd (upd H dr (.own r)) r (.ins CR dr [])) := Ex.upd hr1
    have e12 := e1.trans e2
    have hr2 : (upd (upd H dr (.own r)) r (.ins CR dr [])) r = some (.ins CR dr []) := upd_same
    have hn2 : ∀ b, (upd (upd H dr (.own r)) r (.ins CR dr [])) b = none → H b = none := fun b h => by
      cases e : H b with
      | none => rfl
      | some o => rw [e12 _ _ e] at h; cases h
    generalize upd (upd H dr (.own r)) r (.ins CR dr []) = H2 at e12 hr2 hn2
    refine rinit_step (n := n) hr2 (.inr (e12 _ _ hlp)) (hps.kt (Ex.tup e12)) nd p9 fun H3 k3 run3 => ⟨rfl, ?_⟩
    have e3 : Ex H H3 := fun b o h => k3 b o (ne_of_none h hr0) (e12 b o h)
    refine ⟨(by show 1 ≤ sizeLine; decide), fun l1 hl1 => ?_⟩
    have e4 : Ex H (upd H3 l1 (.lst [.ref r])) := e3.trans (Ex.upd hl1)
    refine ⟨_, rfl, c, CC, dx, _, _, rfl, e4 _ _ hc, B.clC, B.cR, rfl, ?_⟩
    have lrs : rs.length = runs.length := paired_len hrs
    refine ⟨l1, l, [.ref r], rs.map V.ref, rfl, rfl, upd_same, e4 _ _ hl, ?_, fun l2 hl2 => ?_⟩
    · have : sizeLine = 16777216 := rfl
      rw [List.length_map, List.length_singleton]; omega
    have e5 : Ex H3 (upd (upd H3 l1 (.lst [.ref r])) l2 (.lst ([V.ref r] ++ rs.map V.ref))) := (Ex.upd hl1).trans (Ex.upd hl2)
    have hl5 : (upd (upd H3 l1 (.lst [.ref r])) l2 (.lst ([V.ref r] ++ rs.map V.ref))) l2 = some (.lst ((r :: rs).map V.ref)) := upd_same
    generalize upd (upd H3 l1 (.lst [.ref r])) l2 (.lst ([V.ref r] ++ rs.map V.ref)) = H5 at e5 hl5
    have e35 := e3.trans e5
    have hc5 := e35 _ _ hc
    refine ⟨_, rfl, c, CC, dx, _, rfl, hc5, B.clC, B.cR, (by show 3 < 1000; decide), ?_⟩
    refine ⟨_, rfl, c, CC, dx, _, _, rfl, upd_same, B.clC, B.cN, rfl, _, _, rfl, rfl, _, _, upd_same, (by show 3 < 1000; decide), ?_⟩
    rw [upd2]
    show Q .non (upd H5 c (.ins CC dx (cF m l2 (n + 1))))
    have kc : Kp (· = c) H5 (upd H5 c (.ins CC dx (cF m l2 (n + 1)))) := Kp.upd hc5 (fun _ z => nomatch z) (fun _ z => nomatch z) rfl
    have wt : ∀ x, x = c → ∀ xs, H5 x ≠ some (.tup xs) := fun x e xs h => by rw [e, hc5] at h; cases h
    have wr : ∀ x, x = c → ∀ dx n p t, H5 x ≠ some (.ins CR dx (rF n p t)) := fun x e dx n p t h => by
      rw [e, hc5] at h
      exact ins_ne (Option.some.inj h)
    have wd : ∀ x, x = c → ∀ ks, H5 x = some (.dT ks) → x = m := fun x e ks h => by rw [e, hc5] at h; cases h
    refine fin _ dx l2 (r :: rs) (fun b o nb h => by rw [L2.upd_ne nb]; exact e35 b o h) upd_same (by rw [L2.upd_ne (fun z => by rw [z, hc5] at hl5; cases hl5)]; exact hl5) (.cons ?_ ?_)
    · have hm2 : H2 m ≠ none := fun z => hm (hn2 m z)
      exact ((run3 m hm2).ex (ExtN.of e5)).kp kc wt wr wd
    · exact paired_mono (fun _ _ h => (h.ex (ExtN.of e35)).kp kc wt wr wd) hrs
end
end K18
set_option Elab.async false
set_option linter.all false
set_option maxRecDepth 100000
set_option maxHeartbeats 2000000
namespace K18
open PySem PySem.Spec PyProof.Rows PySem.Calls L2 KB KC KD KS KM LamX R8 CP K7 TK
theorem exOn {H H1 : Hp} {a : Addr} {o : HO} (e : KS.Ex H H1) (n : H a = none) : KS.Ex H (upd H1 a o) := fun b u h => by rw [L2.upd_ne (ne_of_none h n)]; exact e b u h
theorem fput {H H' : Hp} {fo : Addr} {kvs : List (Rw × V)} {es : Tb} {k : Rw} {v : V} {o : Option Int} (e : KS.Ex H H') (n : H fo = none) (hf : H' fo = some (.dT kvs)) (hk : KvT RV H' kvs (foldT es)) (u : ∀ p ∈ es, p.1 ∈ Q18.U) (rv : RV H' v o) :
    kvs.length < sizeLine ∧ KS.Ex H (upd H' fo (.dT (putK kvs k v))) ∧ KvT RV (upd H' fo (.dT (putK kvs k v))) (putK kvs k v) (foldT (es ++ [(k, o)])) := by
  have kt : KtTup H' (upd H' fo (.dT (putK kvs k v))) := fun b xs h => by rw [L2.upd_ne (fun z => by rw [z, hf] at h; cases h)]; exact h
  refine ⟨?_, exOn e n, ?_⟩
  · have l1 := paired_len hk
    have l2 := Q18.U_len (Q18.fold_nd es) (Q18.fold_keys u)
    have : sizeLine = 16777216 := rfl
    omega
  · rw [Q18.foldT_app]
    exact kvT_kt (kvT_put hk rv) kt
theorem lockT {H H3 : Hp} {m : Addr} {od : Obj} {ks : List (Rw × V)} (he : H m = some (.dT ks)) (e3 : KS.Ex (upd H m (.frz od (.dT ks))) H3) : KS.Ex H (upd H3 m (.dT ks)) := fun b o h => by
  by_cases z : b = m
  · subst z
    rw [he] at h
    rw [upd_same]; exact h
  · rw [L2.upd_ne z]
    refine e3 _ _ ?_
    rw [L2.upd_ne z]; exact h
theorem paired_rev {α β : Type} {R : α → β → Prop} : ∀ {l : List α} {m : List β}, Paired R l m → Paired R l.reverse m.reverse
  | _, _, .nil => .nil
  | _, _, .cons h t => by
    rw [List.reverse_cons, List.reverse_cons]
    exact paired_snoc' (paired_rev t) h
def doneR (runs : List Rn) (i : Nat) : Tb := (runs.reverse.take i).flatMap fun r => r.prs
theorem doneR_succ {runs : List Rn} {i : Nat} {r : Rn} (h : runs.reverse[i]? = some r) : doneR runs (i + 1) = doneR runs i ++ r.prs := by
  unfold doneR
  rw [List.take_add_one, h, List.flatMap_append]
  simp
theorem doneR_all (runs : List Rn) : doneR runs runs.length = runs.reverse.flatMap fun r => r.prs := by
  unfold doneR
  rw [List.take_of_length_le (by rw [List.length_reverse]; exact Nat.le_refl _)]
theorem doneR_U {cb : Cb} (g : Q18.Gk cb) (i : Nat) : ∀ p ∈ doneR cb.runs i, p.1 ∈ Q18.U := fun p hp => by
  obtain ⟨r, hr, hp⟩ := List.mem_flatMap.mp hp
  exact g.run r (List.mem_reverse.mp (List.mem_of_mem_take hr)) p hp
@[irreducible] def spRows (CR CC Pa Pl Pk : Addr) : Sp := fun vs H Q _ => ∃ (c m : Addr) (cb : Cb), vs = [.ref c] ∧ CabAt CR CC c m cb H ∧ Q18.Gk cb ∧ Q18.Nd cb.mem ∧ (∀ r ∈ cb.runs, Q18.Nd r.prs) ∧ cb.runs.length ≤ 1000 ∧ Tabs (TT Pa Pl Pk) H ∧
  ∀ rs, Q18.RowsOf cb rs → ∀ H' q ts, ExtN H H' → Tabs (TT Pa Pl Pk) H' → H' q = some (.tup (ts.map V.ref)) → Prs H' ts rs → Q (.ref q) H'
theorem U_ok : ∀ k ∈ Q18.U, k ≠ [] ∧ k.all okK = true ∧ k.length ≤ 1000 := by decide +kernel
section
variable {P : Program} {w : World} {K : PySem.W.Frag} {mg : Str → Option Value} {base : Heap} {CR CC CV Pa Pl Pk f : Addr} {fd : FuncData}
theorem rows_step {c m : Addr} {cb : Cb} {H : Hp} {Q : VK} {E : XK} (x : CabAt CR CC c m cb H) (g : Q18.Gk cb) (nm : Q18.Nd cb.mem) (nr : ∀ r ∈ cb.runs, Q18.Nd r.prs) (l9 : cb.runs.length ≤ 1000) (tb : Tabs (TT Pa Pl Pk) H)
    (fin : ∀ rs, Q18.RowsOf cb rs → ∀ H' q ts, ExtN H H' → Tabs (TT Pa Pl Pk) H' → H' q = some (.tup (ts.map V.ref)) → Prs H' ts rs → Q (.ref q) H') : spRows CR CC Pa Pl Pk [.ref c] H Q E := by
  unfold spRows
  exact ⟨c, m, cb, rfl, x, g, nm, nr, l9, tb, fin⟩
abbrev nRw : List Str := ["self", "found", "run", "key", "row"]
theorem scRw : FnScope nRw ["self"] (defScope (sCM 7)) := ⟨rfl, rfl, rfl, by decide +kernel, rfl, by decide +kernel, by decide +kernel⟩
theorem prs_of {H H' : Hp} {kvs us : List (Rw × V)} {es : Tb} {ts : List Addr} (hk : KvT RV H kvs es) (kt : KtTup H H') (pm : us.Perm kvs) (a : Asc us) (pa : PairsAt H' ts us) (nd : Q18.Nd es) : ∃ rs : Tb, rs.Perm es ∧ Q18.Asc rs ∧ Prs H' ts rs := by
  have hk' := kvT_kt hk kt
  have look : ∀ x ∈ us, ∃ o, (x.1, o) ∈ es ∧ RV H' x.2 o := fun x hx => by
    have hm := pm.mem_iff.mp hx
    have go : ∀ {kvs : List (Rw × V)} {es : Tb}, KvT RV H' kvs es → x ∈ kvs → ∃ o, (x.1, o) ∈ es ∧ RV H' x.2 o := by
      intro kvs es r
      induction r with
      | nil => intro h; cases h
      | cons h t ih =>
        intro hx
        rcases List.mem_cons.mp hx with e | hx
        · subst e
          exact ⟨_, List.mem_cons.mpr (.inl (Prod.ext h.1 rfl)), h.2⟩
        · obtain ⟨o, h1, h2⟩ := ih hx
          exact ⟨o, List.mem_cons_of_mem _ h1, h2⟩
    exact go hk' hm
  have keys : kvs.map (·.1) = es.map (·.1) := by
    have go : ∀ {kvs : List (Rw × V)} {es : Tb}, KvT RV H' kvs es → kvs.map (·.1) = es.map (·.1) := by
      intro kvs es r
      induction r with
      | nil => rfl
      | cons h t ih => rw [List.map_cons, List.map_cons, ih, h.1]
    exact go hk'
  have mk : ∀ {us : List (Rw × V)} {ts : List Addr}, PairsAt H' ts us → (∀ x ∈ us, ∃ o, (x.1, o) ∈ es ∧ RV H' x.2 o) → ∃ rs : Tb, rs.map (·.1) = us.map (·.1) ∧ (∀ p ∈ rs, p ∈ es) ∧ Prs H' ts rs := by
    intro us ts r
    induction r with
    | nil => exact fun _ => ⟨[], rfl, (fun _ z => by cases z), .nil⟩
    | @cons t x _ _ h _ ih =>
      intro hl
      obtain ⟨o, ho, rv⟩ := hl x List.mem_cons_self
      obtain ⟨rs, e1, e2, e3⟩ := ih fun y hy => hl y (List.mem_cons_of_mem _ hy)
      obtain ⟨q, h1, h2⟩ := h
      refine ⟨(x.1, o) :: rs, by rw [List.map_cons, List.map_cons, e1], fun p hp => ?_, .cons ⟨q, x.2, h1, h2, rv⟩ e3⟩
      rcases List.mem_cons.mp hp with e | hp
      · rw [e]; exact ho
      · exact e2 p hp
  obtain ⟨rs, e1, e2, e3⟩ := mk pa look
  have ndr : Q18.Nd rs := by
    unfold Q18.Nd at nd ⊢
    rw [e1, (pm.map _).nodup_iff, keys]; exact nd
  refine ⟨rs, ?_, ?_, e3⟩
  · have nl : ∀ {t : Tb}, Q18.Nd t → t.Nodup := fun {t} h => by
      unfold Q18.Nd at h
      rw [List.nodup_iff_pairwise_ne, List.pairwise_map] at h
      rw [List.nodup_iff_pairwise_ne]
      exact h.imp fun k z => k (by rw [z])
    refine (List.perm_ext_iff_of_nodup (nl ndr) (nl nd)).mpr fun p => ⟨e2 p, fun hp => ?_⟩
    have h1 : p.1 ∈ rs.map (·.1) := by
      rw [e1, (pm.map _).mem_iff, keys]
      exact List.mem_map.mpr ⟨p, hp, rfl⟩
    obtain ⟨q, hq, e⟩ := List.mem_map.mp h1
    have a1 := (Q18.look_mem nd).mpr (show (q.1, q.2) ∈ es from e2 q hq)
    have a2 := (Q18.look_mem nd).mpr (show (p.1, p.2) ∈ es from hp)
    have e : q.1 = p.1 := e
    rw [e, a2] at a1
    have : q = p := Prod.ext e (Option.some.inj a1).symm
    rw [← this]; exact hq
  · unfold Q18.Asc
    have h : (us.map (·.1)).Pairwise fun x y => bef x y = true := List.pairwise_map.mpr a
    rw [← e1] at h
    exact List.pairwise_map.mp h
end
end K18
set_option Elab.async false
set_option linter.all false
set_option maxRecDepth 100000
set_option maxHeartbeats 4000000
namespace K18
open PySem PySem.Spec PyProof.Rows PySem.Calls L2 KB KC KD KS KM LamX R8 CP K7 TK
section
variable {P : Program} {w : World} {K : PySem.W.Frag} {mg : Str → Option Value} {base : Heap} {CR CC CV Pa Pl Pk f : Addr} {fd : FuncData}
theorem ok_rows (F : FnP K "rows" "Cabinet.rows" (sCM 7) [] f fd) (B : TxtC K mg CR CC CV) (T : TxtL mg) (as : Cal P w K mg base 6 "ascending" ["table"] (spAsc Pa Pl Pk)) : FnOk P w K mg base CX0 8 f fd ["self"] (spRows CR CC Pa Pl Pk) := by
  obtain ⟨f1, fd1, G1, g1, k1, b1⟩ := as
  refine F.ok scRw (fun vs H Q E h => ?_) (fun cdv A outer s H vs Q E hr h => ?_)
  · unfold spRows at h
    obtain ⟨_, _, _, rfl, _⟩ := h; rfl
  · unfold spRows at h
    obtain ⟨c, m, cb, rfl, x, g, nm, nr, l9, tb, fin⟩ := h
    have hu := hr.units
    have hu1 := Nat.lt_trans (Nat.add_lt_add_left (by decide : 1 < 64) _) hu
    obtain ⟨⟨dx, l, rs0, hc, hl, hrs⟩, mk, hm, hmk⟩ := id x
    refine ⟨_, PSs.nox <| pss_cons (ps_set (i := 1) scRw.nd rfl (Or.inl rfl) pe_dnewT)
      (pss_cons (ps_for PassesOwn.never rfl (pi_reversed (by rfl) T.rev (pa_cons (pf 0) pa_nil)) (pg_name (i := 2) scRw.nd rfl (Or.inl rfl))
        (pss_one (ps_for PassesOwn.never rfl (pi_tup (pf 2)) (pg_tup rfl (pgs_cons (pg_name (i := 3) scRw.nd rfl (Or.inl rfl)) (pgs_cons (pg_name (i := 4) scRw.nd rfl (Or.inl rfl)) pgs_nil)))
          (pss_one (ps_dput hu1 (pv 1) (pv 3) (pv 4) rfl)))))
      (pss_cons (ps_lock (ps_for PassesOwn.never rfl (pi_itT (pf 0)) (pg_tup rfl (pgs_cons (pg_name (i := 3) scRw.nd rfl (Or.inl rfl)) (pgs_cons (pg_name (i := 4) scRw.nd rfl (Or.inl rfl)) pgs_nil)))
          (pss_one (ps_dput hu1 (pv 1) (pv 3) (pv 4) rfl))))
      (pss_one (ps_ret (pe_call G1 (hr.mono (by decide)) (by rfl) g1 k1 b1 .nil pass0 (pa_cons (pe_lock (pe_dcT (own := [("key", 3), ("row", 4)]) (g := gTup K 2 (gCons (gName 3) (gCons (gName 4) gNil))) (tt := tB (tNotN (tVar 4))) (tk := tVar 3) (tv := tVar 4) hu1 rfl scRw.nd (pi_itT (pv 1)) (blkOk_by (N := nRw) (sc := defScope (sCM 7)) (by decide +kernel))
        (fun _ _ _ _ _ => pg_tup rfl (pgs_cons (pg_name (i := 3) scRw.nd rfl (Or.inl rfl)) (pgs_cons (pg_name (i := 4) scRw.nd rfl (Or.inl rfl)) pgs_nil)))
        (fun _ _ _ _ _ => pts_one (pt_cmp (pc_notN (pv 4)))) (fun _ _ _ _ _ => pv 3) (fun _ _ _ _ _ => pv 4))) pa_nil)))))), ?_⟩
    refine fun fo hfo => ?_
    have e0 : KS.Ex H (upd H fo (.dT [])) := Ex.upd hfo
    have hf0 : (upd H fo (.dT [])) fo = some (.dT []) := upd_same
    generalize upd H fo (.dT []) = H0 at e0 hf0
    have lrs := paired_len hrs
    have U := doneR_U g
    refine ⟨_, rfl, c, CC, dx, _, _, rfl, e0 _ _ hc, B.clC, B.cR, rfl, l, _, rfl, SqL.of (e0 _ _ hl), for_it walk_rev
      (fun i σ H' => (∃ a2 a3 a4, σ = [some (.ref c), some (.ref fo), a2, a3, a4]) ∧ KS.Ex H H' ∧ ∃ kvs, H' fo = some (.dT kvs) ∧ KvT RV H' kvs (foldT (doneR cb.runs i))) ⟨⟨_, _, _, rfl⟩, e0, [], hf0, .nil⟩ (fun i σ H' _ h => SqL.of (h.2.1 _ _ hl)) ?_ ?_⟩
    · rintro i v σ H' H2 hi ⟨⟨a2, a3, a4, rfl⟩, e1, kvs, hf, hk⟩ ⟨rfl, hv⟩
      rw [List.length_map] at hi hv
      rw [List.getElem?_map] at hv
      obtain ⟨r, hri, rfl⟩ := Option.map_eq_some_iff.mp hv
      have hri2 : rs0.reverse[i]? = some r := by rw [List.getElem?_reverse hi]; exact hri
      obtain ⟨rn, hrn, hra⟩ := paired_get (paired_rev hrs) hri2
      obtain ⟨dxr, pr, tr, tsr, kvr, q1, q2, q3, q4, q5, q6⟩ := hra
      have hrU : ∀ p ∈ rn.prs, p.1 ∈ Q18.U := g.run rn (List.mem_reverse.mp (List.mem_of_getElem? hrn))
      have lts := paired_len q3
      refine ⟨_, rfl, r, CR, dxr, _, _, rfl, e1 _ _ q1, B.clR, B.rP, rfl, pr, rfl, ⟨_, SqT.of (e1 _ _ q2)⟩, for_it walk_tup
        (fun j σ H' => (∃ a3 a4, σ = [some (.ref c), some (.ref fo), some (.ref r), a3, a4]) ∧ KS.Ex H H' ∧ ∃ kvs, H' fo = some (.dT kvs) ∧ KvT RV H' kvs (foldT (doneR cb.runs i ++ rn.prs.take j)))
        ⟨⟨_, _, rfl⟩, e1, kvs, hf, by rw [List.take_zero, List.append_nil]; exact hk⟩ (fun j σ H' _ h => SqT.of (h.2.1 _ _ q2)) ?_ ?_⟩
      · rintro j v σ H3 H4 hj ⟨⟨b3, b4, rfl⟩, e3, kvs3, hf3, hk3⟩ ⟨rfl, hv⟩
        rw [List.getElem?_map] at hv
        obtain ⟨t, ht, rfl⟩ := Option.map_eq_some_iff.mp hv
        obtain ⟨px, hpx, q, u, h1, h2, h3⟩ := paired_get q3 ht
        have h1 := e3 _ _ h1
        have h2 := e3 _ _ h2
        have h3 := h3.kt (Ex.tup e3)
        obtain ⟨z1, z2, z3⟩ := fput (k := px.1) e3 hfo hf3 hk3 (fun p hp => (List.mem_append.mp hp).elim (U i p) fun hp => hrU p (List.mem_of_mem_take hp)) h3
        refine ⟨t, _, rfl, SqT.of h1, rfl, _, _, rfl, _, _, rfl, rfl, ?_⟩
        refine ⟨_, rfl, _, rfl, _, rfl, fo, _, rfl, DPut.t hf3 h2 z1, ⟨_, _, rfl⟩, z2, _, upd_same, ?_⟩
        have e : rn.prs.take (j + 1) = rn.prs.take j ++ [(px.1, px.2)] := by rw [List.take_add_one, hpx]; rfl
        rw [e, ← List.append_assoc]
        exact z3
      · rintro σ H3 ⟨⟨b3, b4, rfl⟩, e3, kvs3, hf3, hk3⟩
        refine ⟨⟨_, _, _, rfl⟩, e3, kvs3, hf3, ?_⟩
        rw [List.length_map, lts, List.take_length] at hk3
        rw [doneR_succ hrn]
        exact hk3
    · rintro σ H1 ⟨⟨a2, a3, a4, rfl⟩, e1, kvs, hf, hk⟩
      rw [List.length_map, lrs, doneR_all] at hk
      have nfm : fo ≠ m := fun z => by rw [z, hm] at hfo; cases hfo
      refine ⟨m, .dT mk, e1 _ _ hm, trivial, fun od => ?_⟩
      have hcl : (upd H1 m (.frz od (.dT mk))) c = some (.ins CC dx (cF m l cb.nxt)) := by rw [L2.upd_ne (fun z => by rw [z, hm] at hc; cases hc)]; exact e1 _ _ hc
      have UR : ∀ p ∈ cb.runs.reverse.flatMap (fun r => r.prs), p.1 ∈ Q18.U := by rw [← doneR_all]; exact U _
      have ktl : ∀ {H' : Hp}, KS.Ex (upd H1 m (.frz od (.dT mk))) H' → KtTup H1 H' := fun e b xs h => e _ _ (by rw [L2.upd_ne (fun z => by rw [z, e1 _ _ hm] at h; cases h)]; exact h)
      refine ⟨_, rfl, c, CC, dx, _, _, rfl, hcl, B.clC, B.cM, rfl, m, od, mk, rfl, upd_same, for_it walk_itT
        (fun j σ H' => (∃ a2 a3 a4, σ = [some (.ref c), some (.ref fo), a2, a3, a4]) ∧ KS.Ex H (upd H' m (.dT mk)) ∧ H' m = some (.frz od (.dT mk)) ∧ ∃ kvs, H' fo = some (.dT kvs) ∧ KvT RV H' kvs (foldT ((cb.runs.reverse.flatMap fun r => r.prs) ++ cb.mem.take j)))
        ⟨⟨_, _, _, rfl⟩, ?_, upd_same, kvs, ?_, ?_⟩ (fun j σ H' _ h => h.2.2.1) ?_ ?_⟩
      · rw [upd2]
        intro b o h
        by_cases z : b = m
        · rw [z, hm] at h; rw [z, upd_same]; exact h
        · rw [L2.upd_ne z]; exact e1 _ _ h
      · rw [L2.upd_ne nfm]; exact hf
      · rw [List.take_zero, List.append_nil]
        exact kvT_kt hk (ktl (Ex.refl _))
      · rintro j v σ H3 H4 hj ⟨⟨b2, b3, b4, rfl⟩, e3, hmf, kvs3, hf3, hk3⟩ ⟨T', kk, vv, q, hkv, hq, rfl, hT, rfl⟩
        obtain ⟨px, hpx, e5, rv⟩ := paired_get hmk hkv
        have e5 : kk = px.1 := e5
        subst e5
        have eT : KS.Ex H3 (upd H3 T' (.tup [.ref q, vv])) := Ex.upd hT
        have nT : T' ≠ m := fun z => by rw [z, hmf] at hT; cases hT
        have hf4 := eT _ _ hf3
        have nfo3 : (upd H3 m (.dT mk)) fo = some (.dT kvs3) := by rw [L2.upd_ne nfm]; exact hf3
        have eT2 : KS.Ex H (upd (upd H3 T' (.tup [.ref q, vv])) m (.dT mk)) := fun b o h => by
          by_cases z : b = m
          · have := e3 b o h
            rw [z, upd_same] at this
            rw [z, upd_same]; exact this
          · rw [L2.upd_ne z]
            refine eT _ _ ?_
            have := e3 b o h
            rw [L2.upd_ne z] at this
            exact this
        have rv3 : RV (upd H3 T' (.tup [.ref q, vv])) vv px.2 := rv.kt fun b xs h => by
          have := eT2 b _ h
          rw [L2.upd_ne (fun z => by rw [z, hm] at h; cases h)] at this
          exact this
        obtain ⟨z1, z2, z3⟩ := fput (k := px.1) (H := H) (H' := upd (upd H3 T' (.tup [.ref q, vv])) m (.dT mk)) eT2 hfo (by rw [L2.upd_ne nfm]; exact hf4) (kvT_kt hk3 fun b xs h => by
          rw [L2.upd_ne (fun z => by rw [z, hmf] at h; cases h)]; exact eT _ _ h) (fun p hp => (List.mem_append.mp hp).elim (UR p) fun hp => g.mem p (List.mem_of_mem_take hp)) (rv3.kt fun b xs h => by
            rw [L2.upd_ne (fun z => by rw [z, eT _ _ hmf] at h; cases h)]; exact h)
        refine ⟨T', _, rfl, SqT.of upd_same, rfl, _, _, rfl, _, _, rfl, rfl, ?_⟩
        refine ⟨_, rfl, _, rfl, _, rfl, fo, _, rfl, DPut.t hf4 (eT _ _ hq) z1, ⟨_, _, _, rfl⟩, ?_, ?_, _, upd_same, ?_⟩
        · intro b o h
          have hz := z2 b o h
          by_cases z : b = m
          · rw [z] at hz ⊢
            rw [upd_same]
            rw [L2.upd_ne nfm.symm, upd_same] at hz
            exact hz
          · rw [L2.upd_ne z]
            by_cases z' : b = fo
            · rw [z'] at h; rw [hfo] at h; cases h
            · rw [L2.upd_ne z'] at hz ⊢
              rw [L2.upd_ne z] at hz
              exact hz
        · rw [L2.upd_ne nfm.symm]; exact eT _ _ hmf
        · have e : cb.mem.take (j + 1) = cb.mem.take j ++ [(px.1, px.2)] := by rw [List.take_add_one, hpx]; rfl
          rw [e, ← List.append_assoc]
          refine kvT_kt z3 fun b xs h => ?_
          by_cases z' : b = fo
          · rw [z', upd_same] at h; cases h
          · rw [L2.upd_ne z'] at h ⊢
            by_cases z : b = m
            · rw [z, upd_same] at h; cases h
            · rw [L2.upd_ne z] at h; exact h
      · rintro σ H3 ⟨⟨b2, b3, b4, rfl⟩, e3, hmf, kvs3, hf3, hk3⟩
        refine ⟨hmf, ?_⟩
        rw [paired_len hmk, List.take_length] at hk3
        have hk4 : KvT RV (upd H3 m (.dT mk)) kvs3 (foldT (Q18.puts cb)) := kvT_kt hk3 fun b xs h => by rw [L2.upd_ne (fun z => by rw [z, hmf] at h; cases h)]; exact h
        have hf4 : (upd H3 m (.dT mk)) fo = some (.dT kvs3) := by rw [L2.upd_ne nfm]; exact hf3
        generalize upd H3 m (.dT mk) = H4 at e3 hk4 hf4
        have l4 := paired_len hk4
        have l21 := Q18.U_len (Q18.fold_nd (Q18.puts cb)) g.puts
        refine ⟨fo, .dT kvs3, hf4, trivial, fun od2 => ?_⟩
        have ktf : ∀ {H' : Hp}, KS.Ex (upd H4 fo (.frz od2 (.dT kvs3))) H' → KtTup H4 H' := fun e b xs h => e _ _ (by rw [L2.upd_ne (fun z => by rw [z, hf4] at h; cases h)]; exact h)
        refine ⟨_, rfl, fo, od2, kvs3, rfl, upd_same, fun D hD => ?_⟩
        refine dcT walk_itT RV (fun j => (foldT (Q18.puts cb))[j]?.bind fun (e : Rw × Option Int) => if e.2.isSome = true then some (e.1, e.2) else none) RV.stab hD (by omega) (fun H5 e5 => e5 _ _ upd_same) (fun i H5 x H6 _ _ ⟨T', k, v, q, _, _, _, hT, e⟩ => by rw [e]; exact Ex.upd hT) (fun j v H5 H6 R0 N0 hj e5 hy hno hsm => ?_) (fun H5 kvs5 e5 hx5 hkv5 => ?_)
        · obtain ⟨T', kk, vv, q, hkv, hq, rfl, hT, rfl⟩ := hy
          obtain ⟨px, hpx, e6, rv⟩ := paired_get hk4 hkv
          have e6 : kk = px.1 := e6
          subst e6
          have eT : KS.Ex H5 (upd H5 T' (.tup [.ref q, vv])) := Ex.upd hT
          refine ⟨T', _, rfl, SqT.of upd_same, rfl, _, _, rfl, _, _, rfl, rfl, rfl, ?_⟩
          refine ⟨_, rfl, _, rfl, ?_⟩
          have rv5 : RV (upd H5 T' (.tup [.ref q, vv])) vv px.2 := rv.kt fun b xs h => eT _ _ (ktf e5 b xs h)
          by_cases cN : vv = .non
          · refine ifF (by simp [cN]) (hno ?_ _ (Ex.refl _))
            rw [hpx]
            show (if px.2.isSome = true then some (px.1, px.2) else none) = none
            rw [rv5.non.mp cN]; rfl
          · have sm : px.2.isSome = true := by
              cases e : px.2 with
              | none => exact absurd (rv5.non.mpr e) cN
              | some _ => rfl
            refine ifT (by simp [cN]) ⟨_, rfl, _, rfl, ?_⟩
            exact hsm px.1 px.2 (by rw [hpx]; show (if px.2.isSome = true then some (px.1, px.2) else none) = _; rw [if_pos sm]) _ q vv (Ex.refl _) (eT _ _ hq) rv5
        · have eo : (List.range kvs3.length).filterMap (fun j => (foldT (Q18.puts cb))[j]?.bind fun (e : Rw × Option Int) => if e.2.isSome = true then some (e.1, e.2) else none) = (foldT (Q18.puts cb)).filter fun (e : Rw × Option Int) => e.2.isSome := by
            rw [l4, range_fm]
            exact filt_fm (fun (e : Rw × Option Int) => e.2.isSome) _
          have ndF : Q18.Nd ((foldT (Q18.puts cb)).filter fun (e : Rw × Option Int) => e.2.isSome) := by
            unfold Q18.Nd
            exact (show ((foldT (Q18.puts cb)).map (·.1)).Nodup from Q18.fold_nd _).sublist (List.filter_sublist.map _)
          rw [eo, foldT_self ndF] at hkv5
          refine ⟨e5 _ _ upd_same, ?_⟩
          have e6 := lockT hf4 e5
          have nD : D ≠ fo := fun z => by rw [z, upd_same] at hD; cases hD
          have hx6 : (upd H5 fo (.dT kvs3)) D = some (.dT kvs5) := by rw [L2.upd_ne nD]; exact hx5
          have hk6 : KvT RV (upd H5 fo (.dT kvs3)) kvs5 ((foldT (Q18.puts cb)).filter fun (e : Rw × Option Int) => e.2.isSome) := kvT_kt hkv5 fun b xs h => by
            rw [L2.upd_ne (fun z => by rw [z, e5 _ _ upd_same] at h; cases h)]; exact h
          generalize upd H5 fo (.dT kvs3) = H6 at e6 hx6 hk6
          have keys : kvs5.map (·.1) = ((foldT (Q18.puts cb)).filter fun (e : Rw × Option Int) => e.2.isSome).map (·.1) := by
            have go : ∀ {kvs : List (Rw × V)} {es : Tb}, KvT RV H6 kvs es → kvs.map (·.1) = es.map (·.1) := by
              intro kvs es r
              induction r with
              | nil => rfl
              | cons h t ih => rw [List.map_cons, List.map_cons, ih, h.1]
            exact go hk6
          show spAsc Pa Pl Pk [.ref D] _ _ _
          refine asc_step hx6 ⟨by rw [keys]; exact ndF, fun y hy => U_ok _ ?_⟩ (tb.ext (e3.trans e6)) fun H7 q ts us e7 t7 hq7 pm7 a7 p7 => ?_
          · have : y.1 ∈ ((foldT (Q18.puts cb)).filter fun (e : Rw × Option Int) => e.2.isSome).map (·.1) := by rw [← keys]; exact List.mem_map.mpr ⟨y, hy, rfl⟩
            obtain ⟨z, hz, e⟩ := List.mem_map.mp this
            rw [← e]
            exact g.puts z (List.mem_filter.mp hz).1
          · obtain ⟨rs, p1, p2, p3⟩ := prs_of hk6 (fun b xs h => e7 _ _ h (fun _ z => nomatch z)) pm7 a7 p7 ndF
            exact fin rs (Q18.rows_of nm nr p1 p2) H7 q ts ((ExtN.of (e3.trans e6)).trans e7) t7 hq7 p3
end
end K18
set_option Elab.async false
set_option linter.all false
set_option maxRecDepth 100000
set_option maxHeartbeats 2000000
namespace K18
open PySem PySem.Spec PyProof.Rows PySem.Calls L2 KB KC KD KS KM LamX R8 CP K7 TK
def rEqT0 : R2 := fun x y H Q => ∃ a b ks, x = .ref a ∧ y = .ref b ∧ H a = some (.dT ks) ∧ H b = some (.dT []) ∧ Q (.bl (ks.length == 0)) H
def rNeT0 : R2 := fun x y H Q => ∃ a b ks, x = .ref a ∧ y = .ref b ∧ H a = some (.dT ks) ∧ H b = some (.dT []) ∧ Q (.bl (!(ks.length == 0))) H
def rNeK0 : R2 := fun x y H Q => ∃ a b ks, x = .ref a ∧ y = .ref b ∧ H a = some (.dK ks) ∧ H b = some (.dK []) ∧ Q (.bl (!(ks.length == 0))) H
section
variable {X : Cx}
theorem op_eqT0 (hu : X.A.units + 1 < cLine) : OpR X (compareOp .Eq) rEqT0 := by
  intro pins s σ H x y v u Q I rx ry h
  obtain ⟨a, b, ks, rfl, rfl, ea, eb, q⟩ := h
  cases rx
  cases ry
  obtain ⟨_, ya, xs, ra, da⟩ := dt_of I.hok ea
  obtain ⟨_, yb, ys, rb, db⟩ := dt_of I.hok eb
  cases rb
  refine eqH (eqb := intB) ya yb da db (by omega) (tupleKind_room_in1 hu) (fun x _ p hp => by cases hp) (fin_bl I q ?_)
  rw [Paired.length ra]
  cases xs <;> rfl
theorem op_neT0 (hu : X.A.units + 1 < cLine) : OpR X (compareOp .NotEq) rNeT0 := by
  intro pins s σ H x y v u Q I rx ry h
  obtain ⟨a, b, ks, rfl, rfl, ea, eb, q⟩ := h
  cases rx
  cases ry
  obtain ⟨_, ya, xs, ra, da⟩ := dt_of I.hok ea
  obtain ⟨_, yb, ys, rb, db⟩ := dt_of I.hok eb
  cases rb
  refine neH (eqb := intB) ya yb da db (by omega) (tupleKind_room_in1 hu) (fun x _ p hp => by cases hp) (fin_bl I q ?_)
  rw [Paired.length ra]
  cases xs <;> rfl
theorem op_neK0 (hu : X.A.units < cLine) : OpR X (compareOp .NotEq) rNeK0 := by
  intro pins s σ H x y v u Q I rx ry h
  obtain ⟨a, b, ks, rfl, rfl, ea, eb, q⟩ := h
  cases rx
  cases ry
  obtain ⟨_, ya, va, ra, da⟩ := dk_of I.hok ea
  obtain ⟨_, yb, vb, rb, db⟩ := dk_of I.hok eb
  cases rb
  refine PySem.W.keq_ne (knd := mixKind X.prog X.w) (r := true) ya yb da db hu (fun e => ?_) (fin_bl I q ?_)
  · rw [List.length_eq_zero_iff.mp e]; exact .nil
  · rw [ra.length]
    cases va <;> rfl
end
def oD : Option Int → PyData
  | none => .none
  | some n => .tuple [.int n]
def kD (k : Rw) : PyData := .tuple (k.map dK)
def prD (p : Rw × Option Int) : PyData := .tuple [kD p.1, oD p.2]
theorem dp_k (K : PySem.W.Frag) {H : Hp} {q : Addr} {k : Rw} (h : H q = some (.tup (k.map kV))) : Dp K H (.ref q) (kD k) := by
  refine .tup (SqT.of h) ?_
  induction k generalizing q with
  | nil => exact .nil
  | cons x r ih =>
    have go : ∀ r : Rw, DpAll K H (r.map kV) (r.map dK) := fun r => by
      induction r with
      | nil => exact .nil
      | cons y r ih => exact .cons (dp_kV K H y) ih
    exact go (x :: r)
theorem dp_o (K : PySem.W.Frag) {H : Hp} {v : V} {o : Option Int} (h : RV H v o) : Dp K H v (oD o) := by
  cases o with
  | none => rw [show v = .non from h]; exact .non
  | some n =>
    obtain ⟨t, rfl, h⟩ := h
    exact .tup (SqT.of h) (.cons (.int n) .nil)
theorem dp_prs (K : PySem.W.Frag) {H : Hp} : ∀ {ts : List Addr} {ps : Tb}, Prs H ts ps → DpAll K H (ts.map V.ref) (ps.map prD)
  | _, _, .nil => .nil
  | _, _, .cons ⟨q, v, h1, h2, h3⟩ t => .cons (.tup (SqT.of h1) (.cons (dp_k K h2) (.cons (dp_o K h3) .nil))) (dp_prs K t)
theorem dK_inj {x y : Key} (h : dK x = dK y) : x = y := by
  cases x <;> cases y <;> first | (injection h with h; rw [h]) | cases h
theorem eqv_dK (x y : Key) : PyData.eqv (dK x) (dK y) = decide (x = y) := by
  cases x with
  | inl i =>
    cases y with
    | inl j =>
      show PyData.eqv (.int i) (.int j) = _
      rw [eqv_int, Bool.eq_iff_iff]; simp
    | inr s => rw [decide_eq_false (by simp)]; rfl
  | inr s =>
    cases y with
    | inl j => rw [decide_eq_false (by simp)]; rfl
    | inr u =>
      show PyData.eqv (.str s) (.str u) = _
      rw [eqv_str, Bool.eq_iff_iff]; simp
theorem eqv_map {α : Type} [DecidableEq α] {f : α → PyData} (h : ∀ a b, PyData.eqv (f a) (f b) = decide (a = b)) : ∀ a b : List α, PyData.eqvAll (a.map f) (b.map f) = decide (a = b)
  | [], [] => rfl
  | [], b :: bs => by rw [decide_eq_false (by simp)]; rfl
  | a :: as, [] => by rw [decide_eq_false (by simp)]; rfl
  | a :: as, b :: bs => by
    show (PyData.eqv (f a) (f b) && PyData.eqvAll (as.map f) (bs.map f)) = _
    rw [h, eqv_map h as bs, Bool.eq_iff_iff]; simp
theorem eqv_kD (a b : Rw) : PyData.eqv (kD a) (kD b) = decide (a = b) := eqv_map eqv_dK a b
theorem eqv_oD (a b : Option Int) : PyData.eqv (oD a) (oD b) = decide (a = b) := by
  cases a with
  | none =>
    cases b with
    | none => rfl
    | some n => rfl
  | some m =>
    cases b with
    | none => rfl
    | some n =>
      show (PyData.eqv (.int m) (.int n) && true) = _
      rw [eqv_int, Bool.eq_iff_iff]; simp
theorem eqv_prD (a b : Rw × Option Int) : PyData.eqv (prD a) (prD b) = decide (a = b) := by
  show (PyData.eqv (kD a.1) (kD b.1) && (PyData.eqv (oD a.2) (oD b.2) && true)) = _
  rw [eqv_kD, eqv_oD, Bool.eq_iff_iff]
  simp [Prod.ext_iff]
theorem eqv_prs (a b : Tb) : PyData.eqv (.tuple (a.map prD)) (.tuple (b.map prD)) = decide (a = b) := eqv_map eqv_prD a b
def Keys (ps : Tb) : Prop := ∀ p ∈ ps, p.1 ∈ Q18.U
theorem sh_kU : ∀ k ∈ Q18.U, (PyData.canLay0 (kD k) && decide (PyData.depth (kD k) ≤ 4)) = true := by decide +kernel
theorem sh_oD (o : Option Int) : PyData.canLay0 (oD o) = true ∧ PyData.depth (oD o) ≤ 4 := by
  cases o with
  | none => exact ⟨rfl, by decide⟩
  | some n => exact ⟨rfl, by show 0 + 1 ≤ 4; decide⟩
theorem sh_prs : ∀ {ps : Tb}, Keys ps → PyData.canLayAll0 (ps.map prD) = true ∧ PyData.depthAll (ps.map prD) ≤ 6
  | [], _ => ⟨rfl, Nat.zero_le _⟩
  | p :: ps, h => by
    obtain ⟨h1, h2⟩ := sh_prs fun q hq => h q (List.mem_cons_of_mem _ hq)
    have a := sh_kU _ (h p List.mem_cons_self)
    rw [Bool.and_eq_true, decide_eq_true_eq] at a
    have b := sh_oD p.2
    constructor
    · show ((PyData.canLay0 (kD p.1) && (PyData.canLay0 (oD p.2) && true)) && PyData.canLayAll0 (ps.map prD)) = true
      rw [a.1, b.1, h1]; rfl
    · show max (max (PyData.depth (kD p.1)) (max (PyData.depth (oD p.2)) 0) + 1) (PyData.depthAll (ps.map prD)) ≤ 6
      omega
theorem shaped_prs {ps : Tb} (h : Keys ps) : SeqAt.shaped (.tuple (ps.map prD)) = true := by
  obtain ⟨h1, h2⟩ := sh_prs h
  show (PyData.canLayAll0 (ps.map prD) && decide (PyData.depthAll (ps.map prD) + 1 ≤ 64)) = true
  rw [h1, decide_eq_true (by omega)]; rfl
theorem shaped_oD (o : Option Int) : SeqAt.shaped (oD o) = true := by
  obtain ⟨h1, h2⟩ := sh_oD o
  unfold SeqAt.shaped
  rw [h1, decide_eq_true (by omega)]; rfl
end K18
set_option Elab.async false
set_option linter.all false
set_option maxRecDepth 100000
set_option maxHeartbeats 2000000
namespace K18
open PySem PySem.Spec PyProof.Rows PySem.Calls L2 KB KC KD KS KM LamX R8 CP K7 TK
structure AftC (CR CC Pa Pl Pk c m m' : Addr) (cb' : Cb) (H H' : Hp) : Prop where
  kp : Kp (wC c m) H H'
  mm : m' = m ∨ NewN H m'
  x : CabAt CR CC c m' cb' H'
  tb : Tabs (TT Pa Pl Pk) H'
theorem AftC.trans {CR CC Pa Pl Pk c m m1 m2 : Addr} {c1 c2 : Cb} {H H1 H2 : Hp} (a : AftC CR CC Pa Pl Pk c m m1 c1 H H1) (b : AftC CR CC Pa Pl Pk c m1 m2 c2 H1 H2) : AftC CR CC Pa Pl Pk c m m2 c2 H H2 := by
  refine ⟨a.kp.trans' b.kp fun x hx => ?_, ?_, b.x, b.tb⟩
  · rcases hx with e | e
    · exact .inl (.inl e)
    · rcases a.mm with z | z
      · exact .inl (.inr (e.trans z))
      · exact .inr (e ▸ z)
  · rcases b.mm with e | e
    · rcases a.mm with z | z
      · exact .inl (e.trans z)
      · exact .inr (e ▸ z)
    · exact .inr (a.kp.n _ e)
theorem AftC.exl {CR CC Pa Pl Pk c m m' : Addr} {cb' : Cb} {H H0 H' : Hp} (a : AftC CR CC Pa Pl Pk c m m' cb' H0 H') (e : ExtN H H0) : AftC CR CC Pa Pl Pk c m m' cb' H H' :=
  ⟨(Kp.of e).trans a.kp, a.mm.imp id fun z => z.back e, a.x, a.tb⟩
theorem AftC.refl {CR CC Pa Pl Pk c m : Addr} {cb : Cb} {H : Hp} (x : CabAt CR CC c m cb H) (t : Tabs (TT Pa Pl Pk) H) : AftC CR CC Pa Pl Pk c m m cb H H := ⟨Kp.ex (Ex.refl _), .inl rfl, x, t⟩
theorem ins_tabs {T : List (Addr × Str)} {H : Hp} {c CC dx : Addr} {fs : List (Str × V)} {o : HO} (t : Tabs T H) (h : H c = some (.ins CC dx fs)) : Tabs T (upd H c o) := tabs_upd t h (.inr (.inl ⟨_, _, _, rfl⟩))
@[irreducible] def spJoinAll (CR CC Pa Pl Pk : Addr) : Sp := fun vs H Q _ => ∃ (c m : Addr) (cb : Cb), vs = [.ref c] ∧ CabAt CR CC c m cb H ∧ Q18.Gk cb ∧ Q18.Nd cb.mem ∧ (∀ r ∈ cb.runs, Q18.Nd r.prs) ∧ cb.runs.length ≤ 1000 ∧ Tabs (TT Pa Pl Pk) H ∧
  ∀ cb', Q18.JoinR cb cb' → ∀ H' m', AftC CR CC Pa Pl Pk c m m' cb' H H' → Q .non H'
section
variable {P : Program} {w : World} {K : PySem.W.Frag} {mg : Str → Option Value} {base : Heap} {CR CC CV Pa Pl Pk f : Addr} {fd : FuncData}
theorem joinall_step {c m : Addr} {cb : Cb} {H : Hp} {Q : VK} {E : XK} (x : CabAt CR CC c m cb H) (g : Q18.Gk cb) (nm : Q18.Nd cb.mem) (nr : ∀ r ∈ cb.runs, Q18.Nd r.prs) (l9 : cb.runs.length ≤ 1000) (tb : Tabs (TT Pa Pl Pk) H)
    (fin : ∀ cb', Q18.JoinR cb cb' → ∀ H' m', AftC CR CC Pa Pl Pk c m m' cb' H H' → Q .non H') : spJoinAll CR CC Pa Pl Pk [.ref c] H Q E := by
  unfold spJoinAll
  exact ⟨c, m, cb, rfl, x, g, nm, nr, l9, tb, fin⟩
theorem kp_but {H H' : Hp} {c C dx : Addr} {fs : List (Str × V)} (hc : H' c = some (.ins C dx fs)) (k : ∀ b o, b ≠ c → H b = some o → H' b = some o) : Kp (· = c) H H' :=
  ⟨fun b o hb _ n => k b o n hb, fun b n => by
    by_cases e : b = c
    · subst e
      obtain ⟨ps, z⟩ := n _ hc
      cases z
    · exact fun o ho => n o (k b o e ho)⟩
theorem cF_m {m l : Addr} {n : Nat} {x : Str} (h1 : (x == ("memory" : Str)) = false) (h2 : (x == ("runs" : Str)) = false) (h3 : (x == ("next_number" : Str)) = false) : (cF m l n).lookup x = none := by
  simp only [List.lookup, h1, h2, h3]
theorem scJA : FnScope ["self", "pairs"] ["self"] (defScope (sCM 6)) := ⟨rfl, rfl, rfl, by decide +kernel, rfl, by decide +kernel, by decide +kernel⟩
theorem ok_joinall {fR fA : Addr} {fdR fdA : FuncData} (F : FnP K "join_all" "Cabinet.join_all" (sCM 6) [] f fd) (B : TxtC K mg CR CC CV) (mR : Meth K CC "rows" fR) (GR : FnOk P w K mg base CX0 8 fR fdR ["self"] (spRows CR CC Pa Pl Pk)) (bR : Binds K fdR ["self"] [])
    (mA : Meth K CC "add_run" fA) (GA : FnOk P w K mg base CX0 3 fA fdA ["self", "pairs"] (spAddRun CR CC)) (bA : Binds K fdA ["self", "pairs"] []) : FnOk P w K mg base CX0 9 f fd ["self"] (spJoinAll CR CC Pa Pl Pk) := by
  refine F.ok scJA (fun vs H Q E h => ?_) (fun cdv A outer s H vs Q E hr h => ?_)
  · unfold spJoinAll at h
    obtain ⟨_, _, _, rfl, _⟩ := h; rfl
  · unfold spJoinAll at h
    obtain ⟨c, m, cb, rfl, x, g, nm, nr, l9, tb, fin⟩ := h
    have hu := hr.units
    obtain ⟨⟨dx, l, rs0, hc, hl, hrs⟩, mk, hm, hmk⟩ := id x
    refine ⟨_, PSs.nox <| pss_cons (ps_set (i := 1) scJA.nd rfl (Or.inl rfl) (pe_meth0 (pv 0) B.clC mR GR hr bR .nil pass0))
      (pss_cons (ps_fld (pv 0) pe_dnewT rfl) (pss_cons (ps_fld (pv 0) (pe_lst pa_nil) rfl)
      (pss_one (ps_if (pt_cmpR (op_neD hu) (pv 1) (pe_tup pa_nil) (nomark _)) (pss_one (ps_expr (pe_meth (pv 0) B.clC mA GA (hr.mono (by decide)) bA .nil pass0 (pa_cons (pv 1) pa_nil)))) pss_nil)))), ?_⟩
    refine ⟨_, rfl, c, dx, _, rfl, hc, cF_m (by decide +kernel) (by decide +kernel) (by decide +kernel), rows_step x g nm nr l9 tb fun rs hrows H1 q ts e1 t1 hq hps => ?_⟩
    have x1 := x.exN e1
    have hc1 := e1 _ _ hc (fun _ z => nomatch z)
    refine fun m' hm' => ?_
    have nmc : m' ≠ c := fun z => by rw [z, hc1] at hm'; cases hm'
    have eM : KS.Ex H1 (upd H1 m' (.dT [])) := Ex.upd hm'
    refine ⟨_, rfl, c, CC, dx, _, rfl, eM _ _ hc1, B.clC, B.cM, (by show 3 < 1000; decide), ?_⟩
    show tSeq _ _ _ _ (upd (upd H1 m' (.dT [])) c (.ins CC dx (cF m' l cb.nxt)))
    have hc2 : (upd (upd H1 m' (.dT [])) c (.ins CC dx (cF m' l cb.nxt))) c = some (.ins CC dx (cF m' l cb.nxt)) := upd_same
    have k2 : Kp (wC c m) H1 (upd (upd H1 m' (.dT [])) c (.ins CC dx (cF m' l cb.nxt))) := (Kp.ex eM).trans (Kp.upd (eM _ _ hc1) (fun _ z => nomatch z) (fun _ z => nomatch z) (.inl rfl))
    have hm2 : (upd (upd H1 m' (.dT [])) c (.ins CC dx (cF m' l cb.nxt))) m' = some (.dT []) := by rw [L2.upd_ne nmc, upd_same]
    have t2 := ins_tabs (o := .ins CC dx (cF m' l cb.nxt)) (t1.ext eM) (eM _ _ hc1)
    have kt2 : KtTup H1 (upd (upd H1 m' (.dT [])) c (.ins CC dx (cF m' l cb.nxt))) := x1.tup k2
    generalize upd (upd H1 m' (.dT [])) c (.ins CC dx (cF m' l cb.nxt)) = H2 at hc2 k2 hm2 t2 kt2
    refine ⟨Nat.zero_le _, fun l2 hl2 => ?_⟩
    have n2 : l2 ≠ c := fun z => by rw [z, hc2] at hl2; cases hl2
    have eL : KS.Ex H2 (upd H2 l2 (.lst [])) := Ex.upd hl2
    refine ⟨_, rfl, c, CC, dx, _, rfl, eL _ _ hc2, B.clC, B.cR, (by show 3 < 1000; decide), ?_⟩
    show tSeq _ _ _ _ (upd (upd H2 l2 (.lst [])) c (.ins CC dx (cF m' l2 cb.nxt)))
    have hc3 : (upd (upd H2 l2 (.lst [])) c (.ins CC dx (cF m' l2 cb.nxt))) c = some (.ins CC dx (cF m' l2 cb.nxt)) := upd_same
    have k3 : Kp (· = c) H2 (upd (upd H2 l2 (.lst [])) c (.ins CC dx (cF m' l2 cb.nxt))) := (Kp.ex eL).trans (Kp.upd (eL _ _ hc2) (fun _ z => nomatch z) (fun _ z => nomatch z) rfl)
    have hl3 : (upd (upd H2 l2 (.lst [])) c (.ins CC dx (cF m' l2 cb.nxt))) l2 = some (.lst []) := by rw [L2.upd_ne n2, upd_same]
    have t3 := ins_tabs (o := .ins CC dx (cF m' l2 cb.nxt)) (t2.ext eL) (eL _ _ hc2)
    have kt3 : KtTup H2 (upd (upd H2 l2 (.lst [])) c (.ins CC dx (cF m' l2 cb.nxt))) := fun b xs h => k3.k b _ h (fun _ z => nomatch z) (fun z => by rw [z, hc2] at h; cases h)
    have hm3 := k3.k _ _ hm2 (fun _ z => nomatch z) nmc
    generalize upd (upd H2 l2 (.lst [])) c (.ins CC dx (cF m' l2 cb.nxt)) = H3 at hc3 k3 hl3 t3 kt3 hm3
    have kA : Kp (wC c m) H H3 := ((Kp.of e1).trans k2).trans (k3.mono fun _ z => .inl z)
    have nM : NewN H m' := (NewN.of hm').back e1
    have hq3 := kt3 _ _ (kt2 _ _ hq)
    have hp3 := (hps.kt kt2).kt kt3
    have kU : Keys rs := Q18.gk_rows g hrows
    refine ⟨_, rfl, (by show 0 ≤ sizeLine; exact Nat.zero_le _), fun z hz => ?_⟩
    have eZ : KS.Ex H3 (upd H3 z (.tup [])) := Ex.upd hz
    refine ⟨_, _, .tup (SqT.of (eZ _ _ hq3)) (dp_prs K (hp3.kt (Ex.tup eZ))), .tup (SqT.of upd_same) .nil, shaped_prs kU, rfl, _, rfl, ?_⟩
    have ev : PyData.eqv (.tuple (rs.map prD)) (.tuple []) = decide (rs = []) := eqv_prs rs []
    rw [ev]
    have t4 := t3.ext eZ
    have hc4 := eZ _ _ hc3
    have hl4 := eZ _ _ hl3
    have hm4 := eZ _ _ hm3
    have hq4 := eZ _ _ hq3
    have hp4 := hp3.kt (Ex.tup eZ)
    have kA4 : Kp (wC c m) H (upd H3 z (.tup [])) := kA.trans (Kp.ex eZ)
    generalize upd H3 z (.tup []) = H4 at t4 hc4 hl4 hm4 hq4 hp4 kA4
    by_cases e : rs = []
    · refine ifF (by simp [e]) ?_
      refine fin _ ⟨rs, hrows, rfl⟩ H4 m' ⟨kA4, .inr nM, ?_, t4⟩
      rw [if_pos e]
      exact ⟨⟨dx, l2, [], hc4, hl4, .nil⟩, [], hm4, .nil⟩
    · refine ifT (by simp [e]) ?_
      refine ⟨_, rfl, c, dx, _, rfl, hc4, cF_m (by decide +kernel) (by decide +kernel) (by decide +kernel), _, rfl, ?_⟩
      show spAddRun CR CC [.ref c, .ref q] _ _ _
      refine addrun_step (rs := []) (runs := []) hc4 hl4 .nil (Nat.zero_le _) (by rw [hm4]; simp) hq4 hp4 (Q18.asc_nd hrows.1) (by have := Q18.U_len (Q18.asc_nd hrows.1) kU; omega) fun H5 dx5 l5 rs5 k5 hc5 hl5 hr5 => ?_
      have kp5 := kp_but hc5 k5
      refine fin _ ⟨rs, hrows, rfl⟩ H5 m' ⟨kA4.trans (kp5.mono fun _ z => .inl z), .inr nM, ?_, tabs_kp t4 fun b o h n1 n2 n3 n4 => k5 b o (fun z => by rw [z, hc4] at h; exact n2 _ _ _ (Option.some.inj h).symm) h⟩
      rw [if_neg e]
      exact ⟨⟨dx5, l5, rs5, hc5, hl5, hr5⟩, [], k5 _ _ (fun z => by rw [z, hc4] at hm4; cases hm4) hm4, .nil⟩
end
end K18
set_option Elab.async false
set_option linter.all false
set_option maxRecDepth 100000
set_option maxHeartbeats 2000000
namespace K18
open PySem PySem.Spec PyProof.Rows PySem.Calls L2 KB KC KD KS KM LamX R8 CP K7 TK
structure PreF (cb : Cb) : Prop where
  g : Q18.Gk cb
  nm : Q18.Nd cb.mem
  nr : ∀ r ∈ cb.runs, Q18.Nd r.prs
  l6 : cb.runs.length ≤ 6
@[irreducible] def spFlush (CR CC Pa Pl Pk : Addr) : Sp := fun vs H Q _ => ∃ (c m : Addr) (cb : Cb), vs = [.ref c] ∧ CabAt CR CC c m cb H ∧ PreF cb ∧ Tabs (TT Pa Pl Pk) H ∧ ∀ cb', Q18.FlushR cb cb' → ∀ H' m', AftC CR CC Pa Pl Pk c m m' cb' H H' → Q .non H'
@[irreducible] def spPut (CR CC Pa Pl Pk : Addr) : Sp := fun vs H Q _ => ∃ (c m q : Addr) (cb : Cb) (k : Rw) (v : V) (o : Option Int), vs = [.ref c, .ref q, v] ∧ CabAt CR CC c m cb H ∧ PreF cb ∧ H q = some (.tup (k.map kV)) ∧ k ∈ Q18.U ∧ RV H v o ∧ Tabs (TT Pa Pl Pk) H ∧ ∀ cb', Q18.PutR cb cb' k o → ∀ H' m', AftC CR CC Pa Pl Pk c m m' cb' H H' → Q .non H'
@[irreducible] def spRowAt (CR CC : Addr) : Sp := fun vs H Q _ => ∃ (c m q : Addr) (cb : Cb) (k : Rw), vs = [.ref c, .ref q] ∧ CabAt CR CC c m cb H ∧ H q = some (.tup (k.map kV)) ∧ ∀ H' v, KS.Ex H H' → RV H' v (Q18.val cb k) → Q v H'
section
variable {P : Program} {w : World} {K : PySem.W.Frag} {mg : Str → Option Value} {base : Heap} {CR CC CV Pa Pl Pk f : Addr} {fd : FuncData}
theorem flush_step {c m : Addr} {cb : Cb} {H : Hp} {Q : VK} {E : XK} (x : CabAt CR CC c m cb H) (p : PreF cb) (tb : Tabs (TT Pa Pl Pk) H) (fin : ∀ cb', Q18.FlushR cb cb' → ∀ H' m', AftC CR CC Pa Pl Pk c m m' cb' H H' → Q .non H') : spFlush CR CC Pa Pl Pk [.ref c] H Q E := by
  unfold spFlush
  exact ⟨c, m, cb, rfl, x, p, tb, fin⟩
theorem scFl : FnScope ["self"] ["self"] (defScope (sCM 3)) := ⟨rfl, rfl, rfl, by decide +kernel, rfl, by decide +kernel, by decide +kernel⟩
theorem kvT_keys {H : Hp} {kvs : List (Rw × V)} {es : Tb} (r : KvT RV H kvs es) : kvs.map (·.1) = es.map (·.1) := by
  induction r with
  | nil => rfl
  | cons h t ih => rw [List.map_cons, List.map_cons, ih, h.1]
theorem keysOk_of {H : Hp} {kvs : List (Rw × V)} {es : Tb} (r : KvT RV H kvs es) (nd : Q18.Nd es) (u : Keys es) : KeysOk kvs := by
  refine ⟨by rw [kvT_keys r]; exact nd, fun y hy => U_ok _ ?_⟩
  have : y.1 ∈ es.map (·.1) := by rw [← kvT_keys r]; exact List.mem_map.mpr ⟨y, hy, rfl⟩
  obtain ⟨z, hz, e⟩ := List.mem_map.mp this
  rw [← e]; exact u z hz
theorem ok_flush {fJ fA : Addr} {fdJ fdA : FuncData} (F : FnP K "flush" "Cabinet.flush" (sCM 3) [] f fd) (B : TxtC K mg CR CC CV) (T : TxtL mg) (hM : ∃ t, mg "MOST_RUNS" = some (.int 6 t)) (as : Cal P w K mg base 6 "ascending" ["table"] (spAsc Pa Pl Pk))
    (mJ : Meth K CC "join_all" fJ) (GJ : FnOk P w K mg base CX0 9 fJ fdJ ["self"] (spJoinAll CR CC Pa Pl Pk)) (bJ : Binds K fdJ ["self"] [])
    (mA : Meth K CC "add_run" fA) (GA : FnOk P w K mg base CX0 3 fA fdA ["self", "pairs"] (spAddRun CR CC)) (bA : Binds K fdA ["self", "pairs"] []) : FnOk P w K mg base CX0 10 f fd ["self"] (spFlush CR CC Pa Pl Pk) := by
  obtain ⟨f1, fd1, G1, g1, k1, b1⟩ := as
  obtain ⟨tM, hM⟩ := hM
  refine F.ok scFl (fun vs H Q E h => ?_) (fun cdv A outer s H vs Q E hr h => ?_)
  · unfold spFlush at h
    obtain ⟨_, _, _, rfl, _⟩ := h; rfl
  · unfold spFlush at h
    obtain ⟨c, m, cb, rfl, x, ⟨g, nm, nr, l6⟩, tb, fin⟩ := h
    have hu := hr.units
    have hu1 := Nat.lt_trans (Nat.add_lt_add_left (by decide : 1 < 64) _) hu
    obtain ⟨⟨dx, l, rs0, hc, hl, hrs⟩, mk, hm, hmk⟩ := id x
    refine ⟨_, PSs.nox <| pss_cons (ps_if (pt_cmpR (op_eqT0 hu1) (pf 0) pe_dnewT (nomark _)) (pss_one ps_retN) pss_nil)
      (pss_cons (ps_expr (pe_meth (pv 0) B.clC mA GA (hr.mono (by decide)) bA .nil pass0 (pa_cons (pe_call G1 (hr.mono (by decide)) (by rfl) g1 k1 b1 .nil pass0 (pa_cons (pf 0) pa_nil)) pa_nil)))
      (pss_cons (ps_fld (pv 0) pe_dnewT rfl)
      (pss_one (ps_if (pt_cmpR op_gt (pe_callB call_len_seq (by rfl) T.len PySem.boot_len (pa_cons (pf 0) pa_nil)) (pe_glob (v := .int 6) (by rfl) hM ⟨tM, rfl⟩) (nomark _)) (pss_one (ps_expr (pe_meth0 (pv 0) B.clC mJ GJ hr bJ .nil pass0))) pss_nil)))), ?_⟩
    refine ⟨_, rfl, c, CC, dx, _, _, rfl, hc, B.clC, B.cM, rfl, fun z hz => ?_⟩
    have eZ : KS.Ex H (upd H z (.dT [])) := Ex.upd hz
    refine ⟨m, z, mk, rfl, rfl, eZ _ _ hm, upd_same, _, rfl, ?_⟩
    have x1 := x.ex eZ
    have t1 := tb.ext eZ
    have lmk := paired_len hmk
    generalize upd H z (.dT []) = H1 at eZ x1 t1
    by_cases e : cb.mem = []
    · refine ifT (by rw [lmk, e]; rfl) ?_
      refine fin cb ?_ H1 m ⟨Kp.ex eZ, .inl rfl, x1, t1⟩
      unfold Q18.FlushR
      rw [if_pos e]
    · refine ifF (by
        rw [lmk]
        cases h : cb.mem with
        | nil => exact absurd h e
        | cons a b => simp) ?_
      obtain ⟨⟨dx1, l1, rs1, hc1, hl1, hrs1⟩, mk1, hm1, hmk1⟩ := id x1
      refine ⟨_, rfl, c, dx1, _, rfl, hc1, cF_m (by decide +kernel) (by decide +kernel) (by decide +kernel), _, rfl, c, CC, dx1, _, _, rfl, hc1, B.clC, B.cM, rfl, ?_⟩
      show spAsc Pa Pl Pk [.ref m] _ _ _
      refine asc_step hm1 (keysOk_of hmk1 nm g.mem) t1 fun H2 q ts us e2 t2 hq2 pm2 a2 p2 => ?_
      obtain ⟨ps, p3, p4, p5⟩ := prs_of hmk1 (fun b xs h => e2 _ _ h (fun _ z => nomatch z)) pm2 a2 p2 nm
      have x2 := x1.exN e2
      have l8 : ps.length ≤ 21 := by rw [p3.length_eq]; exact Q18.U_len nm g.mem
      have hc2 := e2 _ _ hc1 (fun _ z => nomatch z)
      have hl2 := e2 _ _ hl1 (fun _ z => nomatch z)
      have hm2 := e2 _ _ hm1 (fun _ z => nomatch z)
      have hrs2 : Paired (RunAt CR m H2) rs1 cb.runs := paired_mono (fun _ _ h => h.ex e2) hrs1
      show spAddRun CR CC [.ref c, .ref q] _ _ _
      refine addrun_step hc2 hl2 hrs2 (by omega) (by rw [hm2]; simp) hq2 p5 (Q18.asc_nd p4) (by omega) fun H3 dx3 l3 rs3 k3 hc3 hl3 hr3 => ?_
      have kp3 := kp_but hc3 k3
      have hm3 := k3 _ _ (fun z => by rw [z, hc2] at hm2; cases hm2) hm2
      have t3 : Tabs (TT Pa Pl Pk) H3 := tabs_kp t2 fun b o h n1 n2 n3 n4 => k3 b o (fun z => by rw [z, hc2] at h; exact n2 _ _ _ (Option.some.inj h).symm) h
      have kA : Kp (wC c m) H H3 := ((Kp.ex eZ).trans (Kp.of e2)).trans (kp3.mono fun _ z => .inl z)
      refine fun m' hm' => ?_
      have nmc : m' ≠ c := fun z => by rw [z, hc3] at hm'; cases hm'
      have eM : KS.Ex H3 (upd H3 m' (.dT [])) := Ex.upd hm'
      have nM : NewN H m' := kA.n _ (NewN.of hm')
      refine ⟨_, rfl, c, CC, dx3, _, rfl, eM _ _ hc3, B.clC, B.cM, (by show 3 < 1000; decide), ?_⟩
      rw [show putF (Str.ofString "memory") (V.ref m') (cF m l3 (cb.nxt + 1)) = cF m' l3 (cb.nxt + 1) from rfl]
      have hc4 : (upd (upd H3 m' (.dT [])) c (.ins CC dx3 (cF m' l3 (cb.nxt + 1)))) c = some (.ins CC dx3 (cF m' l3 (cb.nxt + 1))) := upd_same
      have k4 : Kp (· = c) H3 (upd (upd H3 m' (.dT [])) c (.ins CC dx3 (cF m' l3 (cb.nxt + 1)))) := (Kp.ex eM).trans (Kp.upd (eM _ _ hc3) (fun _ z => nomatch z) (fun _ z => nomatch z) rfl)
      have hm4 : (upd (upd H3 m' (.dT [])) c (.ins CC dx3 (cF m' l3 (cb.nxt + 1)))) m' = some (.dT []) := by rw [L2.upd_ne nmc, upd_same]
      have t4 := ins_tabs (o := .ins CC dx3 (cF m' l3 (cb.nxt + 1))) (t3.ext eM) (eM _ _ hc3)
      have hl4 : (upd (upd H3 m' (.dT [])) c (.ins CC dx3 (cF m' l3 (cb.nxt + 1)))) l3 = some (.lst (rs3.map V.ref)) := k4.k _ _ hl3 (fun _ z => nomatch z) (fun z => by rw [z, hc3] at hl3; cases hl3)
      have hr4 : Paired (RunAt CR m' (upd (upd H3 m' (.dT [])) c (.ins CC dx3 (cF m' l3 (cb.nxt + 1))))) rs3 (⟨cb.nxt, ps⟩ :: cb.runs) := paired_mono (fun _ _ h => ((h.move (NewN.of hm')).kp k4 (fun x e xs h => by rw [e, hc3] at h; cases h) (fun x e dx n p t h => by
          rw [e, hc3] at h
          exact ins_ne (Option.some.inj h)) (fun x e ks h => by rw [e, hc3] at h; cases h))) hr3
      have kA4 : Kp (wC c m) H (upd (upd H3 m' (.dT [])) c (.ins CC dx3 (cF m' l3 (cb.nxt + 1)))) := kA.trans (k4.mono fun _ z => .inl z)
      generalize upd (upd H3 m' (.dT [])) c (.ins CC dx3 (cF m' l3 (cb.nxt + 1))) = H4 at hc4 hm4 t4 hl4 hr4 kA4
      have x4 : CabAt CR CC c m' ⟨[], ⟨cb.nxt, ps⟩ :: cb.runs, cb.nxt + 1⟩ H4 := ⟨⟨dx3, l3, rs3, hc4, hl4, hr4⟩, [], hm4, .nil⟩
      have lr4 := paired_len hr4
      refine ⟨_, rfl, c, CC, dx3, _, _, rfl, hc4, B.clC, B.cR, rfl, l3, _, rfl, .inl (SqL.of hl4), _, _, rfl, rfl, _, rfl, ?_⟩
      rw [List.length_map, lr4, List.length_cons]
      have fl : ∀ cb', (if 6 < cb.runs.length + 1 then Q18.JoinR ⟨[], ⟨cb.nxt, ps⟩ :: cb.runs, cb.nxt + 1⟩ cb' else cb' = ⟨[], ⟨cb.nxt, ps⟩ :: cb.runs, cb.nxt + 1⟩) → Q18.FlushR cb cb' := fun cb' h => by
        unfold Q18.FlushR
        rw [if_neg e]
        exact ⟨ps, p3, p4, h⟩
      by_cases c6 : 6 < cb.runs.length + 1
      · refine ifT (decide_eq_true (by omega)) ?_
        refine ⟨_, rfl, c, dx3, _, rfl, hc4, cF_m (by decide +kernel) (by decide +kernel) (by decide +kernel), ?_⟩
        refine joinall_step x4 ⟨(fun _ z => by cases z), fun r hr p hp => ?_⟩ List.nodup_nil (fun r hr => ?_) (by rw [List.length_cons]; omega) t4 fun cb' jr H5 m5 af => ?_
        · rcases List.mem_cons.mp hr with rfl | hr
          · exact g.mem p (p3.mem_iff.mp hp)
          · exact g.run r hr p hp
        · rcases List.mem_cons.mp hr with rfl | hr
          · exact Q18.asc_nd p4
          · exact nr r hr
        · refine fin cb' (fl _ (by rw [if_pos c6]; exact jr)) H5 m5 ?_
          exact AftC.trans (c1 := ⟨[], ⟨cb.nxt, ps⟩ :: cb.runs, cb.nxt + 1⟩) ⟨kA4, .inr nM, x4, t4⟩ af
      · refine ifF (by simp; omega) ?_
        exact fin _ (fl _ (by rw [if_neg c6])) H4 m' ⟨kA4, .inr nM, x4, t4⟩
end
end K18
set_option Elab.async false
set_option linter.all false
set_option maxRecDepth 100000
set_option maxHeartbeats 2000000
namespace K18
open PySem PySem.Spec PyProof.Rows PySem.Calls L2 KB KC KD KS KM LamX R8 CP K7 TK
theorem flat_ints (l : List Int) : (l.map V.int).all flatV = true := by
  rw [List.all_map, List.all_eq_true]
  exact fun _ _ => rfl
theorem inV_int (p : Int) (l : List Int) : inV (.int p) (l.map V.int) = decide (p ∈ l) := by
  unfold inV
  rw [List.any_map, Bool.eq_iff_iff, List.any_eq_true, decide_eq_true_eq]
  constructor
  · rintro ⟨x, hx, h⟩
    have h : (p == x) = true ∨ (x == p) = true := by first | exact .inl h | exact .inr h
    rcases h with h | h
    · rw [of_decide_eq_true h]; exact hx
    · rw [← of_decide_eq_true h]; exact hx
  · exact fun h => ⟨p, h, (by show (p == p) = true; exact beq_self_eq_true p)⟩
section
variable {P : Program} {w : World} {K : PySem.W.Frag} {mg : Str → Option Value} {base : Heap} {CR CC CV Pa Pl Pk f : Addr} {fd : FuncData}
theorem put_step {c m q : Addr} {cb : Cb} {k : Rw} {v : V} {o : Option Int} {H : Hp} {Q : VK} {E : XK} (x : CabAt CR CC c m cb H) (p : PreF cb) (hq : H q = some (.tup (k.map kV))) (ku : k ∈ Q18.U) (rv : RV H v o) (tb : Tabs (TT Pa Pl Pk) H) (fin : ∀ cb', Q18.PutR cb cb' k o → ∀ H' m', AftC CR CC Pa Pl Pk c m m' cb' H H' → Q .non H') : spPut CR CC Pa Pl Pk [.ref c, .ref q, v] H Q E := by
  unfold spPut
  exact ⟨c, m, q, cb, k, v, o, rfl, x, p, hq, ku, rv, tb, fin⟩
theorem scPu : FnScope ["self", "key", "row"] ["self", "key", "row"] (defScope (sCM 1)) := ⟨rfl, rfl, rfl, by decide +kernel, rfl, by decide +kernel, by decide +kernel⟩
theorem ok_put {fF : Addr} {fdF : FuncData} (F : FnP K "put" "Cabinet.put" (sCM 1) [] f fd) (B : TxtC K mg CR CC CV) (T : TxtL mg) (hM : ∃ t, mg "MOST_MEMORY" = some (.int 8 t))
    (mF : Meth K CC "flush" fF) (GF : FnOk P w K mg base CX0 10 fF fdF ["self"] (spFlush CR CC Pa Pl Pk)) (bF : Binds K fdF ["self"] []) : FnOk P w K mg base CX0 11 f fd ["self", "key", "row"] (spPut CR CC Pa Pl Pk) := by
  obtain ⟨tM, hM⟩ := hM
  refine F.ok scPu (fun vs H Q E h => ?_) (fun cdv A outer s H vs Q E hr h => ?_)
  · unfold spPut at h
    obtain ⟨_, _, _, _, _, _, _, rfl, _⟩ := h; rfl
  · unfold spPut at h
    obtain ⟨c, m, q, cb, k, v, o, rfl, x, ⟨g, nm, nr, l6⟩, hq, ku, rv, tb, fin⟩ := h
    have hu := hr.units
    have hu1 := Nat.lt_trans (Nat.add_lt_add_left (by decide : 1 < 64) _) hu
    obtain ⟨⟨dx, l, rs0, hc, hl, hrs⟩, mk, hm, hmk⟩ := id x
    refine ⟨_, PSs.nox <| pss_cons (ps_dput hu1 (pf 0) (pv 1) (pv 2) rfl)
      (pss_one (ps_if (pt_cmpR op_ge (pe_callB call_len_dT (by rfl) T.len PySem.boot_len (pa_cons (pf 0) pa_nil)) (pe_glob (v := .int 8) (by rfl) hM ⟨tM, rfl⟩) (nomark _)) (pss_one (ps_expr (pe_meth0 (pv 0) B.clC mF GF hr bF .nil pass0))) pss_nil)), ?_⟩
    have lmk := paired_len hmk
    have l21 := Q18.U_len nm g.mem
    refine ⟨_, rfl, _, rfl, c, CC, dx, _, _, rfl, hc, B.clC, B.cM, rfl, _, rfl, m, _, rfl, DPut.t hm hq (by have : sizeLine = 16777216 := rfl; omega), ?_⟩
    have kM : Kp (wC c m) H (upd H m (.dT (putK mk k v))) := Kp.upd hm (fun _ z => nomatch z) (fun _ z => nomatch z) (.inr rfl)
    have t1 : Tabs (TT Pa Pl Pk) (upd H m (.dT (putK mk k v))) := tabs_upd tb hm (.inr (.inr (.inr ⟨_, rfl⟩)))
    have ncm : c ≠ m := fun z => by rw [z, hm] at hc; cases hc
    have kt := x.tup kM
    have x1 : CabAt CR CC c m (Q18.put cb k o) (upd H m (.dT (putK mk k v))) := by
      refine ⟨⟨dx, l, rs0, ?_, ?_, ?_⟩, _, upd_same, ?_⟩
      · rw [L2.upd_ne ncm]; exact hc
      · rw [L2.upd_ne (fun z => by rw [z, hm] at hl; cases hl)]; exact hl
      · exact paired_mono (fun _ _ h => x.run kM h) hrs
      · rw [Q18.put_mem]
        exact kvT_put (kvT_kt hmk kt) (rv.kt kt)
    have hc1 : (upd H m (.dT (putK mk k v))) c = some (.ins CC dx (cF m l cb.nxt)) := by rw [L2.upd_ne ncm]; exact hc
    have hm1 : (upd H m (.dT (putK mk k v))) m = some (.dT (putK mk k v)) := upd_same
    have lp : (putK mk k v).length = (Q18.put cb k o).mem.length := by
      rw [Q18.put_mem]
      exact paired_len (kvT_put hmk rv)
    have gp : Q18.Gk (Q18.put cb k o) := ⟨fun p hp => by
      rw [Q18.put_mem] at hp
      exact Q18.fold_keys_go (U := Q18.U) [(k, o)] cb.mem (fun p hp => by rw [List.mem_singleton.mp hp]; exact ku) g.mem p hp, g.run⟩
    generalize upd H m (.dT (putK mk k v)) = H1 at kM t1 kt x1 hc1 hm1
    refine ⟨_, rfl, c, CC, dx, _, _, rfl, hc1, B.clC, B.cM, rfl, m, _, rfl, hm1, _, _, rfl, rfl, _, rfl, ?_⟩
    rw [lp]
    have aft : AftC CR CC Pa Pl Pk c m m (Q18.put cb k o) H H1 := ⟨kM, .inl rfl, x1, t1⟩
    by_cases c8 : 8 ≤ (Q18.put cb k o).mem.length
    · refine ifT (decide_eq_true (by omega)) ?_
      refine ⟨_, rfl, c, dx, _, rfl, hc1, cF_m (by decide +kernel) (by decide +kernel) (by decide +kernel), ?_⟩
      refine flush_step x1 ⟨gp, Q18.put_nd nm k o, nr, l6⟩ t1 fun cb' fr H2 m2 af => ?_
      exact fin cb' (by unfold Q18.PutR; rw [if_pos c8]; exact fr) H2 m2 (aft.trans af)
    · refine ifF (by simp; omega) ?_
      exact fin _ (by unfold Q18.PutR; rw [if_neg c8]) H1 m aft
theorem rowat_step {c m q : Addr} {cb : Cb} {k : Rw} {H : Hp} {Q : VK} {E : XK} (x : CabAt CR CC c m cb H) (hq : H q = some (.tup (k.map kV))) (fin : ∀ H' v, KS.Ex H H' → RV H' v (Q18.val cb k) → Q v H') : spRowAt CR CC [.ref c, .ref q] H Q E := by
  unfold spRowAt
  exact ⟨c, m, q, cb, k, rfl, x, hq, fin⟩
abbrev nRA : List Str := ["self", "key", "run", "is_told", "row"]
theorem scRA : FnScope nRA ["self", "key"] (defScope (sCM 2)) := ⟨rfl, rfl, rfl, by decide +kernel, rfl, by decide +kernel, by decide +kernel⟩
theorem ok_rowat {fF : Addr} {fdF : FuncData} (F : FnP K "row_at" "Cabinet.row_at" (sCM 2) [] f fd) (B : TxtC K mg CR CC CV) (mF : Meth K CR "find" fF) (GF : FnOk P w K mg base CX0 1 fF fdF ["self", "key"] (spFind CR)) (bF : Binds K fdF ["self", "key"] []) : FnOk P w K mg base CX0 3 f fd ["self", "key"] (spRowAt CR CC) := by
  refine F.ok scRA (fun vs H Q E h => ?_) (fun cdv A outer s H vs Q E hr h => ?_)
  · unfold spRowAt at h
    obtain ⟨_, _, _, _, _, rfl, _⟩ := h; rfl
  · unfold spRowAt at h
    obtain ⟨c, m, q, cb, k, rfl, x, hq, fin⟩ := h
    have hu := hr.units
    have hu1 := Nat.lt_trans (Nat.add_lt_add_left (by decide : 1 < 64) _) hu
    obtain ⟨⟨dx, l, rs0, hc, hl, hrs⟩, mk, hm, hmk⟩ := id x
    refine ⟨_, PSs.nox <| pss_cons (ps_if (pt_cmp (pc_din hu1 (pv 1) (pf 0))) (pss_one (ps_ret (pe_dget hu1 (pf 0) (pv 1) (fun _ _ => rfl)))) pss_nil)
      (pss_cons (ps_for PassesOwn.never rfl (pi_list (pf 0)) (pg_name (i := 2) scRA.nd rfl (Or.inl rfl))
        (pss_cons (ps_asg (pe_meth (pv 2) B.clR mF GF (hr.mono (by decide)) bF .nil pass0 (pa_cons (pv 1) pa_nil)) (pg_tup rfl (pgs_cons (pg_name (i := 3) scRA.nd rfl (Or.inl rfl)) (pgs_cons (pg_name (i := 4) scRA.nd rfl (Or.inl rfl)) pgs_nil))))
          (pss_one (ps_if (pt_val (pv 3)) (pss_one (ps_ret (pv 4))) pss_nil))))
      (pss_one (ps_ret pe_non))), ?_⟩
    have kv := kvT_val (k := k) hmk
    have ev : ∀ o, Q18.look cb.mem k = some o → Q18.val cb k = o := fun o h => by unfold Q18.val Q18.cval; rw [h]; rfl
    have en : Q18.look cb.mem k = none → Q18.val cb k = (Q18.runsVal cb.runs k).join := fun h => by unfold Q18.val Q18.cval; rw [h]
    refine ⟨_, rfl, _, rfl, c, CC, dx, _, _, rfl, hc, B.clC, B.cM, rfl, m, _, rfl, DGet.t hm hq, _, rfl, ?_⟩
    rcases kv with ⟨e1, e2⟩ | ⟨v, o, e1, e2, e3⟩
    · refine ifF (by rw [e1]; simp) ?_
      refine ⟨_, rfl, c, CC, dx, _, _, rfl, hc, B.clC, B.cR, rfl, l, rfl, ⟨_, SqL.of hl⟩, for_list (xs := rs0.map V.ref)
        (fun i σ H' => (∃ a2 a3 a4, σ = [some (.ref c), some (.ref q), a2, a3, a4]) ∧ KS.Ex H H' ∧ Q18.runsVal (cb.runs.drop i) k = Q18.runsVal cb.runs k) ⟨⟨_, _, _, rfl⟩, Ex.refl _, rfl⟩ (fun i σ H' _ h => SqL.of (h.2.1 _ _ hl)) ?_ ?_⟩
      · rintro i z σ H1 hz ⟨⟨a2, a3, a4, rfl⟩, ex, hd⟩
        rw [List.getElem?_map] at hz
        obtain ⟨r, hri, rfl⟩ := Option.map_eq_some_iff.mp hz
        obtain ⟨rn, hrn, hra⟩ := paired_get hrs hri
        have hil : i < cb.runs.length := (List.getElem?_eq_some_iff.mp hrn).1
        have hdr : cb.runs.drop i = rn :: cb.runs.drop (i + 1) := by
          rw [List.drop_eq_getElem_cons hil]
          rw [List.getElem?_eq_getElem hil] at hrn
          rw [Option.some.inj hrn]
        obtain ⟨dxr, pr, tr, tsr, kvr, q1, q2⟩ := id hra
        refine ⟨_, rfl, r, dxr, _, rfl, ex _ _ q1, (by simp only [List.lookup]; rfl), _, rfl, ?_⟩
        refine find_step (hra.ex (ExtN.of ex)) (ex _ _ hq) fun p b v hp hb => ?_
        have eP : KS.Ex H1 (upd H1 p (.tup [.bl b, v])) := Ex.upd hp
        refine ⟨p, _, rfl, SqT.of upd_same, rfl, _, _, rfl, _, _, rfl, rfl, ?_⟩
        rw [hdr] at hd
        have hs : Q18.runsVal (rn :: cb.runs.drop (i + 1)) k = match Q18.look rn.prs k with | some o => some o | none => Q18.runsVal (cb.runs.drop (i + 1)) k := rfl
        rw [hs] at hd
        cases hlk : Q18.look rn.prs k with
        | none =>
          rw [hlk] at hb hd
          obtain ⟨rfl, rfl⟩ := hb
          refine ⟨_, rfl, _, rfl, ?_⟩
          refine ifF (by simp) ⟨⟨_, _, _, rfl⟩, ex.trans eP, hd⟩
        | some o =>
          rw [hlk] at hb hd
          obtain ⟨rfl, rv⟩ := hb
          refine ⟨_, rfl, _, rfl, ?_⟩
          refine ifT rfl ?_
          refine ⟨_, rfl, fin _ v (ex.trans eP) ?_⟩
          rw [en e2]
          have hd2 : Q18.runsVal cb.runs k = some o := hd.symm
          rw [hd2]
          exact rv.kt (Ex.tup eP)
      · rintro σ H1 ⟨⟨a2, a3, a4, rfl⟩, ex, hd⟩
        refine fin H1 .non ex ?_
        rw [List.length_map, paired_len hrs, List.drop_length] at hd
        rw [en e2, ← hd]
        rfl
    · refine ifT (by rw [e1]; rfl) ?_
      refine ⟨_, rfl, c, CC, dx, _, _, rfl, hc, B.clC, B.cM, rfl, _, rfl, m, v, rfl, e1 ▸ DGet.t hm hq, ?_⟩
      refine fin H v (Ex.refl _) ?_
      rw [ev o e2]; exact e3
end
end K18
set_option Elab.async false
set_option linter.all false
set_option maxRecDepth 100000
set_option maxHeartbeats 2000000
namespace K18
open PySem PySem.Spec PyProof.Rows PySem.Calls L2 KB KC KD KS KM LamX R8 CP K7 TK
def RAd : Hp → V → Addr → Prop := fun _ v a => v = .ref a
theorem RAd.stab : ∀ H H' v a, KT' H H' → RAd H v a → RAd H' v a := fun _ _ _ _ _ h => h
theorem rad_map {H : Hp} : ∀ {xs : List V} {as : List Addr}, Paired (RAd H) xs as → xs = as.map V.ref
  | _, _, .nil => rfl
  | _, _, .cons h t => by rw [List.map_cons, ← rad_map t]; rw [show _ = _ from h]
def nums (rs : List Rn) : List Int := rs.map fun r => (r.num : Int)
@[irreducible] def spTell (CR CC Pa Pl Pk : Addr) : Sp := fun vs H Q _ => ∃ (c m kn : Addr) (cb : Cb) (ns : List Int), vs = [.ref c, .ref kn] ∧ CabAt CR CC c m cb H ∧ PreF cb ∧ cb.mem.length ≤ 8 ∧ H kn = some (.tup (ns.map V.int)) ∧ Tabs (TT Pa Pl Pk) H ∧ ∀ cb', Q18.FlushR cb cb' → ∀ H' m' q a b rs, AftC CR CC Pa Pl Pk c m m' cb' H H' →
  H' q = some (.tup [.ref a, .ref b]) → H' a = some (.tup ((nums cb'.runs).map V.int)) → H' b = some (.tup (rs.map V.ref)) → Paired (RunAt CR m' H') rs (cb'.runs.filter fun r => decide ((r.num : Int) ∉ ns)) → Q (.ref q) H'
theorem paired_zip {α β : Type} {R : α → β → Prop} : ∀ {l : List α} {m : List β}, Paired R l m → ∀ e ∈ l.zip m, R e.1 e.2
  | _, _, .nil => fun e h => by cases h
  | _, _, .cons h t => fun e he => by
    rcases List.mem_cons.mp he with rfl | he
    · exact h
    · exact paired_zip t e he
theorem paired_filt {α β : Type} {R : α → β → Prop} (f : β → Bool) : ∀ {l : List α} {m : List β}, Paired R l m → Paired R ((l.zip m).filterMap fun e => if f e.2 = true then some e.1 else none) (m.filter f)
  | _, _, .nil => .nil
  | _, _, .cons (a := a) (b := b) h t => by
    have ih := paired_filt f t
    rw [List.zip_cons_cons, List.filterMap_cons, List.filter_cons]
    cases c : f b with
    | true => simp only [if_true]; exact .cons h ih
    | false => simpa using ih
section
variable {P : Program} {w : World} {K : PySem.W.Frag} {mg : Str → Option Value} {base : Heap} {CR CC CV Pa Pl Pk f : Addr} {fd : FuncData}
theorem tell_step {c m kn : Addr} {cb : Cb} {ns : List Int} {H : Hp} {Q : VK} {E : XK} (x : CabAt CR CC c m cb H) (p : PreF cb) (l8 : cb.mem.length ≤ 8) (hk : H kn = some (.tup (ns.map V.int))) (tb : Tabs (TT Pa Pl Pk) H)
    (fin : ∀ cb', Q18.FlushR cb cb' → ∀ H' m' q a b rs, AftC CR CC Pa Pl Pk c m m' cb' H H' → H' q = some (.tup [.ref a, .ref b]) → H' a = some (.tup ((nums cb'.runs).map V.int)) → H' b = some (.tup (rs.map V.ref)) → Paired (RunAt CR m' H') rs (cb'.runs.filter fun r => decide ((r.num : Int) ∉ ns)) → Q (.ref q) H') : spTell CR CC Pa Pl Pk [.ref c, .ref kn] H Q E := by
  unfold spTell
  exact ⟨c, m, kn, cb, ns, rfl, x, p, l8, hk, tb, fin⟩
abbrev nTe : List Str := ["self", "known", "numbers", "run"]
theorem scTe : FnScope nTe ["self", "known"] (defScope (sCM 8)) := ⟨rfl, rfl, rfl, by decide +kernel, rfl, by decide +kernel, by decide +kernel⟩
theorem ok_tell {fF : Addr} {fdF : FuncData} (F : FnP K "tell" "Cabinet.tell" (sCM 8) [] f fd) (B : TxtC K mg CR CC CV) (T : TxtL mg)
    (mF : Meth K CC "flush" fF) (GF : FnOk P w K mg base CX0 10 fF fdF ["self"] (spFlush CR CC Pa Pl Pk)) (bF : Binds K fdF ["self"] []) : FnOk P w K mg base CX0 11 f fd ["self", "known"] (spTell CR CC Pa Pl Pk) := by
  refine F.ok scTe (fun vs H Q E h => ?_) (fun cdv A outer s H vs Q E hr h => ?_)
  · unfold spTell at h
    obtain ⟨_, _, _, _, _, rfl, _⟩ := h; rfl
  · unfold spTell at h
    obtain ⟨c, m, kn, cb, ns, rfl, x, p, l8, hk, tb, fin⟩ := h
    have hu := hr.units
    have hu1 := Nat.lt_trans (Nat.add_lt_add_left (by decide : 1 < 64) _) hu
    obtain ⟨⟨dx0, l0, rs00, hc0, hl0, hrs0⟩, mk0, hm0, hmk0⟩ := id x
    refine ⟨_, PSs.nox <| pss_cons (ps_expr (pe_meth0 (pv 0) B.clC mF GF hr bF .nil pass0))
      (pss_cons (ps_set (i := 2) scTe.nd rfl (Or.inl rfl) (pe_callTy call_tuple_of (by rfl) T.tuple (by decide +kernel) (pa_cons (pe_lc (own := [("run", 3)]) (g := gName 3) (tt := tYes) (te := tFld K (tVar 3) "number") rfl scTe.nd (pi_list (pf 0)) (blkOk_by (N := nTe) (sc := defScope (sCM 8)) (by decide +kernel))
        (fun _ _ _ _ _ => pg_name (i := 3) scTe.nd rfl (Or.inl rfl)) (fun _ _ _ _ _ => pts_nil) (fun _ _ _ _ _ => pf 3)) pa_nil)))
      (pss_one (ps_ret (pe_tup (pa_cons (pv 2) (pa_cons (pe_callTy call_tuple_of (by rfl) T.tuple (by decide +kernel) (pa_cons (pe_lc (own := [("run", 3)]) (g := gName 3) (tt := tTest (tOp (rIn K true) (tFld K (tVar 3) "number") (tVar 1))) (te := tVar 3) rfl scTe.nd (pi_list (pf 0)) (blkOk_by (N := nTe) (sc := defScope (sCM 8)) (by decide +kernel))
        (fun _ _ _ _ _ => pg_name (i := 3) scTe.nd rfl (Or.inl rfl)) (fun _ _ _ _ _ => pts_one (pt_cmpR op_notIn_seq (pf 3) (pv 1) (by rfl))) (fun _ _ _ _ _ => pv 3)) pa_nil)) pa_nil)))))), ?_⟩
    refine ⟨_, rfl, c, dx0, _, rfl, hc0, cF_m (by decide +kernel) (by decide +kernel) (by decide +kernel), ?_⟩
    refine flush_step x p tb fun cb' fr H1 m' af => ?_
    obtain ⟨⟨dx, l, rs, hc, hl, hrs⟩, mk, hm, hmk⟩ := id af.x
    have hk1 : H1 kn = some (.tup (ns.map V.int)) := x.tup af.kp _ _ hk
    have l7 : cb'.runs.length ≤ 1000 := by
      unfold Q18.FlushR at fr
      have := p.l6
      split at fr
      · rw [fr]; omega
      · obtain ⟨ps, _, _, fr⟩ := fr
        split at fr
        · obtain ⟨rs, _, e⟩ := fr
          rw [e]
          split <;> simp
        · rw [fr, List.length_cons]; omega
    have lrs := paired_len hrs
    refine ⟨_, rfl, c, CC, dx, _, _, rfl, hc, B.clC, B.cR, rfl, l, rfl, ⟨_, SqL.of hl⟩, fun D hD => ?_⟩
    refine lcG walk_list RInt (fun j => cb'.runs[j]?.bind fun r => some (r.num : Int)) RInt.stab hD (by rw [List.length_map]; omega) (fun H5 e5 => SqL.of (e5 _ _ hl)) (fun i H5 x H6 _ _ h => yat_ex h) (fun j v H5 H6 R0 N0 hj e5 hy hno hsm => ?_) (fun H5 xs e5 hx5 hps => ?_)
    · obtain ⟨rfl, hxi⟩ := hy
      rw [List.getElem?_map] at hxi
      obtain ⟨r, hri, rfl⟩ := Option.map_eq_some_iff.mp hxi
      obtain ⟨rn, hrn, hra⟩ := paired_get hrs hri
      obtain ⟨dxr, pr, tr, tsr, kvr, q1, q2⟩ := hra
      refine ⟨rfl, _, rfl, r, CR, dxr, _, _, rfl, e5 _ _ q1, B.clR, B.rN, rfl, ?_⟩
      exact hsm (rn.num : Int) (by rw [hrn]; rfl) _ _ (Ex.refl _) rfl
    · rw [List.length_map, lrs, range_fm, map_fm] at hps
      rw [rint_map hps] at hx5
      have hx5 : H5 D = some (.lst ((nums cb'.runs).map V.int)) := hx5
      refine ⟨D, _, rfl, .inl ⟨SqL.of hx5, fun a ha => ?_⟩⟩
      have e6 : KS.Ex H1 (upd H5 a (.tup ((nums cb'.runs).map V.int))) := e5.trans (Ex.upd ha)
      have ha6 : (upd H5 a (.tup ((nums cb'.runs).map V.int))) a = some (.tup ((nums cb'.runs).map V.int)) := upd_same
      generalize upd H5 a (.tup ((nums cb'.runs).map V.int)) = H6 at e6 ha6
      refine ⟨_, rfl, _, rfl, c, CC, dx, _, _, rfl, e6 _ _ hc, B.clC, B.cR, rfl, l, rfl, ⟨_, SqL.of (e6 _ _ hl)⟩, fun D2 hD2 => ?_⟩
      have lz : (rs.zip cb'.runs).length = rs.length := by rw [List.length_zip]; omega
      refine lcG walk_list RAd (fun j => (rs.zip cb'.runs)[j]?.bind fun e => if decide ((e.2.num : Int) ∉ ns) = true then some e.1 else none) RAd.stab hD2 (by rw [List.length_map]; omega) (fun H7 e7 => SqL.of (e7 _ _ (e6 _ _ hl))) (fun i H5 x H6 _ _ h => yat_ex h) (fun j v H7 H8 R0 N0 hj e7 hy hno hsm => ?_) (fun H7 xs7 e7 hx7 hps7 => ?_)
      · obtain ⟨rfl, hxi⟩ := hy
        rw [List.getElem?_map] at hxi
        obtain ⟨r, hri, rfl⟩ := Option.map_eq_some_iff.mp hxi
        obtain ⟨rn, hrn, hra⟩ := paired_get hrs hri
        obtain ⟨dxr, pr, tr, tsr, kvr, q1, q2⟩ := hra
        have hz : (rs.zip cb'.runs)[j]? = some (r, rn) := by rw [List.getElem?_zip_eq_some]; exact ⟨hri, hrn⟩
        refine ⟨rfl, _, rfl, r, CR, dxr, _, _, rfl, e7 _ _ (e6 _ _ q1), B.clR, B.rN, rfl, _, rfl, kn, _, rfl, .inr (SqT.of (e7 _ _ (e6 _ _ hk1))), rfl, flat_ints _, _, rfl, ?_⟩
        rw [if_pos rfl, inV_int]
        by_cases cc : (rn.num : Int) ∈ ns
        · exact ifF (by simp [cc]) (hno (by rw [hz]; show (if decide ((rn.num : Int) ∉ ns) = true then some r else none) = none; simp [cc]) _ (Ex.refl _))
        · refine ifT (by simp [cc]) ⟨_, rfl, ?_⟩
          exact hsm r (by rw [hz]; show (if decide ((rn.num : Int) ∉ ns) = true then some r else none) = some r; simp [cc]) _ _ (Ex.refl _) rfl
      · rw [List.length_map, ← lz, range_fm] at hps7
        rw [rad_map hps7] at hx7
        refine ⟨D2, _, rfl, .inl ⟨SqL.of hx7, fun b hb => ?_⟩⟩
        have e8 : KS.Ex H6 (upd H7 b (.tup (((rs.zip cb'.runs).filterMap fun e => if decide ((e.2.num : Int) ∉ ns) = true then some e.1 else none).map V.ref))) := e7.trans (Ex.upd hb)
        have hb8 : (upd H7 b (.tup (((rs.zip cb'.runs).filterMap fun e => if decide ((e.2.num : Int) ∉ ns) = true then some e.1 else none).map V.ref))) b = some (.tup (((rs.zip cb'.runs).filterMap fun e => if decide ((e.2.num : Int) ∉ ns) = true then some e.1 else none).map V.ref)) := upd_same
        generalize upd H7 b (.tup (((rs.zip cb'.runs).filterMap fun e => if decide ((e.2.num : Int) ∉ ns) = true then some e.1 else none).map V.ref)) = H8 at e8 hb8
        refine ⟨(by show 2 ≤ sizeLine; decide), fun q hq => ?_⟩
        have e9 : KS.Ex H8 (upd H8 q (.tup [.ref a, .ref b])) := Ex.upd hq
        have e19 : KS.Ex H1 (upd H8 q (.tup [.ref a, .ref b])) := (e6.trans e8).trans e9
        refine fin cb' fr _ m' q a b _ ⟨af.kp.trans (Kp.ex e19), af.mm, af.x.ex e19, af.tb.ext e19⟩ upd_same (e9 _ _ (e8 _ _ ha6)) (e9 _ _ hb8) ?_
        exact paired_mono (fun _ _ h => h.ex (ExtN.of e19)) (paired_filt (fun r => decide ((r.num : Int) ∉ ns)) hrs)
end
end K18
set_option Elab.async false
set_option linter.all false
set_option maxRecDepth 100000
set_option maxHeartbeats 4000000
namespace GC
open PySem PySem.Spec PyProof.Rows PySem.Calls L2 KB GxR
def TabbedS (P : Addr) (q : Str) (H H' : Hp) : Prop := LamX.TabS H' P q ∧ ∀ b o, b ≠ P → H b = some o → H' b = some o
def ReadyG (X : Cx) (pins : List (Addr × Obj)) (σ : L2.St) (H1 : Hp) (P : Addr) (q : Str) (n : Nat) (tr : Nat → Bool) (g : Addr) (s5 : Shared) : Prop :=
  ∃ (fp wr : List Addr) (G : Array GenState → Array GenState → Prop) (F : Nat → Value → Prop) (St : Nat → Shared → Prop),
    WalksS X.prog X.w X.A.in1 g fp wr G n F St ∧ St 0 s5 ∧ TruthOf X.prog X.w X.A.in1 F tr ∧ ∀ s', Moved wr G s5 s' → ∃ H2, TabbedS P q H1 H2 ∧ Inv X pins σ H2 s'
def EltC (X : Cx) (s1 : Shared) (P : Addr) (scope : Scope) (x : Str) (elt : Expr) (Pv : Nat → Value → Prop) (tr : Nat → Bool) : Prop :=
  ∀ (cenv : PySem.Env) (A' : Around) (E' : Value → Shared → Prop) (i : Nat) (v : Value) (s₂ : Shared) (m₂ : Str → Option Value), cenv.scope = scope → cenv.cells = cloFrom X.env.cells scope.names [] → A'.handled = none → (∀ b u, b ≠ P → s1.heap.get? b = some u → s₂.heap.get? b = some u) → X.K.In s₂.heap → Pv i v → s₂.heap.Ns cenv.locals m₂ → m₂ x = some v →
    wpAny (model X.prog X.w) A' (eval elt cenv) (fun y s₃ => y = .bool (tr i) ∧ Keeps s₂ s₃) E' s₂
structure Src (X : Cx) (pins : List (Addr × Obj)) (σ : L2.St) (P : Addr) (q : Str) (x : Str) (elt : Expr) (scope : Scope) (Q' : Value → Shared → Prop) (it : Value) (sb : Shared) (s1 : Shared) (H1 : Hp) (J : Addr) (fp wr : List Addr) (n : Nat) (Pv : Nat → Value → Prop) (St : Nat → Heap → Prop) (tr : Nat → Bool) : Prop where
  it : it = .ref J
  inv : Inv X pins σ H1 s1
  same : sb = { s1 with heap := sb.heap, toks := sb.toks }
  keep : ∀ b u, s1.heap.get? b = some u → sb.heap.get? b = some u
  size : s1.heap.objs.size ≤ sb.heap.objs.size
  walk : ∀ A' : Around, A'.handled = none → Walks X.prog X.w A' J fp wr n Pv St
  st : St 0 sb.heap
  fps : ∀ b ∈ fp, b < sb.heap.objs.size ∧ b ≠ P
  wrs : ∀ b ∈ wr, s1.heap.objs.size ≤ b
  tab : LamX.TabS H1 P q
  elt : EltC X s1 P scope x elt Pv tr
  next : ∀ g s5, ReadyG X pins σ H1 P q n tr g s5 → Q' (.ref g) s5
theorem lt_or {a b c d : Nat} (h1 : a ≤ b) (h2 : b ≤ c) (h3 : d < a) (e : d = c) : False := by omega
section
variable {X : Cx} {pins : List (Addr × Obj)} {σ : L2.St} {s : Shared}
theorem gen_C {c P : Addr} {q : Str} {elt iter : Expr} {x : Str} {px gpos : Pos} {scope : Scope} {k : Nat} {Q' : Value → Shared → Prop} (hq : X.env.qual ++ Str.ofString "<genexpr>" = q) (hr : Room k X.A) (TB : GxR.TabB X.base X.mg c P) (hcode : X.env.code = .ref c) (S : GenS X.env scope x)
    (hs : ∀ v, genFold iter X.env v = pure v)
    (src : wpAny (model X.prog X.w) X.A (eval iter X.env) (fun xv sa => wpAny (model X.prog X.w) X.A (pyIter xv) (fun it sb => ∃ s1 H1 J fp wr n Pv St tr, Src X pins σ P q x elt scope Q' it sb s1 H1 J fp wr n Pv St tr) X.xe sa) X.xe s) :
    wpAny (model X.prog X.w) X.A (eval (.GeneratorExp elt [⟨.Name x px, iter, [], 0⟩] scope gpos) X.env) Q' X.xe s := by
  refine wpAny_GeneratorExp_walksQ hr.hd S.co (closure_ok S.free) S.cell S.dot S.loc S.kind (by have := hr.dp; omega) (wpAny_mono src (fun xv sa h1 => wpAny_mono h1 (fun it sb h2 => ?_) fun _ _ e => e) fun _ _ e => e) hs
  obtain ⟨s1, H1, J, fp, wr, n, Pv, St, tr, Z⟩ := h2
  obtain ⟨ps, hP, ht, ha⟩ := Z.tab
  obtain ⟨hb, gb, db, kb, ob⟩ := sb
  have sm := Z.same
  have I1 := Z.inv
  have hPs : s1.heap.get? P = some { cls := .none, data := .fields ps } := I1.hok P _ hP
  have hPlt : P < s1.heap.objs.size := Heap.lt_size hPs
  have hP2 : hb.get? P = some { cls := .none, data := .fields ps } := Z.keep _ _ hPs
  have cd : PySem.W.CodeHd hb c P := TB.code.keeps fun b u e => Z.keep b u (I1.bk b u e)
  have lim2 : hb.NoLimit := I1.nolimit.keeps Z.keep
  rw [sm]
  refine ⟨lim2, ?_⟩
  have hsz2 : s1.heap.objs.size ≤ hb.objs.size := Z.size
  have cst : cStatics < s1.heap.objs.size := let ⟨_, hns, _⟩ := I1.nolimit; hns.lt
  have goOn : ∀ (code : Value) (h3 : Heap) (tk : Nat) (more : Array Value), Heap.ExtBut P hb h3 → hb.objs.size ≤ h3.objs.size → h3.get? P = some { cls := .none, data := .fields (ps ++ more) } → TriplesOk (ps ++ more).toList →
      ∀ co : Option Addr, (∀ p' cv, codeAmong p' (ps ++ more).toList = some cv → codeAmong p' ps.toList = some cv ∨ ∃ c', co = some c' ∧ cv = .ref c') → (∀ c', co = some c' → hb.objs.size ≤ c' ∧ c' < h3.objs.size ∧ h3.CodeRec (.ref c') q) →
      wpAny (model X.prog X.w) X.A (builtinsFor X.env.globals X.env.builtins) (fun bi s₄ => ∃ I fp wr n₀ P St₀ pz F, it = .ref I ∧ (∀ A' : Around, A'.handled = none → Walks X.prog X.w A' I fp wr n₀ P St₀) ∧ St₀ 0 s₄.heap ∧ (∀ b ∈ fp, b < s₄.heap.objs.size) ∧ s₄.heap.NoLimit ∧ cStatics ∉ wr ∧
          (∀ href : Heap, (∀ b o, s₄.heap.get? b = some o → href.get? b = some o) → QuietGen X.prog X.w (genEnv scope (cloFrom X.env.cells scope.names []) s₄.heap.objs.size code bi X.env) x [] elt (List.range s₄.heap.objs.size) wr P pz F href) ∧
          (∀ a h₅ tk gs, gs.bare = true → s₄.heap.objs.size < a → h₅.objs.size = a + 1 → (∀ b o, s₄.heap.get? b = some o → h₅.get? b = some o) →
            WalksS X.prog X.w X.A.in4 a (a :: s₄.heap.objs.size :: List.range s₄.heap.objs.size) (s₄.heap.objs.size :: wr) (GenOnlyQ s₄.gens.size) (passing pz n₀ 0).length
              (fun j y => ∃ i, (passing pz n₀ 0)[j]? = some i ∧ F i y) (GenAt X.prog X.w X.A.in4 a s₄.gens.size s₄.heap.objs.size (List.range s₄.heap.objs.size) wr pz n₀ F) →
            GenAt X.prog X.w X.A.in4 a s₄.gens.size s₄.heap.objs.size (List.range s₄.heap.objs.size) wr pz n₀ F 0 { s₄ with gens := s₄.gens.push gs, toks := tk, heap := h₅ } →
            Q' (.ref a) { s₄ with gens := s₄.gens.push gs, toks := tk, heap := h₅ })) X.xe { s1 with heap := h3, toks := tk } := by
    intro code h3 tk more hx3 hsz hP3 ht3 co hnew hco
    obtain ⟨bm, bo, e1, e2, e3, e4, e5, e6, e7, e8⟩ := TB.bm
    have hcP : cStatics ≠ P := fun e => by
      obtain ⟨_, hns, _⟩ := I1.nolimit
      obtain ⟨o', es', ep', ho', hd', _⟩ := hns
      rw [e, hPs] at ho'
      cases ho'
      cases hd'
    have keep3 : ∀ b u, b ≠ P → s1.heap.get? b = some u → h3.get? b = some u := fun b u n e => hx3 b u n (Z.keep b u e)
    have kin3 : X.K.In h3 := (inv_tab (more := more) (h' := h3) (g' := s1.gens) (d' := s1.drawn) (t' := s1.toks) I1 hP (fun b u n e => keep3 b u n e) hP3 I1.bare).kIn
    have nsG : h3.Ns mainGlobals X.mg := ((I1.mod.glob.keeps I1.bk).keeps Z.keep).extBut hx3 TB.gP
    have glt : mainGlobals < s1.heap.objs.size := (I1.mod.glob.keeps I1.bk).lt
    refine wpAny_builtinsFor (m := X.mg) (by rw [I1.ok.glob]; exact (((I1.mod.glob.keeps I1.bk).keeps Z.keep)).extBut hx3 TB.gP) e1 e2 (keep3 _ _ e4 (I1.bk _ _ e5)) e6 e7 e8 ?_
    refine ⟨J, fp, wr, n, Pv, St, (fun _ => true), (fun i y => y = .bool (tr i)), Z.it, Z.walk, (Z.walk X.A hr.hd).frame _ _ _ Z.st fun b hbf u e => hx3 b u (Z.fps b hbf).2 e, fun b hbf => Nat.lt_of_lt_of_le (Z.fps b hbf).1 hsz, lim2.extBut hx3 hcP, fun z => Nat.lt_irrefl _ (Nat.lt_of_lt_of_le cst (Z.wrs _ z)), fun href hhr => ⟨fun A' E' i v s₂ m₂ _ _ _ _ _ => ?_, fun A' E' i v s₂ m₂ hA hPv _ hn hm hk => Z.elt _ A' E' i v s₂ m₂ rfl rfl hA (fun b u nb e => hk _ (List.mem_range.mpr (Heap.lt_size (keep3 b u nb e))) (fun z => Nat.lt_irrefl _ (Nat.lt_of_lt_of_le (Heap.lt_size e) (Z.wrs _ z))) _ (hhr _ _ (keep3 b u nb e))) (fun b u e => hk _ (List.mem_range.mpr (Heap.lt_size (kin3 b u e))) (fun z => Nat.lt_irrefl _ (Nat.lt_of_lt_of_le (Heap.lt_size (I1.kIn b u e)) (Z.wrs _ z))) _ (hhr _ _ (kin3 b u e))) hPv hn hm⟩, ?_⟩
    · simp only [List.forIn_nil]
      exact wpAny_pure ⟨rfl, keeps_refl _⟩
    · intro g h5 tk5 gs hgb hag hsz5 hk5 W5 hat
      simp only [GxR.passing_true, List.length_range] at W5
      refine Z.next g _ ⟨_, _, _, _, _, W5.in4_1, hat, fun j y sj Qj Ej hy hQj => ?_, fun s' hmv => ?_⟩
      · obtain ⟨i, hij, hF⟩ := hy
        obtain ⟨hj, ej⟩ := List.getElem?_eq_some_iff.mp hij
        rw [List.getElem_range] at ej
        have hF' : y = .bool (tr i) := hF
        rw [hF', ← ej]
        exact wpAny_truthy_bool hQj
      · have apart : ∀ b u, s1.heap.get? b = some u → b ∉ h3.objs.size :: wr := fun b u e z => by
          have hl := Heap.lt_size e
          rcases List.mem_cons.mp z with z | z
          · exact lt_or hsz2 hsz hl z
          · exact Nat.lt_irrefl _ (Nat.lt_of_lt_of_le hl (Z.wrs _ z))
        have JJ := inv_tab (more := more) (h' := s'.heap) (g' := s'.gens) (d' := s'.drawn) (t' := s'.toks) I1 hP (fun b u n e => hmv.heap b u (apart b u e) (hk5 b u (keep3 b u n e)))
          (hmv.heap P _ (apart P _ hPs) (hk5 P _ hP3)) (AllBare.movedS (I1.bare.push hgb) hmv)
        rw [sh_eta s1 s' hmv.os] at JJ
        cases co with
        | none =>
          refine ⟨_, ⟨⟨ps ++ more, upd_same, ht3, fun p' cv hcv => ?_⟩, fun b o n e => by rw [upd_ne n]; exact e⟩, JJ⟩
          rcases hnew p' cv hcv with z | ⟨c', z, _⟩
          · obtain ⟨c0, y1, y2⟩ := ha p' cv z
            exact ⟨c0, y1, by rw [upd_ne (fun z => by rw [z, hP] at y2; cases y2)]; exact y2⟩
          · cases z
        | some c' =>
          obtain ⟨hge, hlt, cr⟩ := hco c' rfl
          obtain ⟨c2, oc, vs, t, y0, hoc, hd2, hv2⟩ := id cr
          cases y0
          have nC : H1 c' = none := I1.hok.fresh (Nat.le_trans hsz2 hge)
          have nPc : P ≠ c' := ne_of_none hP nC
          have nw : c' ∉ h3.objs.size :: wr := fun z => by
            rcases List.mem_cons.mp z with z | z
            · exact Nat.lt_irrefl _ (z ▸ hlt)
            · exact Nat.lt_irrefl _ (Nat.lt_of_lt_of_le (Z.fps c' ((Z.walk X.A hr.hd).sub c' z)).1 hge)
          have ho' : s'.heap.get? c' = some oc := hmv.heap c' _ nw (hk5 c' _ hoc)
          have nC2 : upd H1 P (.tbl (ps ++ more)) c' = none := by rw [upd_ne nPc.symm]; exact nC
          have J2 := JJ.take (h' := s'.heap) (t' := s'.toks) (o := LamX.CodeO c' q) (fun b ob _ e => e) (I1.fpOk (Nat.le_trans hsz2 hge) nC2)
            (show ObjOk X.prog X.w _ s'.heap c' (LamX.CodeO c' q) from ⟨⟨oc, vs, t, ho', hd2, hv2⟩, ⟨_, ho'⟩, fun k1 k2 ⟨o1, v1, t1, z1, z2, z3⟩ kk => ⟨o1, v1, t1, kk _ z1, z2, z3⟩⟩)
          refine ⟨_, ⟨⟨ps ++ more, by rw [upd_ne nPc, upd_same], ht3, fun p' cv hcv => ?_⟩, fun b o n e => by rw [upd_ne (ne_of_none e nC), upd_ne n]; exact e⟩, J2⟩
          rcases hnew p' cv hcv with z | ⟨c3, z, e3'⟩
          · obtain ⟨c0, y1, y2⟩ := ha p' cv z
            exact ⟨c0, y1, by rw [upd_ne (ne_of_none y2 nC), upd_ne (fun z => by rw [z, hP] at y2; cases y2)]; exact y2⟩
          · cases z
            exact ⟨c', e3', upd_same⟩
  cases hf : codeAmong gpos ps.toList with
  | none =>
    refine wpAny_genexprCodeX hcode (cd.code hP2 ht) (cd.tab hP2) hf fun c' h' tk hx3 hge hlt hco' hrec' htab' _ => ?_
    obtain ⟨o1, vs, f1, tf, fl, tg, inF, tx, tt, op, _, _, _, _, _, _, _, _, _, htr, _⟩ := hco'
    refine goOn _ h' tk _ hx3 (Nat.le_trans hge (Nat.le_of_lt hlt)) htab'.2 htr (some c') (fun p' cv hcv => ?_) fun c3 e => by cases e; exact ⟨hge, hlt, hq ▸ hrec'⟩
    have eL : (ps ++ #[rawInt gpos.line, rawInt gpos.col, .ref c']).toList = ps.toList ++ [rawInt gpos.line, rawInt gpos.col, .ref c'] := by simp
    rw [eL] at hcv
    exact (LamX.among_app _ ht hcv).elim .inl fun z => .inr ⟨c', rfl, z⟩
  | some cv =>
    refine wpAny_genexprCode_hit hcode (cd.code hP2 ht) hf ?_
    have e0 : ps ++ #[] = ps := by simp
    exact goOn cv hb kb #[] (Heap.ExtBut.refl _ _) (Nat.le_refl _) (by rw [e0]; exact hP2) (by rw [e0]; exact ht) none (fun p' v z => by rw [e0] at z; exact .inl z) (fun _ e => nomatch e)
end
end GC
set_option Elab.async false
set_option linter.all false
set_option maxRecDepth 100000
set_option maxHeartbeats 4000000
namespace GC
open PySem PySem.Spec PyProof.Rows PySem.Calls L2 KB GxR
def trN (ns : List Int) (f : Int → Bool) (i : Nat) : Bool := match ns[i]? with | some n => f n | none => false
theorem any_range (f : Int → Bool) : ∀ l : List Int, ((List.range l.length).any (trN l f)) = l.any f := by
  intro l
  induction l with
  | nil => rfl
  | cons a l ih =>
    rw [List.length_cons, List.range_succ_eq_map, List.any_cons, List.any_map, List.any_cons, ← ih]
    congr 1
def lack (ks ls : List (Key × V)) (n : Int) : Bool := (!(valV ks (.inl n)).isSome) && (!(valV ls (.inl n)).isSome)
section
variable {X : Cx} {pins : List (Addr × Obj)} {σ : L2.St} {H : Hp} {s : Shared}
theorem cap {scope : Scope} {y : Str} {j : Nat} {v : V} {P : Addr} {q : Str} (I : Inv X pins σ H s) (S : ∀ z ∈ scope.names, z.2 = .free → ∃ c, X.env.cells.lookup z.1 = some c) (hy : X.N[j]? = some y) (hk : X.env.scope.names.lookup y = some .cell) (hf : scope.names.lookup y = some .free) (hσ : σ[j]? = some (some v)) (tab : LamX.TabS H P q) :
    ∃ c u, (cloFrom X.env.cells scope.names []).lookup y = some c ∧ RelV v u ∧ s.heap.IsCell c (some u) ∧ c ≠ P := by
  obtain ⟨m, hn, hl⟩ := I.loc
  obtain ⟨u, r, z⟩ := hl j y v hy hσ (.inr (.inl hk))
  have hz : (y, NameKind.free) ∈ scope.names := PySem.mem_of_lookup hf
  obtain ⟨c, hc⟩ := mem_lookup (cloFrom_has (cells := X.env.cells) (acc := []) hz)
  have e : X.env.cells.lookup y = some c := by
    rcases cloFrom_mem (PySem.mem_of_lookup hc) with hm | ⟨h1, h2⟩
    · cases hm
    · obtain ⟨c1, hc1⟩ := S _ h1 rfl
      rw [h2, hc1]; rfl
  refine ⟨c, u, hc, r, ?_, ?_⟩
  · rcases z with ⟨k', _⟩ | ⟨_, c3, e', z⟩
    · exact absurd (show some NameKind.cell = some NameKind.local from (show X.env.scope.names.lookup y = _ from hk).symm.trans k') (by simp)
    · rw [e] at e'; cases e'; exact z
  · intro hP
    obtain ⟨ps, hp, _⟩ := tab
    have h1 := I.hok P _ hp
    have h1 : s.heap.get? P = some { cls := .none, data := .fields ps } := h1
    rcases z with ⟨k', _⟩ | ⟨_, c3, e', o, ho, hd⟩
    · exact absurd (show some NameKind.cell = some NameKind.local from (show X.env.scope.names.lookup y = _ from hk).symm.trans k') (by simp)
    · rw [e] at e'; cases e'
      rw [hP, h1] at ho
      cases ho
      cases hd
theorem elt_lack {scope : Scope} {x sn tn f : Str} {j1 j2 : Nat} {P : Addr} {q : Str} {sl rv th C dx : Addr} {fs : List (Str × V)} {ks ls : List (Key × V)} {ns : List Int} {its : List Value} {p1 p2 p3 p4 p5 p6 p7 p8 : Pos} (I : Inv X pins σ H s) (S : GenS X.env scope x) (tab : LamX.TabS H P q)
    (hs : X.N[j1]? = some sn) (hsk : X.env.scope.names.lookup sn = some .cell) (hsf : scope.names.lookup sn = some .free) (h1 : σ[j1]? = some (some (.ref sl)))
    (ht : X.N[j2]? = some tn) (htk : X.env.scope.names.lookup tn = some .cell) (htf : scope.names.lookup tn = some .free) (h2 : σ[j2]? = some (some (.ref th)))
    (hsl : H sl = some (.ins C dx fs)) (cl : Cls X.K C) (na : NoAttr X.K C f) (lf : fs.lookup f = some (.ref rv)) (hrv : H rv = some (.dK ks)) (hth : H th = some (.dK ls)) (hv : Vals (ns.map V.int) its)
    (d1 : (x == ("__debug__" : Str)) = false := by decide) (d2 : (sn == ("__debug__" : Str)) = false := by decide) (d3 : (tn == ("__debug__" : Str)) = false := by decide) (d4 : (sn == ("__classdict__" : Str)) = false := by decide) (d5 : (tn == ("__classdict__" : Str)) = false := by decide) :
    EltC X s P scope x (.BoolOp .And [.Compare (.Name x p1) [.NotIn] [.Attribute (.Name sn p2) f p3] p4, .Compare (.Name x p5) [.NotIn] [.Name tn p6] p7] p8) (fun i v => its.toArray[i]? = some v) (trN ns (lack ks ls)) := by
  intro cenv A' E' i v s₂ m₂ hsc hce hA kp kin hPv hn hm
  obtain ⟨c1, u1, l1, r1, z1, n1⟩ := cap I S.free hs hsk hsf h1 tab
  obtain ⟨c2, u2, l2, r2, z2, n2⟩ := cap I S.free ht htk htf h2 tab
  cases r1
  cases r2
  obtain ⟨ps, hP, _⟩ := tab
  have nP : ∀ b o, H b = some o → (∀ ps, o ≠ .tbl ps) → b ≠ P := fun b o h n z => by
    rw [z, hP] at h
    exact n _ (Option.some.inj h).symm
  obtain ⟨k, hki, rk⟩ : ∃ k, ns[i]? = some k ∧ RelV (.int k) v := by
    rw [List.getElem?_toArray] at hPv
    have go : ∀ {l : List Int} {vs : List Value} {i : Nat}, Vals (l.map V.int) vs → vs[i]? = some v → ∃ k, l[i]? = some k ∧ RelV (.int k) v := by
      intro l
      induction l with
      | nil => intro vs i h e; cases h; cases e
      | cons a l ih =>
        intro vs i h e
        cases h with
        | cons h t =>
          cases i with
          | zero => cases e; exact ⟨a, rfl, h⟩
          | succ i => exact ih t e
    exact go hv hPv
  have et : trN ns (lack ks ls) i = lack ks ls k := by unfold trN; rw [hki]
  have kf : cenv.scope.kind = .function := by rw [hsc]; exact S.kind
  have cell : ∀ {c u}, c ≠ P → s.heap.IsCell c u → ∀ s3 : Shared, Keeps s₂ s3 → s3.heap.IsCell c u := fun {c u} n ⟨o, ho, hd⟩ s3 ⟨h', t', e, kk⟩ => ⟨o, by rw [e]; exact kk _ _ (kp _ _ n ho), hd⟩
  have nmx : ∀ {Q : Value → Shared → Prop} {pos : Pos} (s3 : Shared), Keeps s₂ s3 → Q v s3 → wpAny (model X.prog X.w) A' (eval (.Name x pos) cenv) Q E' s3 := fun {Q pos} s3 ⟨h', t', e, kk⟩ q =>
    wpAny_Name (wpAny_loadName_local kf (show cenv.scope.names.lookup x = some .local by rw [hsc]; exact S.loc) (by rw [e]; exact hn.at fun o ho => kk _ _ ho) hm q) d1
  have nms : ∀ {Q : Value → Shared → Prop} {pos : Pos} (s3 : Shared), Keeps s₂ s3 → Q (.ref sl) s3 → wpAny (model X.prog X.w) A' (eval (.Name sn pos) cenv) Q E' s3 := fun {Q pos} s3 k3 q =>
    wpAny_Name (wpAny_loadName_free kf (show cenv.scope.names.lookup sn = some .free by rw [hsc]; exact hsf) (by rw [hce]; exact l1) (cell n1 z1 s3 k3) q d4) d2
  have nmt : ∀ {Q : Value → Shared → Prop} {pos : Pos} (s3 : Shared), Keeps s₂ s3 → Q (.ref th) s3 → wpAny (model X.prog X.w) A' (eval (.Name tn pos) cenv) Q E' s3 := fun {Q pos} s3 k3 q =>
    wpAny_Name (wpAny_loadName_free kf (show cenv.scope.names.lookup tn = some .free by rw [hsc]; exact htf) (by rw [hce]; exact l2) (cell n2 z2 s3 k3) q d5) d3
  have dk : ∀ {a : Addr} {kvs : List (Key × V)} {Q : Value → Shared → Prop} (s3 : Shared), Keeps s₂ s3 → H a = some (.dK kvs) → Q (.bool (!(valV kvs (.inl k)).isSome)) { s3 with toks := s3.toks + 1 } → wpAny (model X.prog X.w) A' (compareOp .NotIn v (.ref a)) Q E' s3 := fun {a kvs Q} s3 ⟨h', t', e, kk⟩ ha q => by
    obtain ⟨z, hd, vs, rel, dd⟩ := dk_of I.hok ha
    have na := nP _ _ ha (fun _ z => nomatch z)
    have dd3 : s3.heap.DictOf (mixKind X.prog X.w) a vs := dd.at fun o ho => by rw [e]; exact kk _ _ (kp _ _ na ho)
    refine wpAny_notIn_of (kV_is (k := .inl k) rk) hd dd3.mapOf ?_
    rw [← (rel.val (.inl k)).isSome_eq]; exact q
  have keep1 : ∀ (s3 : Shared) (k : Nat), Keeps s₂ s3 → Keeps s₂ { s3 with toks := k } := fun s3 k ⟨h', t', e, kk⟩ => ⟨h', k, by rw [e], kk⟩
  refine BoolOp_and (wpAny_Compare1 (nmx s₂ (keeps_refl _) ?_))
  refine attr_of rfl (nms s₂ (keeps_refl _) ?_)
  obtain ⟨mA, ⟨ob, ⟨on, esn, epn, hon, rn⟩, ne⟩, rr, _, _, hdx⟩ := ins_get I.hok hsl
  have ob2 : ObjM s₂.heap sl dx C mA := ⟨kp _ _ (nP _ _ hsl (fun _ z => nomatch z)) ob, ⟨on, esn, epn, kp _ _ (nP _ _ hdx (fun _ z => nomatch z)) hon, rn⟩, ne⟩
  obtain ⟨u, hu, ru⟩ := RelO.some_of (v := .ref rv) (o := mA f) (by rw [← lf]; exact rr f)
  cases ru
  refine get_map kin ob2 (cl.get f) cl.hd na hu (handed_of (v := .ref rv) rfl) ?_
  have k1 := keep1 s₂ (s₂.toks + 1) (keeps_refl _)
  refine dk _ k1 hrv (wpAny_truthy_bool ?_)
  have k2 := keep1 _ ({ s₂ with toks := s₂.toks + 1 } : Shared).toks.succ k1
  rw [et]
  unfold lack
  cases c1 : (valV ks (.inl k)).isSome with
  | true =>
    rw [if_neg (by simp)]
    exact ⟨rfl, k2⟩
  | false =>
    rw [if_pos (by simp)]
    refine BoolOp_one ?_
    refine wpAny_Compare1 (nmx _ k2 (nmt _ k2 (dk _ k2 hth ⟨?_, keep1 _ _ k2⟩)))
    simp
end
section
variable {X : Cx}
def tAnyC (K : PySem.W.Frag) (P : Addr) (q f : Str) (j1 j2 : Nat) (te : TE) : TE := fun σ H Q => te σ H fun v H1 => ∃ (a : Addr) (ns : List Int) (sl C dx : Addr) (fs : List (Str × V)) (rv : Addr) (ks : List (Key × V)) (th : Addr) (ls : List (Key × V)), v = .ref a ∧ SqT K H1 a (ns.map V.int) ∧ LamX.TabS H1 P q ∧
  σ[j1]? = some (some (.ref sl)) ∧ H1 sl = some (.ins C dx fs) ∧ Cls K C ∧ NoAttr K C f ∧ fs.lookup f = some (.ref rv) ∧ H1 rv = some (.dK ks) ∧ σ[j2]? = some (some (.ref th)) ∧ H1 th = some (.dK ls) ∧ ∀ H2, TabbedS P q H1 H2 → Q (.bl (ns.any (lack ks ls))) H2
theorem pe_anyC {c P : Addr} {q : Str} {iter : Expr} {x sn tn f : Str} {j1 j2 : Nat} {px p pos gpos p1 p2 p3 p4 p5 p6 p7 p8 : Pos} {scope : Scope} {te : TE} {k : Nat}
    (hq : X.env.qual ++ Str.ofString "<genexpr>" = q) (hr : Room k X.A) (hg : Gl X "any") (hm : X.mg "any" = none) (TB : TabB X.base X.mg c P) (hcode : X.env.code = .ref c) (Sf : (∀ y ∈ scope.names, y.2 = .free → ∃ c, X.env.cells.lookup y.1 = some c) → GenS X.env scope x) (hfree : ∀ y ∈ scope.names, y.2 = .free → X.env.scope.names.lookup y.1 = some .cell ∨ X.env.scope.names.lookup y.1 = some .free) (hi : PE X iter te)
    (hs : X.N[j1]? = some sn) (hsk : X.env.scope.names.lookup sn = some .cell) (hsf : scope.names.lookup sn = some .free) (ht : X.N[j2]? = some tn) (htk : X.env.scope.names.lookup tn = some .cell) (htf : scope.names.lookup tn = some .free)
    (d1 : (x == ("__debug__" : Str)) = false := by decide) (d2 : (sn == ("__debug__" : Str)) = false := by decide) (d3 : (tn == ("__debug__" : Str)) = false := by decide) (d4 : (sn == ("__classdict__" : Str)) = false := by decide) (d5 : (tn == ("__classdict__" : Str)) = false := by decide)
    (hgf : ∀ v, genFold iter X.env v = pure v := by intro _; rfl)
    (he : starEach [.GeneratorExp (.BoolOp .And [.Compare (.Name x p1) [.NotIn] [.Attribute (.Name sn p2) f p3] p4, .Compare (.Name x p5) [.NotIn] [.Name tn p6] p7] p8) [⟨.Name x px, iter, [], 0⟩] scope gpos] X.env = (false, eval (.GeneratorExp (.BoolOp .And [.Compare (.Name x p1) [.NotIn] [.Attribute (.Name sn p2) f p3] p4, .Compare (.Name x p5) [.NotIn] [.Name tn p6] p7] p8) [⟨.Name x px, iter, [], 0⟩] scope gpos) X.env) :: starEach [] X.env := by rfl) :
    PE X (.Call (.Name "any" p) [.GeneratorExp (.BoolOp .And [.Compare (.Name x p1) [.NotIn] [.Attribute (.Name sn p2) f p3] p4, .Compare (.Name x p5) [.NotIn] [.Name tn p6] p7] p8) [⟨.Name x px, iter, [], 0⟩] scope gpos] [] pos) (tAnyC X.K P q f j1 j2 te) := by
  refine ⟨fun pins s σ H Q I h => ?_⟩
  have S : GenS X.env scope x := Sf fun y hy e => (hfree y hy e).elim (fun z => I.ok.has _ (.inl z)) fun z => I.ok.has _ (.inr z)
  refine wpAny_Call_Name_kw (ld_blt I hg hm boot_any ?_)
  refine PyProof.Rows.callWith_builtin1 ?_ he (by rfl)
  rw [he]
  refine Calls.spliced_cons (gen_C (pins := pins) (σ := σ) hq hr TB hcode S hgf (thn (hi.run pins s σ H _ I h) fun xv s1 ⟨v, H1, I1, r1, q1⟩ => ?_))
  obtain ⟨a, ns, sl, C, dx, fs, rv, ks, th, ls, rfl, ha, tab, h1, hsl, cl, na, lf, hrv, h2, hth, q1⟩ := q1
  cases r1
  obtain ⟨its, rv', hl, hz⟩ := I1.tuple ha
  refine wpAny_pyIter_tuple hl ?_
  obtain ⟨oa, hoa, hca, na', hda⟩ := id hl
  have hPo : s1.heap.get? P = some { cls := .none, data := .fields tab.choose } := I1.hok P _ tab.choose_spec.1
  have hPlt : P < s1.heap.objs.size := Heap.lt_size hPo
  have halt : a < s1.heap.objs.size := Heap.lt_size hoa
  have naP : a ≠ P := fun z => by
    rw [z, hPo] at hoa
    cases hoa
    cases hca
  refine ⟨s1, H1, s1.heap.objs.size, [s1.heap.objs.size, a], [s1.heap.objs.size], its.toArray.size, fun i v => its.toArray[i]? = some v, fun i h => h.IsTupleIter s1.heap.objs.size a i ∧ h.IsTuple a its.toArray, trN ns (lack ks ls), rfl, I1, rfl, fun b u e => Heap.get?_push_of_some _ e, Nat.le_of_lt (by rw [Heap.size_push]; exact Nat.lt_succ_self _),
    fun A' hA => Walks.tuple hA _ _ (Nat.ne_of_lt halt) _, ⟨⟨_, Heap.get?_push_size _ rfl, rfl, rfl⟩, hl.push _⟩, fun b hb => ?_, fun b hb => ?_, tab, elt_lack I1 S tab hs hsk hsf h1 ht htk htf h2 hsl cl na lf hrv hth rv' d1 d2 d3 d4 d5, fun g s5 hG => ?_⟩
  · rcases List.mem_cons.mp hb with z | hb
    · rw [z]
      exact ⟨by show _ < (s1.heap.push _).objs.size; rw [Heap.size_push]; exact Nat.lt_succ_self _, fun z => Nat.lt_irrefl _ (z ▸ hPlt)⟩
    · rw [List.mem_singleton.mp hb]
      exact ⟨by show _ < (s1.heap.push _).objs.size; rw [Heap.size_push]; exact Nat.lt_succ_of_lt halt, naP⟩
  · rw [List.mem_singleton.mp hb]
    exact Nat.le_refl _
  · obtain ⟨fp, wr, G, F, St, W, hst, htr, hI⟩ := hG
    refine Calls.spliced_nil ?_
    refine call_any_walkS (W.self 0 _ _ _ hst ⟨g, fp, wr, G, _, F, St, _, rfl, W, hst, htr, fun s' hmv => ?_⟩)
    obtain ⟨H2, hT, J⟩ := hI s' hmv
    refine ⟨.bl _, H2, J, rfl, ?_⟩
    have lz : its.toArray.size = ns.length := by
      rw [List.size_toArray, ← rv'.length, List.length_map]
    rw [lz]
    have := any_range (lack ks ls) ns
    have e : ((List.range ns.length).any (trN ns (lack ks ls))) = ns.any (lack ks ls) := this
    rw [e]
    exact q1 H2 hT
end
end GC
set_option Elab.async false
set_option linter.all false
set_option maxRecDepth 100000
set_option maxHeartbeats 2000000
namespace Q18
open PySem
def hasN (vr : List Rn) (n : Nat) : Bool := vr.any fun r => decide (r.num = n)
def step1 (trs : List Rn) (vr : List Rn) (n : Nat) : List Rn := if hasN vr n = true then vr else vr ++ (fetch trs n).toList
def addF (trs : List Rn) (ns : List Nat) (vr : List Rn) : List Rn := ns.foldl (step1 trs) vr
def nxF (ns : List Nat) (x : Nat) : Nat := ns.foldl (fun x n => max x (n + 1)) x
def keepV (v : Vt) (n : Str) (ns : List Nat) (trs : List Rn) : Vt := ⟨addF trs ns v.runs, v.tells ++ [(n, ns)], nxF ns v.nxt⟩
def badK (v : Vt) (n : Str) (ns : List Nat) (trs : List Rn) : Bool := v.tells.any (fun p => decide (p.1 = n)) || ns.any fun k => !hasN v.runs k && !hasN trs k
def forgetV (v : Vt) (n : Str) : Vt := ⟨v.runs.filter (fun r => (v.tells.filter fun p => decide (p.1 ≠ n)).any fun p => p.2.contains r.num), v.tells.filter (fun p => decide (p.1 ≠ n)), v.nxt⟩
def backV (v : Vt) (ns : List Nat) : Cb := ⟨[], ns.filterMap (fetch v.runs), v.nxt⟩
theorem hasN_iff {vr : List Rn} {n : Nat} : hasN vr n = true ↔ ∃ r ∈ vr, r.num = n := by
  unfold hasN
  rw [List.any_eq_true]
  simp only [decide_eq_true_eq]
theorem fetch_some {vr : List Rn} {n : Nat} (h : hasN vr n = true) : ∃ r, fetch vr n = some r ∧ r ∈ vr ∧ r.num = n := by
  unfold fetch
  cases e : vr.find? fun r => decide (r.num = n) with
  | none =>
    rw [List.find?_eq_none] at e
    obtain ⟨r, hr, hn⟩ := hasN_iff.mp h
    exact absurd (decide_eq_true hn) (e r hr)
  | some r =>
    have h1 := List.find?_some e
    exact ⟨r, rfl, List.mem_of_find?_eq_some e, of_decide_eq_true h1⟩
theorem fetch_no {vr : List Rn} {n : Nat} (h : ¬ hasN vr n = true) : fetch vr n = none := by
  unfold fetch
  rw [List.find?_eq_none]
  intro r hr hd
  exact h (hasN_iff.mpr ⟨r, hr, of_decide_eq_true hd⟩)
theorem fetch_in {vr : List Rn} {n : Nat} {r : Rn} (h : fetch vr n = some r) : r ∈ vr ∧ r.num = n := by
  unfold fetch at h
  have h1 := List.find?_some h
  exact ⟨List.mem_of_find?_eq_some h, of_decide_eq_true h1⟩
theorem nxF_ge : ∀ (ns : List Nat) (x : Nat), x ≤ nxF ns x ∧ ∀ n ∈ ns, n < nxF ns x
  | [], x => ⟨Nat.le_refl _, (fun _ z => by cases z)⟩
  | n :: ns, x => by
    obtain ⟨h1, h2⟩ := nxF_ge ns (max x (n + 1))
    refine ⟨?_, fun k hk => ?_⟩
    · show x ≤ nxF ns (max x (n + 1)); omega
    · show k < nxF ns (max x (n + 1))
      rcases List.mem_cons.mp hk with rfl | hk
      · omega
      · exact h2 k hk
theorem addF_mem (trs : List Rn) : ∀ (ns : List Nat) (vr : List Rn) (r : Rn), r ∈ vr → r ∈ addF trs ns vr
  | [], vr, r, h => h
  | n :: ns, vr, r, h => by
    refine addF_mem trs ns _ r ?_
    unfold step1
    split
    · exact h
    · exact List.mem_append.mpr (.inl h)
theorem addF_from (trs : List Rn) : ∀ (ns : List Nat) (vr : List Rn) (r : Rn), r ∈ addF trs ns vr → r ∈ vr ∨ (r ∈ trs ∧ r.num ∈ ns)
  | [], vr, r, h => .inl h
  | n :: ns, vr, r, h => by
    rcases addF_from trs ns _ r h with h | ⟨h1, h2⟩
    · unfold step1 at h
      split at h
      · exact .inl h
      · rcases List.mem_append.mp h with h | h
        · exact .inl h
        · rw [Option.mem_toList] at h
          obtain ⟨h1, h2⟩ := fetch_in h
          exact .inr ⟨h1, by rw [h2]; exact List.mem_cons_self⟩
    · exact .inr ⟨h1, List.mem_cons_of_mem _ h2⟩
theorem addF_has (trs : List Rn) : ∀ (ns : List Nat) (vr : List Rn), (∀ n ∈ ns, hasN vr n = true ∨ hasN trs n = true) → ∀ n ∈ ns, hasN (addF trs ns vr) n = true
  | [], vr, _, n, h => by cases h
  | k :: ns, vr, hh, n, h => by
    have keep : ∀ m, hasN vr m = true → hasN (step1 trs vr k) m = true := fun m hm => by
      obtain ⟨r, hr, e⟩ := hasN_iff.mp hm
      refine hasN_iff.mpr ⟨r, ?_, e⟩
      unfold step1
      split
      · exact hr
      · exact List.mem_append.mpr (.inl hr)
    rcases List.mem_cons.mp h with rfl | h
    · have h1 : hasN (step1 trs vr n) n = true := by
        unfold step1
        split
        · assumption
        · rename_i hn
          rcases hh n List.mem_cons_self with z | z
          · exact absurd z hn
          · obtain ⟨r, e1, e2, e3⟩ := fetch_some z
            rw [e1]
            exact hasN_iff.mpr ⟨r, List.mem_append.mpr (.inr (by simp)), e3⟩
      obtain ⟨r, hr, e⟩ := hasN_iff.mp h1
      exact hasN_iff.mpr ⟨r, addF_mem trs ns _ r hr, e⟩
    · exact addF_has trs ns _ (fun m hm => (hh m (List.mem_cons_of_mem _ hm)).imp (keep m) id) n h
theorem addF_len (trs : List Rn) : ∀ (ns : List Nat) (vr : List Rn), (addF trs ns vr).length ≤ vr.length + ns.length
  | [], vr => Nat.le_refl _
  | n :: ns, vr => by
    have h := addF_len trs ns (step1 trs vr n)
    have h2 : (step1 trs vr n).length ≤ vr.length + 1 := by
      unfold step1
      split
      · omega
      · rw [List.length_append]
        cases fetch trs n <;> simp
    show (addF trs ns (step1 trs vr n)).length ≤ _
    rw [List.length_cons]; omega
theorem addF_nodup (trs : List Rn) : ∀ (ns : List Nat) (vr : List Rn), (vr.map (·.num)).Nodup → ((addF trs ns vr).map (·.num)).Nodup
  | [], vr, h => h
  | n :: ns, vr, h => by
    refine addF_nodup trs ns _ ?_
    unfold step1
    split
    · exact h
    · rename_i hn
      cases e : fetch trs n with
      | none => simpa using h
      | some r =>
        obtain ⟨h1, h2⟩ := fetch_in e
        rw [Option.toList, List.map_append, List.nodup_append]
        refine ⟨h, by simp, fun a ha b hb => ?_⟩
        rw [List.map_cons, List.map_nil, List.mem_singleton] at hb
        rintro rfl
        obtain ⟨s, hs, e2⟩ := List.mem_map.mp ha
        exact hn (hasN_iff.mpr ⟨s, hs, by rw [e2, hb, h2]⟩)
theorem keep_R {v : Vt} {n : Str} {c : Cb} (ok : Ok c) (a : Agree v.runs v.nxt c) (trs : List Rn) (ht : trs = c.runs.filter fun r => !hasN v.runs r.num) : keepR v n c.runs (keepV v n (c.runs.map (·.num)) trs) := by
  have un : ∀ r ∈ c.runs, ∀ s ∈ c.runs, r.num = s.num → r = s := fun r hr s hs e => by
    have := (List.pairwise_iff_getElem.mp ok.ds)
    obtain ⟨i, hi, ri⟩ := List.getElem_of_mem hr
    obtain ⟨j, hj, sj⟩ := List.getElem_of_mem hs
    rcases Nat.lt_trichotomy i j with x | x | x
    · have := this i j hi hj x
      rw [ri, sj] at this
      omega
    · subst x
      exact ri.symm.trans sj
    · have := this j i hj hi x
      rw [ri, sj] at this
      omega
  have mt : ∀ r, r ∈ trs ↔ r ∈ c.runs ∧ ¬ hasN v.runs r.num = true := fun r => by rw [ht, List.mem_filter]; simp
  refine ⟨fun r => ⟨fun h => ?_, fun h => ?_⟩, rfl, (nxF_ge _ _).1, fun r hr => (nxF_ge _ _).2 _ (List.mem_map.mpr ⟨r, hr, rfl⟩)⟩
  · rcases addF_from trs _ _ r h with h | ⟨h, _⟩
    · exact .inl h
    · exact .inr ((mt r).mp h).1
  · rcases h with h | h
    · exact addF_mem trs _ _ r h
    · have hh : ∀ k ∈ c.runs.map (·.num), hasN v.runs k = true ∨ hasN trs k = true := fun k hk => by
        obtain ⟨s, hs, rfl⟩ := List.mem_map.mp hk
        by_cases z : hasN v.runs s.num = true
        · exact .inl z
        · exact .inr (hasN_iff.mpr ⟨s, (mt s).mpr ⟨hs, z⟩, rfl⟩)
      obtain ⟨s, hs, e⟩ := hasN_iff.mp (addF_has trs _ v.runs hh r.num (List.mem_map.mpr ⟨r, h, rfl⟩))
      have hs' := hs
      rcases addF_from trs _ _ s hs with h2 | ⟨h2, _⟩
      · rw [← a.eq s h2 r h e]; exact hs'
      · rw [← un s ((mt s).mp h2).1 r h e]; exact hs'
theorem keep_good {v : Vt} {n : Str} {c : Cb} (ok : Ok c) (trs : List Rn) (ht : trs = c.runs.filter fun r => !hasN v.runs r.num) (fr : ∀ ns, (n, ns) ∉ v.tells) : badK v n (c.runs.map (·.num)) trs = false := by
  unfold badK
  rw [Bool.or_eq_false_iff]
  constructor
  · rw [List.any_eq_false]
    intro p hp e
    exact fr p.2 ((of_decide_eq_true e) ▸ hp)
  · rw [List.any_eq_false]
    intro k hk
    obtain ⟨s, hs, rfl⟩ := List.mem_map.mp hk
    by_cases z : hasN v.runs s.num = true
    · simp [z]
    · have : hasN trs s.num = true := hasN_iff.mpr ⟨s, by rw [ht, List.mem_filter]; exact ⟨hs, by simpa using z⟩, rfl⟩
      simp [this]
end Q18
set_option Elab.async false
set_option linter.all false
set_option maxRecDepth 100000
set_option maxHeartbeats 2000000
namespace K18
open PySem PySem.Spec PyProof.Rows PySem.Calls L2 KB KC KD KS KM LamX R8 CP K7 TK
abbrev Vt := Q18.Vt
abbrev kI (n : Nat) : Key := Sum.inl (n : Int)
abbrev kS (n : Str) : Key := Sum.inr n
abbrev vF (r t : Addr) (n : Nat) : List (Str × V) := [("runs", .ref r), ("tellings", .ref t), ("next_number", .int n)]
def RunsD (CR m : Addr) (H : Hp) (ks : List (Key × V)) (rs : List Rn) : Prop := Paired (fun (p : Key × V) (rn : Rn) => p.1 = kI rn.num ∧ ∃ r, p.2 = .ref r ∧ RunAt CR m H r rn) ks rs
def natI (ns : List Nat) : List Int := ns.map fun (n : Nat) => (n : Int)
def TellsD (H : Hp) (ks : List (Key × V)) (ts : List (Str × List Nat)) : Prop := Paired (fun (p : Key × V) (e : Str × List Nat) => p.1 = kS e.1 ∧ ∃ a, p.2 = .ref a ∧ H a = some (.tup ((natI e.2).map V.int))) ks ts
structure VAt (CR CV m v : Addr) (vt : Vt) (H : Hp) : Prop where
  o : ∃ dx vr vs ks ts, H v = some (.ins CV dx (vF vr vs vt.nxt)) ∧ H vr = some (.dK ks) ∧ RunsD CR m H ks vt.runs ∧ H vs = some (.dK ts) ∧ TellsD H ts vt.tells ∧ vr ≠ vs
theorem TellsD.kt {H H' : Hp} {ks : List (Key × V)} {ts : List (Str × List Nat)} (h : TellsD H ks ts) (e : KtTup H H') : TellsD H' ks ts := paired_mono (fun _ _ ⟨h1, a, h2, h3⟩ => ⟨h1, a, h2, e _ _ h3⟩) h
theorem RunsD.ex {CR m : Addr} {H H' : Hp} {ks : List (Key × V)} {rs : List Rn} (h : RunsD CR m H ks rs) (e : ExtN H H') : RunsD CR m H' ks rs := paired_mono (fun _ _ ⟨h1, r, h2, h3⟩ => ⟨h1, r, h2, h3.ex e⟩) h
theorem VAt.exN {CR CV m v : Addr} {vt : Vt} {H H' : Hp} (x : VAt CR CV m v vt H) (e : ExtN H H') : VAt CR CV m v vt H' := by
  obtain ⟨dx, vr, vs, ks, ts, h1, h2, h3, h4, h5, h6⟩ := x
  exact ⟨dx, vr, vs, ks, ts, e _ _ h1 (fun _ z => nomatch z), e _ _ h2 (fun _ z => nomatch z), h3.ex e, e _ _ h4 (fun _ z => nomatch z), h5.kt fun b xs h => e _ _ h (fun _ z => nomatch z), h6⟩
theorem VAt.ex {CR CV m v : Addr} {vt : Vt} {H H' : Hp} (x : VAt CR CV m v vt H) (e : KS.Ex H H') : VAt CR CV m v vt H' := x.exN (ExtN.of e)
theorem VAt.move {CR CV m m' v : Addr} {vt : Vt} {H : Hp} (x : VAt CR CV m v vt H) (n : NewN H m') : VAt CR CV m' v vt H := by
  obtain ⟨dx, vr, vs, ks, ts, h1, h2, h3, h4, h5, h6⟩ := x
  exact ⟨dx, vr, vs, ks, ts, h1, h2, paired_mono (fun _ _ ⟨h1, r, h2, h3⟩ => ⟨h1, r, h2, h3.move n⟩) h3, h4, h5, h6⟩
theorem vins_ne {CC CV dx dx' m l r t : Addr} {n n' : Nat} : (HO.ins CC dx (cF m l n)) ≠ HO.ins CV dx' (vF r t n') := fun h => by
  have h : cF m l n = vF r t n' := by cases h
  cases h
theorem vins_ne' {CR CV dx dx' p t r s : Addr} {n n' : Nat} : (HO.ins CV dx (vF r s n)) ≠ HO.ins CR dx' (rF n' p t) := fun h => by
  have h : vF r s n = rF n' p t := by cases h
  cases h
theorem VAt.cab {CR CC CV c m m' v : Addr} {vt : Vt} {cb : Cb} {H H' : Hp} (x : VAt CR CV m v vt H) (xc : CabAt CR CC c m cb H) (k : Kp (wC c m) H H') (mm : m' = m ∨ NewN H m') : VAt CR CV m' v vt H' := by
  obtain ⟨dx, vr, vs, ks, ts, h1, h2, h3, h4, h5, h6⟩ := x
  have nd : ∀ {a : Addr} {ks : List (Key × V)}, H a = some (.dK ks) → ¬ wC c m a := fun {a ks} h z => by
    obtain ⟨⟨dx, l, rs, g1, _⟩, mk, g4, _⟩ := xc
    rcases z with rfl | rfl
    · rw [g1] at h; cases h
    · rw [g4] at h; cases h
  refine ⟨dx, vr, vs, ks, ts, k.k _ _ h1 (fun _ z => nomatch z) (fun z => ?_), k.k _ _ h2 (fun _ z => nomatch z) (nd h2), paired_mono (fun _ _ ⟨g1, r, g2, g3⟩ => ⟨g1, r, g2, ?_⟩) h3, k.k _ _ h4 (fun _ z => nomatch z) (nd h4), h5.kt (xc.tup k), h6⟩
  · obtain ⟨⟨dxc, l, rs, g1, _⟩, mk, g4, _⟩ := xc
    rcases z with rfl | rfl
    · rw [g1] at h1; exact vins_ne (Option.some.inj h1)
    · rw [g4] at h1; cases h1
  · have g := xc.run k g3
    rcases mm with rfl | n
    · exact g
    · obtain ⟨dx, p, t, ts, kvs, q1, q2, q3, q4, q5, q6⟩ := g3
      obtain ⟨dx', p', t', ts', kvs', q1', q2', q3', q4', q5', q6'⟩ := g
      refine ⟨dx', p', t', ts', kvs', q1', q2', q3', q4', q5', fun z => ?_⟩
      have e1 := k.k _ _ q1 (fun _ z => nomatch z) (fun z => xc.wr _ z _ _ _ _ q1)
      rw [e1] at q1'
      have e3 : t = t' := by cases q1'; rfl
      exact n.ne q4 (fun _ z => nomatch z) (e3.trans z)
def wV (H : Hp) (CV v : Addr) (b : Addr) : Prop := b = v ∨ ∃ dx r s n, H v = some (.ins CV dx (vF r s n)) ∧ (b = r ∨ b = s)
@[irreducible] def spVInit (CR CV : Addr) : Sp := fun vs H Q _ => ∃ (v dx : Addr), vs = [.ref v] ∧ H v = some (.ins CV dx []) ∧ ∀ H', (∀ b o, b ≠ v → H b = some o → H' b = some o) → (∀ m, VAt CR CV m v ⟨[], [], 0⟩ H') → Q .non H'
@[irreducible] def spKnown (CR CV : Addr) : Sp := fun vs H Q _ => ∃ (m v : Addr) (vt : Vt), vs = [.ref v] ∧ VAt CR CV m v vt H ∧ ∀ H' q, KS.Ex H H' → H' q = some (.tup (((nums vt.runs).mergeSort fun a b => decide (a ≤ b)).map V.int)) → Q (.ref q) H'
@[irreducible] def spNeedV (CR CV CE : Addr) : Sp := fun vs H Q E => ∃ (m v : Addr) (vt : Vt) (n : Str), vs = [.ref v, .str n] ∧ VAt CR CV m v vt H ∧ n.length ≤ 900 ∧ ((vt.tells.any fun p => decide (p.1 = n)) = false → E (.ref CE) none H) ∧ ((vt.tells.any fun p => decide (p.1 = n)) = true → Q .non H)
section
variable {P : Program} {w : World} {K : PySem.W.Frag} {mg : Str → Option Value} {base : Heap} {CR CC CV CE Pa Pl Pk f : Addr} {fd : FuncData}
theorem vinit_step {v dx : Addr} {H : Hp} {Q : VK} {E : XK} (hv : H v = some (.ins CV dx [])) (fin : ∀ H', (∀ b o, b ≠ v → H b = some o → H' b = some o) → (∀ m, VAt CR CV m v ⟨[], [], 0⟩ H') → Q .non H') : spVInit CR CV [.ref v] H Q E := by
  unfold spVInit
  exact ⟨v, dx, rfl, hv, fin⟩
theorem scVI : FnScope ["self"] ["self"] (defScope (sVM 0)) := ⟨rfl, rfl, rfl, by decide +kernel, rfl, by decide +kernel, by decide +kernel⟩
theorem ok_vinit (F : FnP K "__init__" "Vault.__init__" (sVM 0) [] f fd) (B : TxtC K mg CR CC CV) : FnOk P w K mg base CX0 1 f fd ["self"] (spVInit CR CV) := by
  refine F.ok scVI (fun vs H Q E h => ?_) (fun cdv A outer s H vs Q E hr h => ?_)
  · unfold spVInit at h
    obtain ⟨_, _, rfl, _⟩ := h; rfl
  · unfold spVInit at h
    obtain ⟨v, dx, rfl, hv, fin⟩ := h
    refine ⟨_, PSs.nox <| pss_cons (ps_fld (pv 0) pe_dnewK rfl) (pss_cons (ps_fld (pv 0) pe_dnewK rfl) (pss_one (ps_fld (pv 0) pe_int rfl))), ?_⟩
    refine fun r hr => ?_
    have n1 : r ≠ v := fun z => by rw [z, hv] at hr; cases hr
    refine ⟨_, rfl, v, CV, dx, _, rfl, (by rw [L2.upd_ne n1.symm]; exact hv), B.clV, B.vR, (by show 0 < 1000; decide), ?_⟩
    refine fun t ht => ?_
    have n2 : t ≠ v := fun z => by rw [z, upd_same] at ht; cases ht
    rw [L2.upd_ne n2] at ht
    have n3 : t ≠ r := fun z => by rw [z, upd_same] at ht; cases ht
    rw [L2.upd_ne n3] at ht
    refine ⟨_, rfl, v, CV, dx, _, rfl, (by rw [L2.upd_ne n2.symm]; exact upd_same), B.clV, B.vT, (by show 1 < 1000; decide), ?_⟩
    refine ⟨_, rfl, v, CV, dx, _, rfl, upd_same, B.clV, B.vN, (by show 2 < 1000; decide), ?_⟩
    rw [upd2]
    refine fin _ (fun b o nb h => ?_) fun m => ⟨dx, r, t, [], [], upd_same, ?_, .nil, ?_, .nil, n3.symm⟩
    · rw [L2.upd_ne nb, L2.upd_ne (fun z => by rw [z, ht] at h; cases h), L2.upd_ne nb, L2.upd_ne (fun z => by rw [z, hr] at h; cases h)]; exact h
    · rw [L2.upd_ne n1, L2.upd_ne n3.symm, L2.upd_ne n1, upd_same]
    · rw [L2.upd_ne n2, upd_same]
theorem known_step {m v : Addr} {vt : Vt} {H : Hp} {Q : VK} {E : XK} (x : VAt CR CV m v vt H) (fin : ∀ H' q, KS.Ex H H' → H' q = some (.tup (((nums vt.runs).mergeSort fun a b => decide (a ≤ b)).map V.int)) → Q (.ref q) H') : spKnown CR CV [.ref v] H Q E := by
  unfold spKnown
  exact ⟨m, v, vt, rfl, x, fin⟩
theorem runsD_keys {m : Addr} {H : Hp} {ks : List (Key × V)} {rs : List Rn} (h : RunsD CR m H ks rs) : ks.map (fun kv => kV kv.1) = (nums rs).map V.int := by
  unfold RunsD at h
  induction h with
  | nil => rfl
  | cons h t ih => rw [List.map_cons, ih, h.1]; rfl
theorem scKn : FnScope ["self"] ["self"] (defScope (sVM 1)) := ⟨rfl, rfl, rfl, by decide +kernel, rfl, by decide +kernel, by decide +kernel⟩
theorem ok_known (F : FnP K "known" "Vault.known" (sVM 1) [] f fd) (B : TxtC K mg CR CC CV) (T : TxtL mg) : FnOk P w K mg base CX0 4 f fd ["self"] (spKnown CR CV) := by
  refine F.ok scKn (fun vs H Q E h => ?_) (fun cdv A outer s H vs Q E hr h => ?_)
  · unfold spKnown at h
    obtain ⟨_, _, _, rfl, _⟩ := h; rfl
  · unfold spKnown at h
    obtain ⟨m, v, vt, rfl, ⟨dx, vr, vs, ks, ts, h1, h2, h3, h4, h5, h6⟩, fin⟩ := h
    have hu66 : (A.deeper (envOfC (Str.ofString "Vault.known") (defScope (sVM 1)) s.heap.objs.size f cdv)).units + 66 < cLine := by
      have := hr.un
      omega
    refine ⟨_, PSs.nox <| pss_one (ps_ret (pe_callTy call_tuple_of (by rfl) T.tuple (by decide +kernel) (pa_cons (pe_callB (CP.cr_sortDI rfl hu66) (by rfl) T.sorted (by decide +kernel) (pa_cons (pf 0) pa_nil)) pa_nil))), ?_⟩
    refine ⟨_, rfl, v, CV, dx, _, _, rfl, h1, B.clV, B.vR, rfl, ?_⟩
    refine ⟨vr, ks, nums vt.runs, rfl, h2, runsD_keys h3, fun D hD => ?_⟩
    refine ⟨D, _, rfl, .inl ⟨SqL.of upd_same, fun q hq => ?_⟩⟩
    exact fin _ q ((Ex.upd hD).trans (Ex.upd hq)) upd_same
structure TxtX (K : PySem.W.Frag) (mg : Str → Option Value) (CE : Addr) : Prop where
  g : mg "SnapshotError" = some (.ref CE)
  x : PySem.W.excIn K CE veB "ValueError.__new__" = true
  k : PySem.W.keepIn K (.ref CE) = true
  b : PySem.W.subIn K (.ref CE) (.type "BaseException") = some true
  t : PySem.W.typeIn K (.ref CE) = some (.type "type")
  e : PySem.W.exmOne K (.ref CE) (.ref CE) = some true
theorem str_len (a b : Str) : (a ++ b).length = a.length + b.length := by
  show (a.cps ++ b.cps).size = _
  rw [Array.size_append]
  rfl
theorem needv_step {m v : Addr} {vt : Vt} {n : Str} {H : Hp} {Q : VK} {E : XK} (x : VAt CR CV m v vt H) (hn : n.length ≤ 900) (bad : (vt.tells.any fun p => decide (p.1 = n)) = false → E (.ref CE) none H) (good : (vt.tells.any fun p => decide (p.1 = n)) = true → Q .non H) : spNeedV CR CV CE [.ref v, .str n] H Q E := by
  unfold spNeedV
  exact ⟨m, v, vt, n, rfl, x, hn, bad, good⟩
theorem tellsD_is {H : Hp} {n : Str} {ks : List (Key × V)} {ts : List (Str × List Nat)} (h : TellsD H ks ts) : (valV ks (kS n)).isSome = ts.any fun p => decide (p.1 = n) := by
  unfold TellsD at h
  induction h with
  | nil => rfl
  | @cons p e ks ts h t ih =>
    unfold valV at ih ⊢
    rw [List.find?_cons, List.any_cons]
    by_cases c : e.1 = n
    · have : p.1 = kS n := by rw [h.1, c]
      simp [this, c]
    · have : ¬ p.1 = kS n := by rw [h.1]; exact fun z => c (Sum.inr.inj z)
      simp only [decide_eq_false this, decide_eq_false c, Bool.false_or]
      exact ih
theorem scNV : FnScope ["self", "name"] ["self", "name"] (defScope (sVM 4)) := ⟨rfl, rfl, rfl, by decide +kernel, rfl, by decide +kernel, by decide +kernel⟩
theorem ok_needv (F : FnP K "need" "Vault.need" (sVM 4) [] f fd) (B : TxtC K mg CR CC CV) (J : TxtX K mg CE) : FnOk P w K mg base (L2.CX P w) 1 f fd ["self", "name"] (spNeedV CR CV CE) := by
  refine F.ok scNV (fun vs H Q E h => ?_) (fun cdv A outer s H vs Q E hr h => ?_)
  · unfold spNeedV at h
    obtain ⟨_, _, _, _, rfl, _⟩ := h; rfl
  · unfold spNeedV at h
    obtain ⟨m, v, vt, n, rfl, ⟨dx, vr, vs, ks, ts, h1, h2, h3, h4, h5, h6⟩, hn, bad, good⟩ := h
    have hu := hr.units
    have hu1 := Nat.lt_trans (Nat.add_lt_add_left (by decide : 1 < 64) _) hu
    refine ⟨_, pss_one (ps_if (pt_cmp (pc_dnotin hu1 (pv 1) (pf 0)))
        (pss_one (ps_raise rfl (takes_of rfl rfl rfl rfl) (SkE.pmk_own1 PySem.F.excBase_ValueError J.x J.g J.k (raises_own J.b J.t) rfl (pe_joined (.cons pe_str (.cons (pe_fmt (pv 1)) .nil)))))) pss_nil), ?_⟩
    refine ⟨_, rfl, _, rfl, v, CV, dx, _, _, rfl, h1, B.clV, B.vT, rfl, vs, _, rfl, DGet.k (k := kS n) h4, _, rfl, ?_⟩
    rw [tellsD_is h5]
    by_cases c : (vt.tells.any fun p => decide (p.1 = n)) = true
    · exact ifF (by simp [c]) (good c)
    · have c : (vt.tells.any fun p => decide (p.1 = n)) = false := (Bool.not_eq_true _).mp c
      refine ifT (by rw [c]; rfl) ?_
      have hsl : sizeLine = 16777216 := rfl
      have e0 : Str.empty.length = 0 := rfl
      have l0 : (Str.ofString "no telling ").length ≤ 100 := by decide +kernel
      refine ⟨_, rfl, (by rw [str_len, e0]; omega), _, rfl, .inl ⟨n, rfl, by omega, n, rfl, (by rw [str_len, str_len, e0]; omega), bad c⟩⟩
end
end K18
set_option Elab.async false
set_option linter.all false
set_option maxRecDepth 100000
set_option maxHeartbeats 4000000
namespace K18
open PySem PySem.Spec PyProof.Rows PySem.Calls L2 KB KC KD KS KM LamX R8 CP K7 TK
theorem runsD_val {CR m : Addr} {H : Hp} {n : Nat} {ks : List (Key × V)} {rs : List Rn} (h : RunsD CR m H ks rs) : (valV ks (kI n) = none ∧ Q18.hasN rs n = false ∧ Q18.fetch rs n = none) ∨ ∃ r rn, valV ks (kI n) = some (.ref r) ∧ Q18.hasN rs n = true ∧ Q18.fetch rs n = some rn ∧ RunAt CR m H r rn := by
  unfold RunsD at h
  induction h with
  | nil => exact .inl ⟨rfl, rfl, rfl⟩
  | @cons p e ks rs h t ih =>
    unfold valV Q18.hasN Q18.fetch at ih ⊢
    rw [List.find?_cons, List.any_cons, List.find?_cons]
    obtain ⟨h1, r, h2, h3⟩ := h
    by_cases c : e.num = n
    · have : p.1 = kI n := by rw [h1, c]
      refine .inr ⟨r, e, by simp [this, h2], by simp [c], by simp [c], h3⟩
    · have : ¬ p.1 = kI n := by
        rw [h1]
        exact fun z => c (by have := Sum.inl.inj z; omega)
      simp only [decide_eq_false this, decide_eq_false c, Bool.false_or]
      exact ih
theorem putK_off {κ : Type} [DecidableEq κ] {ks : List (κ × V)} {k : κ} {v : V} (h : valV ks k = none) : putK ks k v = ks ++ [(k, v)] := by
  unfold putK
  rw [valV_any, h]
  rfl
theorem VAt.w {CR CV m v : Addr} {vt : Vt} {H : Hp} (x : VAt CR CV m v vt H) : (∀ b, wV H CV v b → ∀ xs, H b ≠ some (.tup xs)) ∧ (∀ b, wV H CV v b → ∀ dx n p t, H b ≠ some (.ins CR dx (rF n p t))) ∧ (∀ b, wV H CV v b → ∀ ks, H b ≠ some (.dT ks)) ∧ (∀ b, wV H CV v b → ∀ xs, H b ≠ some (.lst xs)) ∧ (∀ b, wV H CV v b → ∀ CC dx m l n, H b ≠ some (.ins CC dx (cF m l n))) := by
  obtain ⟨dx, vr, vs, ks, ts, h1, h2, h3, h4, h5, h6⟩ := x
  have cases' : ∀ b, wV H CV v b → b = v ∨ b = vr ∨ b = vs := by
    rintro b (e | ⟨dx', r, s, n, e, z⟩)
    · exact .inl e
    · rw [h1] at e
      have er : vr = r := by cases e; rfl
      have es : vs = s := by cases e; rfl
      rw [er, es]
      exact .inr z
  refine ⟨fun b hb xs h => ?_, fun b hb dx n p t h => ?_, fun b hb ks h => ?_, fun b hb xs h => ?_, fun b hb CC dx m l n h => ?_⟩ <;> rcases cases' b hb with e | e | e <;> rw [e] at h <;> first | (rw [h1] at h; cases h; done) | (rw [h2] at h; cases h; done) | (rw [h4] at h; cases h; done) | (rw [h1] at h; exact vins_ne' (Option.some.inj h)) | (rw [h1] at h; exact vins_ne (Option.some.inj h).symm)
theorem wV_mk {CV v dx vr vs : Addr} {n : Nat} {H : Hp} (h : H v = some (.ins CV dx (vF vr vs n))) : wV H CV v v ∧ wV H CV v vr ∧ wV H CV v vs := ⟨.inl rfl, .inr ⟨dx, vr, vs, n, h, .inl rfl⟩, .inr ⟨dx, vr, vs, n, h, .inr rfl⟩⟩
theorem CabAt.vau {CR CC CV c m v : Addr} {cb : Cb} {vt : Vt} {H H' : Hp} (xc : CabAt CR CC c m cb H) (x : VAt CR CV m v vt H) (k : Kp (wV H CV v) H H') : CabAt CR CC c m cb H' := by
  obtain ⟨w1, w2, w3, w4, w5⟩ := x.w
  obtain ⟨⟨dx, l, rs, h1, h2, h3⟩, mk, h4, h5⟩ := xc
  refine ⟨⟨dx, l, rs, k.k _ _ h1 (fun _ z => nomatch z) (fun z => w5 _ z _ _ _ _ _ h1), k.k _ _ h2 (fun _ z => nomatch z) (fun z => w4 _ z _ h2), paired_mono (fun _ _ h => h.kp k w1 w2 fun b z ks hb => absurd hb (w3 b z ks)) h3⟩, mk, k.k _ _ h4 (fun _ z => nomatch z) (fun z => w3 _ z _ h4), kvT_kt h5 (k.tup w1)⟩
structure AftV (CR CV Pa Pl Pk m v : Addr) (vt' : Vt) (H H' : Hp) : Prop where
  kp : Kp (wV H CV v) H H'
  ww : ∀ b, wV H' CV v b → wV H CV v b ∨ NewN H b
  x : VAt CR CV m v vt' H'
  tb : Tabs (TT Pa Pl Pk) H'
@[irreducible] def spKeep (CR CV CE Pa Pl Pk : Addr) : Sp := fun vs H Q E => ∃ (m v td a b : Addr) (vt : Vt) (n : Str) (ns : List Nat) (rs : List Addr) (trs : List Rn), vs = [.ref v, .str n, .ref td] ∧ VAt CR CV m v vt H ∧ H td = some (.tup [.ref a, .ref b]) ∧ H a = some (.tup ((natI ns).map V.int)) ∧ H b = some (.tup (rs.map V.ref)) ∧ Paired (RunAt CR m H) rs trs ∧ (trs.map (·.num)).Nodup ∧ n.length ≤ 900 ∧
  vt.runs.length + ns.length ≤ 100000 ∧ trs.length ≤ 1000 ∧ vt.tells.length ≤ 100000 ∧ Tabs (TT Pa Pl Pk) H ∧
  (Q18.badK vt n ns trs = true → ∀ H', ExtN H H' → Tabs (TT Pa Pl Pk) H' → E (.ref CE) none H') ∧
  (Q18.badK vt n ns trs = false → ∀ H', AftV CR CV Pa Pl Pk m v (Q18.keepV vt n ns trs) H H' → Q .non H')
theorem tabs_tabbed {Pa Pl Pk : Addr} {H H' : Hp} (ap : Apt Pa Pl Pk) (t : Tabs (TT Pa Pl Pk) H) (h : GC.TabbedS Pk qK H H') : ExtN H H' ∧ Tabs (TT Pa Pl Pk) H' := by
  obtain ⟨t', e⟩ := h
  obtain ⟨ps, hp, _⟩ := t (Pk, qK) (List.mem_cons_of_mem _ (List.mem_cons_of_mem _ (List.mem_cons_self ..)))
  have ex : ExtN H H' := fun b o hb n => e b o (fun z => by
    rw [z, hp] at hb
    exact n _ (Option.some.inj hb).symm) hb
  have old : ∀ {Q : Addr} {q : Str}, Q ≠ Pk → LamX.TabS H Q q → LamX.TabS H' Q q := fun {Q q} n ⟨ps, g1, g2, g3⟩ => ⟨ps, e _ _ n g1, g2, fun pos cv hc => let ⟨c, e1, e2⟩ := g3 pos cv hc; ⟨c, e1, ex _ _ e2 codeO_ne⟩⟩
  refine ⟨ex, fun p hp' => ?_⟩
  rcases List.mem_cons.mp hp' with rfl | hp'
  · exact old ap.ak (t _ (List.mem_cons_self ..))
  rcases List.mem_cons.mp hp' with rfl | hp'
  · exact old ap.lk (t _ (List.mem_cons_of_mem _ (List.mem_cons_self ..)))
  rcases List.mem_cons.mp hp' with rfl | hp'
  · exact t'
  · cases hp'
theorem runsD_kp {CR m : Addr} {H H' : Hp} {w : Addr → Prop} {ks : List (Key × V)} {rs : List Rn} (h : RunsD CR m H ks rs) (k : Kp w H H') (w1 : ∀ b, w b → ∀ xs, H b ≠ some (.tup xs)) (w2 : ∀ b, w b → ∀ dx n p t, H b ≠ some (.ins CR dx (rF n p t))) (w3 : ∀ b, w b → ∀ ks, H b ≠ some (.dT ks)) : RunsD CR m H' ks rs :=
  paired_mono (fun _ _ ⟨h1, r, h2, h3⟩ => ⟨h1, r, h2, h3.kp k w1 w2 fun b z ks hb => absurd hb (w3 b z ks)⟩) h
theorem RAd.stab2 : ∀ H H' v a, KT2 H H' → RAd H v a → RAd H' v a := fun _ _ _ _ _ h => h
theorem take_snoc' {α : Type} {l : List α} {i : Nat} {x : α} (h : l[i]? = some x) : l.take (i + 1) = l.take i ++ [x] := by rw [List.take_add_one, h]; rfl
section
variable {P : Program} {w : World} {K : PySem.W.Frag} {mg : Str → Option Value} {base : Heap} {CR CC CV CE Pa Pl Pk c f : Addr} {fd : FuncData}
theorem keep_step {m v td a b : Addr} {vt : Vt} {n : Str} {ns : List Nat} {rs : List Addr} {trs : List Rn} {H : Hp} {Q : VK} {E : XK} (x : VAt CR CV m v vt H) (htd : H td = some (.tup [.ref a, .ref b])) (ha : H a = some (.tup ((natI ns).map V.int))) (hb : H b = some (.tup (rs.map V.ref))) (hr : Paired (RunAt CR m H) rs trs) (nd : (trs.map (·.num)).Nodup) (hn : n.length ≤ 900)
    (l1 : vt.runs.length + ns.length ≤ 100000) (l2 : trs.length ≤ 1000) (l3 : vt.tells.length ≤ 100000) (tb : Tabs (TT Pa Pl Pk) H) (bad : Q18.badK vt n ns trs = true → ∀ H', ExtN H H' → Tabs (TT Pa Pl Pk) H' → E (.ref CE) none H') (good : Q18.badK vt n ns trs = false → ∀ H', AftV CR CV Pa Pl Pk m v (Q18.keepV vt n ns trs) H H' → Q .non H') : spKeep CR CV CE Pa Pl Pk [.ref v, .str n, .ref td] H Q E := by
  unfold spKeep
  exact ⟨m, v, td, a, b, vt, n, ns, rs, trs, rfl, x, htd, ha, hb, hr, nd, hn, l1, l2, l3, tb, bad, good⟩
abbrev nKe : List Str := ["self", "name", "told", "numbers", "runs", "there", "run", "number"]
theorem scKe : FnScope nKe ["self", "name", "told"] (defScope (sVM 2)) := ⟨rfl, rfl, rfl, by decide +kernel, rfl, by decide +kernel, by decide +kernel⟩
theorem vF_m {r s : Addr} {n : Nat} {x : Str} (h1 : (x == ("runs" : Str)) = false) (h2 : (x == ("tellings" : Str)) = false) (h3 : (x == ("next_number" : Str)) = false) : (vF r s n).lookup x = none := by
  simp only [List.lookup, h1, h2, h3]
theorem ok_keep (F : FnP K "keep" "Vault.keep" (sVM 2) [] f fd) (hc : fd.code = .ref c) (TB : GxR.TabB base mg c Pk) (ap : Apt Pa Pl Pk) (B : TxtC K mg CR CC CV) (J : TxtX K mg CE) (T : TxtL mg) : FnOk P w K mg base (L2.CX P w) 6 f fd ["self", "name", "told"] (spKeep CR CV CE Pa Pl Pk) := by
  refine okC F hc scKe (fun vs H Q E h => ?_) (fun A outer s H vs Q E hr h => ?_)
  · unfold spKeep at h
    obtain ⟨_, _, _, _, _, _, _, _, _, _, rfl, _⟩ := h; rfl
  · unfold spKeep at h
    obtain ⟨m, v, td, a, b, vt, n, ns, rs, trs, rfl, x, htd, ha, hb, hrs, nd, hn, l1, l2, l3, tb, bad, good⟩ := h
    have hu := hr.units
    have hu1 := Nat.lt_trans (Nat.add_lt_add_left (by decide : 1 < 64) _) hu
    obtain ⟨dx, vr, vs, ks, ts, h1, h2, h3, h4, h5, h6⟩ := id x
    have qk : (Str.ofString "Vault.keep" ++ Str.ofString ".<locals>.") ++ Str.ofString "<genexpr>" = qK := by decide +kernel
    refine ⟨_, pss_cons (ps_asg (pv 2) (pg_tup rfl (pgs_cons (pg_name (i := 3) scKe.nd rfl (Or.inl rfl)) (pgs_cons (pg_name (i := 4) scKe.nd rfl (Or.inl rfl)) pgs_nil))))
      (pss_cons (ps_set (i := 5) scKe.nd rfl (Or.inr rfl) (pe_dc (own := [("run", 6)]) (g := gName 6) (tt := tYes) (tk := tFld K (tVar 6) "number") (tv := tVar 6) rfl scKe.nd (pi_tup (pv 4)) (blkOk_by (N := nKe) (sc := defScope (sVM 2)) (by decide +kernel))
        (fun _ _ _ _ _ => pg_name (i := 6) scKe.nd rfl (Or.inl rfl)) (fun _ _ _ _ _ => pts_nil) (fun _ _ _ _ _ => pf 6) (fun _ _ _ _ _ => pv 6)))
      (pss_cons (ps_if (PW.pt (pw_or (pt_cmp (pc_din hu1 (pv 1) (pf 0))) (pw_or1 (pt_val (GC.pe_anyC (j1 := 0) (j2 := 5) (c := c) (P := Pk) (q := qK) qk hr (by rfl) T.any TB rfl (fun h => ⟨rfl, rfl, by decide +kernel, rfl, rfl, h⟩) (by show ∀ y : Str × NameKind, y ∈ _ → _ → List.lookup y.1 (defScope (sVM 2)).names = some .cell ∨ List.lookup y.1 (defScope (sVM 2)).names = some .free; decide +kernel) (pv 3) rfl rfl rfl rfl rfl rfl)))))
          (pss_one (ps_raise rfl (takes_of rfl rfl rfl rfl) (SkE.pmk_own1 PySem.F.excBase_ValueError J.x J.g J.k (raises_own J.b J.t) rfl (pe_joined (.cons (pe_fmt (pv 1)) (.cons pe_str .nil)))))) pss_nil)
      (PSs.nox <| pss_cons (ps_for PassesOwn.never rfl (pi_tup (pv 3)) (pg_name (i := 7) scKe.nd rfl (Or.inl rfl))
          (pss_cons (ps_if (pt_cmp (pc_dnotin hu1 (pv 7) (pf 0))) (pss_one (ps_dput hu1 (pf 0) (pv 7) (pe_dget hu1 (pv 5) (pv 7) (fun _ _ => rfl)) rfl)) pss_nil)
            (pss_one (ps_fld (pv 0) (pe_callB (call_max2 rfl) (by rfl) T.max (by decide +kernel) (pa_cons (pf 0) (pa_cons (pe_op op_add (pv 7) pe_int) pa_nil))) rfl))))
        (pss_one (ps_dput hu1 (pf 0) (pv 1) (pe_callTy call_tuple_of (by rfl) T.tuple (by decide +kernel) (pa_cons (pv 3) pa_nil)) rfl))))), ?_⟩
    have lrs := paired_len hrs
    refine ⟨_, rfl, td, _, rfl, SqT.of htd, rfl, _, _, rfl, _, _, rfl, rfl, ?_⟩
    refine ⟨_, rfl, b, rfl, ⟨_, SqT.of hb⟩, fun D hD => ?_⟩
    have lz : (rs.zip trs).length = rs.length := by rw [List.length_zip]; omega
    refine dcG walk_tup RAd (fun j => (rs.zip trs)[j]?.bind fun e => some (kI e.2.num, e.1)) RAd.stab2 hD (by rw [List.length_map]; omega) (fun H5 e5 => SqT.of (e5 _ _ hb)) (fun i H5 x H6 _ _ h => yat_ex h) (fun j u H5 H6 R0 N0 hj e5 hy hno hsm => ?_) (fun H1 kvs e1 hx1 hkv => ?_)
    · obtain ⟨rfl, hxi⟩ := hy
      rw [List.getElem?_map] at hxi
      obtain ⟨r, hri, rfl⟩ := Option.map_eq_some_iff.mp hxi
      obtain ⟨rn, hrn, hra⟩ := paired_get hrs hri
      obtain ⟨dxr, pr, tr, tsr, kvr, q1, q2⟩ := hra
      have hz : (rs.zip trs)[j]? = some (r, rn) := by rw [List.getElem?_zip_eq_some]; exact ⟨hri, hrn⟩
      refine ⟨rfl, _, rfl, r, CR, dxr, _, _, rfl, e5 _ _ q1, B.clR, B.rN, rfl, _, rfl, ?_⟩
      exact hsm (kI rn.num) r (by rw [hz]; rfl) _ _ (Ex.refl _) rfl
    · -- there
      rw [List.length_map, ← lz, range_fm, map_fm] at hkv
      have hkr : RunsD CR m H1 kvs trs := by
        have ndk : (((rs.zip trs).map fun e => (kI e.2.num, e.1)).map (·.1)).Nodup := by
          rw [List.map_map]
          have e2 : (rs.zip trs).map ((fun x : Key × Addr => x.1) ∘ fun e => (kI e.2.num, e.1)) = ((rs.zip trs).map (·.2)).map fun r => kI r.num := by rw [List.map_map]; rfl
          rw [e2, List.map_snd_zip (by omega)]
          rw [List.nodup_iff_pairwise_ne, List.pairwise_map] at nd ⊢
          exact nd.imp fun h z => h (by have := Sum.inl.inj z; omega)
        rw [foldA_self ndk] at hkv
        have go : ∀ {rs : List Addr} {trs : List Rn} {kvs : List (Key × V)}, Paired (RunAt CR m H1) rs trs → KvR RAd H1 kvs ((rs.zip trs).map fun e => (kI e.2.num, e.1)) → RunsD CR m H1 kvs trs := by
          intro rs trs kvs p
          induction p generalizing kvs with
          | nil => intro h; cases h; exact .nil
          | cons hh _ ih =>
            intro h
            cases h with
            | cons h t => exact .cons ⟨h.1, _, h.2, hh⟩ (ih t)
        exact go (paired_mono (fun _ _ h => h.ex (ExtN.of e1)) hrs) hkv
      have h11 := e1 _ _ h1
      have h21 := e1 _ _ h2
      have h31 := h3.ex (ExtN.of e1)
      have h41 := e1 _ _ h4
      have h51 : TellsD H1 ts vt.tells := h5.kt (Ex.tup e1)
      have ha1 := e1 _ _ ha
      have t1 := tb.ext e1
      refine ⟨_, rfl, _, rfl, v, CV, dx, _, _, rfl, h11, B.clV, B.vT, rfl, vs, _, rfl, DGet.k (k := kS n) h41, _, rfl, ?_⟩
      rw [tellsD_is h51]
      have js : ∀ {R : Str → Hp → Prop} {Hx : Hp} {σ : L2.St}, σ[1]? = some (some (.str n)) → (∀ out, R out Hx) → tJs [tFmt (tVar 1), tC (V.str (Str.ofString " is taken, or runs are missing"))] Str.empty σ Hx R := fun {R Hx σ} hs r => by
        have hsl : sizeLine = 16777216 := rfl
        have e0 : Str.empty.length = 0 := rfl
        have l0 : (Str.ofString " is taken, or runs are missing").length ≤ 100 := by decide +kernel
        refine ⟨_, hs, .inl ⟨n, rfl, by omega, n, rfl, by rw [str_len, e0]; omega, _, rfl, by rw [str_len, str_len, e0]; omega, r _⟩⟩
      by_cases c1 : (vt.tells.any fun p => decide (p.1 = n)) = true
      · refine ifT c1 (ifT rfl ?_)
        exact js rfl fun out => bad (by unfold Q18.badK; rw [c1]; rfl) H1 (ExtN.of e1) t1
      have c1 : (vt.tells.any fun p => decide (p.1 = n)) = false := (Bool.not_eq_true _).mp c1
      refine ifF (by rw [c1]; simp) ?_
      refine ⟨_, rfl, a, natI ns, v, CV, dx, _, vr, ks, D, kvs, rfl, SqT.of ha1, t1 (Pk, qK) (List.mem_cons_of_mem _ (List.mem_cons_of_mem _ (List.mem_cons_self ..))), rfl, h11, B.clV, B.vR, rfl, h21, rfl, hx1, fun H2 tt2 => ⟨_, rfl, ?_⟩⟩
      obtain ⟨x2, t2⟩ := tabs_tabbed ap t1 tt2
      have lk : (natI ns).any (GC.lack ks kvs) = ns.any fun k => !Q18.hasN vt.runs k && !Q18.hasN trs k := by
        unfold natI
        rw [List.any_map]
        congr 1
        funext k
        show ((!(valV ks (kI k)).isSome) && (!(valV kvs (kI k)).isSome)) = _
        rcases runsD_val (n := k) h31 with ⟨g1, g2, _⟩ | ⟨_, _, g1, g2, _⟩ <;> rcases runsD_val (n := k) hkr with ⟨g3, g4, _⟩ | ⟨_, _, g3, g4, _⟩ <;> rw [g1, g2, g3, g4] <;> rfl
      rw [lk]
      by_cases c2 : (ns.any fun k => !Q18.hasN vt.runs k && !Q18.hasN trs k) = true
      · refine ifT c2 ?_
        exact js rfl fun out => bad (by unfold Q18.badK; rw [c2, Bool.or_true]) H2 ((ExtN.of e1).trans x2) t2
      have c2 : (ns.any fun k => !Q18.hasN vt.runs k && !Q18.hasN trs k) = false := (Bool.not_eq_true _).mp c2
      refine ifF (by rw [c2]; simp) ?_
      have hgood : Q18.badK vt n ns trs = false := by unfold Q18.badK; rw [c1, c2]; rfl
      have h12 := x2 _ _ h11 (fun _ z => nomatch z)
      have h22 := x2 _ _ h21 (fun _ z => nomatch z)
      have h32 := h31.ex x2
      have h42 := x2 _ _ h41 (fun _ z => nomatch z)
      have hD2 := x2 _ _ hx1 (fun _ z => nomatch z)
      have hkr2 := hkr.ex x2
      have ha2 := x2 _ _ ha1 (fun _ z => nomatch z)
      have nDr : D ≠ vr := fun z => by rw [z, h2] at hD; cases hD
      have nDv : D ≠ v := fun z => by rw [z, h1] at hD; cases hD
      have nvr : v ≠ vr := fun z => by rw [z, h2] at h1; cases h1
      have nvs : v ≠ vs := fun z => by rw [z, h4] at h1; cases h1
      refine ⟨_, rfl, a, rfl, ⟨_, SqT.of ha2⟩, for_it walk_tup
        (fun i σ H' => (∃ a6 a7, σ = [some (.ref v), some (.str n), some (.ref td), some (.ref a), some (.ref b), some (.ref D), a6, a7]) ∧ (∀ b o, b ≠ v → b ≠ vr → H2 b = some o → H' b = some o) ∧ H' v = some (.ins CV dx (vF vr vs (Q18.nxF (ns.take i) vt.nxt))) ∧ ∃ ks', H' vr = some (.dK ks') ∧ RunsD CR m H' ks' (Q18.addF trs (ns.take i) vt.runs))
        ⟨⟨_, _, rfl⟩, fun b o _ _ h => h, h12, ks, h22, h32⟩ (fun i σ H' _ h => SqT.of (h.2.1 _ _ (fun z => by rw [z, h12] at ha2; cases ha2) (fun z => by rw [z, h22] at ha2; cases ha2) ha2)) ?_ ?_⟩
      · rintro i u σ H' H'' hi ⟨⟨a6, a7, rfl⟩, kp, hv, ks', hvr, hks'⟩ ⟨rfl, hu'⟩
        rw [List.getElem?_map] at hu'
        obtain ⟨z, hz, rfl⟩ := Option.map_eq_some_iff.mp hu'
        unfold natI at hz
        rw [List.getElem?_map] at hz
        obtain ⟨k, hk, rfl⟩ := Option.map_eq_some_iff.mp hz
        have hDi : H'' D = some (.dK kvs) := kp _ _ nDv nDr hD2
        have hkm := List.mem_of_getElem? hk
        have lti : (ns.take i).length ≤ ns.length := by rw [List.length_take]; omega
        have la := Q18.addF_len trs (ns.take i) vt.runs
        have tk := take_snoc' hk
        have ea : Q18.addF trs (ns.take (i + 1)) vt.runs = Q18.step1 trs (Q18.addF trs (ns.take i) vt.runs) k := by rw [tk]; unfold Q18.addF; rw [List.foldl_append]; rfl
        have en : Q18.nxF (ns.take (i + 1)) vt.nxt = max (Q18.nxF (ns.take i) vt.nxt) (k + 1) := by rw [tk]; unfold Q18.nxF; rw [List.foldl_append]; rfl
        have up : ∀ (H3 : Hp) (ks3 : List (Key × V)), (∀ b o, b ≠ v → b ≠ vr → H2 b = some o → H3 b = some o) → H3 v = some (.ins CV dx (vF vr vs (Q18.nxF (ns.take i) vt.nxt))) → H3 vr = some (.dK ks3) → RunsD CR m H3 ks3 (Q18.addF trs (ns.take (i + 1)) vt.runs) →
            (∀ b o, b ≠ v → b ≠ vr → H2 b = some o → (upd H3 v (.ins CV dx (vF vr vs (Q18.nxF (ns.take (i + 1)) vt.nxt)))) b = some o) ∧ (upd H3 v (.ins CV dx (vF vr vs (Q18.nxF (ns.take (i + 1)) vt.nxt)))) v = some (.ins CV dx (vF vr vs (Q18.nxF (ns.take (i + 1)) vt.nxt))) ∧ ∃ ks', (upd H3 v (.ins CV dx (vF vr vs (Q18.nxF (ns.take (i + 1)) vt.nxt)))) vr = some (.dK ks') ∧ RunsD CR m (upd H3 v (.ins CV dx (vF vr vs (Q18.nxF (ns.take (i + 1)) vt.nxt)))) ks' (Q18.addF trs (ns.take (i + 1)) vt.runs) := by
          intro H3 ks3 k3 hv3 hvr3 hr3
          refine ⟨fun b o n1 n2 h => by rw [L2.upd_ne n1]; exact k3 b o n1 n2 h, upd_same, ks3, by rw [L2.upd_ne nvr.symm]; exact hvr3, ?_⟩
          refine runsD_kp (w := (· = v)) hr3 (Kp.upd hv3 (fun _ z => nomatch z) (fun _ z => nomatch z) rfl) (fun b e xs h => by rw [e, hv3] at h; cases h) (fun b e dx n p t h => ?_) fun b e ks h => by rw [e, hv3] at h; cases h
          rw [e, hv3] at h
          exact vins_ne' (Option.some.inj h)
        have mx : (if ((k : Int) + 1 > (Q18.nxF (ns.take i) vt.nxt : Nat)) then ((k : Int) + 1) else ((Q18.nxF (ns.take i) vt.nxt : Nat) : Int)) = ((Q18.nxF (ns.take (i + 1)) vt.nxt : Nat) : Int) := by
          rw [en]
          split <;> omega
        refine ⟨_, rfl, _, rfl, v, CV, dx, _, _, rfl, hv, B.clV, B.vR, rfl, vr, _, rfl, DGet.k (k := kI k) hvr, _, rfl, ?_⟩
        rcases runsD_val (n := k) hks' with ⟨g1, g2, _⟩ | ⟨_, _, g1, g2, _⟩
        · refine ifT (by rw [g1]; rfl) ?_
          have hd : Q18.hasN trs k = true := by
            have := List.any_eq_false.mp c2 k hkm
            by_cases z : Q18.hasN trs k = true
            · exact z
            · exfalso
              have g3 : Q18.hasN vt.runs k = false := by
                by_cases y : Q18.hasN vt.runs k = true
                · obtain ⟨r, hr, e⟩ := Q18.hasN_iff.mp y
                  rw [Q18.hasN_iff.mpr ⟨r, Q18.addF_mem trs _ _ r hr, e⟩] at g2
                  cases g2
                · exact (Bool.not_eq_true _).mp y
              rw [g3, (Bool.not_eq_true _).mp z] at this
              exact this rfl
          rcases runsD_val (n := k) hkr2 with ⟨_, f2, _⟩ | ⟨r, rn, f1, f2, f3, f4⟩
          · rw [f2] at hd; cases hd
          have lk' := paired_len hks'
          refine ⟨_, rfl, _, rfl, D, _, rfl, f1 ▸ DGet.k (k := kI k) hDi, _, rfl, v, CV, dx, _, _, rfl, hv, B.clV, B.vR, rfl, _, rfl, vr, _, rfl, DPut.k (k := kI k) hvr (by have : sizeLine = 16777216 := rfl; omega), ?_⟩
          rw [putK_off g1]
          have hv3 : (upd H'' vr (.dK (ks' ++ [(kI k, .ref r)]))) v = some (.ins CV dx (vF vr vs (Q18.nxF (ns.take i) vt.nxt))) := by rw [L2.upd_ne nvr]; exact hv
          have kv3 : Kp (· = vr) H'' (upd H'' vr (.dK (ks' ++ [(kI k, .ref r)]))) := Kp.upd hvr (fun _ z => nomatch z) (fun _ z => nomatch z) rfl
          have wk1 : ∀ b, b = vr → ∀ xs, H'' b ≠ some (.tup xs) := fun b e xs h => by rw [e, hvr] at h; cases h
          have wk2 : ∀ b, b = vr → ∀ dx n p t, H'' b ≠ some (.ins CR dx (rF n p t)) := fun b e dx n p t h => by rw [e, hvr] at h; cases h
          have wk3 : ∀ b, b = vr → ∀ ks, H'' b ≠ some (.dT ks) := fun b e ks h => by rw [e, hvr] at h; cases h
          have f4' : RunAt CR m H'' r rn := f4.kp (w := fun b => b = v ∨ b = vr) ⟨fun b o h _ n => kp b o (fun z => n (.inl z)) (fun z => n (.inr z)) h, fun b hb => ?_⟩ (fun b e xs h => ?_) (fun b e dx n p t h => ?_) fun b e ks h => ?_
          · have hr3 : RunsD CR m (upd H'' vr (.dK (ks' ++ [(kI k, .ref r)]))) (ks' ++ [(kI k, .ref r)]) (Q18.addF trs (ns.take (i + 1)) vt.runs) := by
              rw [ea]
              unfold Q18.step1
              rw [g2, if_neg (by simp), f3]
              refine paired_app (runsD_kp hks' kv3 wk1 wk2 wk3) (.cons ⟨by rw [(Q18.fetch_in f3).2], r, rfl, f4'.kp kv3 wk1 wk2 fun b z ks hb => absurd hb (wk3 b z ks)⟩ .nil)
            refine ⟨_, rfl, v, CV, dx, _, _, rfl, hv3, B.clV, B.vN, rfl, _, rfl, _, _, rfl, rfl, _, _, rfl, ?_⟩
            rw [mx]
            refine ⟨_, rfl, v, CV, dx, _, rfl, hv3, B.clV, B.vN, (by show 3 < 1000; decide), ⟨_, _, rfl⟩, ?_⟩
            exact up _ _ (fun b o n1 n2 h => by rw [L2.upd_ne n2]; exact kp b o n1 n2 h) hv3 upd_same hr3
          · intro o ho
            by_cases z : b = v ∨ b = vr
            · rcases z with z | z
              · rw [z, h12] at ho
                obtain ⟨ps, z2⟩ := hb _ (by rw [z]; exact hv)
                cases z2
              · rw [z, h22] at ho
                obtain ⟨ps, z2⟩ := hb _ (by rw [z]; exact hvr)
                cases z2
            · exact hb o (kp b o (fun y => z (.inl y)) (fun y => z (.inr y)) ho)
          · rcases e with e | e
            · rw [e, h12] at h; cases h
            · rw [e, h22] at h; cases h
          · rcases e with e | e
            · rw [e, h12] at h; exact vins_ne' (Option.some.inj h)
            · rw [e, h22] at h; cases h
          · rcases e with e | e
            · rw [e, h12] at h; cases h
            · rw [e, h22] at h; cases h
        · refine ifF (by rw [g1]; simp) ?_
          have hr3 : RunsD CR m H'' ks' (Q18.addF trs (ns.take (i + 1)) vt.runs) := by
            rw [ea]
            unfold Q18.step1
            rw [g2, if_pos rfl]
            exact hks'
          refine ⟨_, rfl, v, CV, dx, _, _, rfl, hv, B.clV, B.vN, rfl, _, rfl, _, _, rfl, rfl, _, _, rfl, ?_⟩
          rw [mx]
          refine ⟨_, rfl, v, CV, dx, _, rfl, hv, B.clV, B.vN, (by show 3 < 1000; decide), ⟨_, _, rfl⟩, ?_⟩
          exact up _ _ kp hv hvr hr3
      · rintro σ H3 ⟨⟨a6, a7, rfl⟩, kp, hv, ks', hvr, hks'⟩
        have ln : ((natI ns).map V.int).length = ns.length := by unfold natI; rw [List.length_map, List.length_map]
        rw [ln, List.take_length] at hv hks'
        have ha3 := kp _ _ (fun z => by rw [z, h12] at ha2; cases ha2) (fun z => by rw [z, h22] at ha2; cases ha2) ha2
        have h43 : H3 vs = some (.dK ts) := kp _ _ nvs.symm h6.symm h42
        have nt : valV ts (kS n) = none := by
          have := tellsD_is (n := n) h51
          rw [c1] at this
          cases e : valV ts (kS n) with
          | none => rfl
          | some _ => rw [e] at this; cases this
        have lts := paired_len h5
        refine ⟨_, rfl, a, _, rfl, .inr ⟨SqT.of ha3, _, rfl, v, CV, dx, _, _, rfl, hv, B.clV, B.vT, rfl, _, rfl, vs, _, rfl, DPut.k (k := kS n) h43 (by have : sizeLine = 16777216 := rfl; omega), ?_⟩⟩
        rw [putK_off nt]
        have hv4 : (upd H3 vs (.dK (ts ++ [(kS n, .ref a)]))) v = some (.ins CV dx (vF vr vs (Q18.nxF ns vt.nxt))) := by rw [L2.upd_ne nvs]; exact hv
        have hvr4 : (upd H3 vs (.dK (ts ++ [(kS n, .ref a)]))) vr = some (.dK ks') := by rw [L2.upd_ne h6]; exact hvr
        have keep4 : ∀ b o, b ≠ v → b ≠ vr → b ≠ vs → H2 b = some o → (upd H3 vs (.dK (ts ++ [(kS n, .ref a)]))) b = some o := fun b o n1 n2 n3 h => by rw [L2.upd_ne n3]; exact kp b o n1 n2 h
        have kt4 : KtTup H2 (upd H3 vs (.dK (ts ++ [(kS n, .ref a)]))) := fun b xs h => keep4 b _ (fun z => by rw [z, h12] at h; cases h) (fun z => by rw [z, h22] at h; cases h) (fun z => by rw [z, h42] at h; cases h) h
        have kv4 : Kp (· = vs) H3 (upd H3 vs (.dK (ts ++ [(kS n, .ref a)]))) := Kp.upd h43 (fun _ z => nomatch z) (fun _ z => nomatch z) rfl
        have hr4 : RunsD CR m (upd H3 vs (.dK (ts ++ [(kS n, .ref a)]))) ks' (Q18.addF trs ns vt.runs) := runsD_kp hks' kv4 (fun b e xs h => by rw [e, h43] at h; cases h) (fun b e dx n p t h => by rw [e, h43] at h; cases h) (fun b e ks h => by rw [e, h43] at h; cases h)
        have ht4 : TellsD (upd H3 vs (.dK (ts ++ [(kS n, .ref a)]))) (ts ++ [(kS n, .ref a)]) (vt.tells ++ [(n, ns)]) := paired_app (h51.kt fun b xs h => kt4 b xs (x2 _ _ h (fun _ z => nomatch z))) (.cons ⟨rfl, a, rfl, kt4 _ _ ha2⟩ .nil)
        have hs4 : (upd H3 vs (.dK (ts ++ [(kS n, .ref a)]))) vs = some (.dK (ts ++ [(kS n, .ref a)])) := upd_same
        have x12 := (ExtN.of e1).trans x2
        refine good hgood _ ⟨⟨fun b o h nt nw => ?_, fun b nb => ?_⟩, fun b hb => ?_, ⟨dx, vr, vs, ks', _, hv4, hvr4, hr4, hs4, ht4, h6⟩, tabs_kp t2 fun b o h n1 n2 n3 n4 => ?_⟩
        · exact keep4 b o (fun z => nw (z ▸ (wV_mk h1).1)) (fun z => nw (z ▸ (wV_mk h1).2.1)) (fun z => nw (z ▸ (wV_mk h1).2.2)) (x12 b o h nt)
        · refine NewN.back (H' := H2) (fun o ho => ?_) x12
          by_cases z : b = v ∨ b = vr ∨ b = vs
          · rcases z with z | z | z
            · obtain ⟨ps, e⟩ := nb _ (by rw [z]; exact hv4); cases e
            · obtain ⟨ps, e⟩ := nb _ (by rw [z]; exact hvr4); cases e
            · obtain ⟨ps, e⟩ := nb _ (by rw [z]; exact hs4); cases e
          · exact nb o (keep4 b o (fun y => z (.inl y)) (fun y => z (.inr (.inl y))) (fun y => z (.inr (.inr y))) ho)
        · left
          rcases hb with e | ⟨dx', r', s', n', e, z⟩
          · exact .inl e
          · rw [hv4] at e
            have er : vr = r' := by cases e; rfl
            have es : vs = s' := by cases e; rfl
            rcases z with z | z
            · rw [z, ← er]; exact (wV_mk h1).2.1
            · rw [z, ← es]; exact (wV_mk h1).2.2
        · exact keep4 b o (fun z => by rw [z, h12] at h; exact n2 _ _ _ (Option.some.inj h).symm) (fun z => by rw [z, h22] at h; exact n3 _ (Option.some.inj h).symm) (fun z => by rw [z, h42] at h; exact n3 _ (Option.some.inj h).symm) h
end
end K18
set_option Elab.async false
set_option linter.all false
set_option maxRecDepth 100000
set_option maxHeartbeats 4000000
namespace D2
open PySem PySem.Spec PyProof.Rows L2
theorem ct2_out (kx vx t0 i0 t1 i1 : Expr) (ifs0 ifs1 : List Expr) (scope : Scope) (pos : Pos) (it acc : Value) (env : PySem.Env) :
    compTurn (.DictComp kx vx [⟨t0, i0, ifs0, 0⟩, ⟨t1, i1, ifs1, 0⟩] scope pos) 0 it acc env = (do
      standAt i0.pos
      match ← pyNext it with
      | none => pure (.done .next)
      | some v =>
        letOwnedTupleGo t0 it v
        assign t0 env v
        let mut ok := true
        for c in ifs0 do
          if ok then ok ← isTrue c env (eval c env)
        if ok then
          let x ← eval i1 env
          standAt i1.pos
          let x ← foldedSetIterable i1 env x
          let _ ← runOwn (.compStart (.DictComp kx vx [⟨t0, i0, ifs0, 0⟩, ⟨t1, i1, ifs1, 0⟩] scope pos) 1 (← holding [x] (pyIter x)) acc env) env
        again (.compLoop (.DictComp kx vx [⟨t0, i0, ifs0, 0⟩, ⟨t1, i1, ifs1, 0⟩] scope pos) 0 it acc env)) := by rfl
theorem ct2_in (kx vx t0 i0 t1 i1 : Expr) (ifs0 ifs1 : List Expr) (scope : Scope) (pos : Pos) (it : Value) (D : Addr) (env : PySem.Env) :
    compTurn (.DictComp kx vx [⟨t0, i0, ifs0, 0⟩, ⟨t1, i1, ifs1, 0⟩] scope pos) 1 it (.ref D) env = (do
      standAt i1.pos
      match ← pyNext it with
      | none => pure (.done .next)
      | some v =>
        letOwnedTupleGo t1 it v
        assign t1 env v
        let mut ok := true
        for c in ifs1 do
          if ok then ok ← isTrue c env (eval c env)
        if ok then
          (do
            let kv ← eval kx env
            let vv ← holding [kv] (eval vx env)
            standAt { kx.pos with endLine := vx.pos.endLine, endCol := vx.pos.endCol }
            holding [kv, vv] (dictSet D kv vv))
        again (.compLoop (.DictComp kx vx [⟨t0, i0, ifs0, 0⟩, ⟨t1, i1, ifs1, 0⟩] scope pos) 1 it (.ref D) env)) := by rfl

section
variable {prog : Program} {w : World} {A : Around} {R : Result → Shared → Prop} {s : Shared} {kx vx t0 i0 t1 i1 : Expr} {ifs0 ifs1 : List Expr} {scope : Scope} {pos : Pos} {it acc : Value} {D : Addr} {env : PySem.Env}
theorem cl2_out (hs : ∀ x, foldedSetIterable i1 env x = pure x) (I : Nat → Shared → Prop)
    (turn : ∀ n s, I n s → wpAny (model prog w) A (pyNext it) (fun r r₁ => match r with
      | none => R (.ok .next) r₁
      | some v => wpAny (model prog w) A (letOwnedTupleGo t0 it v) (fun _ r₁' => wpAny (model prog w) A (assign t0 env v) (fun _ r₂ =>
          wpAny (model prog w) A (forIn ifs0 true fun c r => if r = true then do let ok ← isTrue c env (eval c env); pure (ForInStep.yield ok) else pure (ForInStep.yield r)) (fun ok r₃ =>
            if ok = true then wpAny (model prog w) A (eval i1 env) (fun x r₄ => wpAny (model prog w) A (pyIter x) (fun it1 r₅ =>
              codeAny (model prog w) A (.compStart (.DictComp kx vx [⟨t0, i0, ifs0, 0⟩, ⟨t1, i1, ifs1, 0⟩] scope pos) 1 it1 acc env) (fun r s' => match r with
                | .ok _ => ∃ m, m < n ∧ I m s'
                | .error _ => False) r₅) (notedBy (model prog w) A env fun e s' => R (.error e) s') r₄) (notedBy (model prog w) A env fun e s' => R (.error e) s') r₃
            else ∃ m, m < n ∧ I m r₃) (notedBy (model prog w) A env fun e s' => R (.error e) s') r₂) (notedBy (model prog w) A env fun e s' => R (.error e) s') r₁') (notedBy (model prog w) A env fun e s' => R (.error e) s') r₁) (notedBy (model prog w) A env fun e s' => R (.error e) s') s)
    (n : Nat) (h : I n s) :
    codeAny (model prog w) A (.compLoop (.DictComp kx vx [⟨t0, i0, ifs0, 0⟩, ⟨t1, i1, ifs1, 0⟩] scope pos) 0 it acc env) R s := by
  refine codeAny_loop rfl I (fun n s hI => ?_) n h
  show wpAny _ A ((compTurn (.DictComp kx vx [⟨t0, i0, ifs0, 0⟩, ⟨t1, i1, ifs1, 0⟩] scope pos) 0 it acc env).onRaise (fun x => do noteFrame x env; theTreesLotGoes x)) _ _ s
  refine wpAny_noted ?_
  rw [ct2_out]
  refine wpAny_bind (wpAny_standAt (wpAny_bind (wpAny_mono (turn n s hI) (fun r r₁ g₁ => ?_) fun _ _ z => z)))
  cases r with
  | none => exact wpAny_pure g₁
  | some v =>
    refine wpAny_bind (wpAny_mono g₁ (fun _ r₁' g₁' => ?_) fun _ _ z => z)
    refine wpAny_bind (wpAny_mono g₁' (fun _ r₂ g₂ => wpAny_bind (wpAny_mono g₂ (fun ok r₃ g₃ => ?_) fun _ _ z => z)) fun _ _ z => z)
    cases ok with
    | false => exact wpAny_pure ⟨rfl, g₃⟩
    | true =>
      refine wpAny_bind (wpAny_mono g₃ (fun x r₄ g₄ => ?_) fun _ _ z => z)
      refine wpAny_bind (wpAny_standAt (wpAny_bind (wpAny_of_eq (hs x) (wpAny_bind (wpAny_holding (wpAny_mono g₄ (fun it1 r₅ g₅ => ?_) fun _ _ z => z))))))
      refine wpAny_bind (wpAny_runOwn ?_)
      rw [Around.mark_none]
      refine codeAny_mono g₅ fun r s' hr => ?_
      cases r with
      | ok f =>
        first
          | exact wpAny_pure ⟨rfl, hr⟩
          | exact wpAny_bind (wpAny_pure (wpAny_pure ⟨rfl, hr⟩))
      | error e => exact hr.elim
theorem cl2_in (I : Nat → Shared → Prop)
    (turn : ∀ n s, I n s → wpAny (model prog w) A (pyNext it) (fun r r₁ => match r with
      | none => R (.ok .next) r₁
      | some v => wpAny (model prog w) A (letOwnedTupleGo t1 it v) (fun _ r₁' => wpAny (model prog w) A (assign t1 env v) (fun _ r₂ =>
          wpAny (model prog w) A (forIn ifs1 true fun c r => if r = true then do let ok ← isTrue c env (eval c env); pure (ForInStep.yield ok) else pure (ForInStep.yield r)) (fun ok r₃ =>
            if ok = true then wpAny (model prog w) A (eval kx env) (fun kv r₄ => wpAny (model prog w) A (eval vx env) (fun vv r₅ =>
              wpAny (model prog w) A (dictSet D kv vv) (fun _ s₆ => ∃ m, m < n ∧ I m s₆) (notedBy (model prog w) A env fun e s' => R (.error e) s') r₅) (notedBy (model prog w) A env fun e s' => R (.error e) s') r₄) (notedBy (model prog w) A env fun e s' => R (.error e) s') r₃
            else ∃ m, m < n ∧ I m r₃) (notedBy (model prog w) A env fun e s' => R (.error e) s') r₂) (notedBy (model prog w) A env fun e s' => R (.error e) s') r₁') (notedBy (model prog w) A env fun e s' => R (.error e) s') r₁) (notedBy (model prog w) A env fun e s' => R (.error e) s') s)
    (n : Nat) (h : I n s) :
    codeAny (model prog w) A (.compLoop (.DictComp kx vx [⟨t0, i0, ifs0, 0⟩, ⟨t1, i1, ifs1, 0⟩] scope pos) 1 it (.ref D) env) R s := by
  refine codeAny_loop rfl I (fun n s hI => ?_) n h
  show wpAny _ A ((compTurn (.DictComp kx vx [⟨t0, i0, ifs0, 0⟩, ⟨t1, i1, ifs1, 0⟩] scope pos) 1 it (.ref D) env).onRaise (fun x => do noteFrame x env; theTreesLotGoes x)) _ _ s
  refine wpAny_noted ?_
  rw [ct2_in]
  refine wpAny_bind (wpAny_standAt (wpAny_bind (wpAny_mono (turn n s hI) (fun r r₁ g₁ => ?_) fun _ _ z => z)))
  cases r with
  | none => exact wpAny_pure g₁
  | some v =>
    refine wpAny_bind (wpAny_mono g₁ (fun _ r₁' g₁' => ?_) fun _ _ z => z)
    refine wpAny_bind (wpAny_mono g₁' (fun _ r₂ g₂ => wpAny_bind (wpAny_mono g₂ (fun ok r₃ g₃ => ?_) fun _ _ z => z)) fun _ _ z => z)
    cases ok with
    | false => exact wpAny_pure ⟨rfl, g₃⟩
    | true =>
      exact wpAny_bind (wpAny_bind (wpAny_mono g₃ (fun kv r₄ g₄ => wpAny_bind (wpAny_holding (wpAny_mono g₄ (fun vv r₅ g₅ => wpAny_bind (wpAny_standAt (wpAny_holding (wpAny_mono g₅ (fun _ s₆ h₆ => wpAny_pure ⟨rfl, h₆⟩) fun _ _ z => z)))) fun _ _ z => z))) fun _ _ z => z))
theorem cs1_ok (h0 : codeAny (model prog w) A (.compLoop (.DictComp kx vx [⟨t0, i0, ifs0, 0⟩, ⟨t1, i1, ifs1, 0⟩] scope pos) 1 it acc env) R s)
    (h : wpAny (model prog w) A (pyIter it) (fun it' s' => codeAny (model prog w) A (.compLoop (.DictComp kx vx [⟨t0, i0, ifs0, 0⟩, ⟨t1, i1, ifs1, 0⟩] scope pos) 1 it' acc env) R s')
      (notedBy (model prog w) A env fun x s' => R (.error x) s') s) :
    codeAny (model prog w) A (.compStart (.DictComp kx vx [⟨t0, i0, ifs0, 0⟩, ⟨t1, i1, ifs1, 0⟩] scope pos) 1 it acc env) R s := by
  refine codeAny_of_tree ?_
  show wpAny _ _ ((compStart (.DictComp kx vx [⟨t0, i0, ifs0, 0⟩, ⟨t1, i1, ifs1, 0⟩] scope pos) 1 it acc env).onRaise (fun x => do noteFrame x env; standAt theWindowsPlace)) _ _ s
  refine wpAny_notedAt ?_
  unfold compStart
  show wpAny _ _ (ask >>= _) _ _ s
  refine wpAny_bind (wpAny_askSetting (wpAny_ite ?_))
  split
  · first
      | exact wpAny_bind (wpAny_pure (wpAny_pure (And.intro rfl h0)))
      | exact wpAny_pure (And.intro rfl h0)
  · first
      | exact wpAny_bind (wpAny_rule (wpAny_bind (wpAny_standAt (wpAny_bind (wpAny_mono h (fun it' s' h' => wpAny_pure (And.intro rfl h')) fun _ _ x => x)))))
      | (refine wpAny_bind (wpAny_rule ?_); show wpAny _ _ (standAt i1.pos >>= _) _ _ s; exact wpAny_bind (wpAny_standAt (wpAny_bind (wpAny_mono h (fun it' s' h' => wpAny_pure (And.intro rfl h')) fun _ _ x => x))))
end

section
variable {X : Cx}
def tDc2 (wi : TI) (g : TG) (tt : TT) (wi1 : TI) (g1 : TG) (tt1 : TT) (tk tv : TE) (vs vs1 : List Nat) : TE := fun σ H Q => wi σ H fun J G1 => ∀ D, G1 D = none → ∃ W : Nat → Nat → Hp → Prop, (∃ m, W 0 m (upd G1 D (.dK []))) ∧ ∀ i m H, W i m H →
  (J.stop i H ∧ Q (.ref D) H) ∨ (J.go i H ∧ ∃ Nx : Hp → Prop, (∀ H', Nx H' → ∃ m', m' < m ∧ W (i + 1) m' H') ∧ ∀ x H', J.yld i H x H' → g x (wipe σ vs) H' fun σ2 G2 => wipe σ2 vs = wipe σ vs ∧ tt σ2 G2 fun b G3 =>
    if b = true then wi1 σ2 G3 fun J1 G4 => ∃ W1 : Nat → Nat → Hp → Prop, (∃ m, W1 0 m G4) ∧ ∀ j k H, W1 j k H →
      (J1.stop j H ∧ Nx H) ∨ (J1.go j H ∧ ∃ Nx1 : Hp → Prop, (∀ H', Nx1 H' → ∃ k', k' < k ∧ W1 (j + 1) k' H') ∧ ∀ x H', J1.yld j H x H' → g1 x (wipe σ2 vs1) H' fun σ3 G5 => wipe σ3 vs1 = wipe σ2 vs1 ∧ tt1 σ3 G5 fun b G6 =>
        if b = true then tk σ3 G6 fun y G7 => tv σ3 G7 fun z G8 => ∃ kvs k, y = kV k ∧ G8 D = some (.dK kvs) ∧ kvs.length < sizeLine ∧ Nx1 (upd G8 D (.dK (putK kvs k z))) else Nx1 G6)
    else Nx G3)
theorem dc2_core {pins : List (Addr × Obj)} {s : Shared} {σ : L2.St} {H : Hp} {Q : VK} {kx vx tg iter tg1 iter1 : Expr} {ifs ifs1 : List Expr} {scope : Scope} {own : List (Str × Nat)} {vs1 : List Nat} {pos pos' : Pos} {wi wi1 : TI} {g g1 : TG} {tt tt1 : TT} {tk tv : TE} {use : Option (Value → Sem Unit)} {Qf : Value → Shared → Prop}
    (hc : X.calm = true) (hN : X.N.Nodup) (I : Inv X pins σ H s) (hi : PI X tg iter wi) (ok : BlkOk X.N X.env.scope scope own) (hv : ∀ i ∈ vs1, i ∈ own.map (·.2))
    (hg : ∀ (s : Shared) (H : Hp) (C : Addr) (cl : List (Str × Addr)) (fp : List Addr), PG (X.blk s H scope (compEnvC scope cl C X.env) fp) tg g) (ht : ∀ (s : Shared) (H : Hp) (C : Addr) (cl : List (Str × Addr)) (fp : List Addr), PTs (X.blk s H scope (compEnvC scope cl C X.env) fp) ifs tt)
    (hk : ∀ (s : Shared) (H : Hp) (C : Addr) (cl : List (Str × Addr)) (fp : List Addr), PE (X.blk s H scope (compEnvC scope cl C X.env) fp) kx tk)
    (he : ∀ (s : Shared) (H : Hp) (C : Addr) (cl : List (Str × Addr)) (fp : List Addr), PE (X.blk s H scope (compEnvC scope cl C X.env) fp) vx tv) (hs : ∀ x, foldedSetIterable iter X.env x = pure x)
    (hi1 : ∀ (s : Shared) (H : Hp) (C : Addr) (cl : List (Str × Addr)) (fp : List Addr), PI (X.blk s H scope (compEnvC scope cl C X.env) fp) tg1 iter1 wi1)
    (hg1 : ∀ (s : Shared) (H : Hp) (C : Addr) (cl : List (Str × Addr)) (fp : List Addr), PG (X.blk s H scope (compEnvC scope cl C X.env) fp) tg1 g1)
    (ht1 : ∀ (s : Shared) (H : Hp) (C : Addr) (cl : List (Str × Addr)) (fp : List Addr), PTs (X.blk s H scope (compEnvC scope cl C X.env) fp) ifs1 tt1)
    (hs1 : ∀ env x, foldedSetIterable iter1 env x = pure x)
    (h : tDc2 wi g tt wi1 g1 tt1 tk tv (own.map (·.2)) vs1 σ H Q)
    (hRR : ∀ D C s' m H', Inv X pins σ H' s' → Q (.ref D) H' → s'.heap.Ns C m → FpOk X pins H' C → compPost (model X.prog X.w) X.A X.xe use Qf (.ref D) C (.ok .next) s') :
    wpAny (model X.prog X.w) X.A (comprehension (.DictComp kx vx [⟨tg, iter, ifs, 0⟩, ⟨tg1, iter1, ifs1, 0⟩] scope pos) scope X.env pos' newDict false (eval iter X.env) use) Qf X.xe s := by
  have hfr : ∀ y ∈ scope.names, y.2 = .free → ∃ c, X.env.cells.lookup y.1 = some c := fun y hy e => by
    rcases ok.free y hy e with k | k
    · exact I.ok.has _ (.inl k)
    · exact I.ok.has _ (.inr k)
  refine wpAny_comprehension_free (use := use) rfl hs (closure_ok hfr) ok.kind (fun y hy e => by rw [ok.uniq y hy, e])
    (thn (hi.run pins s σ H _ I h) fun xv r1 hx => thn hx fun itv r2 eh2 => ?_)
  obtain ⟨it, fp, tn, J, G2, e, J2, T, u2, f2, q⟩ := eh2
  subst e
  refine wpAny_newObj_type (newEnv_comp ?_)
  generalize hD : r2.heap.objs.size = D
  have hDn : G2 D = none := J2.hok.fresh (Nat.le_of_eq hD)
  obtain ⟨W, ⟨m0, w0⟩, turn⟩ := q D hDn
  generalize e3 : ({ r2 with heap := r2.heap.push { cls := .type "dict", data := .dict #[] } } : Shared) = r3
  have J3 : Inv X pins σ (upd G2 D (.dK [])) r3 := by
    rw [← e3]
    refine J2.laid (t' := r2.toks) (fun b o e => Heap.get?_push_of_some _ e) (Nat.le_of_eq hD) ?_
    rw [← hD]
    exact dk_empty r2.heap J2.big
  have eh3 : r3.heap = r2.heap.push { cls := .type "dict", data := .dict #[] } := by rw [← e3]
  have sz : ∀ b ∈ fp, b < r2.heap.objs.size := fun b hb => by
    obtain ⟨o, e, _⟩ := T.obj _ _ u2 b hb
    exact Heap.lt_size e
  have f3 : ∀ b ∈ fp, FpOk X pins (upd G2 D (.dK [])) b ∧ b < r3.heap.objs.size := fun b hb => by
    have hlt := sz b hb
    refine ⟨⟨?_, (f2 b hb).2⟩, by rw [eh3, Heap.size_push]; exact Nat.lt_succ_of_lt hlt⟩
    rw [upd_ne (by rw [← hD]; exact Nat.ne_of_lt hlt)]
    exact (f2 b hb).1
  have u3 : tn 0 r3.heap := T.keep _ _ _ u2 fun b _ o e => by rw [eh3]; exact Heap.get?_push_of_some _ e
  have J4 := block_start J3 ok hN f3
  have pg := hg r3 (upd G2 D (.dK [])) r3.heap.objs.size (cellsFrom (r3.heap.objs.size + 1) scope.names (cloFrom X.env.cells scope.names [])) fp
  have pt := ht r3 (upd G2 D (.dK [])) r3.heap.objs.size (cellsFrom (r3.heap.objs.size + 1) scope.names (cloFrom X.env.cells scope.names [])) fp
  have pk := hk r3 (upd G2 D (.dK [])) r3.heap.objs.size (cellsFrom (r3.heap.objs.size + 1) scope.names (cloFrom X.env.cells scope.names [])) fp
  have pe := he r3 (upd G2 D (.dK [])) r3.heap.objs.size (cellsFrom (r3.heap.objs.size + 1) scope.names (cloFrom X.env.cells scope.names [])) fp
  have pi1 := hi1 r3 (upd G2 D (.dK [])) r3.heap.objs.size (cellsFrom (r3.heap.objs.size + 1) scope.names (cloFrom X.env.cells scope.names [])) fp
  have pg1 := hg1 r3 (upd G2 D (.dK [])) r3.heap.objs.size (cellsFrom (r3.heap.objs.size + 1) scope.names (cloFrom X.env.cells scope.names [])) fp
  have pt1 := ht1 r3 (upd G2 D (.dK [])) r3.heap.objs.size (cellsFrom (r3.heap.objs.size + 1) scope.names (cloFrom X.env.cells scope.names [])) fp
  show codeAny _ _ (.compStart (.DictComp kx vx [⟨tg, iter, ifs, 0⟩, ⟨tg1, iter1, ifs1, 0⟩] scope pos) 0 (.ref it) (.ref D) (compEnvC scope (cellsFrom (r3.heap.objs.size + 1) scope.names (cloFrom X.env.cells scope.names [])) r3.heap.objs.size X.env)) (compPost (model X.prog X.w) X.A X.xe use Qf (.ref D) r3.heap.objs.size) { r3 with heap := pushCells (r3.heap.push { cls := .type "dict", data := .dict #[] }) scope.names }
  have nfp : ∀ b ∈ fp, (upd G2 D (.dK [])) b = none := fun b hb => (f3 b hb).1.1
  generalize hce : compEnvC scope (cellsFrom (r3.heap.objs.size + 1) scope.names (cloFrom X.env.cells scope.names [])) r3.heap.objs.size X.env = ce at J4 pg pt pk pe pi1 pg1 pt1 ⊢
  have cL : ce.locals = r3.heap.objs.size := by subst hce; rfl
  generalize hH3 : upd G2 D (.dK []) = G3 at J3 J4 pg pt pk pe pi1 pg1 pt1 w0 nfp f3
  generalize e4 : ({ r3 with heap := pushCells (r3.heap.push { cls := .type "dict", data := .dict #[] }) scope.names } : Shared) = r4 at J4 ⊢
  have u4 : tn 0 r4.heap := T.keep _ _ _ u3 fun b _ o e => by rw [← e4]; exact pushCells_keeps _ _ _ _ (Heap.get?_push_of_some _ e)
  have stat : ∀ {σ' : L2.St} {H' : Hp} {s' : Shared}, Inv (X.blk r3 G3 scope ce fp) [] σ' H' s' → (∀ b ∈ fp, H' b = none) → ∀ b ∈ fp, FpOk (X.blk r3 G3 scope ce fp) [] H' b := fun {σ' H' s'} I' hn b hb =>
    ⟨hn b hb, (I'.ok.exf b hb).1, I'.ok.exfs b hb, .inl hb, fun x c e => (I'.ok.exf b hb).2 x c e, fun p hp => absurd (show p ∈ ([] : List (Addr × Obj)) ++ [] from hp) (by simp)⟩
  have loop : codeAny (model X.prog X.w) X.A (.compLoop (.DictComp kx vx [⟨tg, iter, ifs, 0⟩, ⟨tg1, iter1, ifs1, 0⟩] scope pos) 0 (.ref it) (.ref D) ce) (compPost (model X.prog X.w) X.A X.xe use Qf (.ref D) r3.heap.objs.size) r4 := by
    refine cl2_out (hs1 ce) (fun n s' => ∃ i H', Inv (X.blk r3 G3 scope ce fp) [] (wipe σ (own.map (·.2))) H' s' ∧ tn i s'.heap ∧ (∀ b ∈ fp, H' b = none) ∧ W i n H') ?_ m0 ⟨0, G3, J4, u4, nfp, w0⟩
    rintro n r5 ⟨i, G5, J5, u5, n5, w5⟩
    rcases turn i n G5 w5 with ⟨stop, qq⟩ | ⟨go, Nx, hNx, step⟩
    · have td := T.done (X.blk r3 G3 scope ce fp) rfl rfl rfl hc i [] r5 _ G5 (fun _ _ => False) J5 (stat J5 n5) u5 stop
      refine thnF td fun r r6 ⟨hr, J6⟩ => ?_
      subst hr
      have J7 : Inv X pins σ G5 r6 := J3.call' (ch := fp) J6.os J6.base J6.hok J6.bare fun b hb => ⟨(f3 b hb).1.2.2.2.1, (f3 b hb).1.2.1, (f3 b hb).1.2.2.2.2.1, (f3 b hb).1.2.2.2.2.2⟩
      have nC : G5 r3.heap.objs.size = none := by
        have z : G5 ce.locals = none := J6.free
        rw [cL] at z
        exact z
      obtain ⟨m, hn, _⟩ := J6.loc
      have hn : r6.heap.Ns ce.locals m := hn
      rw [cL] at hn
      exact hRR D r3.heap.objs.size r6 m G5 J7 qq hn (J3.fpOk (Nat.le_refl _) nC)
    · have ti := T.item (X.blk r3 G3 scope ce fp) rfl rfl rfl hc i [] r5 _ G5 (fun _ _ => False) J5 (stat J5 n5) u5 go
      refine thnF ti fun r r6 ⟨u, hr, h6⟩ => ?_
      subst hr
      refine thnF h6 fun _ sq7 ⟨x, G7, J7, r7, y7, u7, n7⟩ => ?_
      have J7' := J7.pinned (stat J7 n7) (T.obj _ _ u7)
      refine thnF (pg.run _ sq7 _ G7 x u _ J7' r7 (step x G7 y7)) fun _ r8 ⟨σ8, G8, J8, hw8, q8⟩ => ?_
      refine thnF (pt.run _ r8 σ8 G8 _ J8 q8) fun b r9 ⟨G9, J9, q9⟩ => ?_
      have fin : ∀ {σ9 : L2.St} {s' : Shared} {H' : Hp}, Inv (X.blk r3 G3 scope ce fp) ([] ++ pinsAt fp sq7.heap) σ9 H' s' → (wipe σ (own.map (·.2))).length = σ9.length → (∀ (j : Nat) v, (wipe σ (own.map (·.2)))[j]? = some (some v) → σ9[j]? = some (some v)) → Nx H' →
          ∃ m, m < n ∧ ∃ i H', Inv (X.blk r3 G3 scope ce fp) [] (wipe σ (own.map (·.2))) H' s' ∧ tn i s'.heap ∧ (∀ b ∈ fp, H' b = none) ∧ W i m H' := fun {σ9 s' H'} I' hl hk nx => by
        obtain ⟨m', hm, w'⟩ := hNx H' nx
        have pin' : ∀ b ∈ fp, ∀ o, sq7.heap.get? b = some o → s'.heap.get? b = some o ∧ H' b = none := fun b hb o e =>
          let z := I'.pin (b, o) (List.mem_append_right _ (List.mem_append_right _ (mem_pinsAt hb e)))
          ⟨z.1, z.2.1⟩
        refine ⟨m', hm, i + 1, H', (I'.unpinned (pins := [])).weak hl hk, T.keep _ _ _ u7 fun b hb o e => (pin' b hb o e).1, fun b hb => ?_, w'⟩
        obtain ⟨o, e, _⟩ := T.obj _ _ u7 b hb
        exact (pin' b hb o e).2
      have hl8 : (wipe σ (own.map (·.2))).length = σ8.length := by rw [← hw8, wipe_length]
      have hk8 : ∀ (j : Nat) v, (wipe σ (own.map (·.2)))[j]? = some (some v) → σ8[j]? = some (some v) := fun j v e => by
        rw [← hw8] at e
        exact (wipe_some e).1
      have hk9 : ∀ (j : Nat) v, (wipe σ (own.map (·.2)))[j]? = some (some v) → (wipe σ8 vs1)[j]? = some (some v) := fun j v e => by
        rw [← hw8] at e
        obtain ⟨e1, e2⟩ := wipe_some e
        rw [wipe_out fun z => e2 (hv j z)]
        exact e1
      cases b with
      | false =>
        simp only [Bool.false_eq_true, if_false] at q9 ⊢
        exact fin J9 hl8 hk8 q9
      | true =>
        simp only [if_true] at q9 ⊢
        refine thnF (pi1.run _ r9 σ8 G9 _ J9 q9) fun xv r10 hx => thnF hx fun itv r11 h11 => ?_
        obtain ⟨it1, fp1, tn1, J1, G11, e1, J11, T1, u11, f11, W1, ⟨m1, w1⟩, turn1⟩ := h11
        subst e1
        have stat1 : ∀ {H' : Hp}, (∀ b ∈ fp1, H' b = none) → ∀ b ∈ fp1, FpOk (X.blk r3 G3 scope ce fp) ([] ++ pinsAt fp sq7.heap) H' b := fun hn b hb => ⟨hn b hb, (f11 b hb).2⟩
        have loop1 : codeAny (model X.prog X.w) X.A (.compLoop (.DictComp kx vx [⟨tg, iter, ifs, 0⟩, ⟨tg1, iter1, ifs1, 0⟩] scope pos) 1 (.ref it1) (.ref D) ce)
            (fun r s' => match r with
              | .ok _ => ∃ m, m < n ∧ ∃ i H', Inv (X.blk r3 G3 scope ce fp) [] (wipe σ (own.map (·.2))) H' s' ∧ tn i s'.heap ∧ (∀ b ∈ fp, H' b = none) ∧ W i m H'
              | .error _ => False) r11 := by
          refine cl2_in (fun k s' => ∃ j H', Inv (X.blk r3 G3 scope ce fp) ([] ++ pinsAt fp sq7.heap) (wipe σ8 vs1) H' s' ∧ tn1 j s'.heap ∧ (∀ b ∈ fp1, H' b = none) ∧ W1 j k H') ?_ m1 ⟨0, G11, J11.weak (wipe_length _ _) (fun j v e => (wipe_some e).1), u11, fun b hb => (f11 b hb).1, w1⟩
          rintro k r12 ⟨j, G12, J12, u12, n12, w12⟩
          rcases turn1 j k G12 w12 with ⟨stop1, nx1⟩ | ⟨go1, Nx1, hNx1, step1⟩
          · refine thnF (T1.done (X.blk r3 G3 scope ce fp) rfl rfl rfl hc j _ r12 (wipe σ8 vs1) G12 (fun _ _ => False) J12 (stat1 n12) u12 stop1) fun r r13 ⟨hr, J13⟩ => ?_
            subst hr
            exact fin J13 (hl8.trans (wipe_length σ8 vs1).symm) hk9 nx1
          · refine thnF (T1.item (X.blk r3 G3 scope ce fp) rfl rfl rfl hc j _ r12 (wipe σ8 vs1) G12 (fun _ _ => False) J12 (stat1 n12) u12 go1) fun r r13 ⟨u1, hr, h13⟩ => ?_
            subst hr
            refine thnF h13 fun _ sq14 ⟨x1, G14, J14, r14, y14, u14, n14⟩ => ?_
            have J14' := J14.pinned (stat1 n14) (T1.obj _ _ u14)
            refine thnF (pg1.run _ sq14 (wipe σ8 vs1) G14 x1 u1 _ J14' r14 (step1 x1 G14 y14)) fun _ r15 ⟨σ15, G15, J15, hw15, q15⟩ => ?_
            refine thnF (pt1.run _ r15 σ15 G15 _ J15 q15) fun b1 r16 ⟨G16, J16, q16⟩ => ?_
            have fin1 : ∀ {s' : Shared} {H' : Hp}, Inv (X.blk r3 G3 scope ce fp) (([] ++ pinsAt fp sq7.heap) ++ pinsAt fp1 sq14.heap) σ15 H' s' → Nx1 H' → ∃ m, m < k ∧ ∃ j H', Inv (X.blk r3 G3 scope ce fp) ([] ++ pinsAt fp sq7.heap) (wipe σ8 vs1) H' s' ∧ tn1 j s'.heap ∧ (∀ b ∈ fp1, H' b = none) ∧ W1 j m H' := fun {s' H'} I' nx => by
              obtain ⟨m', hm, w'⟩ := hNx1 H' nx
              have pin' : ∀ b ∈ fp1, ∀ o, sq14.heap.get? b = some o → s'.heap.get? b = some o ∧ H' b = none := fun b hb o e =>
                let z := I'.pin (b, o) (List.mem_append_right _ (List.mem_append_right _ (mem_pinsAt hb e)))
                ⟨z.1, z.2.1⟩
              refine ⟨m', hm, j + 1, H', I'.unpinned.weak (by rw [← hw15, wipe_length]) (fun j v e => by rw [← hw15] at e; exact (wipe_some e).1), T1.keep _ _ _ u14 fun b hb o e => (pin' b hb o e).1, fun b hb => ?_, w'⟩
              obtain ⟨o, e, _⟩ := T1.obj _ _ u14 b hb
              exact (pin' b hb o e).2
            cases b1 with
            | false =>
              simp only [Bool.false_eq_true, if_false] at q16 ⊢
              exact fin1 J16 q16
            | true =>
              simp only [if_true] at q16 ⊢
              refine thnF (pk.run _ r16 σ15 G16 _ J16 q16) fun z sq17 ⟨yk, G17, J17, r17, q17⟩ => thnF (pe.run _ sq17 σ15 G17 _ J17 q17) fun z2 sq18 ⟨yv, G18, J18, r18, kvs, k2, ek, hD18, hz18, nx⟩ => ?_
              subst ek
              exact d_dictSet (X := X.blk r3 G3 scope ce fp) J18 hD18 hz18 r17 r18 fun r19 J19 => fin1 J19 nx
        exact cs1_ok loop1 (T1.self X.A 0 _ _ _ u11 loop1)
  exact codeAny_compStart_dict loop (T.self X.A 0 _ _ _ u4 loop)
theorem pe_dc2 {kx vx tg iter tg1 iter1 : Expr} {ifs ifs1 : List Expr} {scope : Scope} {own : List (Str × Nat)} {vs1 : List Nat} {pos : Pos} {wi wi1 : TI} {g g1 : TG} {tt tt1 : TT} {tk tv : TE} (hc : X.calm = true) (hN : X.N.Nodup) (hi : PI X tg iter wi) (ok : BlkOk X.N X.env.scope scope own) (hv : ∀ i ∈ vs1, i ∈ own.map (·.2))
    (hg : ∀ (s : Shared) (H : Hp) (C : Addr) (cl : List (Str × Addr)) (fp : List Addr), PG (X.blk s H scope (compEnvC scope cl C X.env) fp) tg g) (ht : ∀ (s : Shared) (H : Hp) (C : Addr) (cl : List (Str × Addr)) (fp : List Addr), PTs (X.blk s H scope (compEnvC scope cl C X.env) fp) ifs tt)
    (hi1 : ∀ (s : Shared) (H : Hp) (C : Addr) (cl : List (Str × Addr)) (fp : List Addr), PI (X.blk s H scope (compEnvC scope cl C X.env) fp) tg1 iter1 wi1)
    (hg1 : ∀ (s : Shared) (H : Hp) (C : Addr) (cl : List (Str × Addr)) (fp : List Addr), PG (X.blk s H scope (compEnvC scope cl C X.env) fp) tg1 g1) (ht1 : ∀ (s : Shared) (H : Hp) (C : Addr) (cl : List (Str × Addr)) (fp : List Addr), PTs (X.blk s H scope (compEnvC scope cl C X.env) fp) ifs1 tt1)
    (hk : ∀ (s : Shared) (H : Hp) (C : Addr) (cl : List (Str × Addr)) (fp : List Addr), PE (X.blk s H scope (compEnvC scope cl C X.env) fp) kx tk)
    (he : ∀ (s : Shared) (H : Hp) (C : Addr) (cl : List (Str × Addr)) (fp : List Addr), PE (X.blk s H scope (compEnvC scope cl C X.env) fp) vx tv) (hs : ∀ x, foldedSetIterable iter X.env x = pure x := by intro _; rfl) (hs1 : ∀ env x, foldedSetIterable iter1 env x = pure x := by intro _ _; rfl) :
    PE X (.DictComp kx vx [⟨tg, iter, ifs, 0⟩, ⟨tg1, iter1, ifs1, 0⟩] scope pos) (tDc2 wi g tt wi1 g1 tt1 tk tv (own.map (·.2)) vs1) := by
  refine ⟨fun pins s σ H Q I h => ?_⟩
  rw [arm_eval_DictComp]
  refine dc2_core hc hN I hi ok hv hg ht hk he hs hi1 hg1 ht1 hs1 h fun D C s' m H' I' q hn f => ⟨m, hn, fun h'' sb => ?_⟩
  obtain ⟨f0, f1, f2, f3, f4, f5⟩ := f
  exact ⟨.ref D, H', I'.turned (t' := s'.toks) (fun b o hb e => (sb.2 b hb).trans e) f0 f1 f3 f4 f5, rfl, q⟩
end
end D2
set_option Elab.async false
set_option linter.all false
set_option maxRecDepth 100000
set_option maxHeartbeats 4000000
namespace K18
open PySem PySem.Spec PyProof.Rows PySem.Calls L2 KB KC KD KS KM LamX R8 CP K7 TK
def keyU (n : Nat) : Key × Unit := (kI n, ())
def told (ts : List (Str × List Nat)) (i : Nat) : List (Key × Unit) := (ts.take i).flatMap fun e => e.2.map keyU
theorem putA_any {α : Type} (es : List (Key × α)) (k j : Key) (a : α) : ((putA es k a).any fun e => decide (e.1 = j)) = (es.any (fun e => decide (e.1 = j)) || decide (k = j)) := by
  unfold putA
  by_cases c : (es.any fun e => decide (e.1 = k)) = true
  · rw [if_pos c, List.any_map]
    have e : ((fun e : Key × α => decide (e.1 = j)) ∘ fun e => if e.1 = k then (e.1, a) else e) = fun e => decide (e.1 = j) := by
      funext e
      show decide ((if e.1 = k then (e.1, a) else e).1 = j) = _
      split <;> rfl
    rw [e]
    by_cases z : k = j
    · rw [z] at c
      rw [c, Bool.true_or]
    · rw [decide_eq_false z, Bool.or_false]
  · rw [if_neg c, List.any_append]
    simp
theorem foldA_any {α : Type} (j : Key) : ∀ (es acc : List (Key × α)), ((es.foldl (fun acc e => putA acc e.1 e.2) acc).any fun e => decide (e.1 = j)) = (acc.any (fun e => decide (e.1 = j)) || es.any fun e => decide (e.1 = j))
  | [], acc => by simp
  | e :: es, acc => by
    rw [List.foldl_cons, foldA_any j es, putA_any, List.any_cons, Bool.or_assoc]
theorem kvR_is {α : Type} {R : Hp → V → α → Prop} {H : Hp} {k : Key} {kvs : List (Key × V)} {es : List (Key × α)} (h : KvR R H kvs es) : (valV kvs k).isSome = es.any fun e => decide (e.1 = k) := by
  rw [← valV_any]
  exact any_eq h
theorem held_is {H : Hp} {kvs : List (Key × V)} {ts : List (Str × List Nat)} (h : KvR RTrue H kvs (foldA (told ts ts.length))) (n : Nat) : (valV kvs (kI n)).isSome = ts.any fun p => p.2.contains n := by
  rw [kvR_is h]
  unfold foldA
  rw [foldA_any]
  unfold told
  rw [List.take_length, List.any_flatMap, List.any_nil, Bool.false_or]
  congr 1
  funext e
  show ((e.2.map keyU).any fun x => decide (x.1 = kI n)) = _
  rw [List.any_map, Bool.eq_iff_iff, List.any_eq_true, List.contains_iff_mem]
  constructor
  · rintro ⟨x, hx, hd⟩
    have hd := Sum.inl.inj (of_decide_eq_true hd)
    have : x = n := by omega
    rw [← this]; exact hx
  · intro hx
    exact ⟨n, hx, decide_eq_true rfl⟩
theorem told_succ {ts : List (Str × List Nat)} {i : Nat} {e : Str × List Nat} (h : ts[i]? = some e) : told ts (i + 1) = told ts i ++ e.2.map keyU := by
  unfold told
  rw [take_snoc' h, List.flatMap_append]
  simp
theorem told_len {ts : List (Str × List Nat)} (h : ∀ e ∈ ts, e.2.length ≤ 1000) (i : Nat) : (told ts i).length ≤ i * 1000 := by
  induction i with
  | zero => unfold told; rw [List.take_zero]; exact Nat.zero_le _
  | succ i ih =>
    cases e : ts[i]? with
    | none =>
      unfold told at ih ⊢
      rw [List.take_add_one, e]
      simp only [Option.toList, List.append_nil]
      omega
    | some x =>
      have := h x (List.mem_of_getElem? e)
      rw [told_succ e, List.length_append, List.length_map]; omega
theorem tells_drop {H : Hp} {n : Str} {ks : List (Key × V)} {ts : List (Str × List Nat)} (h : TellsD H ks ts) : TellsD H (dropK ks (kS n)) (ts.filter fun p => decide (p.1 ≠ n)) := by
  unfold TellsD at h ⊢
  unfold dropK
  induction h with
  | nil => exact .nil
  | @cons p e ks ts h t ih =>
    rw [List.filter_cons, List.filter_cons]
    by_cases c : e.1 = n
    · have : p.1 = kS n := by rw [h.1, c]
      rw [if_neg (by simp [this]), if_neg (by simp [c])]
      exact ih
    · have : ¬ p.1 = kS n := by rw [h.1]; exact fun z => c (Sum.inr.inj z)
      rw [if_pos (by simp [this]), if_pos (by simp [c])]
      exact .cons h ih
theorem ypair_ex {xs ys : Nat → Option V} {i : Nat} {H H1 : Hp} {x : V} (h : YPair xs ys i H x H1) : KS.Ex H H1 := by
  obtain ⟨T, a, b, _, h, e, _⟩ := h
  rw [e]; exact Ex.upd h
@[irreducible] def spForget (CR CV CE Pa Pl Pk : Addr) : Sp := fun vs H Q E => ∃ (m v : Addr) (vt : Vt) (n : Str), vs = [.ref v, .str n] ∧ VAt CR CV m v vt H ∧ n.length ≤ 900 ∧ vt.tells.length ≤ 1000 ∧ (∀ e ∈ vt.tells, e.2.length ≤ 1000) ∧ vt.runs.length ≤ 100000 ∧ (vt.runs.map (·.num)).Nodup ∧ Tabs (TT Pa Pl Pk) H ∧
  ((vt.tells.any fun p => decide (p.1 = n)) = false → E (.ref CE) none H) ∧ ((vt.tells.any fun p => decide (p.1 = n)) = true → ∀ H', AftV CR CV Pa Pl Pk m v (Q18.forgetV vt n) H H' → Q .non H')
section
variable {P : Program} {w : World} {K : PySem.W.Frag} {mg : Str → Option Value} {base : Heap} {CR CC CV CE Pa Pl Pk f : Addr} {fd : FuncData}
theorem forget_step {m v : Addr} {vt : Vt} {n : Str} {H : Hp} {Q : VK} {E : XK} (x : VAt CR CV m v vt H) (hn : n.length ≤ 900) (l1 : vt.tells.length ≤ 1000) (l2 : ∀ e ∈ vt.tells, e.2.length ≤ 1000) (l3 : vt.runs.length ≤ 100000) (nd : (vt.runs.map (·.num)).Nodup) (tb : Tabs (TT Pa Pl Pk) H) (bad : (vt.tells.any fun p => decide (p.1 = n)) = false → E (.ref CE) none H) (good : (vt.tells.any fun p => decide (p.1 = n)) = true → ∀ H', AftV CR CV Pa Pl Pk m v (Q18.forgetV vt n) H H' → Q .non H') : spForget CR CV CE Pa Pl Pk [.ref v, .str n] H Q E := by
  unfold spForget
  exact ⟨m, v, vt, n, rfl, x, hn, l1, l2, l3, nd, tb, bad, good⟩
abbrev nFo : List Str := ["self", "name", "held", "numbers", "number", "run"]
theorem scFo : FnScope nFo ["self", "name"] (defScope (sVM 3)) := ⟨rfl, rfl, rfl, by decide +kernel, rfl, by decide +kernel, by decide +kernel⟩
theorem ok_forget {fN : Addr} {fdN : FuncData} (F : FnP K "forget" "Vault.forget" (sVM 3) [] f fd) (B : TxtC K mg CR CC CV) (mN : Meth K CV "need" fN) (GN : FnOk P w K mg base (L2.CX P w) 1 fN fdN ["self", "name"] (spNeedV CR CV CE)) (bN : Binds K fdN ["self", "name"] []) : FnOk P w K mg base (L2.CX P w) 3 f fd ["self", "name"] (spForget CR CV CE Pa Pl Pk) := by
  refine F.ok scFo (fun vs H Q E h => ?_) (fun cdv A outer s H vs Q E hr h => ?_)
  · unfold spForget at h
    obtain ⟨_, _, _, _, rfl, _⟩ := h; rfl
  · unfold spForget at h
    obtain ⟨m, v, vt, n, rfl, x, hn, l1, l2, l3, ndr, tb, bad, good⟩ := h
    have hu := hr.units
    have hu1 := Nat.lt_trans (Nat.add_lt_add_left (by decide : 1 < 64) _) hu
    obtain ⟨dx, vr, vs, ks, ts, h1, h2, h3, h4, h5, h6⟩ := id x
    refine ⟨_, pss_cons (ps_expr (pe_meth (pv 0) B.clV mN GN (hr.mono (by decide)) bN .nil (passes_call (takes_of rfl rfl rfl rfl) (fun _ _ _ _ h => h)) (pa_cons (pv 1) pa_nil)))
      (PSs.nox <| pss_cons (ps_ddel (pf 0) (pv 1))
      (pss_cons (ps_set (i := 2) scFo.nd rfl (Or.inr rfl) (pe_lock (D2.pe_dc2 (own := [("numbers", 3), ("number", 4)]) (vs1 := [4]) (g := gName 3) (tt := tYes) (wi1 := iTup K (tVar 3)) (g1 := gName 4) (tt1 := tYes) (tk := tVar 4) (tv := tC (.bl true)) rfl scFo.nd (pi_values (pf 0)) (blkOk_by (N := nFo) (sc := defScope (sVM 3)) (by decide +kernel)) (by decide)
          (fun _ _ _ _ _ => pg_name (i := 3) scFo.nd rfl (Or.inl rfl)) (fun _ _ _ _ _ => pts_nil) (fun _ _ _ _ _ => pi_tup (pv 3)) (fun _ _ _ _ _ => pg_name (i := 4) scFo.nd rfl (Or.inl rfl)) (fun _ _ _ _ _ => pts_nil) (fun _ _ _ _ _ => pv 4) (fun _ _ _ _ _ => pe_bl))))
      (pss_one (ps_fld (pv 0) (pe_lock (pe_dc (own := [("number", 4), ("run", 5)]) (g := gTup K 2 (gCons (gName 4) (gCons (gName 5) gNil))) (tt := tB (tDIn (tVar 4) (tVar 2))) (tk := tVar 4) (tv := tVar 5) rfl scFo.nd (pi_items (pf 0)) (blkOk_by (N := nFo) (sc := defScope (sVM 3)) (by decide +kernel))
          (fun _ _ _ _ _ => pg_tup rfl (pgs_cons (pg_name (i := 4) scFo.nd rfl (Or.inl rfl)) (pgs_cons (pg_name (i := 5) scFo.nd rfl (Or.inl rfl)) pgs_nil))) (fun _ _ _ _ _ => pts_one (pt_cmp (pc_din hu1 (pv 4) (pv 2)))) (fun _ _ _ _ _ => pv 4) (fun _ _ _ _ _ => pv 5))) rfl)))), ?_⟩
    have lts := paired_len h5
    refine ⟨_, rfl, v, dx, _, rfl, h1, vF_m (by decide +kernel) (by decide +kernel) (by decide +kernel), _, rfl, needv_step x hn bad fun hin => ?_⟩
    have nvr : v ≠ vr := fun z => by rw [z, h2] at h1; cases h1
    have nvs : v ≠ vs := fun z => by rw [z, h4] at h1; cases h1
    refine ⟨_, rfl, v, CV, dx, _, _, rfl, h1, B.clV, B.vT, rfl, _, rfl, vs, _, kS n, rfl, h4, rfl, (by rw [tellsD_is h5]; exact hin), ?_⟩
    have ht1 : TellsD H (dropK ts (kS n)) (vt.tells.filter fun p => decide (p.1 ≠ n)) := tells_drop h5
    have hs1 : (upd H vs (.dK (dropK ts (kS n)))) vs = some (.dK (dropK ts (kS n))) := upd_same
    have hv1 : (upd H vs (.dK (dropK ts (kS n)))) v = some (.ins CV dx (vF vr vs vt.nxt)) := by rw [L2.upd_ne nvs]; exact h1
    have hr1 : (upd H vs (.dK (dropK ts (kS n)))) vr = some (.dK ks) := by rw [L2.upd_ne h6]; exact h2
    have kp1 : Kp (· = vs) H (upd H vs (.dK (dropK ts (kS n)))) := Kp.upd h4 (fun _ z => nomatch z) (fun _ z => nomatch z) rfl
    have kt1 : KtTup H (upd H vs (.dK (dropK ts (kS n)))) := fun b xs h => by rw [L2.upd_ne (fun z => by rw [z, h4] at h; cases h)]; exact h
    have ht1 := ht1.kt kt1
    have ke1 : ∀ b o, b ≠ vs → H b = some o → (upd H vs (.dK (dropK ts (kS n)))) b = some o := fun b o nb h => by rw [L2.upd_ne nb]; exact h
    have hrd1 : RunsD CR m (upd H vs (.dK (dropK ts (kS n)))) ks vt.runs := runsD_kp h3 kp1 (fun b e xs h => by rw [e, h4] at h; cases h) (fun b e dx n p t h => by rw [e, h4] at h; cases h) (fun b e ks h => by rw [e, h4] at h; cases h)
    have t1 : Tabs (TT Pa Pl Pk) (upd H vs (.dK (dropK ts (kS n)))) := tabs_upd tb h4 (.inr (.inr (.inl ⟨_, rfl⟩)))
    have lq : (vt.tells.filter fun p => decide (p.1 ≠ n)).length ≤ 1000 := Nat.le_trans (List.length_filter_le _ _) l1
    have lq2 : ∀ e ∈ vt.tells.filter (fun p => decide (p.1 ≠ n)), e.2.length ≤ 1000 := fun e he => l2 e (List.mem_filter.mp he).1
    generalize eT : (vt.tells.filter fun p => decide (p.1 ≠ n)) = tl at ht1 lq lq2
    generalize dropK ts (kS n) = ts1 at hs1 hv1 hr1 kp1 kt1 ht1 hrd1 t1 ke1
    generalize upd H vs (.dK ts1) = H1 at hs1 hv1 hr1 kp1 kt1 ht1 hrd1 t1 ke1
    refine ⟨vs, .dK ts1, hs1, trivial, fun od => ?_⟩
    have hv2 : (upd H1 vs (.frz od (.dK ts1))) v = some (.ins CV dx (vF vr vs vt.nxt)) := by rw [L2.upd_ne nvs]; exact hv1
    refine ⟨_, rfl, v, CV, dx, _, _, rfl, hv2, B.clV, B.vT, rfl, vs, od, ts1, rfl, upd_same, fun D hD => ?_⟩
    have lt1 := paired_len ht1
    have ktl : KtTup H1 (upd H1 vs (.frz od (.dK ts1))) := fun b xs h => by rw [L2.upd_ne (fun z => by rw [z, hs1] at h; cases h)]; exact h
    refine ⟨fun i k H' => k = ts1.length - i ∧ i ≤ ts1.length ∧ KS.Ex (upd H1 vs (.frz od (.dK ts1))) H' ∧ ∃ kvs, H' D = some (.dK kvs) ∧ KvR RTrue H' kvs (foldA (told tl i)), ⟨ts1.length, by simp, Nat.zero_le _, Ex.upd hD, [], upd_same, .nil⟩, ?_⟩
    rintro i k H' ⟨rfl, hi, e', kvs, hx, hp⟩
    by_cases hlt : i < ts1.length
    · refine .inr ⟨⟨e' _ _ upd_same, hlt⟩, fun H' => i + 1 ≤ ts1.length ∧ KS.Ex (upd H1 vs (.frz od (.dK ts1))) H' ∧ ∃ kvs, H' D = some (.dK kvs) ∧ KvR RTrue H' kvs (foldA (told tl (i + 1))), fun H'' p' => ⟨ts1.length - (i + 1), by omega, rfl, p'⟩, fun u H'' y => ?_⟩
      obtain ⟨rfl, kq, hkq⟩ := y
      obtain ⟨te, hte, hk1, a, hk2, ha⟩ := paired_get ht1 hkq
      have hk2 : u = .ref a := hk2
      subst hk2
      have ha' : H'' a = some (.tup ((natI te.2).map V.int)) := e' _ _ (ktl _ _ ha)
      have l9 := lq2 te (List.mem_of_getElem? hte)
      have lA := told_len lq2 i
      have ln : ((natI te.2).map V.int).length = te.2.length := by unfold natI; rw [List.length_map, List.length_map]
      refine ⟨rfl, _, rfl, a, rfl, ⟨_, SqT.of ha'⟩, fun j k H3 => k = te.2.length - j ∧ j ≤ te.2.length ∧ KS.Ex (upd H1 vs (.frz od (.dK ts1))) H3 ∧ ∃ kvs, H3 D = some (.dK kvs) ∧ KvR RTrue H3 kvs (foldA (told tl i ++ (te.2.take j).map keyU)),
        ⟨te.2.length, by simp, Nat.zero_le _, e', kvs, hx, by rw [List.take_zero, List.map_nil, List.append_nil]; exact hp⟩, ?_⟩
      rintro j k H3 ⟨rfl, hj, e3, kvs3, hx3, hp3⟩
      have ha3 : H3 a = some (.tup ((natI te.2).map V.int)) := e3 _ _ (ktl _ _ ha)
      by_cases hjl : j < te.2.length
      · have wk := (walk_tup (K := K) (a := a) (xs := (natI te.2).map V.int))
        refine .inr ⟨wk.goes j H3 (by rw [ln]; exact hjl) (SqT.of ha3), fun H4 => j + 1 ≤ te.2.length ∧ KS.Ex (upd H1 vs (.frz od (.dK ts1))) H4 ∧ ∃ kvs, H4 D = some (.dK kvs) ∧ KvR RTrue H4 kvs (foldA (told tl i ++ (te.2.take (j + 1)).map keyU)), fun H4 p' => ⟨te.2.length - (j + 1), by omega, rfl, p'⟩, fun u H4 y => ?_⟩
        obtain ⟨rfl, hu'⟩ := wk.yields j H3 u H4 (by rw [ln]; exact hjl) (SqT.of ha3) y
        rw [List.getElem?_map] at hu'
        obtain ⟨z, hz, rfl⟩ := Option.map_eq_some_iff.mp hu'
        unfold natI at hz
        rw [List.getElem?_map] at hz
        obtain ⟨k, hk, rfl⟩ := Option.map_eq_some_iff.mp hz
        refine ⟨rfl, ?_⟩
        refine ⟨_, rfl, kvs3, kI k, rfl, hx3, ?_, ?_⟩
        · have z1 := paired_len hp3
          have z2 := foldA_len (told tl i ++ (te.2.take j).map keyU)
          rw [List.length_append, List.length_map, List.length_take] at z2
          have hi2 : i ≤ 1000 := by
            have : tl.length ≤ 1000 := lq
            omega
          have : sizeLine = 16777216 := rfl
          have : i * 1000 ≤ 1000 * 1000 := Nat.mul_le_mul_right _ hi2
          omega
        · refine ⟨hjl, exOn e3 hD, _, upd_same, ?_⟩
          rw [take_snoc' hk, List.map_append, ← List.append_assoc]
          show KvR RTrue _ _ (foldA (_ ++ [(kI k, ())]))
          rw [foldA_snoc]
          exact kvR_put (paired_mono (fun v b h => h) hp3) rfl
      · have ej : j = te.2.length := by omega
        subst ej
        have wk := (walk_tup (K := K) (a := a) (xs := (natI te.2).map V.int))
        have st := wk.stops H3 (SqT.of ha3)
        rw [ln] at st
        refine .inl ⟨st, hlt, e3, kvs3, hx3, ?_⟩
        rw [List.take_length] at hp3
        rw [told_succ hte]
        exact hp3
    · have ei : i = ts1.length := by omega
      subst ei
      refine .inl ⟨⟨e' _ _ upd_same, Nat.le_refl _⟩, e' _ _ upd_same, ?_⟩
      have nD : D ≠ vs := fun z => by rw [z, upd_same] at hD; cases hD
      have hDn : H1 D = none := by rw [L2.upd_ne nD] at hD; exact hD
      have e2 : KS.Ex H1 (upd H' vs (.dK ts1)) := fun b o h => by
        by_cases z : b = vs
        · rw [z, hs1] at h; rw [z, upd_same]; exact h
        · rw [L2.upd_ne z]
          refine e' _ _ ?_
          rw [L2.upd_ne z]; exact h
      have hx2 : (upd H' vs (.dK ts1)) D = some (.dK kvs) := by rw [L2.upd_ne nD]; exact hx
      have hp2 : KvR RTrue (upd H' vs (.dK ts1)) kvs (foldA (told tl tl.length)) := by rw [← lt1]; exact paired_mono (fun v b h => h) hp
      generalize upd H' vs (.dK ts1) = H2 at e2 hx2 hp2
      have hv3 := e2 _ _ hv1
      have hr3 := e2 _ _ hr1
      have hs3 := e2 _ _ hs1
      have hrd3 := hrd1.ex (ExtN.of e2)
      have ht3 : TellsD H2 ts1 tl := ht1.kt (Ex.tup e2)
      have t3 := t1.ext e2
      refine ⟨vr, .dK ks, hr3, trivial, fun od2 => ?_⟩
      have hv4 : (upd H2 vr (.frz od2 (.dK ks))) v = some (.ins CV dx (vF vr vs vt.nxt)) := by rw [L2.upd_ne nvr]; exact hv3
      have nDr : D ≠ vr := fun z => by rw [z, hr1] at hDn; cases hDn
      refine ⟨_, rfl, v, CV, dx, _, _, rfl, hv4, B.clV, B.vR, rfl, vr, od2, ks, rfl, upd_same, fun D2 hD2 => ?_⟩
      have lks := paired_len hrd3
      have hx4 : (upd H2 vr (.frz od2 (.dK ks))) D = some (.dK kvs) := by rw [L2.upd_ne nDr]; exact hx2
      refine dcG walk_items RAd (fun j => (ks.zip vt.runs)[j]?.bind fun e => if (tl.any fun p => p.2.contains e.2.num) = true then some (kI e.2.num, match e.1.2 with | .ref r => r | _ => 0) else none) RAd.stab2 hD2 (by omega) (fun H5 e5 => e5 _ _ upd_same) (fun i H5 x H6 _ _ hy => ypair_ex hy) (fun j u H5 H6 R0 N0 hj e5 hy hno hsm => ?_) (fun H5 kvs5 e5 hx5 hkv5 => ?_)
      · obtain ⟨T', x', y', rfl, hT, rfl, hx1, hy1⟩ := hy
        obtain ⟨p, hp⟩ : ∃ p, ks[j]? = some p := ⟨_, List.getElem?_eq_getElem hj⟩
        obtain ⟨rn, hrn, q1, r, q2, q3⟩ := paired_get hrd3 hp
        simp only [hp, Option.map_some, Option.some.injEq] at hx1 hy1
        subst hx1
        subst hy1
        have e6 : KS.Ex H5 (upd H5 T' (.tup [kV p.1, p.2])) := Ex.upd hT
        have hz : (ks.zip vt.runs)[j]? = some (p, rn) := by rw [List.getElem?_zip_eq_some]; exact ⟨hp, hrn⟩
        refine ⟨T', _, rfl, SqT.of upd_same, rfl, _, _, rfl, _, _, rfl, rfl, rfl, ?_⟩
        refine ⟨_, rfl, _, rfl, D, _, rfl, DGet.k (k := p.1) (e6 _ _ (e5 _ _ hx4)), _, rfl, ?_⟩
        have hd := held_is hp2 rn.num
        rw [← q1] at hd
        rw [hd]
        by_cases c : (tl.any fun p => p.2.contains rn.num) = true
        · refine ifT c ⟨_, rfl, _, rfl, ?_⟩
          refine hsm p.1 r (by rw [hz]; show (if (tl.any fun p => p.2.contains rn.num) = true then some (kI rn.num, match p.2 with | .ref r => r | _ => 0) else none) = _; rw [if_pos c, q1, q2]) _ _ (Ex.refl _) q2
        · exact ifF c (hno (by rw [hz]; show (if (tl.any fun p => p.2.contains rn.num) = true then some (kI rn.num, match p.2 with | .ref r => r | _ => 0) else none) = none; rw [if_neg c]) _ (Ex.refl _))
      · have lz : (ks.zip vt.runs).length = ks.length := by rw [List.length_zip]; omega
        rw [← lz, range_fm] at hkv5
        have hrd5 : RunsD CR m H2 kvs5 (vt.runs.filter fun r => tl.any fun p => p.2.contains r.num) := by
          have go : ∀ {ks : List (Key × V)} {rs : List Rn} {kv : List (Key × V)}, RunsD CR m H2 ks rs → KvR RAd H5 kv ((ks.zip rs).filterMap fun e => if (tl.any fun p => p.2.contains e.2.num) = true then some (kI e.2.num, match e.1.2 with | .ref r => r | _ => 0) else none) → RunsD CR m H2 kv (rs.filter fun r => tl.any fun p => p.2.contains r.num) := by
            intro ks rs kv p
            unfold RunsD at p
            induction p generalizing kv with
            | nil => intro h; cases h; exact .nil
            | @cons p rn ks rs hh _ ih =>
              intro h
              rw [List.zip_cons_cons, List.filterMap_cons] at h
              rw [List.filter_cons]
              obtain ⟨q1, r, q2, q3⟩ := hh
              by_cases c : (tl.any fun p => p.2.contains rn.num) = true
              · rw [if_pos c]
                rw [if_pos c] at h
                cases h with
                | cons h t =>
                  refine .cons ⟨h.1, r, ?_, q3⟩ (ih t)
                  have := h.2
                  unfold RAd at this
                  rw [this, q2]
              · rw [if_neg c]
                rw [if_neg c] at h
                exact ih h
          have ndk : (((ks.zip vt.runs).filterMap fun e => if (tl.any fun p => p.2.contains e.2.num) = true then some (kI e.2.num, match e.1.2 with | .ref r => r | _ => 0) else none).map (·.1)).Nodup := by
            have go2 : ∀ (ks : List (Key × V)) (rs : List Rn), (rs.map (·.num)).Nodup → (((ks.zip rs).filterMap fun e => if (tl.any fun p => p.2.contains e.2.num) = true then some (kI e.2.num, match e.1.2 with | .ref r => r | _ => 0) else none).map (·.1)).Nodup ∧ ∀ k ∈ ((ks.zip rs).filterMap fun e => if (tl.any fun p => p.2.contains e.2.num) = true then some (kI e.2.num, match e.1.2 with | .ref r => r | _ => 0) else none).map (·.1), ∃ r ∈ rs, k = kI r.num := by
              intro ks
              induction ks with
              | nil => intro rs _; exact ⟨List.nodup_nil, (fun _ z => by cases z)⟩
              | cons p ks ih =>
                intro rs hn
                cases rs with
                | nil => exact ⟨List.nodup_nil, (fun _ z => by cases z)⟩
                | cons r rs =>
                  rw [List.map_cons, List.nodup_cons] at hn
                  obtain ⟨i1, i2⟩ := ih rs hn.2
                  rw [List.zip_cons_cons, List.filterMap_cons]
                  by_cases c : (tl.any fun p => p.2.contains r.num) = true
                  · rw [if_pos c]
                    refine ⟨List.nodup_cons.mpr ⟨fun hm => ?_, i1⟩, fun k hk => ?_⟩
                    · obtain ⟨s, hs, e⟩ := i2 _ hm
                      have e : (r.num : Int) = (s.num : Int) := Sum.inl.inj e
                      exact hn.1 (List.mem_map.mpr ⟨s, hs, by omega⟩)
                    · rcases List.mem_cons.mp hk with e | hk
                      · exact ⟨r, List.mem_cons_self, e⟩
                      · obtain ⟨s, hs, e⟩ := i2 k hk
                        exact ⟨s, List.mem_cons_of_mem _ hs, e⟩
                  · rw [if_neg c]
                    refine ⟨i1, fun k hk => ?_⟩
                    obtain ⟨s, hs, e⟩ := i2 k hk
                    exact ⟨s, List.mem_cons_of_mem _ hs, e⟩
            exact (go2 ks vt.runs ndr).1
          rw [foldA_self ndk] at hkv5
          exact go hrd3 hkv5
        refine ⟨e5 _ _ upd_same, ?_⟩
        have nD2 : D2 ≠ vr := fun z => by rw [z, upd_same] at hD2; cases hD2
        have hD2n : H2 D2 = none := by rw [L2.upd_ne nD2] at hD2; exact hD2
        have e6 : KS.Ex H2 (upd H5 vr (.dK ks)) := fun b o h => by
          by_cases z : b = vr
          · rw [z, hr3] at h; rw [z, upd_same]; exact h
          · rw [L2.upd_ne z]
            refine e5 _ _ ?_
            rw [L2.upd_ne z]; exact h
        have hx6 : (upd H5 vr (.dK ks)) D2 = some (.dK kvs5) := by rw [L2.upd_ne nD2]; exact hx5
        generalize upd H5 vr (.dK ks) = H6 at e6 hx6
        have hv6 := e6 _ _ hv3
        refine ⟨_, rfl, v, CV, dx, _, rfl, hv6, B.clV, B.vR, (by show 3 < 1000; decide), ?_⟩
        rw [show putF (Str.ofString "runs") (V.ref D2) (vF vr vs vt.nxt) = vF D2 vs vt.nxt from rfl]
        have nD2v : D2 ≠ v := fun z => by rw [z, hv3] at hD2n; cases hD2n
        have nD2s : D2 ≠ vs := fun z => by rw [z, hs3] at hD2n; cases hD2n
        have kv7 : Kp (· = v) H6 (upd H6 v (.ins CV dx (vF D2 vs vt.nxt))) := Kp.upd hv6 (fun _ z => nomatch z) (fun _ z => nomatch z) rfl
        have e26 : KS.Ex H1 H6 := e2.trans e6
        have keep7 : ∀ b o, b ≠ v → b ≠ vs → H b = some o → (upd H6 v (.ins CV dx (vF D2 vs vt.nxt))) b = some o := fun b o n1 n2 h => by
          rw [L2.upd_ne n1]
          exact e26 _ _ (ke1 b o n2 h)
        have hv7 : (upd H6 v (.ins CV dx (vF D2 vs vt.nxt))) v = some (.ins CV dx (vF D2 vs vt.nxt)) := upd_same
        have hs7 : (upd H6 v (.ins CV dx (vF D2 vs vt.nxt))) vs = some (.dK ts1) := by rw [L2.upd_ne nvs.symm]; exact e26 _ _ hs1
        have hx7 : (upd H6 v (.ins CV dx (vF D2 vs vt.nxt))) D2 = some (.dK kvs5) := by rw [L2.upd_ne nD2v]; exact hx6
        have hrd7 : RunsD CR m (upd H6 v (.ins CV dx (vF D2 vs vt.nxt))) kvs5 (vt.runs.filter fun r => tl.any fun p => p.2.contains r.num) := runsD_kp (hrd5.ex (ExtN.of e6)) kv7 (fun b e xs h => by rw [e, hv6] at h; cases h) (fun b e dx n p t h => by
          rw [e, hv6] at h
          exact vins_ne' (Option.some.inj h)) (fun b e ks h => by rw [e, hv6] at h; cases h)
        have ht7 : TellsD (upd H6 v (.ins CV dx (vF D2 vs vt.nxt))) ts1 tl := (ht3.kt (Ex.tup e6)).kt fun b xs h => by rw [L2.upd_ne (fun z => by rw [z, hv6] at h; cases h)]; exact h
        have nB : ∀ b, NewN (upd H6 v (.ins CV dx (vF D2 vs vt.nxt))) b → NewN H b := fun b nb o ho => by
          by_cases z : b = v ∨ b = vs
          · rcases z with z | z
            · obtain ⟨ps, e⟩ := nb _ (by rw [z]; exact hv7); cases e
            · obtain ⟨ps, e⟩ := nb _ (by rw [z]; exact hs7); cases e
          · exact nb o (keep7 b o (fun y => z (.inl y)) (fun y => z (.inr y)) ho)
        have nDN : NewN H D2 := fun o ho => by
          have h1' := ke1 D2 o (fun z => nD2s z) ho
          rw [e2 _ _ h1'] at hD2n
          cases hD2n
        refine good hin _ ⟨⟨fun b o h _ nw => ?_, nB⟩, fun b hb => ?_, ⟨dx, D2, vs, kvs5, ts1, hv7, hx7, ?_, hs7, ?_, nD2s⟩, tabs_kp t1 fun b o h n1 n2 n3 n4 => ?_⟩
        · exact keep7 b o (fun z => nw (z ▸ (wV_mk h1).1)) (fun z => nw (z ▸ (wV_mk h1).2.2)) h
        · rcases hb with e | ⟨dx', r', s', n', e, z⟩
          · exact .inl (.inl e)
          · rw [hv7] at e
            have er : D2 = r' := by cases e; rfl
            have es : vs = s' := by cases e; rfl
            rcases z with z | z
            · rw [z, ← er]; exact .inr nDN
            · rw [z, ← es]; exact .inl (wV_mk h1).2.2
        · show RunsD CR m _ kvs5 (Q18.forgetV vt n).runs
          unfold Q18.forgetV
          rw [← eT] at hrd7
          exact hrd7
        · show TellsD _ ts1 (Q18.forgetV vt n).tells
          unfold Q18.forgetV
          rw [← eT] at ht7
          exact ht7
        · rw [L2.upd_ne (fun z => by rw [z, hv1] at h; exact n2 _ _ _ (Option.some.inj h).symm)]
          exact e26 _ _ h
end
end K18
set_option Elab.async false
set_option linter.all false
set_option maxRecDepth 100000
set_option maxHeartbeats 4000000
namespace K18
open PySem PySem.Spec PyProof.Rows PySem.Calls L2 KB KC KD KS KM LamX R8 CP K7 TK
def tellOf (vt : Vt) (n : Str) : List Nat := ((vt.tells.find? fun p => decide (p.1 = n)).map (·.2)).getD []
theorem tellsD_val {H : Hp} {n : Str} {ks : List (Key × V)} {ts : List (Str × List Nat)} (h : TellsD H ks ts) (hin : (ts.any fun p => decide (p.1 = n)) = true) : ∃ a, valV ks (kS n) = some (.ref a) ∧ H a = some (.tup ((natI (((ts.find? fun p => decide (p.1 = n)).map (·.2)).getD [])).map V.int)) := by
  unfold TellsD at h
  induction h with
  | nil => cases hin
  | @cons p e ks ts h t ih =>
    unfold valV at ih ⊢
    rw [List.find?_cons, List.find?_cons]
    rw [List.any_cons] at hin
    obtain ⟨h1, a, h2, h3⟩ := h
    by_cases c : e.1 = n
    · have : p.1 = kS n := by rw [h1, c]
      refine ⟨a, by simp [this, h2], ?_⟩
      simp only [c, decide_true]
      exact h3
    · have : ¬ p.1 = kS n := by rw [h1]; exact fun z => c (Sum.inr.inj z)
      simp only [decide_eq_false this, decide_eq_false c, Bool.false_or] at hin ⊢
      exact ih hin
@[irreducible] def spRestored (CR CC CV CE : Addr) : Sp := fun vs H Q E => ∃ (m v : Addr) (vt : Vt) (n : Str), vs = [.ref v, .str n] ∧ VAt CR CV m v vt H ∧ n.length ≤ 900 ∧ (tellOf vt n).length ≤ 1000 ∧ ((vt.tells.any fun p => decide (p.1 = n)) = false → E (.ref CE) none H) ∧
  ((vt.tells.any fun p => decide (p.1 = n)) = true → (∀ k ∈ tellOf vt n, Q18.hasN vt.runs k = true) ∧ ∀ H' c m', KS.Ex H H' → H c = none → H m' = none → CabAt CR CC c m' (Q18.backV vt (tellOf vt n)) H' → Q (.ref c) H')
section
variable {P : Program} {w : World} {K : PySem.W.Frag} {mg : Str → Option Value} {base : Heap} {CR CC CV CE Pa Pl Pk f : Addr} {fd : FuncData}
theorem restored_step {m v : Addr} {vt : Vt} {n : Str} {H : Hp} {Q : VK} {E : XK} (x : VAt CR CV m v vt H) (hn : n.length ≤ 900) (l1 : (tellOf vt n).length ≤ 1000) (bad : (vt.tells.any fun p => decide (p.1 = n)) = false → E (.ref CE) none H)
    (good : (vt.tells.any fun p => decide (p.1 = n)) = true → (∀ k ∈ tellOf vt n, Q18.hasN vt.runs k = true) ∧ ∀ H' c m', KS.Ex H H' → H c = none → H m' = none → CabAt CR CC c m' (Q18.backV vt (tellOf vt n)) H' → Q (.ref c) H') : spRestored CR CC CV CE [.ref v, .str n] H Q E := by
  unfold spRestored
  exact ⟨m, v, vt, n, rfl, x, hn, l1, bad, good⟩
abbrev nRe : List Str := ["self", "name", "cabinet", "number"]
theorem scRe : FnScope nRe ["self", "name"] (defScope (sVM 5)) := ⟨rfl, rfl, rfl, by decide +kernel, rfl, by decide +kernel, by decide +kernel⟩
theorem ok_restored {fN : Addr} {fdN : FuncData} (F : FnP K "restored" "Vault.restored" (sVM 5) [] f fd) (B : TxtC K mg CR CC CV) (mN : Meth K CV "need" fN) (GN : FnOk P w K mg base (L2.CX P w) 1 fN fdN ["self", "name"] (spNeedV CR CV CE)) (bN : Binds K fdN ["self", "name"] [])
    (ci : CalI P w K mg base CC CX0 1 ["self"] (spCInit CR CC)) : FnOk P w K mg base (L2.CX P w) 4 f fd ["self", "name"] (spRestored CR CC CV CE) := by
  obtain ⟨f1, fd1, G1, M1, b1⟩ := ci
  refine F.ok scRe (fun vs H Q E h => ?_) (fun cdv A outer s H vs Q E hr h => ?_)
  · unfold spRestored at h
    obtain ⟨_, _, _, _, rfl, _⟩ := h; rfl
  · unfold spRestored at h
    obtain ⟨m, v, vt, n, rfl, x, hn, l1, bad, good⟩ := h
    have hu := hr.units
    have hu1 := Nat.lt_trans (Nat.add_lt_add_left (by decide : 1 < 64) _) hu
    obtain ⟨dx, vr, vs, ks, ts, h1, h2, h3, h4, h5, h6⟩ := id x
    refine ⟨_, pss_cons (ps_expr (pe_meth (pv 0) B.clV mN GN (hr.mono (by decide)) bN .nil (passes_call (takes_of rfl rfl rfl rfl) (fun _ _ _ _ h => h)) (pa_cons (pv 1) pa_nil)))
      (PSs.nox <| pss_cons (ps_set (i := 2) scRe.nd rfl (Or.inl rfl) (pe_make0 M1 G1 (hr.mono (by decide)) (by rfl) B.gC b1 .nil pass0))
      (pss_cons (ps_fld (pv 2) (pe_lc (own := [("number", 3)]) (g := gName 3) (tt := tYes) (te := tDGet (tFld K (tVar 0) "runs") (tVar 3)) rfl scRe.nd (pi_tup (pe_dget hu1 (pf 0) (pv 1) (fun _ _ => rfl))) (blkOk_by (N := nRe) (sc := defScope (sVM 5)) (by decide +kernel))
          (fun _ _ _ _ _ => pg_name (i := 3) scRe.nd rfl (Or.inl rfl)) (fun _ _ _ _ _ => pts_nil) (fun _ _ _ _ _ => pe_dget hu1 (pf 0) (pv 3) (fun _ _ => rfl))) rfl)
      (pss_cons (ps_fld (pv 2) (pf 0) rfl) (pss_one (ps_ret (pv 2)))))), ?_⟩
    refine ⟨_, rfl, v, dx, _, rfl, h1, vF_m (by decide +kernel) (by decide +kernel) (by decide +kernel), _, rfl, needv_step x hn bad fun hin => ?_⟩
    obtain ⟨has, good⟩ := good hin
    refine fun c dc hc hdc nc => ?_
    have e1 : KS.Ex H (upd H dc (.own c)) := Ex.upd hdc
    have hc1 : (upd H dc (.own c)) c = none := by rw [L2.upd_ne nc.symm]; exact hc
    have e2 := e1.trans (Ex.upd (o := .ins CC dc []) hc1)
    have hc2 : (upd (upd H dc (.own c)) c (.ins CC dc [])) c = some (.ins CC dc []) := upd_same
    have hn2 : ∀ b, (upd (upd H dc (.own c)) c (.ins CC dc [])) b = none → H b = none := fun b h => by
      cases e : H b with
      | none => rfl
      | some o => rw [e2 _ _ e] at h; cases h
    show spCInit CR CC [.ref c] _ _ _
    generalize upd (upd H dc (.own c)) c (.ins CC dc []) = H2 at e2 hc2 hn2
    refine cinit_step hc2 fun H3 m' k3 hm' x3 => ⟨rfl, ?_⟩
    have e3 : KS.Ex H H3 := fun b o h => k3 b o (ne_of_none h hc) (e2 b o h)
    obtain ⟨⟨dx3, l3, rs3, g1, g2, g3⟩, mk3, g4, g5⟩ := x3
    obtain ⟨a, hva, ha⟩ := tellsD_val h5 hin
    have ha3 := e3 _ _ ha
    refine ⟨_, rfl, v, CV, dx, _, _, rfl, e3 _ _ h1, B.clV, B.vT, rfl, _, rfl, vs, _, rfl, hva ▸ DGet.k (k := kS n) (e3 _ _ h4), a, rfl, ⟨_, SqT.of ha3⟩, fun D hD => ?_⟩
    have ln : ((natI (tellOf vt n)).map V.int).length = (tellOf vt n).length := by unfold natI; rw [List.length_map, List.length_map]
    have adr : ∀ k ∈ tellOf vt n, ∃ r rn, valV ks (kI k) = some (.ref r) ∧ Q18.fetch vt.runs k = some rn ∧ RunAt CR m H r rn := fun k hk => by
      rcases runsD_val (n := k) h3 with ⟨_, z, _⟩ | ⟨r, rn, z1, _, z2, z3⟩
      · rw [has k hk] at z; cases z
      · exact ⟨r, rn, z1, z2, z3⟩
    refine lcG walk_tup RAd (fun j => (tellOf vt n)[j]?.bind fun k => some (match valV ks (kI k) with | some (.ref r) => r | _ => 0)) RAd.stab hD (by rw [show ((natI (((vt.tells.find? fun p => decide (p.1 = n)).map (·.2)).getD [])).map V.int).length = (tellOf vt n).length from ln]; omega) (fun H5 e5 => SqT.of (e5 _ _ ha3)) (fun i H5 x H6 _ _ h => yat_ex h) (fun j u H5 H6 R0 N0 hj e5 hy hno hsm => ?_) (fun H5 xs e5 hx5 hps => ?_)
    · obtain ⟨rfl, hxi⟩ := hy
      rw [List.getElem?_map] at hxi
      obtain ⟨z, hz, rfl⟩ := Option.map_eq_some_iff.mp hxi
      have hz : (natI (tellOf vt n))[j]? = some z := hz
      unfold natI at hz
      rw [List.getElem?_map] at hz
      obtain ⟨k, hk, rfl⟩ := Option.map_eq_some_iff.mp hz
      obtain ⟨r, rn, z1, z2, z3⟩ := adr k (List.mem_of_getElem? hk)
      refine ⟨rfl, _, rfl, v, CV, dx, _, _, rfl, e5 _ _ (e3 _ _ h1), B.clV, B.vR, rfl, _, rfl, vr, .ref r, rfl, z1 ▸ DGet.k (k := kI k) (e5 _ _ (e3 _ _ h2)), ?_⟩
      exact hsm r (by rw [hk]; show some (match valV ks (kI k) with | some (.ref r) => r | _ => 0) = some r; rw [z1]) _ _ (Ex.refl _) rfl
    · rw [show ((natI (((vt.tells.find? fun p => decide (p.1 = n)).map (·.2)).getD [])).map V.int).length = (tellOf vt n).length from ln, range_fm, map_fm] at hps
      have hxs := rad_map hps
      have e35 := e3.trans e5
      have hrs : Paired (RunAt CR m' H5) ((tellOf vt n).map fun k => match valV ks (kI k) with | some (.ref r) => r | _ => 0) ((tellOf vt n).filterMap (Q18.fetch vt.runs)) := by
        have go : ∀ ns : List Nat, (∀ k ∈ ns, k ∈ tellOf vt n) → Paired (RunAt CR m' H5) (ns.map fun k => match valV ks (kI k) with | some (.ref r) => r | _ => 0) (ns.filterMap (Q18.fetch vt.runs)) := by
          intro ns
          induction ns with
          | nil => intro _; exact .nil
          | cons k ns ih =>
            intro h
            obtain ⟨r, rn, z1, z2, z3⟩ := adr k (h k List.mem_cons_self)
            rw [List.map_cons, List.filterMap_cons, z2, z1]
            exact .cons (((z3.move (NewN.of (hn2 m' hm'))).ex (ExtN.of e35))) (ih fun j hj => h j (List.mem_cons_of_mem _ hj))
        exact go _ fun _ h => h
      have nDc : D ≠ c := fun z => by rw [z, g1] at hD; cases hD
      refine ⟨_, rfl, c, CC, dx3, _, rfl, e5 _ _ g1, B.clC, B.cR, (by show 3 < 1000; decide), ?_⟩
      rw [show putF (Str.ofString "runs") (V.ref D) (cF m' l3 0) = cF m' D 0 from rfl]
      have k6 : Kp (· = c) H5 (upd H5 c (.ins CC dx3 (cF m' D 0))) := Kp.upd (e5 _ _ g1) (fun _ z => nomatch z) (fun _ z => nomatch z) rfl
      have nvc : v ≠ c := fun z => by rw [z, hc] at h1; cases h1
      refine ⟨_, rfl, v, CV, dx, _, _, rfl, (by rw [L2.upd_ne nvc]; exact e35 _ _ h1), B.clV, B.vN, rfl, _, rfl, c, CC, dx3, _, rfl, upd_same, B.clC, B.cN, (by show 3 < 1000; decide), ?_⟩
      rw [show putF (Str.ofString "next_number") (V.int (vt.nxt : Nat)) (cF m' D 0) = cF m' D vt.nxt from rfl, upd2]
      have k7 : Kp (· = c) H5 (upd H5 c (.ins CC dx3 (cF m' D vt.nxt))) := Kp.upd (e5 _ _ g1) (fun _ z => nomatch z) (fun _ z => nomatch z) rfl
      refine ⟨_, rfl, good _ c m' (fun b o h => ?_) hc (hn2 m' hm') ⟨⟨dx3, D, (tellOf vt n).map fun k => match valV ks (kI k) with | some (.ref r) => r | _ => 0, upd_same, ?_, ?_⟩, mk3, ?_, ?_⟩⟩
      · rw [L2.upd_ne (ne_of_none h hc)]; exact e35 _ _ h
      · rw [L2.upd_ne nDc, hx5, hxs]
      · exact paired_mono (fun _ _ h => h.kp k7 (fun b e xs h => by rw [e, e5 _ _ g1] at h; cases h) (fun b e dx n p t h => by
          rw [e, e5 _ _ g1] at h
          exact ins_ne (Option.some.inj h)) (fun b e ks h => by rw [e, e5 _ _ g1] at h; cases h)) hrs
      · rw [L2.upd_ne (fun z => by rw [z, g1] at g4; cases g4)]; exact e5 _ _ g4
      · exact kvT_kt g5 fun b xs h => by rw [L2.upd_ne (fun z => by rw [z, g1] at h; cases h)]; exact e5 _ _ h
end
end K18
set_option Elab.async false
set_option linter.all false
set_option maxRecDepth 100000
set_option maxHeartbeats 4000000
namespace ST
open PySem PySem.Spec PyProof.Rows PySem.Calls L2 KB KC KD KS LamX PySem.SeqAt SrtO Srt
abbrev Rw := List Key
def KeyCallT (X : Cx) (f : Addr) (H : Hp) (kvs : List Rw) (kd : Rw → List PyData) : Prop :=
  ∀ x ∈ kvs, ∀ (t : Addr) (H1 : Hp), Ex H H1 → H1 t = some (.tup (x.map kV)) → ∀ (pins : List (Addr × Obj)) (σ : L2.St) (s1 : Shared) (R : Value → Shared → Prop), Inv X pins σ H1 s1 →
    (∀ y u H2 s2, Inv X pins σ H2 s2 → Ex H1 H2 → RelV y u → Dp X.K H2 y (.tuple (kd x)) → R u s2) → wpAny (model X.prog X.w) X.A.in1.in1 (call (.ref f) [.ref t]) R (fun _ _ => False) s1
def rankA (as : List Addr) (kvs : List Rw) (ρ : Rw → Int) (v : Value) : Int :=
  match v with
  | .ref t => match (as.zip kvs).find? (fun z => decide (z.1 = t)) with
    | some z => ρ z.2
    | none => 0
  | _ => 0
theorem findA_zip {as : List Addr} {kvs : List Rw} (nd : as.Nodup) : ∀ {j : Nat} {t : Addr} {x : Rw}, as[j]? = some t → kvs[j]? = some x → (as.zip kvs).find? (fun z => decide (z.1 = t)) = some (t, x) := by
  induction as generalizing kvs with
  | nil => intro j t x h; simp at h
  | cons b as ih =>
    intro j t x h1 h2
    rw [List.nodup_cons] at nd
    cases kvs with
    | nil => simp at h2
    | cons y kvs =>
      cases j with
      | zero =>
        simp only [List.getElem?_cons_zero, Option.some.injEq] at h1 h2
        subst h1 h2
        simp
      | succ j =>
        simp only [List.getElem?_cons_succ] at h1 h2
        have hne : ¬ b = t := fun z => nd.1 (by rw [z]; exact List.mem_of_getElem? h1)
        rw [List.zip_cons_cons, List.find?_cons_of_neg (by simpa using hne)]
        exact ih nd.2 h1 h2
theorem rankA_at {as : List Addr} {kvs : List Rw} {ρ : Rw → Int} (nd : as.Nodup) {j : Nat} {t : Addr} {x : Rw} (h1 : as[j]? = some t) (h2 : kvs[j]? = some x) : rankA as kvs ρ (.ref t) = ρ x := by
  unfold rankA
  simp only [findA_zip nd h1 h2]
section
variable {X : Cx} {pins : List (Addr × Obj)} {σ : L2.St}
theorem sort_bodyT {f D : Addr} {H : Hp} {s : Shared} {h2 : Heap} {tk : Nat} {kvs : List Rw} {as : List Addr} {kd : Rw → List PyData} {ρ : Rw → Int} {P : PySem.Fin → Shared → Prop} {E : Value → Shared → Prop}
    (I : Inv X pins σ H s) (hk : ∀ b o, s.heap.get? b = some o → h2.get? b = some o) (hD : h2.get? D = some (seqObj "list" (as.map Value.ref).toArray 0)) (hsD : s.heap.objs.size ≤ D)
    (nd : as.Nodup) (hat : ∀ (j : Nat) (t : Addr), as[j]? = some t → ∃ x, kvs[j]? = some x ∧ H t = some (.tup (x.map kV))) (lak : as.length = kvs.length) (hz : kvs.length ≤ sizeLine)
    (hsh : ∀ x ∈ kvs, shaped (.tuple (kd x)) = true) (hpu : ∀ x ∈ kvs, pureL (kd x) = true) (hft : ∀ x ∈ kvs, ∃ l r, kd x = .tuple l :: r) (hok : ∀ x ∈ kvs, ∀ y ∈ kvs, okL (kd x) (kd y) = true) (hρ : ∀ x ∈ kvs, ∀ y ∈ kvs, ltL (kd x) (kd y) = decide (ρ x < ρ y))
    (hu : X.A.units + 66 < cLine) (hcall : KeyCallT X f H kvs kd)
    (q : ∀ (H' : Hp) (s' : Shared) (zs : List (Addr × Rw)), Inv X pins σ H' s' → Ex H H' → H D = none → H' D = some (.lst (zs.map fun z => V.ref z.1)) → (zs.map (·.2)).Perm kvs → (zs.map (·.2)).Pairwise (fun x y => ¬ ρ y < ρ x) →
      (∀ z ∈ zs, H' z.1 = some (.tup (z.2.map kV))) → P (.done (.ret .none)) s') :
    wpAny (model X.prog X.w) X.A.in1.in1 (ksk_tree D (.ref f) false) P E { s with heap := h2, toks := tk } := by
  have szl : (as.map Value.ref).toArray.size = kvs.length := by rw [List.size_toArray, List.length_map, lak]
  have asz : (as.map Value.ref).length ≤ sizeLine := by rw [List.length_map]; omega
  have nD : H D = none := I.hok.fresh hsD
  have asD : ∀ b ∈ as, b ≠ D := fun b hb z => by
    obtain ⟨j, hj⟩ := List.mem_iff_getElem?.mp hb
    obtain ⟨x, _, e⟩ := hat j b hj
    rw [z, nD] at e
    cases e
  unfold ksk_tree
  refine wpAny_bind (listItems_at hD rfl ?_)
  refine wpAny_bind (listUpdate_at hD rfl ?_ (by rw [szl]; exact hz) (Nat.zero_le _))
  obtain ⟨e1, ho1⟩ : ∃ e1, (h2.update D (Obj.mapSeq fun _ => (#[] : Array Value))).get? D = some (seqObj "list" #[] e1) := ⟨_, get?_update_seq hD fun _ => #[]⟩
  refine wpAny_bind (seqEpoch_at ho1 rfl ?_)
  refine wpAny_bind (wpAny_newTuple ?_ asz)
  refine wpAny_bind (wpAny_newList ?_ (Nat.zero_le _))
  refine wpAny_holding ?_
  generalize hh4 : (h2.update D (Obj.mapSeq fun _ => (#[] : Array Value))).push (seqObj "tuple" (as.map Value.ref).toArray 0) = h4
  have z4 : h4.objs.size = h2.objs.size + 1 := by rw [← hh4, size_push', Heap.size_update]
  have keep4 : ∀ b o, b ≠ D → h2.get? b = some o → h4.get? b = some o := fun b o hb e => by
    rw [← hh4]
    exact Heap.get?_push_of_some _ ((Heap.get?_update_ne _ _ _ _ hb).trans e)
  have hD4 : h4.get? D = some (seqObj "list" #[] e1) := by rw [← hh4]; exact Heap.get?_push_of_some _ ho1
  have I1 : Inv X pins σ (upd H h4.objs.size (.lst [])) { s with heap := h4.push (seqObj "list" #[] 0), toks := tk } :=
    I.laid (t' := tk) (fun b o e => Heap.get?_push_of_some _ (keep4 b o (fun z => by rw [z] at e; exact absurd (Heap.lt_size e) (Nat.not_lt.mpr hsD)) (hk b o e))) (by rw [z4]; exact Nat.le_succ_of_le (Nat.le_trans hsD (Nat.le_of_lt (Heap.lt_size hD))))
      ⟨Nat.zero_le _, [], 0, .nil, Heap.get?_push_size _ rfl⟩
  have hkn : H h4.objs.size = none := I.hok.fresh (by rw [z4]; exact Nat.le_succ_of_le (Nat.le_trans hsD (Nat.le_of_lt (Heap.lt_size hD))))
  have hDk : D ≠ h4.objs.size := by rw [z4]; exact Nat.ne_of_lt (Nat.lt_succ_of_lt (Heap.lt_size hD))
  have exH2 : Ex H (upd H h4.objs.size (.lst [])) := Ex.upd hkn
  have hkS2 : (upd H h4.objs.size (.lst [])) h4.objs.size = some (.lst []) := upd_same
  have hD2 : (upd H h4.objs.size (.lst [])) D = none := by rw [upd_ne hDk]; exact nD
  have pget : ∀ {j : Nat} {t : Addr}, as[j]? = some t → ∃ x, kvs[j]? = some x ∧ (upd H h4.objs.size (.lst [])) t = some (.tup (x.map kV)) := fun {j t} hj => by
    obtain ⟨x, hx, e⟩ := hat j t hj
    exact ⟨x, hx, exH2 _ _ e⟩
  have I2 := I1
  generalize upd H h4.objs.size (.lst []) = H2 at I1 I2 exH2 hkS2 hD2 pget
  have fD : ∀ H', H' D = none → FpOk X pins H' D := fun H' n => I.fpOk hsD n
  have I3 : Inv X (pins ++ [(D, seqObj "list" #[] e1)]) σ H2 { s with heap := h4.push (seqObj "list" #[] 0), toks := tk } := I2.pins_of fun p hp => by
    rcases List.mem_append.mp hp with hp | hp
    · exact I2.pin p (List.mem_append_right _ hp)
    · rw [List.mem_singleton.mp hp]
      obtain ⟨_, f1, f2, _⟩ := fD H2 hD2
      exact ⟨Heap.get?_push_of_some _ hD4, hD2, f1, f2, fun v z => by cases z⟩
  unfold ksk_rest
  refine wpAny_bind (wpAny_rule ?_)
  first
    | rw [List.forIn_toArray]
    | (rw [← Array.forIn_toList]; simp only [List.toList_toArray])
  refine wpAny_bind (ksk_fold (fun i s' => ∃ (Hi : Hp) (ys : List V), Inv X (pins ++ [(D, seqObj "list" #[] e1)]) σ Hi s' ∧ (∀ b o, b ≠ h4.objs.size → H2 b = some o → Hi b = some o) ∧ Hi h4.objs.size = some (.lst ys) ∧ ys.length = i ∧
      ∀ (j : Nat) (y : V), ys[j]? = some y → ∃ x, kvs[j]? = some x ∧ Dp X.K Hi y (.tuple (kd x))) (as.map Value.ref) 0 _ ⟨H2, [], I3, fun b o _ e => e, hkS2, rfl, fun j y h => by simp at h⟩ ?step ?done)
  case step =>
    rintro j v s' hv ⟨Hi, ys, Ii, ei, hki, hlen, hdp⟩
    simp only [Nat.zero_add] at hlen ⊢
    rw [List.getElem?_map] at hv
    obtain ⟨t, ht, rfl⟩ := Option.map_eq_some_iff.mp hv
    obtain ⟨x, hx, q1⟩ := pget ht
    have nk : ∀ {b : Addr} {vs : List V}, H2 b = some (.tup vs) → b ≠ h4.objs.size := fun e z => by rw [z, hkS2] at e; cases e
    have hxm : x ∈ kvs := List.mem_of_getElem? hx
    refine wpAny_bind (wpAny_attempt (wpAny_mono (hcall x hxm t Hi (fun b o e => ei b o (fun z => by rw [z, hkn] at e; cases e) (exH2 b o e)) (ei _ _ (nk q1) q1) _ _ s'
      (fun u s'' => ∃ y H3, Inv X (pins ++ [(D, seqObj "list" #[] e1)]) σ H3 s'' ∧ Ex Hi H3 ∧ RelV y u ∧ Dp X.K H3 y (.tuple (kd x))) Ii fun y u H3 s2 J e3 ry dy => ⟨y, H3, J, e3, ry, dy⟩) (fun u s'' he => ?_) fun _ _ hF => hF.elim))
    obtain ⟨y, H3, J, e3, ry, dy⟩ := he
    have hk3 := e3 _ _ hki
    obtain ⟨hzy, its, n, ri, hraw⟩ := lst_raw J hk3
    have jl : j < as.length := (List.getElem?_eq_some_iff.mp ht).1
    have il : its.length = ys.length := ri.length.symm
    try dsimp only
    refine wpAny_bind (listUpdate_at hraw rfl ?_ (by rw [List.size_toArray]; omega) (by rw [Array.size_push, List.size_toArray]; omega))
    refine wpAny_pure ⟨rfl, _, ys ++ [y], lst_write (tk := s''.toks) J hk3 hraw (by rw [List.length_append, List.length_singleton]; omega) (ri.append (.cons ry .nil)) (·.push u) (by simp), fun b o hb e => ?_, upd_same, by rw [List.length_append, List.length_singleton]; omega, fun i z hz' => ?_⟩
    · rw [upd_ne hb]
      exact e3 _ _ (ei b o hb e)
    · have mono : ∀ {v : V} {x : Rw}, x ∈ kvs → Dp X.K H3 v (.tuple (kd x)) → Dp X.K (upd H3 h4.objs.size (.lst (ys ++ [y]))) v (.tuple (kd x)) := fun {v x} hm hd =>
        dp_tups (fun b vs r => r.elim (fun r => .inl (by rw [upd_ne (ne_of r hk3 (fun z => by cases z))]; exact r)) fun ⟨o, r⟩ => .inr ⟨o, by rw [upd_ne (ne_of r hk3 (fun z => by cases z))]; exact r⟩) (by unfold pureD; exact hpu x hm) hd
      by_cases hi : i < ys.length
      · rw [List.getElem?_append_left hi] at hz'
        obtain ⟨x', hx', hd'⟩ := hdp i z hz'
        exact ⟨x', hx', mono (List.mem_of_getElem? hx') (dp_ex e3 hd')⟩
      · rw [List.getElem?_append_right (by omega)] at hz'
        have e0 : i - ys.length = 0 := by
          have := (List.getElem?_eq_some_iff.mp hz').1
          simp at this
          omega
        rw [e0] at hz'
        have e4 : y = z := by simpa using hz'
        have e5 : i = j := by omega
        rw [← e4, e5]
        exact ⟨x, hx, mono hxm dy⟩
  case done =>
    rintro s' ⟨Hi, ys, Ii, ei, hki, hlen, hdp⟩
    rw [List.length_map, Nat.zero_add] at hlen
    obtain ⟨_, its, n, ri, hraw⟩ := lst_raw Ii hki
    have il : its.length = ys.length := ri.length.symm
    try dsimp only
    refine wpAny_bind (listItems_at hraw rfl ?_)
    have pairsL : (its.toArray.zip (as.map Value.ref).toArray).toList = its.zip (as.map Value.ref) := by
      first
        | simp
        | rfl
    have mem_at : ∀ p ∈ its.zip (as.map Value.ref), ∃ (j : Nat) (t : Addr) (x : Rw), p.2 = .ref t ∧ as[j]? = some t ∧ kvs[j]? = some x ∧ its[j]? = some p.1 := fun p hp => by
      obtain ⟨j, hj⟩ := List.mem_iff_getElem?.mp hp
      obtain ⟨j1, j2⟩ := List.getElem?_zip_eq_some.mp hj
      rw [List.getElem?_map] at j2
      obtain ⟨t, ht, e⟩ := Option.map_eq_some_iff.mp j2
      obtain ⟨x, hx, _⟩ := pget ht
      exact ⟨j, t, x, e.symm, ht, hx, j1⟩
    have tail : ∀ st' : SortSt, Srtd (fun p q : Keyed => decide (rankA as kvs ρ p.2 < rankA as kvs ρ q.2)) (arrOf st').toList → Stb (fun p q : Keyed => decide (rankA as kvs ρ p.2 < rankA as kvs ρ q.2)) (arrOf st').toList (its.zip (as.map Value.ref)) → failedOf st' = none →
        wpAny (model X.prog X.w) X.A.in1.in1 (ksk_tail D false e1 (.ref h4.objs.size) st') P E s' := by
      intro st' hs hb hf
      have out_perm : ((arrOf st').toList.map (·.2)).Perm (as.map Value.ref) := by
        have z := hb.perm.map (·.2)
        rw [List.map_snd_zip (by rw [List.length_map]; omega)] at z
        exact z
      have ezip : (as.zip kvs).map (fun z => Value.ref z.1) = as.map Value.ref := by
        rw [show (fun z : Addr × Rw => Value.ref z.1) = Value.ref ∘ Prod.fst from rfl, ← List.map_map, List.map_fst_zip (by omega)]
      obtain ⟨zs, pz, ez⟩ := perm_lift (fun z : Addr × Rw => Value.ref z.1) out_perm (as.zip kvs) ezip
      have zmem : ∀ z ∈ zs, ∃ j : Nat, as[j]? = some z.1 ∧ kvs[j]? = some z.2 := fun z hz => by
        obtain ⟨j, hj⟩ := List.mem_iff_getElem?.mp (pz.mem_iff.mp hz)
        exact ⟨j, List.getElem?_zip_eq_some.mp hj⟩
      have zlen : zs.length = kvs.length := by
        rw [pz.length_eq, List.length_zip]
        omega
      have osz : ((arrOf st').map (·.2)).size = kvs.length := by
        have z := out_perm.length_eq
        rw [List.length_map, Array.length_toList, List.length_map] at z
        rw [Array.size_map]
        omega
      have oeq : ((arrOf st').map (·.2)).toList = zs.map fun z => Value.ref z.1 := by rw [Array.toList_map, ← ez]
      have J1 := lst_write (tk := s'.toks) (zs := []) (vs := []) Ii hki hraw (Nat.zero_le _) .nil (fun _ => (#[] : Array Value)) rfl
      obtain ⟨pD, nD5, _⟩ := J1.pin (D, seqObj "list" #[] e1) (List.mem_append_right _ (List.mem_append_right _ (List.mem_singleton.mpr rfl)))
      unfold ksk_tail
      try dsimp only
      refine wpAny_bind (listUpdate_at hraw rfl ?_ (by rw [List.size_toArray]; omega) (Nat.zero_le _))
      refine wpAny_bind (wpAny_letGo ?_)
      refine wpAny_bind (seqEpoch_at pD rfl ?_)
      refine wpAny_bind (listUpdate_at pD rfl ?_ (Nat.zero_le _) (by simp only [Bool.false_eq_true, if_false]; rw [osz]; omega))
      rw [hf]
      simp only [bne_self_eq_false, Bool.false_eq_true, if_false]
      refine wpAny_pure ?_
      have J2 := J1.pins_of (pins' := pins) fun p hp => J1.pin p (List.mem_append_right _ (List.mem_append_left _ hp))
      have eD := get?_update_seq pD fun _ => (arrOf st').map (·.2)
      have dk : D ≠ h4.objs.size := hDk
      have J3 := J2.take (t' := s'.toks) (o := .lst (zs.map fun z => V.ref z.1)) (h' := (s'.heap.update h4.objs.size (Obj.mapSeq fun _ => (#[] : Array Value))).update D (Obj.mapSeq fun _ => (arrOf st').map (·.2))) (fun b u hb e => (Heap.get?_update_ne _ _ _ _ hb).trans e) (fD _ nD5)
        ⟨by rw [List.length_map]; omega, zs.map (fun z => Value.ref z.1), _, vals_maps (fun z : Addr × Rw => V.ref z.1) (fun z => Value.ref z.1) zs fun _ _ => rfl, by rw [← oeq, Array.toArray_toList]; exact eD⟩
      refine q _ _ zs J3 (fun b o e => ?_) nD upd_same ?_ ?_ fun z hz' => ?_
      · rw [upd_ne (ne_of_none e nD), upd_ne (ne_of_none e hkn)]
        exact ei b o (ne_of_none e hkn) (exH2 b o e)
      · have z := pz.map (·.2)
        rw [List.map_snd_zip (by omega)] at z
        exact z
      · have s1 : (zs.map fun z => Value.ref z.1).Pairwise (fun v u => decide (rankA as kvs ρ u < rankA as kvs ρ v) = false) := by
          rw [ez, List.pairwise_map]
          exact hs
        rw [List.pairwise_map] at s1 ⊢
        refine List.Pairwise.imp_of_mem (fun {x y} hx hy h => ?_) s1
        obtain ⟨j, j1, j2⟩ := zmem x hx
        obtain ⟨i, i1, i2⟩ := zmem y hy
        rw [rankA_at nd j1 j2, rankA_at nd i1 i2] at h
        exact of_decide_eq_false h
      · obtain ⟨j, j1, j2⟩ := zmem z hz'
        obtain ⟨x, hx, q1⟩ := pget j1
        have e : x = z.2 := Option.some.inj (hx.symm.trans j2)
        rw [e] at q1
        have up : ∀ {b : Addr} {vs : List V}, H2 b = some (.tup vs) → (upd (upd Hi h4.objs.size (.lst [])) D (.lst (zs.map fun z => V.ref z.1))) b = some (.tup vs) := fun {b vs} h => by
          rw [upd_ne (fun z => by rw [z, hD2] at h; cases h), upd_ne (fun z => by rw [z, hkS2] at h; cases h)]
          exact ei _ _ (fun z => by rw [z, hkS2] at h; cases h) h
        exact up q1
    unfold ksk_end
    simp only [Bool.false_eq_true, if_false]
    by_cases h2s : (as.map Value.ref).toArray.size < 2
    · rw [if_pos h2s, if_pos h2s]
      refine wpAny_bind (wpAny_pure ?_)
      rw [StateT.run_pure]
      refine wpAny_bind (wpAny_pure ?_)
      try dsimp only
      refine tail (SortSt.mk' general' (its.toArray.zip (as.map Value.ref).toArray) #[] 7 none) ?_ ?_ rfl
      · show List.Pairwise _ (its.toArray.zip (as.map Value.ref).toArray).toList
        rw [pairsL]
        have ll : (its.zip (as.map Value.ref)).length < 2 := by
          rw [List.length_zip, List.length_map]
          rw [szl] at h2s
          omega
        match h : its.zip (as.map Value.ref), ll with
        | [], _ => exact List.Pairwise.nil
        | [v], _ => exact List.pairwise_singleton _ _
        | _ :: _ :: l, h3 => exact absurd h3 (by rw [List.length_cons, List.length_cons]; omega)
      · show Stb _ (its.toArray.zip (as.map Value.ref).toArray).toList _
        rw [pairsL]
        exact Stb.refl _
    · rw [if_neg h2s, if_neg h2s]
      have rd : ∀ {j : Nat} {u : Value}, its[j]? = some u → ∃ x as', kvs[j]? = some x ∧ Reads s'.heap u (.tuple (kd x)) as' := fun {j u} hj => by
        have jl : j < ys.length := by
          have := (List.getElem?_eq_some_iff.mp hj).1
          omega
        obtain ⟨x, hx, hd⟩ := hdp j ys[j] (List.getElem?_eq_getElem jl)
        obtain ⟨u', hu', ru⟩ := ri.get (List.getElem?_eq_getElem jl)
        have e : u' = u := Option.some.inj (hu'.symm.trans hj)
        rw [e] at ru
        obtain ⟨as', r⟩ := Dp.reads Ii _ _ _ hd ru
        exact ⟨x, as', hx, r⟩
      have cmp : Cmp X.prog X.w X.A.in1.in1 s' (tuples' false) (fun p => p ∈ its.zip (as.map Value.ref)) (fun p q : Keyed => decide (rankA as kvs ρ p.2 < rankA as kvs ρ q.2)) := by
        intro p q hp hq
        obtain ⟨j, t, x, e1, h1, h2, h3⟩ := mem_at p hp
        obtain ⟨i, t', x', e1', h1', h2', h3'⟩ := mem_at q hq
        obtain ⟨y, bs, hy, r⟩ := rd h3
        obtain ⟨y', bs', hy', r'⟩ := rd h3'
        have ey : y = x := Option.some.inj (hy.symm.trans h2)
        have ey' : y' = x' := Option.some.inj (hy'.symm.trans h2')
        rw [ey] at r
        rw [ey'] at r'
        have m := List.mem_of_getElem? h2
        have m' := List.mem_of_getElem? h2'
        refine keyLt_data r r' (canLay_of_shaped (hsh x m)) (canLay_of_shaped (hsh x' m')) (hok x m x' m') (room_of_shaped (hsh x m) (by show X.A.units + 1 + 1 + 64 < cLine; omega)) ⟨rfl, ?_⟩
        show ltL (kd x) (kd x') = decide (rankA as kvs ρ p.2 < rankA as kvs ρ q.2)
        rw [e1, e1', rankA_at nd h1 h2, rankA_at nd h1' h2', hρ x m x' m']
      have kk : ∀ (R : SortKind → Shared → Prop), R (tuples' false) s' → wpAny (model X.prog X.w) X.A.in1.in1 (keyKind' its.toArray) R E s' := by
        intro R hR
        obtain ⟨fs, k1, k2, k3⟩ := kat_of (h := s'.heap) its fun u hu' => by
          obtain ⟨j, hj⟩ := List.mem_iff_getElem?.mp hu'
          obtain ⟨x, as', hx, r⟩ := rd hj
          obtain ⟨l, r', e⟩ := hft x (List.mem_of_getElem? hx)
          rw [e] at r
          exact ⟨l, r', as', r⟩
        refine PySem.W.kat_kind (T := .type "tuple") k1 (by rw [szl] at h2s; omega) (fun v hv => ?_) (by decide) (by
          have z : (Value.type "tuple" != Value.type "tuple") = false := by decide
          rw [z]
          exact hR)
        obtain ⟨b, o, rfl, ho, hc⟩ := k3 v hv
        rw [← hc]
        exact (PySem.W.Looks.ld ho).andThen .now
      refine wpAny_bind (kk _ ?_)
      refine wpAny_bind (wpAny_mono (wpS_sortO (st0 := SortSt.mk' (tuples' false) (its.toArray.zip (as.map Value.ref).toArray) #[] 7 none)
        (Q := fun _ st' => Srtd (fun p q : Keyed => decide (rankA as kvs ρ p.2 < rankA as kvs ρ q.2)) (arrOf st').toList ∧ Stb (fun p q : Keyed => decide (rankA as kvs ρ p.2 < rankA as kvs ρ q.2)) (arrOf st').toList (its.zip (as.map Value.ref)) ∧ failedOf st' = none) (swo_rank fun p : Keyed => rankA as kvs ρ p.2) cmp rfl
        (fun p hp => by
          have hp : p ∈ (its.toArray.zip (as.map Value.ref).toArray).toList := hp
          rw [pairsL] at hp
          exact hp) rfl rfl fun st' a1 a2 a3 => ⟨a1, by
            have a2 : Stb _ (arrOf st').toList (its.toArray.zip (as.map Value.ref).toArray).toList := a2
            rw [pairsL] at a2
            exact a2, a3⟩) ?_ fun _ _ e => e)
      rintro ⟨⟨⟩, st'⟩ s'' ⟨rfl, a1, a2, a3⟩
      try dsimp only
      exact tail st' a1 a2 a3
end
end ST
set_option Elab.async false
set_option linter.all false
set_option maxRecDepth 100000
set_option maxHeartbeats 4000000
namespace ST
open PySem PySem.Spec PyProof.Rows PySem.Calls L2 KB KC KD KS LamX PySem.SeqAt
def rSortTK (X : Cx) : List V → List V → Hp → VK → Prop := fun vs zs H Q => ∃ (a f : Addr) (kvs : List (Rw × V)) (kd : Rw → List PyData) (ρ : Rw → Int), vs = [.ref a] ∧ zs = [.ref f] ∧ H a = some (.dT kvs) ∧ (kvs.map (·.1)).Nodup ∧
  (∀ x ∈ kvs.map (·.1), shaped (.tuple (kd x)) = true) ∧ (∀ x ∈ kvs.map (·.1), pureL (kd x) = true) ∧ (∀ x ∈ kvs.map (·.1), ∃ l r, kd x = .tuple l :: r) ∧ (∀ x ∈ kvs.map (·.1), ∀ y ∈ kvs.map (·.1), okL (kd x) (kd y) = true) ∧ (∀ x ∈ kvs.map (·.1), ∀ y ∈ kvs.map (·.1), ltL (kd x) (kd y) = decide (ρ x < ρ y)) ∧ KeyCallT X f H (kvs.map (·.1)) kd ∧
  ∀ (H' : Hp) (D : Addr) (zs : List (Addr × Rw)), Ex H H' → H D = none → H' D = some (.lst (zs.map fun z => V.ref z.1)) → (zs.map (·.2)).Perm (kvs.map (·.1)) → (zs.map (·.2)).Pairwise (fun x y => ¬ ρ y < ρ x) → (∀ z ∈ zs, H' z.1 = some (.tup (z.2.map kV))) → Q (.ref D) H'
section
variable {X : Cx}
theorem cr_sortTK (hc : X.calm = true) (hu : X.A.units + 66 < cLine) : CallRK X (.builtin "sorted") [Str.ofString "key"] (rSortTK X) := by
  intro pins s σ H xs zs us ws Q I r rz h
  obtain ⟨a, f, kvs, kd, ρ, rfl, rfl, ha, nd, hsh, hpu, hft, hok, hρ, hcall, q⟩ := h
  obtain rfl := Vals.ref1 r
  obtain rfl := Vals.ref1 rz
  obtain ⟨z, hd, xs', rel, o, es, ep, ho, hx, hdat, hes, his, hn⟩ := dt_of I.hok ha
  have l1 : kvs.length = xs'.length := Paired.length rel
  have l2 : es.size = xs'.length := size_of_entries hes
  show wpAny _ _ (call (.builtin "sorted") [.ref a] [(Str.ofString "key", .ref f)]) _ _ s
  refine call_function_entry_kw kind_sorted plain_sorted entry_sorted (ksk_s1 _ _) ?_
  unfold Builtin.«sorted»
  refine wpAny_bind (m := checkCount "sorted" 1 1 _) (wpAny_pure ?_)
  refine wpAny_bind (CP.collect_src (A := X.A.in1) (kdl_raw (ep := ep) hd hx hdat) (I.ok.hd hc) ho (by omega) fun h' tk acc hk hlt hacc => ?_)
  have eas : acc.toList = (xs'.map fun x => x.2.1).map Value.ref := by
    apply List.ext_getElem?
    intro j
    by_cases hj : j < es.size
    · have hj2 : j < acc.size := by rw [hacc.1]; exact hj
      obtain ⟨en, he, hv⟩ := hacc.2 j acc[j] (Array.getElem?_eq_getElem hj2)
      rw [Array.getElem?_toList, Array.getElem?_eq_getElem hj2, hv]
      have q := entry_at hes j
      rw [he] at q
      have hjx : j < xs'.length := by omega
      rw [List.getElem?_eq_getElem hjx] at q
      have q := Option.some.inj q
      rw [q, List.getElem?_map, List.getElem?_map, List.getElem?_eq_getElem hjx]
      rfl
    · rw [List.getElem?_eq_none (by rw [Array.length_toList, hacc.1]; omega), List.getElem?_eq_none (by rw [List.length_map, List.length_map]; omega)]
  rw [eas]
  have hat : ∀ (j : Nat) (t : Addr), (xs'.map fun x => x.2.1)[j]? = some t → ∃ x, (kvs.map (·.1))[j]? = some x ∧ H t = some (.tup (x.map kV)) := by
    intro j t hj
    rw [List.getElem?_map] at hj
    obtain ⟨x, hxj, rfl⟩ := Option.map_eq_some_iff.mp hj
    have go : ∀ {kvs : List (Rw × V)} {xs' : List (Rw × Addr × Value)} {j : Nat}, KT H kvs xs' → xs'[j]? = some x → ∃ y, (kvs.map (·.1))[j]? = some y ∧ H x.2.1 = some (.tup (y.map kV)) := by
      intro kvs xs' j rel
      unfold KT at rel
      induction rel generalizing j with
      | nil => intro h; cases h
      | @cons p b l m hh t ih =>
        intro h
        cases j with
        | zero =>
          cases h
          exact ⟨p.1, rfl, hh.2.1⟩
        | succ j => exact ih h
    exact go rel hxj
  have las : (xs'.map fun x => x.2.1).length = (kvs.map (·.1)).length := by rw [List.length_map, List.length_map, l1]
  have ndA : (xs'.map fun x => x.2.1).Nodup := by
    rw [List.nodup_iff_pairwise_ne, List.pairwise_iff_getElem]
    intro i j hi hj hij e
    obtain ⟨x, hx1, hx2⟩ := hat i _ (List.getElem?_eq_getElem hi)
    obtain ⟨y, hy1, hy2⟩ := hat j _ (List.getElem?_eq_getElem hj)
    rw [e, hy2] at hx2
    have exy : y.map kV = x.map kV := HO.tup.inj (Option.some.inj hx2)
    have inj : ∀ {a b : Rw}, a.map kV = b.map kV → a = b := by
      intro a
      induction a with
      | nil => intro b h; cases b with
        | nil => rfl
        | cons _ _ => cases h
      | cons u a ih => intro b h; cases b with
        | nil => cases h
        | cons v b =>
          rw [List.map_cons, List.map_cons, List.cons.injEq] at h
          rw [kV_inj h.1, ih h.2]
    have exy := inj exy
    rw [exy] at hy1
    have := (List.nodup_iff_pairwise_ne.mp nd)
    rw [List.pairwise_iff_getElem] at this
    obtain ⟨h1, g1⟩ := List.getElem?_eq_some_iff.mp hx1
    obtain ⟨h2, g2⟩ := List.getElem?_eq_some_iff.mp hy1
    exact this i j h1 h2 hij (g1.trans g2.symm)
  generalize (xs'.map fun x => x.2.1) = as at hat las ndA
  have hz : (kvs.map (·.1)).length ≤ sizeLine := by rw [List.length_map]; exact z
  refine wpAny_bind (wpAny_newList ?_ (by rw [List.length_map, las]; exact hz))
  have hoL : (h'.push (seqObj "list" (as.map Value.ref).toArray 0)).get? h'.objs.size = some (seqObj "list" (as.map Value.ref).toArray 0) := Heap.get?_push_size _ rfl
  refine wpAny_bind (wpAny_holding (wpAny_call_entry_kw slot_list_sort ⟨_, hoL, rfl⟩ entry_list_sort ?body (ksk_l1 _ _)))
  case body =>
    show wpAny (model X.prog X.w) X.A.in1.in1 (Builtin.«list.sort» ⟨[.ref h'.objs.size], [(Str.ofString "key", .ref f)]⟩) _ _ _
    rw [ksk_t1]
    refine sort_bodyT (s := s) (h2 := h'.push (seqObj "list" (as.map Value.ref).toArray 0)) (tk := tk) (ρ := ρ) I (fun b u e => Heap.get?_push_of_some _ (hk b u e)) hoL (Nat.le_of_lt hlt) ndA hat las hz hsh hpu hft hok hρ hu hcall fun H' s' zs J e1 e2 e3 e4 e5 e6 => ⟨_, rfl, ?_⟩
    exact wpAny_pure ⟨_, rfl, .ref h'.objs.size, H', J, rfl, q H' h'.objs.size zs e1 e2 e3 e4 e5 e6⟩
theorem keyCall_fn {k : Nat} {f : Addr} {fd : FuncData} {pn : Str} {sp : Sp} {H : Hp} {kvs : List Rw} {kd : Rw → List PyData} (F : FnOk X.prog X.w X.K X.mg X.base CX0 k f fd [pn] sp) (hb : Binds X.K fd [pn] []) (hr : Room (k + 2) X.A)
    (hsp : ∀ x ∈ kvs, ∀ (t : Addr) (H1 : Hp) (Q : VK), H1 t = some (.tup (x.map kV)) → (∀ y H2, Ex H1 H2 → Dp X.K H2 y (.tuple (kd x)) → Q y H2) → sp [.ref t] H1 Q E0) : KeyCallT X f H kvs kd := by
  intro x hx t H1 e1 h1 pins σ s1 R J hR
  have hr2 : Room k X.A.in1.in1 := (show Room (k + 1) X.A.in1 from Room.in1 hr).in1
  have hbd := hb s1 [.ref t] J.kIn rfl
  have rc := F.run X.A.in1.in1 X.stack s1 H1 ⟨[.ref t], []⟩ [.ref t] [.ref t] (fun y H2 => Ex H1 H2 ∧ Dp X.K H2 y (.tuple (kd x))) E0 hr2 J.env0.in1.in1 hbd (.cons rfl .nil) (hsp x hx t H1 _ h1 fun y H2 a b => ⟨a, b⟩)
  refine wpAny_call (codeAny_mono rc fun r s2 hq => ?_)
  cases r with
  | error e => exact (show False from hq).elim
  | ok fl =>
    cases fl with
    | ret u =>
      obtain ⟨y, H2, J2, ry, a, b⟩ := J.after hq
      exact hR y u H2 s2 J2 a ry b
    | next => exact False.elim hq
    | brk => exact False.elim hq
    | cont => exact False.elim hq
end
end ST
set_option Elab.async false
set_option linter.all false
set_option maxRecDepth 100000
set_option maxHeartbeats 4000000
namespace K18
open PySem PySem.Spec PyProof.Rows PySem.Calls L2 KB KC KD KS KM LamX R8 CP K7 TK
theorem ExD.trans {d : Addr} {H H1 H2 : Hp} (a : ExD d H H1) (b : ExD d H1 H2) : ExD d H H2 := fun c o n h => b c o n (a c o n h)
theorem ExD.of {d : Addr} {H H1 : Hp} (e : KS.Ex H H1) : ExD d H H1 := fun b o _ h => e b o h
theorem roll_step {H : Hp} {d : Addr} {m : Int} {Q : VK} {E : XK} (i : IsDice H d) (h0 : 0 < m) (h1 : m ≤ 100000000) (q : ∀ r H', 0 ≤ r → r < m → ExD d H H' → IsDice H' d → Q (.int r) H') : spRoll [.ref d, .int m] H Q E := by
  unfold spRoll
  exact ⟨d, m, rfl, i, h0, h1, fun r a b k l u => q r _ l u (fun c o n e => by rw [L2.upd_ne n]; exact e) ⟨a, b, k, upd_same⟩⟩
theorem dice_ne {H : Hp} {d b : Addr} {o : HO} (i : IsDice H d) (h : H b = some o) (n : ∀ xs, o ≠ .lst xs) : b ≠ d := fun c => by
  obtain ⟨x, y, z, hd⟩ := i
  rw [c, hd] at h
  exact n _ (Option.some.inj h).symm
theorem IsDice.ex {H H' : Hp} {d : Addr} (h : IsDice H d) (e : KS.Ex H H') : IsDice H' d := by
  obtain ⟨x, y, z, hd⟩ := h
  exact ⟨x, y, z, e _ _ hd⟩
theorem ne_new {H : Hp} {d p : Addr} (i : IsDice H d) (h : H p = none) : p ≠ d := fun c => by
  obtain ⟨x, y, z, hd⟩ := i
  rw [c, hd] at h; cases h
@[irreducible] def spKey : Sp := fun vs H Q _ => ∃ d, vs = [.ref d] ∧ IsDice H d ∧ ∀ H' q k, ExD d H H' → IsDice H' d → H' q = some (.tup (k.map kV)) → k ∈ Q18.U → Q (.ref q) H'
@[irreducible] def spPairs : Sp := fun vs H Q _ => ∃ (a : Addr) (kvs : List (Rw × V)) (es : Tb), vs = [.ref a] ∧ H a = some (.dT kvs) ∧ KvT RV H kvs es ∧ Q18.Nd es ∧ Keys es ∧ ∀ rs : Tb, rs.Perm es → Q18.Asc rs → ∀ H' q ts, KS.Ex H H' → H' q = some (.tup (ts.map V.ref)) → Prs H' ts rs → Q (.ref q) H'
section
variable {P : Program} {w : World} {K : PySem.W.Frag} {mg : Str → Option Value} {base : Heap} {f : Addr} {fd : FuncData}
theorem key_step {d : Addr} {H : Hp} {Q : VK} {E : XK} (i : IsDice H d) (fin : ∀ H' q k, ExD d H H' → IsDice H' d → H' q = some (.tup (k.map kV)) → k ∈ Q18.U → Q (.ref q) H') : spKey [.ref d] H Q E := by
  unfold spKey
  exact ⟨d, rfl, i, fin⟩
theorem scKy : FnScope ["dice"] ["dice"] (defScope sKey) := ⟨rfl, rfl, rfl, by decide +kernel, rfl, by decide +kernel, by decide +kernel⟩
theorem u1 (r s : Int) (h0 : 0 ≤ r) (h1 : r < 5) (h2 : 0 ≤ s) (h3 : s < 2) : ∃ z : Str, atI [V.str "", V.str "x"] s = some (.str z) ∧ [Sum.inl r, Sum.inr z] ∈ Q18.U := by
  have a : r = 0 ∨ r = 1 ∨ r = 2 ∨ r = 3 ∨ r = 4 := by omega
  have b : s = 0 ∨ s = 1 := by omega
  rcases b with rfl | rfl
  · refine ⟨"", rfl, ?_⟩
    rcases a with rfl | rfl | rfl | rfl | rfl
    · exact List.mem_of_getElem? (i := 0) rfl
    · exact List.mem_of_getElem? (i := 2) rfl
    · exact List.mem_of_getElem? (i := 4) rfl
    · exact List.mem_of_getElem? (i := 6) rfl
    · exact List.mem_of_getElem? (i := 8) rfl
  · refine ⟨"x", rfl, ?_⟩
    rcases a with rfl | rfl | rfl | rfl | rfl
    · exact List.mem_of_getElem? (i := 1) rfl
    · exact List.mem_of_getElem? (i := 3) rfl
    · exact List.mem_of_getElem? (i := 5) rfl
    · exact List.mem_of_getElem? (i := 7) rfl
    · exact List.mem_of_getElem? (i := 9) rfl
theorem u2 (s : Int) (h2 : 0 ≤ s) (h3 : s < 2) : ∃ z : Str, atI [V.str "y", V.str "z"] s = some (.str z) ∧ [Sum.inr z] ∈ Q18.U := by
  have b : s = 0 ∨ s = 1 := by omega
  rcases b with rfl | rfl
  · exact ⟨"y", rfl, List.mem_of_getElem? (i := 10) rfl⟩
  · exact ⟨"z", rfl, List.mem_of_getElem? (i := 11) rfl⟩
theorem ok_key (F : FnP K "_law_key" "_law_key" sKey [] f fd) (roll : Cal P w K mg base 1 "_law_roll" ["dice", "many"] spRoll) : FnOk P w K mg base CX0 2 f fd ["dice"] spKey := by
  obtain ⟨f1, fd1, G1, g1, k1, b1⟩ := roll
  refine F.ok scKy (fun vs H Q E h => ?_) (fun cdv A outer s H vs Q E hr h => ?_)
  · unfold spKey at h
    obtain ⟨_, rfl, _⟩ := h; rfl
  · unfold spKey at h
    obtain ⟨d, rfl, i, fin⟩ := h
    refine ⟨_, PSs.nox <| pss_one (ps_ret (pe_ifExp (pt_cmpR op_eq (pe_call G1 hr (by rfl) g1 k1 b1 .nil pass0 (pa_cons (pv 0) (pa_cons pe_int pa_nil))) pe_int (nomark _))
      (pe_tup (pa_cons (pe_call G1 hr (by rfl) g1 k1 b1 .nil pass0 (pa_cons (pv 0) (pa_cons pe_int pa_nil))) (pa_cons (pe_ix ix_listD (pe_lst (pa_cons pe_str (pa_cons pe_str pa_nil))) (pe_call G1 hr (by rfl) g1 k1 b1 .nil pass0 (pa_cons (pv 0) (pa_cons pe_int pa_nil))) (fun _ _ => rfl)) pa_nil)))
      (pe_tup (pa_cons (pe_ix ix_listD (pe_lst (pa_cons pe_str (pa_cons pe_str pa_nil))) (pe_call G1 hr (by rfl) g1 k1 b1 .nil pass0 (pa_cons (pv 0) (pa_cons pe_int pa_nil))) (fun _ _ => rfl)) pa_nil)))), ?_⟩
    refine ⟨_, rfl, roll_step i (by decide) (by decide) fun r0 H1 a0 b0 e1 i1 => ?_⟩
    refine ⟨rfl, _, rfl, ?_⟩
    by_cases c : r0 = 0
    · refine ifT (by simp [c]) ?_
      refine ⟨_, rfl, roll_step i1 (by decide) (by decide) fun r1 H2 a1 c1 e2 i2 => ⟨(by show 2 ≤ sizeLine; decide), fun p hp => ⟨_, rfl, roll_step (i2.ex (Ex.upd hp)) (by decide) (by decide) fun r2 H3 a2 c2 e3 i3 => ?_⟩⟩⟩
      obtain ⟨z, hz, hu⟩ := u1 r1 r2 a1 c1 a2 c2
      have hp3 : H3 p = some (.lst [.str "", .str "x"]) := e3 _ _ (ne_new i2 hp) upd_same
      refine ⟨p, _, r2, .str z, rfl, rfl, hp3, hz, (by show 2 ≤ sizeLine; decide), fun q hq => ?_⟩
      refine fin _ q [.inl r1, .inr z] (((e1.trans e2).trans (ExD.of (Ex.upd hp))).trans (e3.trans (ExD.of (Ex.upd hq)))) (i3.ex (Ex.upd hq)) upd_same hu
    · refine ifF (by simp [c]) ?_
      refine ⟨(by show 2 ≤ sizeLine; decide), fun p hp => ⟨_, rfl, roll_step (i1.ex (Ex.upd hp)) (by decide) (by decide) fun r2 H3 a2 c2 e3 i3 => ?_⟩⟩
      obtain ⟨z, hz, hu⟩ := u2 r2 a2 c2
      have hp3 : H3 p = some (.lst [.str "y", .str "z"]) := e3 _ _ (ne_new i1 hp) upd_same
      refine ⟨p, _, r2, .str z, rfl, rfl, hp3, hz, (by show 1 ≤ sizeLine; decide), fun q hq => ?_⟩
      refine fin _ q [.inr z] ((e1.trans (ExD.of (Ex.upd hp))).trans (e3.trans (ExD.of (Ex.upd hq)))) (i3.ex (Ex.upd hq)) upd_same hu
end
end K18
set_option Elab.async false
set_option linter.all false
set_option maxRecDepth 100000
set_option maxHeartbeats 4000000
namespace K18
open PySem PySem.Spec PyProof.Rows PySem.Calls L2 KB KC KD KS KM LamX R8 CP K7 TK
def RPr : Hp → V → Rw × Option Int → Prop := fun H v x => ∃ t q u, v = .ref t ∧ H t = some (.tup [.ref q, u]) ∧ H q = some (.tup (x.1.map kV)) ∧ RV H u x.2
theorem RPr.stab : ∀ H H' v a, KT' H H' → RPr H v a → RPr H' v a := fun _ _ _ _ k ⟨t, q, u, e, h1, h2, h3⟩ => ⟨t, q, u, e, k _ _ h1, k _ _ h2, h3.kt k⟩
theorem rpr_prs {H : Hp} : ∀ {xs : List V} {ps : Tb}, Paired (RPr H) xs ps → ∃ ts : List Addr, xs = ts.map V.ref ∧ Prs H ts ps
  | _, _, .nil => ⟨[], rfl, .nil⟩
  | _, _, .cons ⟨t, q, u, e, h1, h2, h3⟩ r => by
    obtain ⟨ts, e2, p⟩ := rpr_prs r
    exact ⟨t :: ts, by rw [List.map_cons, e, e2], .cons ⟨q, u, h1, h2, h3⟩ p⟩
section
variable {P : Program} {w : World} {K : PySem.W.Frag} {mg : Str → Option Value} {base : Heap} {f : Addr} {fd : FuncData}
theorem pairs_step {a : Addr} {kvs : List (Rw × V)} {es : Tb} {H : Hp} {Q : VK} {E : XK} (ha : H a = some (.dT kvs)) (hk : KvT RV H kvs es) (nd : Q18.Nd es) (ku : Keys es) (fin : ∀ rs : Tb, rs.Perm es → Q18.Asc rs → ∀ H' q ts, KS.Ex H H' → H' q = some (.tup (ts.map V.ref)) → Prs H' ts rs → Q (.ref q) H') : spPairs [.ref a] H Q E := by
  unfold spPairs
  exact ⟨a, kvs, es, rfl, ha, hk, nd, ku, fin⟩
theorem scPr : FnScope ["own", "key"] ["own"] (defScope sPairs) := ⟨rfl, rfl, rfl, by decide +kernel, rfl, by decide +kernel, by decide +kernel⟩
theorem ft_rk {x : Rw} (h : x ≠ []) : ∃ l r, rk x = .tuple l :: r := by
  cases x with
  | nil => exact absurd rfl h
  | cons y r => cases y with
    | inl i => exact ⟨_, _, rfl⟩
    | inr s => exact ⟨_, _, rfl⟩
theorem ok_pairs (F : FnP K "_law_pairs" "_law_pairs" sPairs [] f fd) (T : TxtL mg) (rr : Cal P w K mg base 2 "row_rank" ["row"] (spRRank K)) : FnOk P w K mg base CX0 6 f fd ["own"] spPairs := by
  obtain ⟨f1, fd1, G1, g1, k1, b1⟩ := rr
  refine F.ok scPr (fun vs H Q E h => ?_) (fun cdv A outer s H vs Q E hr h => ?_)
  · unfold spPairs at h
    obtain ⟨_, _, _, rfl, _⟩ := h; rfl
  · unfold spPairs at h
    obtain ⟨a, kvs, es, rfl, ha, hk, nd, ku, fin⟩ := h
    have hu := hr.units
    have hu1 := Nat.lt_trans (Nat.add_lt_add_left (by decide : 1 < 64) _) hu
    have hu66 : (A.deeper (envOfC (Str.ofString "_law_pairs") (defScope sPairs) s.heap.objs.size f cdv)).units + 66 < cLine := by
      have := hr.un
      omega
    refine ⟨_, PSs.nox <| pss_one (ps_ret (pe_callTy call_tuple_of (by rfl) T.tuple (by decide +kernel) (pa_cons (pe_lc (own := [("key", 1)]) (g := gName 1) (tt := tYes) (te := tTup (tCons (tVar 1) (tCons (tDGet (tVar 0) (tVar 1)) tNil))) rfl scPr.nd
        (pi_list (pe_callBK (ST.cr_sortTK rfl hu66) (by rfl) T.sorted boot_sorted (pa_cons (pv 0) pa_nil) (pk_cons (pe_glob (v := .ref f1) (by rfl) g1 rfl) pk_nil))) (blkOk_by (N := ["own", "key"]) (sc := defScope sPairs) (by decide +kernel))
        (fun _ _ _ _ _ => pg_name (i := 1) scPr.nd rfl (Or.inl rfl)) (fun _ _ _ _ _ => pts_nil) (fun _ _ _ _ _ => pe_tup (pa_cons (pv 1) (pa_cons (pe_dget hu1 (pv 0) (pv 1) (fun _ _ => rfl)) pa_nil)))) pa_nil))), ?_⟩
    have ek := kvT_keys hk
    have um : ∀ x ∈ kvs.map (·.1), x ∈ Q18.U := fun x hx => by
      rw [ek] at hx
      obtain ⟨p, hp, rfl⟩ := List.mem_map.mp hx
      exact ku p hp
    have ok : ∀ x ∈ kvs.map (·.1), x ≠ [] ∧ x.all okK = true ∧ x.length ≤ 1000 := fun x hx => U_ok x (um x hx)
    have ndk : (kvs.map (·.1)).Nodup := by rw [ek]; exact nd
    refine ⟨_, rfl, a, f1, kvs, rk, rho (kvs.map (·.1)), rfl, rfl, ha, ndk, fun x hx => shaped_rk (ok x hx).2.1, fun x _ => pure_rk x, fun x hx => ft_rk (ok x hx).1, fun x _ y _ => okL_rk x y, fun x hx y hy => by rw [ltL_rk]; exact rho_iff hx hy, ?_, fun H1 D zs e1 hD hD1 pm so ht => ?_⟩
    · exact ST.keyCall_fn (k := 2) G1 b1 (hr.mono (by decide)) fun x hx t H1 Q h1 hf => rrank_step h1 (ok x hx).2.2 fun H2 y e d => hf (.ref y) H2 e d
    · have hz : zs.length ≤ 21 := by
        have := pm.length_eq
        rw [ek, List.length_map, List.length_map] at this
        have := Q18.U_len nd ku
        omega
      refine ⟨D, rfl, ⟨_, SqL.of hD1⟩, fun D2 hD2 => ?_⟩
      have ha1 := e1 _ _ ha
      have hk1 := kvT_kt hk (Ex.tup e1)
      refine lcG walk_list RPr (fun j => (zs.map (·.2))[j]?.bind fun k => some (k, (Q18.look es k).getD none)) RPr.stab hD2 (by rw [List.length_map]; omega) (fun H5 e5 => SqL.of (e5 _ _ hD1)) (fun i H5 x H6 _ _ h => yat_ex h) (fun j u H5 H6 R0 N0 hj e5 hy hno hsm => ?_) (fun H5 xs e5 hx5 hps => ?_)
      · obtain ⟨rfl, hxi⟩ := hy
        rw [List.getElem?_map] at hxi
        obtain ⟨z, hz', rfl⟩ := Option.map_eq_some_iff.mp hxi
        have hzm := List.mem_of_getElem? hz'
        have hq := e5 _ _ (ht z hzm)
        have hkm : z.2 ∈ kvs.map (·.1) := pm.mem_iff.mp (List.mem_map.mpr ⟨z, hzm, rfl⟩)
        have kv := kvT_val (k := z.2) hk1
        rcases kv with ⟨_, g2⟩ | ⟨u, o, g1', g2, g3⟩
        · rw [ek] at hkm
          exact absurd hkm (Q18.look_none.mp g2)
        refine ⟨rfl, _, rfl, _, rfl, _, rfl, a, u, rfl, g1' ▸ DGet.t (e5 _ _ ha1) hq, (by show 2 ≤ sizeLine; decide), fun t ht' => ?_⟩
        have e6 : KS.Ex H6 (upd H6 t (.tup [.ref z.1, u])) := Ex.upd ht'
        refine hsm (z.2, o) (by rw [List.getElem?_map, hz']; show some (z.2, (Q18.look es z.2).getD none) = _; rw [g2]; rfl) _ _ e6 ⟨t, z.1, u, rfl, upd_same, e6 _ _ hq, (g3.kt (Ex.tup e5)).kt (Ex.tup e6)⟩
      · rw [List.length_map, ← List.length_map (f := (·.2)), range_fm, map_fm] at hps
        obtain ⟨ts, ets, prs⟩ := rpr_prs hps
        refine ⟨D2, _, rfl, .inl ⟨SqL.of hx5, fun q hq => ?_⟩⟩
        rw [ets]
        have e6 : KS.Ex H5 (upd H5 q (.tup (ts.map V.ref))) := Ex.upd hq
        refine fin ((zs.map (·.2)).map fun k => (k, (Q18.look es k).getD none)) ?_ ?_ _ q ts ((e1.trans e5).trans e6) upd_same (prs.kt (Ex.tup e6))
        · -- the same pairs
          have pk : (zs.map (·.2)).Perm (es.map (·.1)) := by rw [← ek]; exact pm
          have h1 := pk.map fun k => (k, (Q18.look es k).getD none)
          refine h1.trans ?_
          rw [List.map_map]
          have e : es.map ((fun k => (k, (Q18.look es k).getD none)) ∘ fun x : Rw × Option Int => x.1) = es := by
            refine (List.map_congr_left fun p hp => ?_).trans (List.map_id _)
            show (p.1, (Q18.look es p.1).getD none) = p
            rw [(Q18.look_mem nd).mpr (show (p.1, p.2) ∈ es from hp)]
            rfl
          rw [e]
        · unfold Q18.Asc
          rw [List.pairwise_map]
          have nd2 : (zs.map (·.2)).Pairwise (· ≠ ·) := List.nodup_iff_pairwise_ne.mp ((pm.nodup_iff).mpr ndk)
          refine List.Pairwise.imp_of_mem (fun {x y} hx hy k => ?_) (so.and nd2)
          refine bef_tri (Ne.symm k.2) ?_
          rw [rho_iff (pm.mem_iff.mp hy) (pm.mem_iff.mp hx)]
          exact decide_eq_false k.1
theorem scTold : FnScope ["what"] ["what"] (defScope sTold) := ⟨rfl, rfl, rfl, by decide +kernel, rfl, by decide +kernel, by decide +kernel⟩
end
end K18
set_option Elab.async false
set_option linter.all false
set_option maxRecDepth 100000
set_option maxHeartbeats 2000000
namespace K18
open PySem PySem.Spec PyProof.Rows PySem.Calls L2 KB KC KD KS KM LamX R8 CP K7 TK
structure En where
  nm : Str
  own : Tb
  runs : List Rn
def bare (runs : List Rn) : Cb := ⟨[], runs, 0⟩
structure EnOk (vt : Vt) (e : En) : Prop where
  nd : Q18.Nd e.own
  ku : Keys e.own
  ow : ∀ k, Q18.look e.own k = (Q18.val (bare e.runs) k).map some
  inr : ∀ r ∈ e.runs, r ∈ vt.runs
  l6 : e.runs.length ≤ 6
  ds : e.runs.Pairwise fun a b => b.num < a.num
def nameOf (j : Nat) : Str := "t" ++ (toString (j : Int) : Str)
structure Lp (cb : Cb) (vt : Vt) (own : Tb) (L : List En) (cnt : Nat) : Prop where
  ok : Q18.Ok cb
  gk : Q18.Gk cb
  nd : Q18.Nd own
  ku : Keys own
  ow : ∀ k, Q18.look own k = (Q18.val cb k).map some
  ag : Q18.Agree vt.runs vt.nxt cb
  te : vt.tells = L.map fun e => (e.nm, e.runs.map (·.num))
  nm : ∀ e ∈ L, ∃ j, j < cnt ∧ e.nm = nameOf j
  nn : (L.map (·.nm)).Nodup
  en : ∀ e ∈ L, EnOk vt e
  un : (vt.runs.map (·.num)).Nodup
  lt : ∀ r ∈ vt.runs, r.num < vt.nxt
  he : ∀ r ∈ vt.runs, ∃ e ∈ L, r ∈ e.runs
  ra : ∀ r ∈ vt.runs, Q18.Asc r.prs ∧ Keys r.prs
  ll : L.length ≤ cnt
  lr : vt.runs.length ≤ 6 * cnt
theorem Lp.pre {cb : Cb} {vt : Vt} {own : Tb} {L : List En} {cnt : Nat} (l : Lp cb vt own L cnt) : PreF cb := ⟨l.gk, l.ok.nd, fun r hr => Q18.asc_nd (l.ok.asc r hr), l.ok.l6⟩
theorem Lp.un' {cb : Cb} {vt : Vt} {own : Tb} {L : List En} {cnt : Nat} (l : Lp cb vt own L cnt) : Q18.Un vt.runs := by
  intro r hr s hs e
  obtain ⟨i, hi, ri⟩ := List.getElem_of_mem hr
  obtain ⟨j, hj, sj⟩ := List.getElem_of_mem hs
  have h := List.nodup_iff_pairwise_ne.mp l.un
  rw [List.pairwise_map, List.pairwise_iff_getElem] at h
  rcases Nat.lt_trichotomy i j with x | x | x
  · exact absurd (by rw [ri, sj]; exact e) (h i j hi hj x)
  · subst x
    exact ri.symm.trans sj
  · exact absurd (by rw [ri, sj]; exact e.symm) (h j i hj hi x)
theorem lp_put {cb cb' : Cb} {vt : Vt} {own own' : Tb} {L : List En} {cnt : Nat} {k : Rw} {o : Option Int} (l : Lp cb vt own L cnt) (h : Q18.PutR cb cb' k o) (hk : k ∈ Q18.U) (nd : Q18.Nd own') (ku : Keys own') (ho : ∀ j, Q18.look own' j = if j = k then o.map some else Q18.look own j) : Lp cb' vt own' L cnt := by
  obtain ⟨a, b⟩ := Q18.put_step l.ok h
  refine ⟨a, Q18.gk_put l.gk hk h, nd, ku, fun j => ?_, Q18.put_agree l.ag h, l.te, l.nm, l.nn, l.en, l.un, l.lt, l.he, l.ra, l.ll, l.lr⟩
  rw [ho, b]
  split
  · rfl
  · exact l.ow j
theorem lp_flush {cb cb' : Cb} {vt : Vt} {own : Tb} {L : List En} {cnt : Nat} (l : Lp cb vt own L cnt) (h : Q18.FlushR cb cb') : Lp cb' vt own L cnt ∧ cb'.mem = [] := by
  obtain ⟨a, c, b⟩ := Q18.flush_step l.ok h
  refine ⟨⟨a, Q18.gk_flush l.gk h, l.nd, l.ku, fun j => ?_, Q18.flush_agree l.ag h, l.te, l.nm, l.nn, l.en, l.un, l.lt, l.he, l.ra, l.ll, l.lr⟩, c⟩
  rw [b]; exact l.ow j
theorem val_bare {cb : Cb} (h : cb.mem = []) (k : Rw) : Q18.val (bare cb.runs) k = Q18.val cb k := Q18.val_runs (c := bare cb.runs) (c' := cb) rfl h rfl k
def dec (s : Str) : Nat := (s.cps.toList.drop 1).foldl (fun a c => a * 10 + (c - 48)) 0
theorem dec_ok : ∀ j < 100, dec (nameOf j) = j := by decide +kernel
theorem len_name : ∀ j < 100, (nameOf j).length ≤ 900 := by decide +kernel
theorem str_inj {a b : Nat} (ha : a < 100) (hb : b < 100) (h : nameOf a = nameOf b) : a = b := by
  have := dec_ok a ha
  rw [h, dec_ok b hb] at this
  exact this.symm
theorem lp_keep {cb : Cb} {vt : Vt} {own : Tb} {L : List En} {cnt : Nat} (l : Lp cb vt own L cnt) (hc : cnt < 99) (hm : cb.mem = []) (trs : List Rn) (ht : trs = cb.runs.filter fun r => !Q18.hasN vt.runs r.num) :
    Lp cb (Q18.keepV vt (nameOf cnt) (cb.runs.map (·.num)) trs) own (L ++ [⟨nameOf cnt, own, cb.runs⟩]) (cnt + 1) := by
  have kr := Q18.keep_R (n := nameOf cnt) l.ok l.ag trs ht
  obtain ⟨km, kt, kn, kl⟩ := kr
  refine ⟨l.ok, l.gk, l.nd, l.ku, l.ow, ?_, ?_, fun e he => ?_, ?_, fun e he => ?_, ?_, fun r hr => ?_, fun r hr => ?_, fun r hr => ?_, ?_, ?_⟩
  · refine Q18.keep_agree l.ok l.ag (fun r hr => (km r).mp hr) kn ?_ kl
    show Q18.nxF (cb.runs.map (·.num)) vt.nxt ≤ cb.nxt
    have go : ∀ (ns : List Nat) (x : Nat), x ≤ cb.nxt → (∀ n ∈ ns, n < cb.nxt) → Q18.nxF ns x ≤ cb.nxt := by
      intro ns
      induction ns with
      | nil => exact fun x h _ => h
      | cons n ns ih =>
        intro x h hn
        have := hn n List.mem_cons_self
        exact ih (max x (n + 1)) (by omega) fun m hm => hn m (List.mem_cons_of_mem _ hm)
    refine go _ _ l.ag.le fun n hn => ?_
    obtain ⟨r, hr, rfl⟩ := List.mem_map.mp hn
    exact l.ok.nx r hr
  · rw [kt, l.te, List.map_append]; rfl
  · rcases List.mem_append.mp he with he | he
    · obtain ⟨j, hj, e2⟩ := l.nm e he
      exact ⟨j, Nat.lt_succ_of_lt hj, e2⟩
    · rw [List.mem_singleton.mp he]
      exact ⟨cnt, Nat.lt_succ_self _, rfl⟩
  · rw [List.map_append, List.nodup_append]
    refine ⟨l.nn, by simp, fun a ha b hb => ?_⟩
    obtain ⟨e, he, rfl⟩ := List.mem_map.mp ha
    have hb : b = nameOf cnt := by simpa using hb
    rw [hb]
    intro z
    obtain ⟨j, hj, e2⟩ := l.nm e he
    have := str_inj (by omega) (by omega) (e2.symm.trans z)
    omega
  · rcases List.mem_append.mp he with he | he
    · obtain ⟨a1, a2, a3, a4, a5, a6⟩ := l.en e he
      exact ⟨a1, a2, a3, fun r hr => (km r).mpr (.inl (a4 r hr)), a5, a6⟩
    · rw [List.mem_singleton.mp he]
      exact ⟨l.nd, l.ku, fun k => by rw [l.ow, val_bare hm], fun r hr => (km r).mpr (.inr hr), l.ok.l6, l.ok.ds⟩
  · exact Q18.addF_nodup trs _ _ l.un
  · rcases (km r).mp hr with h | h
    · exact Nat.lt_of_lt_of_le (l.lt r h) kn
    · exact kl r h
  · rcases (km r).mp hr with h | h
    · obtain ⟨e, he, h2⟩ := l.he r h
      exact ⟨e, List.mem_append.mpr (.inl he), h2⟩
    · exact ⟨_, List.mem_append.mpr (.inr (List.mem_singleton.mpr rfl)), h⟩
  · rcases (km r).mp hr with h | h
    · exact l.ra r h
    · exact ⟨l.ok.asc r h, l.gk.run r h⟩
  · rw [List.length_append, List.length_singleton]
    exact Nat.succ_le_succ l.ll
  · have := Q18.addF_len trs (cb.runs.map (·.num)) vt.runs
    rw [List.length_map] at this
    have h1 := l.lr
    have h2 := l.ok.l6
    show (Q18.addF trs (cb.runs.map (·.num)) vt.runs).length ≤ _
    omega
theorem lp_forget {cb : Cb} {vt : Vt} {own : Tb} {L : List En} {cnt : Nat} (l : Lp cb vt own L cnt) (n : Str) : Lp cb (Q18.forgetV vt n) own (L.filter fun e => decide (e.nm ≠ n)) cnt := by
  have ht : (Q18.forgetV vt n).tells = (L.filter fun e => decide (e.nm ≠ n)).map fun e => (e.nm, e.runs.map (·.num)) := by
    show vt.tells.filter _ = _
    rw [l.te, List.filter_map]
    rfl
  have hr : ∀ r, r ∈ (Q18.forgetV vt n).runs ↔ r ∈ vt.runs ∧ ∃ e ∈ L.filter (fun e => decide (e.nm ≠ n)), r ∈ e.runs := by
    intro r
    show r ∈ vt.runs.filter _ ↔ _
    rw [List.mem_filter]
    refine and_congr_right fun hv => ?_
    show ((Q18.forgetV vt n).tells.any fun p => p.2.contains r.num) = true ↔ _
    rw [ht, List.any_map, List.any_eq_true]
    constructor
    · rintro ⟨e, he, h⟩
      have h : (e.runs.map (·.num)).contains r.num = true := h
      rw [List.contains_iff_mem] at h
      obtain ⟨s, hs, e2⟩ := List.mem_map.mp h
      refine ⟨e, he, ?_⟩
      rw [← l.un' s ((l.en e (List.mem_filter.mp he).1).inr s hs) r hv e2]
      exact hs
    · rintro ⟨e, he, h⟩
      refine ⟨e, he, ?_⟩
      show (e.runs.map (·.num)).contains r.num = true
      rw [List.contains_iff_mem]
      exact List.mem_map.mpr ⟨r, h, rfl⟩
  refine ⟨l.ok, l.gk, l.nd, l.ku, l.ow, ⟨l.ag.le, fun r h => l.ag.lt r ((hr r).mp h).1, fun r h => l.ag.eq r ((hr r).mp h).1⟩, ht, fun e he => l.nm e (List.mem_filter.mp he).1, l.nn.sublist (List.filter_sublist.map _), fun e he => ?_, l.un.sublist (List.filter_sublist.map _), fun r h => l.lt r ((hr r).mp h).1, fun r h => ((hr r).mp h).2, fun r h => l.ra r ((hr r).mp h).1, Nat.le_trans (List.length_filter_le _ _) l.ll, Nat.le_trans (List.length_filter_le _ _) l.lr⟩
  obtain ⟨a1, a2, a3, a4, a5, a6⟩ := l.en e (List.mem_filter.mp he).1
  exact ⟨a1, a2, a3, fun r h => (hr r).mpr ⟨a4 r h, e, he, h⟩, a5, a6⟩
theorem tellOf_at {cb : Cb} {vt : Vt} {own : Tb} {L : List En} {cnt : Nat} (l : Lp cb vt own L cnt) {e : En} (he : e ∈ L) : tellOf vt e.nm = e.runs.map (·.num) ∧ (vt.tells.any fun p => decide (p.1 = e.nm)) = true := by
  unfold tellOf
  rw [l.te]
  have go : ∀ L : List En, (L.map (·.nm)).Nodup → e ∈ L → (((L.map fun e => (e.nm, e.runs.map (·.num))).find? fun p => decide (p.1 = e.nm)).map (·.2)).getD [] = e.runs.map (·.num) ∧ ((L.map fun e => (e.nm, e.runs.map (·.num))).any fun p => decide (p.1 = e.nm)) = true := by
    intro L
    induction L with
    | nil => intro _ h; cases h
    | cons x L ih =>
      intro nd h
      rw [List.map_cons, List.nodup_cons] at nd
      rw [List.map_cons, List.find?_cons, List.any_cons]
      rcases List.mem_cons.mp h with rfl | h
      · simp
      · have : ¬ x.nm = e.nm := fun z => nd.1 (z ▸ List.mem_map.mpr ⟨e, h, rfl⟩)
        simp only [decide_eq_false this, Bool.false_or]
        exact ih nd.2 h
  exact go L l.nn he
theorem back_at {cb : Cb} {vt : Vt} {own : Tb} {L : List En} {cnt : Nat} (l : Lp cb vt own L cnt) {e : En} (he : e ∈ L) : Q18.backV vt (tellOf vt e.nm) = ⟨[], e.runs, vt.nxt⟩ := by
  unfold Q18.backV
  rw [(tellOf_at l he).1, Q18.fetch_all l.un' (l.en e he).inr]
theorem back_pre {cb : Cb} {vt : Vt} {own : Tb} {L : List En} {cnt : Nat} (l : Lp cb vt own L cnt) {e : En} (he : e ∈ L) : Q18.Ok (⟨[], e.runs, vt.nxt⟩ : Cb) ∧ Q18.Gk (⟨[], e.runs, vt.nxt⟩ : Cb) := by
  obtain ⟨a1, a2, a3, a4, a5, a6⟩ := l.en e he
  exact ⟨⟨List.nodup_nil, (by show 0 < 8; decide), a5, fun r hr => (l.ra r (a4 r hr)).1, a6, fun r hr => l.lt r (a4 r hr)⟩, ⟨(fun _ z => by cases z), fun r hr => (l.ra r (a4 r hr)).2⟩⟩
theorem lp_back {cb : Cb} {vt : Vt} {own : Tb} {L : List En} {cnt : Nat} (l : Lp cb vt own L cnt) {e : En} (he : e ∈ L) : Lp (Q18.backV vt (tellOf vt e.nm)) vt e.own L cnt := by
  rw [back_at l he]
  obtain ⟨a1, a2, a3, a4, a5, a6⟩ := l.en e he
  obtain ⟨o, g⟩ := back_pre l he
  exact ⟨o, g, a1, a2, a3, Q18.restored_agree l.lt a4 l.un', l.te, l.nm, l.nn, l.en, l.un, l.lt, l.he, l.ra, l.ll, l.lr⟩
theorem rows_own {cb : Cb} {own rs rs' : Tb} (ow : ∀ k, Q18.look own k = (Q18.val cb k).map some) (nd : Q18.Nd own) (hr : Q18.RowsOf cb rs) (pm : rs'.Perm own) (a : Q18.Asc rs') : rs = rs' := by
  refine Q18.asc_un hr.1 a fun ⟨k, o⟩ => ?_
  rw [hr.2, pm.mem_iff, ← Q18.look_mem nd, ow]
  constructor
  · rintro ⟨v, rfl, h⟩
    rw [h]; rfl
  · intro h
    cases e : Q18.val cb k with
    | none => rw [e] at h; cases h
    | some v =>
      rw [e] at h
      exact ⟨v, (Option.some.inj h).symm, rfl⟩
end K18
set_option Elab.async false
set_option linter.all false
set_option maxRecDepth 100000
set_option maxHeartbeats 2000000
namespace K18
open PySem PySem.Spec PyProof.Rows PySem.Calls L2 KB KC KD KS KM LamX R8 CP K7 TK
def OwnAt (m : Addr) (H : Hp) (o : Addr) (own : Tb) : Prop := ∃ kv, H o = some (.dT kv) ∧ KvT RV H kv own ∧ o ≠ m
theorem OwnAt.kt {m : Addr} {H H' : Hp} {o : Addr} {own : Tb} (h : OwnAt m H o own) (k : ∀ kv, H o = some (.dT kv) → H' o = some (.dT kv)) (e : KtTup H H') : OwnAt m H' o own := let ⟨kv, h1, h2, h3⟩ := h; ⟨kv, k kv h1, kvT_kt h2 e, h3⟩
theorem OwnAt.move {m m' : Addr} {H : Hp} {o : Addr} {own : Tb} (h : OwnAt m H o own) (n : NewN H m') : OwnAt m' H o own := let ⟨kv, h1, h2, h3⟩ := h; ⟨kv, h1, h2, n.ne h1 (fun _ z => nomatch z)⟩
def ToldD (m : Addr) (H : Hp) (ks : List (Key × V)) (L : List En) : Prop := Paired (fun (p : Key × V) (e : En) => p.1 = kS e.nm ∧ ∃ a, p.2 = .ref a ∧ OwnAt m H a e.own) ks L
def numL (L : List En) : List (Str × List Nat) := L.map fun e => (e.nm, e.runs.map (·.num))
structure Lh (CR CC CV Pa Pl Pk d p c m v o td nd : Addr) (cb : Cb) (vt : Vt) (own : Tb) (L : List En) (H : Hp) : Prop where
  dice : IsDice H d
  tabs : Tabs (TT Pa Pl Pk) H
  hp : H p = some (.lst [.ref d])
  xc : CabAt CR CC c m cb H
  xv : VAt CR CV m v vt H
  ho : OwnAt m H o own
  ht : ∃ ks, H td = some (.dK ks) ∧ ToldD m H ks L
  hn : ∃ ks, H nd = some (.dK ks) ∧ TellsD H ks (numL L)
  nt : ¬ wV H CV v td
  nn : ¬ wV H CV v nd
theorem wV_same {H H' : Hp} {CV v b : Addr} (e : ∀ C dx fs, H' v = some (.ins C dx fs) → H v = some (.ins C dx fs)) (h : wV H' CV v b) : wV H CV v b := by
  rcases h with z | ⟨dx, r, s, n, h1, h2⟩
  · exact .inl z
  · exact .inr ⟨dx, r, s, n, e _ _ _ h1, h2⟩
section
variable {CR CC CV Pa Pl Pk d p c m v o td nd : Addr} {cb : Cb} {vt : Vt} {own : Tb} {L : List En} {H H' : Hp}
theorem VAt.ins (x : VAt CR CV m v vt H) : ∃ dx r s, H v = some (.ins CV dx (vF r s vt.nxt)) := let ⟨dx, r, s, _, _, h, _⟩ := x; ⟨dx, r, s, h⟩
theorem VAt.back (x : VAt CR CV m v vt H) (e : ∀ C dx fs, H v = some (.ins C dx fs) → H' v = some (.ins C dx fs)) : ∀ C dx fs, H' v = some (.ins C dx fs) → H v = some (.ins C dx fs) := fun C dx fs h => by
  obtain ⟨dx', r, s, h1⟩ := x.ins
  rw [e _ _ _ h1] at h
  rw [h1]; exact h
theorem Lh.lam (a : Lh CR CC CV Pa Pl Pk d p c m v o td nd cb vt own L H) (e : ExtN H H') (t : Tabs (TT Pa Pl Pk) H') : Lh CR CC CV Pa Pl Pk d p c m v o td nd cb vt own L H' := by
  obtain ⟨⟨x, y, z, hd⟩, _, h2, h3, h4, h5, ⟨ks, h6, h7⟩, ⟨ns, h8, h9⟩, h10, h11⟩ := a
  have kt : KtTup H H' := fun b xs h => e b _ h (fun _ z => nomatch z)
  have bk := h4.back fun C dx fs h => e v _ h (fun _ z => nomatch z)
  exact ⟨⟨x, y, z, e _ _ hd (fun _ z => nomatch z)⟩, t, e _ _ h2 (fun _ z => nomatch z), h3.exN e, h4.exN e, h5.kt (fun kv h => e _ _ h (fun _ z => nomatch z)) kt,
    ⟨ks, e _ _ h6 (fun _ z => nomatch z), paired_mono (fun _ _ ⟨g1, a, g2, g3⟩ => ⟨g1, a, g2, g3.kt (fun kv h => e _ _ h (fun _ z => nomatch z)) kt⟩) h7⟩, ⟨ns, e _ _ h8 (fun _ z => nomatch z), h9.kt kt⟩, fun z => h10 (wV_same bk z), fun z => h11 (wV_same bk z)⟩
theorem Lh.ex (a : Lh CR CC CV Pa Pl Pk d p c m v o td nd cb vt own L H) (e : KS.Ex H H') : Lh CR CC CV Pa Pl Pk d p c m v o td nd cb vt own L H' := a.lam (ExtN.of e) (a.tabs.ext e)
theorem Lh.roll (a : Lh CR CC CV Pa Pl Pk d p c m v o td nd cb vt own L H) (e : ExD d H H') (i : IsDice H' d) : Lh CR CC CV Pa Pl Pk d p c m v o td nd cb vt own L H' := by
  obtain ⟨hi, ht, h2, h3, h4, h5, ⟨ks, h6, h7⟩, ⟨ns, h8, h9⟩, h10, h11⟩ := a
  have st : ∀ b u, H b = some u → (∀ xs, u ≠ .lst xs) → H' b = some u := fun b u h n => e b u (dice_ne hi h n) h
  have kt : KtTup H H' := fun b xs h => st b _ h (fun _ z => nomatch z)
  have bk := h4.back fun C dx fs h => st v _ h (fun _ z => nomatch z)
  have npd : p ≠ d := fun z => by
    obtain ⟨x, y, k, hd⟩ := hi
    rw [z, hd] at h2
    cases h2
  have ra : ∀ {r : Addr} {rn : Rn}, RunAt CR m H r rn → RunAt CR m H' r rn := fun {r rn} h => by
    obtain ⟨dx, p, t, ts, kvs, q1, q2, q3, q4, q5, q6⟩ := h
    exact ⟨dx, p, t, ts, kvs, st _ _ q1 (fun _ z => nomatch z), st _ _ q2 (fun _ z => nomatch z), q3.kt kt, st _ _ q4 (fun _ z => nomatch z), kvT_kt q5 kt, q6⟩
  refine ⟨i, tabs_kp ht fun b u h n1 _ _ _ => st b u h n1, e _ _ npd h2, ?_, ?_, h5.kt (fun kv h => st _ _ h (fun _ z => nomatch z)) kt, ⟨ks, st _ _ h6 (fun _ z => nomatch z), paired_mono (fun _ _ ⟨g1, a, g2, g3⟩ => ⟨g1, a, g2, g3.kt (fun kv h => st _ _ h (fun _ z => nomatch z)) kt⟩) h7⟩, ⟨ns, st _ _ h8 (fun _ z => nomatch z), h9.kt kt⟩, fun z => h10 (wV_same bk z), fun z => h11 (wV_same bk z)⟩
  · obtain ⟨⟨dx, l, rs, g1, g2, g3⟩, mk, g4, g5⟩ := h3
    refine ⟨⟨dx, l, rs, st _ _ g1 (fun _ z => nomatch z), e _ _ (fun z => ?_) g2, paired_mono (fun _ _ h => ra h) g3⟩, mk, st _ _ g4 (fun _ z => nomatch z), kvT_kt g5 kt⟩
    obtain ⟨x, y, k, hd⟩ := hi
    rw [z, hd] at g2
    have g2 := HO.lst.inj (Option.some.inj g2)
    cases rs with
    | nil => cases g2
    | cons r rs => cases g2
  · obtain ⟨dx, vr, vs, ks, ts, g1, g2, g3, g4, g5, g6⟩ := h4
    exact ⟨dx, vr, vs, ks, ts, st _ _ g1 (fun _ z => nomatch z), st _ _ g2 (fun _ z => nomatch z), paired_mono (fun _ _ ⟨q1, r, q2, q3⟩ => ⟨q1, r, q2, ra q3⟩) g3, st _ _ g4 (fun _ z => nomatch z), g5.kt kt, g6⟩
theorem Lh.aftC {m' : Addr} {cb' : Cb} (a : Lh CR CC CV Pa Pl Pk d p c m v o td nd cb vt own L H) (f : AftC CR CC Pa Pl Pk c m m' cb' H H') : Lh CR CC CV Pa Pl Pk d p c m' v o td nd cb' vt own L H' := by
  obtain ⟨⟨x, y, k, hd⟩, ht, h2, h3, h4, h5, ⟨ks, h6, h7⟩, ⟨ns, h8, h9⟩, h10, h11⟩ := a
  have kt := h3.tup f.kp
  have nw : ∀ {b : Addr} {u : HO}, H b = some u → (∀ C dx fs, u ≠ .ins C dx fs) → (∀ ks, u = .dT ks → b ≠ m) → ¬ wC c m b := fun {b u} h n1 n2 z => by
    obtain ⟨⟨dx, l, rs, g1, _⟩, mk, g4, _⟩ := h3
    rcases z with e | e
    · rw [e, g1] at h; exact n1 _ _ _ (Option.some.inj h).symm
    · have h' := h
      rw [e, g4] at h'
      exact n2 mk (Option.some.inj h').symm e
  have ow : ∀ {a : Addr} {w : Tb}, OwnAt m H a w → OwnAt m' H' a w := fun {a w} ⟨kv, g1, g2, g3⟩ => by
    refine ⟨kv, f.kp.k _ _ g1 (fun _ z => nomatch z) (nw g1 (fun _ _ _ z => nomatch z) fun _ _ => g3), kvT_kt g2 kt, ?_⟩
    rcases f.mm with e | n
    · rw [e]; exact g3
    · exact n.ne g1 (fun _ z => nomatch z)
  have hv : ∀ C dx fs, H v = some (.ins C dx fs) → H' v = some (.ins C dx fs) := fun C dx fs h => f.kp.k _ _ h (fun _ z => nomatch z) fun z => by
    obtain ⟨dx', r, s, g⟩ := h4.ins
    obtain ⟨⟨dxc, l, rs, g1, _⟩, mk, g4, _⟩ := h3
    rcases z with e | e
    · rw [e, g1] at g; exact vins_ne (Option.some.inj g)
    · rw [e, g4] at g; cases g
  have bk := h4.back hv
  exact ⟨⟨x, y, k, f.kp.k _ _ hd (fun _ z => nomatch z) (nw hd (fun _ _ _ z => nomatch z) (fun _ z => nomatch z))⟩, f.tb, f.kp.k _ _ h2 (fun _ z => nomatch z) (nw h2 (fun _ _ _ z => nomatch z) (fun _ z => nomatch z)), f.x, h4.cab h3 f.kp f.mm, ow h5,
    ⟨ks, f.kp.k _ _ h6 (fun _ z => nomatch z) (nw h6 (fun _ _ _ z => nomatch z) (fun _ z => nomatch z)), paired_mono (fun _ _ ⟨g1, a, g2, g3⟩ => ⟨g1, a, g2, ow g3⟩) h7⟩, ⟨ns, f.kp.k _ _ h8 (fun _ z => nomatch z) (nw h8 (fun _ _ _ z => nomatch z) (fun _ z => nomatch z)), h9.kt kt⟩, fun z => h10 (wV_same bk z), fun z => h11 (wV_same bk z)⟩
theorem Lh.aftV {vt' : Vt} (a : Lh CR CC CV Pa Pl Pk d p c m v o td nd cb vt own L H) (f : AftV CR CV Pa Pl Pk m v vt' H H') : Lh CR CC CV Pa Pl Pk d p c m v o td nd cb vt' own L H' := by
  obtain ⟨⟨x, y, k, hd⟩, ht, h2, h3, h4, h5, ⟨ks, h6, h7⟩, ⟨ns, h8, h9⟩, h10, h11⟩ := a
  obtain ⟨w1, w2, w3, w4, w5⟩ := h4.w
  have kt : KtTup H H' := f.kp.tup w1
  have ow : ∀ {a : Addr} {w : Tb}, OwnAt m H a w → OwnAt m H' a w := fun {a w} h => h.kt (fun kv g => f.kp.k _ _ g (fun _ z => nomatch z) fun z => w3 _ z _ g) kt
  refine ⟨⟨x, y, k, f.kp.k _ _ hd (fun _ z => nomatch z) fun z => w4 _ z _ hd⟩, f.tb, f.kp.k _ _ h2 (fun _ z => nomatch z) (fun z => w4 _ z _ h2), h3.vau h4 f.kp, f.x, ow h5,
    ⟨ks, f.kp.k _ _ h6 (fun _ z => nomatch z) h10, paired_mono (fun _ _ ⟨g1, a, g2, g3⟩ => ⟨g1, a, g2, ow g3⟩) h7⟩, ⟨ns, f.kp.k _ _ h8 (fun _ z => nomatch z) h11, h9.kt kt⟩, fun z => ?_, fun z => ?_⟩
  · rcases f.ww _ z with z | z
    · exact h10 z
    · exact z.ne h6 (fun _ z => nomatch z) rfl
  · rcases f.ww _ z with z | z
    · exact h11 z
    · exact z.ne h8 (fun _ z => nomatch z) rfl
theorem Lh.own' {o' : Addr} {own' : Tb} (a : Lh CR CC CV Pa Pl Pk d p c m v o td nd cb vt own L H) (h : OwnAt m H o' own') : Lh CR CC CV Pa Pl Pk d p c m v o' td nd cb vt own' L H := ⟨a.dice, a.tabs, a.hp, a.xc, a.xv, h, a.ht, a.hn, a.nt, a.nn⟩
theorem Lh.told' {td' nd' : Addr} {L' : List En} (a : Lh CR CC CV Pa Pl Pk d p c m v o td nd cb vt own L H) (ht : ∃ ks, H td' = some (.dK ks) ∧ ToldD m H ks L') (hn : ∃ ks, H nd' = some (.dK ks) ∧ TellsD H ks (numL L')) (n1 : ¬ wV H CV v td') (n2 : ¬ wV H CV v nd') : Lh CR CC CV Pa Pl Pk d p c m v o td' nd' cb vt own L' H := ⟨a.dice, a.tabs, a.hp, a.xc, a.xv, a.ho, ht, hn, n1, n2⟩
theorem Lh.cab {c' m' : Addr} {cb' : Cb} (a : Lh CR CC CV Pa Pl Pk d p c m v o td nd cb vt own L H) (e : KS.Ex H H') (hm : H m' = none) (x : CabAt CR CC c' m' cb' H') : Lh CR CC CV Pa Pl Pk d p c' m' v o td nd cb' vt own L H' := by
  have b := a.ex e
  obtain ⟨_, _, _, _, h4, h5, ⟨ks, h6, h7⟩, h8, h9, h10⟩ := a
  have ow : ∀ {a : Addr} {w : Tb}, OwnAt m H a w → OwnAt m' H' a w := fun {a w} h => (h.move (NewN.of hm)).kt (fun kv g => e _ _ g) (Ex.tup e)
  exact ⟨b.dice, b.tabs, b.hp, x, (h4.move (NewN.of hm)).ex e, ow h5, ⟨ks, e _ _ h6, paired_mono (fun _ _ ⟨g1, a, g2, g3⟩ => ⟨g1, a, g2, ow g3⟩) h7⟩, b.hn, b.nt, b.nn⟩
theorem Lh.new {q : Addr} (a : Lh CR CC CV Pa Pl Pk d p c m v o td nd cb vt own L H) (h : NewN H q) : ¬ wV H CV v q := fun z => by
  obtain ⟨dx, r, s, ks, ts, h1, h2, _, h4, _⟩ := a.xv
  rcases z with e | ⟨dx', r', s', n', h1', e⟩
  · exact h.ne h1 (fun _ z => nomatch z) e.symm
  · rw [h1] at h1'
    have er : r = r' := by cases h1'; rfl
    have es : s = s' := by cases h1'; rfl
    rcases e with e | e
    · exact h.ne h2 (fun _ z => nomatch z) (er.trans e.symm)
    · exact h.ne h4 (fun _ z => nomatch z) (es.trans e.symm)
end
end K18
set_option Elab.async false
set_option linter.all false
set_option maxRecDepth 100000
set_option maxHeartbeats 4000000
namespace K18
open PySem PySem.Spec PyProof.Rows PySem.Calls L2 KB KC KD KS KM LamX R8 CP K7 TK
structure LawE (P : Program) (w : World) (K : PySem.W.Frag) (mg : Str → Option Value) (base : Heap) (CR CC CV CE Pa Pl Pk cL fTo : Addr) (fdTo : FuncData) : Prop where
  T : TxtL mg
  B : TxtC K mg CR CC CV
  J : TxtX K mg CE
  TBl : LamX.TabB base mg cL Pl
  ap : Apt Pa Pl Pk
  rounds : Cal P w K mg base 2 "_law_rounds" ["script", "most"] (spRounds K)
  roll : Cal P w K mg base 1 "_law_roll" ["dice", "many"] spRoll
  key : Cal P w K mg base 2 "_law_key" ["dice"] spKey
  pairs : Cal P w K mg base 6 "_law_pairs" ["own"] spPairs
  rr : Cal P w K mg base 2 "row_rank" ["row"] (spRRank K)
  rinit : CalI P w K mg base CR CX0 1 ["self", "number", "pairs"] (spRInit K CR)
  cinit : CalI P w K mg base CC CX0 1 ["self"] (spCInit CR CC)
  vinit : CalI P w K mg base CV CX0 1 ["self"] (spVInit CR CV)
  cput : CalM P w K mg base CC CX0 11 "put" ["self", "key", "row"] (spPut CR CC Pa Pl Pk)
  cflush : CalM P w K mg base CC CX0 10 "flush" ["self"] (spFlush CR CC Pa Pl Pk)
  crows : CalM P w K mg base CC CX0 8 "rows" ["self"] (spRows CR CC Pa Pl Pk)
  crowat : CalM P w K mg base CC CX0 3 "row_at" ["self", "key"] (spRowAt CR CC)
  ctell : CalM P w K mg base CC CX0 11 "tell" ["self", "known"] (spTell CR CC Pa Pl Pk)
  find : CalM P w K mg base CR CX0 1 "find" ["self", "key"] (spFind CR)
  known : CalM P w K mg base CV CX0 4 "known" ["self"] (spKnown CR CV)
  keep : CalM P w K mg base CV (L2.CX P w) 6 "keep" ["self", "name", "told"] (spKeep CR CV CE Pa Pl Pk)
  forget : CalM P w K mg base CV (L2.CX P w) 3 "forget" ["self", "name"] (spForget CR CV CE Pa Pl Pk)
  restored : CalM P w K mg base CV (L2.CX P w) 4 "restored" ["self", "name"] (spRestored CR CC CV CE)
  told : FnP K "_law_told" "_law_told" sTold [] fTo fdTo
  gTold : mg "_law_told" = some (.ref fTo)
  mr : ∃ t, mg "MOST_RUNS" = some (.int 6 t)
  mm : ∃ t, mg "MOST_MEMORY" = some (.int 8 t)
abbrev nLaw : List Str := ["script", "dice", "cabinet", "vault", "own", "told", "numbers", "count", "step", "sort", "key", "row", "known", "answer", "name", "used", "pairs", "run", "one", "k", "number", "bad", "f"]
theorem scLaw : FnScope nLaw ["script"] (defScope sLaw) := ⟨rfl, rfl, rfl, by decide +kernel, rfl, by decide +kernel, by decide +kernel⟩
abbrev pS : Stmt := .Pass ⟨0, 0, 0, 0⟩
def forBody : Stmt → List Stmt
  | .For _ _ b _ _ => b
  | _ => []
abbrev law0 : List Stmt := forBody ((defBody sLaw).getD 0 pS)
abbrev mBody : List Stmt := forBody (law0.getD 1 pS)
def thenOf : Stmt → List Stmt
  | .If _ a _ _ => a
  | _ => []
def elseOf : Stmt → Stmt
  | .If _ _ (b :: _) _ => b
  | _ => pS
abbrev xLaw (P : Program) (w : World) (K : PySem.W.Frag) (mg : Str → Option Value) (base : Heap) (fL cL : Addr) (A : Around) (outer : List PySem.Env) (s : Shared) (H0 : Hp) (E0' : XK) : Cx := (cxOf CX0 P w K mg base nLaw "law" (defScope sLaw) fL (.ref cL) A outer s H0 E0').nox
def Sl (d c v o td nd : Addr) (cnt : Nat) (i : Int) (σ : L2.St) : Prop := ∃ a0 a9 a10 a11 a12 a13 a14 a15 a16 a17 a18 a19 a20 a21 a22 : Option V,
  σ = [a0, some (.ref d), some (.ref c), some (.ref v), some (.ref o), some (.ref td), some (.ref nd), some (.int (cnt : Nat)), some (.int i), a9, a10, a11, a12, a13, a14, a15, a16, a17, a18, a19, a20, a21, a22]
theorem prs_pairs {H : Hp} : ∀ {ts : List Addr} {ps : Tb}, Prs H ts ps → ∃ kvs : List (Rw × V), PairsOf H ts kvs ∧ KvT RV H kvs ps
  | _, _, .nil => ⟨[], .nil, .nil⟩
  | _, _, .cons (b := x) ⟨q, v, h1, h2, h3⟩ r => by
    obtain ⟨kvs, a, b⟩ := prs_pairs r
    exact ⟨(x.1, v) :: kvs, .cons ⟨q, h1, h2⟩ a, .cons ⟨rfl, h3⟩ b⟩
theorem merge_self {κ : Type} [DecidableEq κ] : ∀ (kvs acc : List (κ × V)), ((acc ++ kvs).map (·.1)).Nodup → kvs.foldl (fun acc p => putK acc p.1 p.2) acc = acc ++ kvs
  | [], acc, _ => by simp
  | p :: kvs, acc, h => by
    have no : valV acc p.1 = none := by
      cases e : valV acc p.1 with
      | none => rfl
      | some v =>
        have h2 : (acc.any fun e => decide (e.1 = p.1)) = true := by rw [valV_any, e]; rfl
        obtain ⟨x, hx, hk⟩ := List.any_eq_true.mp h2
        rw [List.map_append, List.nodup_append] at h
        exact absurd (of_decide_eq_true hk) (h.2.2 x.1 (List.mem_map.mpr ⟨x, hx, rfl⟩) p.1 (by simp))
    rw [List.foldl_cons, putK_off no, merge_self kvs (acc ++ [(p.1, p.2)]) (by simpa using h)]
    simp
def putOwn (own : Tb) (k : Rw) (o : Option Int) : Tb := own.filter (fun p => decide (p.1 ≠ k)) ++ (if o.isSome = true then [(k, o)] else [])
theorem putOwn_look (own : Tb) (k j : Rw) (o : Option Int) : Q18.look (putOwn own k o) j = if j = k then o.map some else Q18.look own j := by
  unfold putOwn
  rw [Q18.look_append]
  have ef : Q18.look (own.filter fun p => decide (p.1 ≠ k)) j = if j = k then none else Q18.look own j := by
    induction own with
    | nil => split <;> rfl
    | cons x own ih =>
      unfold Q18.look at ih ⊢
      rw [List.filter_cons, List.find?_cons]
      by_cases c : x.1 = k
      · rw [if_neg (by simp [c]), ih]
        by_cases e : j = k
        · rw [if_pos e, if_pos e]
        · rw [if_neg e, if_neg e]
          simp [show ¬ x.1 = j from fun z => e (z.symm.trans c)]
      · rw [if_pos (by simp [c]), List.find?_cons]
        by_cases z : x.1 = j
        · simp only [z, decide_true]
          rw [if_neg (fun e => c (z.trans e))]
        · simp only [z, decide_false]
          exact ih
  rw [ef]
  by_cases e : j = k
  · rw [if_pos e, if_pos e, e]
    cases o with
    | none => rfl
    | some v => simp [Q18.look]
  · rw [if_neg e, if_neg e]
    cases h : Q18.look own j with
    | some _ => rfl
    | none =>
      cases o with
      | none => rfl
      | some v =>
        show Q18.look [(k, some v)] j = none
        exact Q18.look_none.mpr (by simpa using e)
theorem putOwn_nd {own : Tb} (nd : Q18.Nd own) (k : Rw) (o : Option Int) : Q18.Nd (putOwn own k o) := by
  unfold Q18.Nd putOwn at *
  rw [List.map_append, List.nodup_append]
  refine ⟨nd.sublist (List.filter_sublist.map _), ?_, fun a ha b hb => ?_⟩
  · split <;> simp
  · obtain ⟨x, hx, rfl⟩ := List.mem_map.mp ha
    have hx2 := (List.mem_filter.mp hx).2
    have hb : b = k := by
      split at hb
      · simpa using hb
      · simp at hb
    rw [hb]
    exact of_decide_eq_true hx2
theorem putOwn_keys {own : Tb} (ku : Keys own) {k : Rw} (o : Option Int) (hk : k ∈ Q18.U) : Keys (putOwn own k o) := fun p hp => by
  unfold putOwn at hp
  rcases List.mem_append.mp hp with hp | hp
  · exact ku p (List.mem_filter.mp hp).1
  · split at hp
    · rw [List.mem_singleton.mp hp]; exact hk
    · simp at hp
theorem shaped_kU {k : Rw} (h : k ∈ Q18.U) : SeqAt.shaped (kD k) = true := by
  have a := sh_kU _ h
  rw [Bool.and_eq_true, decide_eq_true_eq] at a
  unfold SeqAt.shaped
  rw [a.1, decide_eq_true (by omega)]; rfl
end K18
set_option Elab.async false
set_option linter.all false
set_option maxRecDepth 100000
set_option maxHeartbeats 4000000
namespace K18
open PySem PySem.Spec PyProof.Rows PySem.Calls L2 KB KC KD KS KM LamX R8 CP K7 TK
theorem valV_mem {κ : Type} [DecidableEq κ] {kvs : List (κ × V)} (nd : (kvs.map (·.1)).Nodup) {k : κ} {v : V} (h : (k, v) ∈ kvs) : valV kvs k = some v := by
  induction kvs with
  | nil => cases h
  | cons a l ih =>
    rw [List.map_cons, List.nodup_cons] at nd
    unfold valV at ih ⊢
    rw [List.find?_cons]
    rcases List.mem_cons.mp h with rfl | h
    · simp
    · have : ¬ a.1 = k := fun e => nd.1 (e ▸ List.mem_map.mpr ⟨(k, v), h, rfl⟩)
      simp only [decide_eq_false this]
      exact ih nd.2 h
section
variable {P : Program} {w : World} {K : PySem.W.Frag} {mg : Str → Option Value} {base : Heap} {CR CC CV CE Pa Pl Pk cL fTo fL : Addr} {fdTo : FuncData} {A : Around} {outer : List PySem.Env} {s : Shared} {H0 : Hp} {E0' : XK}
theorem b_put (ve : LawE P w K mg base CR CC CV CE Pa Pl Pk cL fTo fdTo) (hr : Room 16 (xLaw P w K mg base fL cL A outer s H0 E0').A) :
    ∃ ts, PSs (xLaw P w K mg base fL cL A outer s H0 E0') (thenOf (mBody.getD 1 pS)) ts ∧ ∀ (D : Ends) (σ : L2.St) (H : Hp) (d p c m v o td nd : Addr) (cnt : Nat) (i : Int) (cb : Cb) (vt : Vt) (own : Tb) (L : List En), Sl d c v o td nd cnt i σ → Lh CR CC CV Pa Pl Pk d p c m v o td nd cb vt own L H → Lp cb vt own L cnt →
      (∀ (σ' : L2.St) (H' : Hp) (m' o' : Addr) (cb' : Cb) (own' : Tb), Sl d c v o' td nd cnt i σ' → Lh CR CC CV Pa Pl Pk d p c m' v o' td nd cb' vt own' L H' → Lp cb' vt own' L cnt → D.nx σ' H') → ts D σ H := by
  have hu := hr.units
  have hu1 := Nat.lt_trans (Nat.add_lt_add_left (by decide : 1 < 64) _) hu
  have hu4 := Nat.lt_trans (Nat.add_lt_add_left (by decide : 4 < 64) _) hu
  obtain ⟨fK, fdK, GK, gK, kK, bK⟩ := ve.key
  obtain ⟨fR, fdR, GR, gR, kR, bR⟩ := ve.roll
  obtain ⟨fP, fdP, GP, mP, bP⟩ := ve.cput
  refine ⟨_, pss_cons (ps_asg (pe_tup (pa_cons (pe_call GK (hr.mono (by decide)) (by rfl) gK kK bK .nil pass0 (pa_cons (pv 1) pa_nil)) (pa_cons (pe_ix ix_listD (pe_lst (pa_cons pe_non (pa_cons (pe_tup (pa_cons (pv 8) pa_nil)) pa_nil)))
        (pe_callTy call_int1 (by rfl) ve.T.int (by decide +kernel) (pa_cons (pe_cmpR op_gt (pe_call GR (hr.mono (by decide)) (by rfl) gR kR bR .nil pass0 (pa_cons (pv 1) (pa_cons pe_int pa_nil))) pe_int (nomark _)) pa_nil)) (fun _ _ => rfl)) pa_nil)))
        (pg_tup rfl (pgs_cons (pg_name (i := 10) scLaw.nd rfl (Or.inr rfl)) (pgs_cons (pg_name (i := 11) scLaw.nd rfl (Or.inl rfl)) pgs_nil))))
    (pss_cons (ps_expr (pe_meth (pv 2) ve.B.clC mP GP (hr.mono (by decide)) bP .nil pass0 (pa_cons (pv 10) (pa_cons (pv 11) pa_nil))))
    (pss_one (ps_set (i := 4) scLaw.nd rfl (Or.inr rfl) (pe_callTy (KG.cr_dictT rfl hu4) (by rfl) ve.T.dict (by decide +kernel) (pa_cons (pe_op op_cat
        (pe_lock (pe_lc (own := [("one", 18)]) (g := gName 18) (tt := tTest (tOp (rNeD K) (tVar 18) (tVar 10))) (te := tTup (tCons (tVar 18) (tCons (tDGet (tVar 4) (tVar 18)) tNil))) rfl scLaw.nd (pi_keys (pv 4)) (blkOk_by (N := nLaw) (sc := defScope sLaw) (by decide +kernel))
          (fun _ _ _ _ _ => pg_name (i := 18) scLaw.nd rfl (Or.inl rfl)) (fun _ _ _ _ _ => pts_one (pt_cmpR (op_neD hu) (pv 18) (pv 10) (nomark _))) (fun _ _ _ _ _ => pe_tup (pa_cons (pv 18) (pa_cons (pe_dget hu1 (pv 4) (pv 18) (fun _ _ => rfl)) pa_nil)))))
        (pe_op op_rep (pe_lst (pa_cons (pe_tup (pa_cons (pv 10) (pa_cons (pv 11) pa_nil))) pa_nil)) (pe_callTy call_int1 (by rfl) ve.T.int (by decide +kernel) (pa_cons (pe_cmp (pc_notN (pv 11))) pa_nil)))) pa_nil))))), ?_⟩
  rintro D σ H d p c m v o td nd cnt i cb vt own L ⟨a0, a9, a10, a11, a12, a13, a14, a15, a16, a17, a18, a19, a20, a21, a22, rfl⟩ a l fin
  have hsl : sizeLine = 16777216 := rfl
  refine ⟨_, rfl, key_step a.dice fun H1 kq k e1 i1 hkq hkU => ?_⟩
  have a1 := a.roll e1 i1
  refine ⟨_, rfl, (by show 1 ≤ sizeLine; decide), fun t ht => ?_⟩
  have a2 := a1.ex (Ex.upd (o := .tup [.int i]) ht)
  have ht2 : (upd H1 t (.tup [.int i])) t = some (.tup [.int i]) := upd_same
  have hk2 := (Ex.upd (o := .tup [.int i]) ht) _ _ hkq
  generalize upd H1 t (.tup [.int i]) = H2 at a2 ht2 hk2
  refine ⟨(by show 2 ≤ sizeLine; decide), fun l1 hl1 => ?_⟩
  have a3 := a2.ex (Ex.upd (o := .lst [.non, .ref t]) hl1)
  have hl3 : (upd H2 l1 (.lst [.non, .ref t])) l1 = some (.lst [.non, .ref t]) := upd_same
  have ht3 := (Ex.upd (o := .lst [.non, .ref t]) hl1) _ _ ht2
  have hk3 := (Ex.upd (o := .lst [.non, .ref t]) hl1) _ _ hk2
  have hn2 := ne_new a2.dice hl1
  generalize upd H2 l1 (.lst [.non, .ref t]) = H3 at a3 hl3 ht3 hk3
  refine ⟨_, rfl, roll_step a3.dice (by decide) (by decide) fun r H4 r0 r1 e4 i4 => ?_⟩
  have a4 := a3.roll e4 i4
  have hl4 := e4 _ _ hn2 hl3
  have ht4 := e4 _ _ (dice_ne a3.dice ht3 (fun _ z => nomatch z)) ht3
  have hk4 := e4 _ _ (dice_ne a3.dice hk3 (fun _ z => nomatch z)) hk3
  obtain ⟨rv, o1, hat, hrv⟩ : ∃ (rv : V) (o1 : Option Int), atI [V.non, V.ref t] (if decide (0 < r) = true then 1 else 0) = some rv ∧ RV H4 rv o1 := by
    by_cases c1 : 0 < r
    · exact ⟨.ref t, some i, by rw [if_pos (decide_eq_true c1)]; rfl, t, rfl, ht4⟩
    · exact ⟨.non, none, by rw [if_neg (by simp [c1])]; rfl, rfl⟩
  refine ⟨_, _, rfl, rfl, .inr ⟨_, rfl, l1, _, _, rv, rfl, rfl, hl4, hat, ?_⟩⟩
  refine ⟨(by show 2 ≤ sizeLine; decide), fun q hq => ?_⟩
  have e5 : KS.Ex H4 (upd H4 q (.tup [.ref kq, rv])) := Ex.upd hq
  have a5 := a4.ex e5
  have hk5 := e5 _ _ hk4
  have rv5 : RV (upd H4 q (.tup [.ref kq, rv])) rv o1 := hrv.kt (Ex.tup e5)
  refine ⟨q, _, rfl, SqT.of upd_same, rfl, _, _, rfl, _, _, rfl, rfl, ?_⟩
  generalize upd H4 q (.tup [.ref kq, rv]) = H5 at a5 hk5 rv5
  obtain ⟨⟨dx5, lr5, rs5, g1, g2, g3⟩, mk5, g4, g5⟩ := id a5.xc
  refine ⟨_, rfl, c, dx5, _, rfl, g1, cF_m (by decide +kernel) (by decide +kernel) (by decide +kernel), _, rfl, _, rfl, put_step a5.xc l.pre hk5 hkU rv5 a5.tabs fun cb' pr H6 m' af => ?_⟩
  have a6 := a5.aftC af
  have hk6 := a5.xc.tup af.kp _ _ hk5
  have rv6 : RV H6 rv o1 := rv5.kt (a5.xc.tup af.kp)
  obtain ⟨kv, ho, hkv, hom⟩ := id a6.ho
  have ndk : (kv.map (·.1)).Nodup := by rw [kvT_keys hkv]; exact l.nd
  refine ⟨o, _, ho, trivial, fun od => ⟨_, rfl, o, od, rfl, .inr ⟨_, upd_same, fun D1 hD1 => ?_⟩⟩⟩
  have lkv := paired_len hkv
  have l21 := Q18.U_len l.nd l.ku
  have ktl : ∀ {H' : Hp}, KS.Ex (upd H6 o (.frz od (.dT kv))) H' → KtTup H6 H' := fun e b xs h => e _ _ (by rw [L2.upd_ne (fun z => by rw [z, ho] at h; cases h)]; exact h)
  refine lcG walk_keysT RPr (fun j => own[j]?.bind fun e => if decide (e.1 ≠ k) = true then some e else none) RPr.stab hD1 (by omega) (fun H7 e7 => e7 _ _ upd_same) (fun i H5 x H6 _ _ h => by rw [h.1]; exact Ex.refl _) (fun j u H7 H8 R0 N0 hj e7 hy hno hsm => ?_) (fun H7 xs e7 hx7 hps => ?_)
  · obtain ⟨rfl, kk, vv, qq, hkq', rfl, hqq⟩ := hy
    obtain ⟨px, hpx, e8, rvx⟩ := paired_get hkv hkq'
    have e8 : kk = px.1 := e8
    subst e8
    have pU : px.1 ∈ Q18.U := l.ku px (List.mem_of_getElem? hpx)
    refine ⟨rfl, _, rfl, _, rfl, kD px.1, kD k, dp_k K hqq, dp_k K (ktl e7 _ _ hk6), shaped_kU pU, shaped_kU hkU, _, rfl, ?_⟩
    rw [eqv_kD]
    by_cases c1 : px.1 = k
    · exact ifF (by simp [c1]) (hno (by rw [hpx]; show (if decide (px.1 ≠ k) = true then some px else none) = none; simp [c1]) _ (Ex.refl _))
    · have hg : DGet H8 o (.ref qq) (some vv) := by
        refine .inr ⟨_, px.1, qq, .inr ⟨_, e7 _ _ upd_same⟩, rfl, hqq, ?_⟩
        have := valV_mem ndk (List.mem_of_getElem? hkq')
        exact this.symm
      refine ifT (by simp [c1]) ⟨_, rfl, _, rfl, _, rfl, o, vv, rfl, hg, (by show 2 ≤ sizeLine; decide), fun z hz => ?_⟩
      have e9 : KS.Ex H8 (upd H8 z (.tup [.ref qq, vv])) := Ex.upd hz
      exact hsm px (by rw [hpx]; show (if decide (px.1 ≠ k) = true then some px else none) = some px; simp [c1]) _ _ e9 ⟨z, qq, vv, rfl, upd_same, e9 _ _ hqq, (rvx.kt (ktl e7)).kt (Ex.tup e9)⟩
  · rw [lkv, range_fm, filt_fm] at hps
    refine ⟨e7 _ _ upd_same, ?_⟩
    have nD : D1 ≠ o := fun z => by rw [z, upd_same] at hD1; cases hD1
    have u6 := lockT ho e7
    have hx8 : (upd H7 o (.dT kv)) D1 = some (.lst xs) := by rw [L2.upd_ne nD]; exact hx7
    have hp8 : Paired (RPr (upd H7 o (.dT kv))) xs (own.filter fun p => decide (p.1 ≠ k)) := paired_mono (fun v b h => RPr.stab _ _ _ _ (fun b ys h => by
      rw [L2.upd_ne (fun z => by rw [z, e7 _ _ upd_same] at h; cases h)]; exact h) h) hps
    obtain ⟨ts, rfl, prs⟩ := rpr_prs hp8
    generalize upd H7 o (.dT kv) = H8 at u6 hx8 hp8 prs
    have hk8 := u6 _ _ hk6
    have rv8 : RV H8 rv o1 := rv6.kt (Ex.tup u6)
    refine ⟨_, rfl, _, rfl, (by show 2 ≤ sizeLine; decide), fun z hz => ?_⟩
    have e9 : KS.Ex H8 (upd H8 z (.tup [.ref kq, rv])) := Ex.upd hz
    have hz9 : (upd H8 z (.tup [.ref kq, rv])) z = some (.tup [.ref kq, rv]) := upd_same
    generalize upd H8 z (.tup [.ref kq, rv]) = H9 at e9 hz9
    refine ⟨(by show 1 ≤ sizeLine; decide), fun l2 hl2 => ?_⟩
    refine ⟨_, rfl, .inr ⟨_, rfl, l2, _, _, rfl, rfl, upd_same, ?_, ?_, ?_, fun l3 hl3 => ?_⟩⟩
    · split <;> decide
    · split <;> decide
    · show 1 * _ ≤ _
      split <;> decide
    have er : (List.replicate (if (!decide (rv = V.non)) = true then (1 : Int) else 0).toNat [V.ref z]).flatten = (if o1.isSome = true then [z] else []).map V.ref := by
      cases h : o1 with
      | none =>
        rw [h] at hrv
        rw [show rv = .non from hrv]
        rfl
      | some n =>
        rw [h] at hrv
        obtain ⟨t', e', _⟩ := hrv
        rw [e']
        rfl
    rw [er]
    have e10 : KS.Ex H9 (upd (upd H9 l2 (.lst [.ref z])) l3 (.lst ((if o1.isSome = true then [z] else []).map V.ref))) := (Ex.upd hl2).trans (Ex.upd hl3)
    have hl10 : (upd (upd H9 l2 (.lst [.ref z])) l3 (.lst ((if o1.isSome = true then [z] else []).map V.ref))) l3 = some (.lst ((if o1.isSome = true then [z] else []).map V.ref)) := upd_same
    generalize upd (upd H9 l2 (.lst [.ref z])) l3 (.lst ((if o1.isSome = true then [z] else []).map V.ref)) = H10 at e10 hl10
    have e810 := e9.trans e10
    have lts : ts.length ≤ 21 := by
      have h1 := paired_len prs
      have h2 := List.length_filter_le (fun p : Rw × Option Int => decide (p.1 ≠ k)) own
      omega
    refine ⟨D1, l3, _, _, rfl, rfl, e810 _ _ hx8, hl10, ?_, fun l4 hl4 => ?_⟩
    · rw [List.length_map, List.length_map]
      split <;> simp <;> omega
    rw [← List.map_append]
    have e11 : KS.Ex H10 (upd H10 l4 (.lst ((ts ++ if o1.isSome = true then [z] else []).map V.ref))) := Ex.upd hl4
    have hl11 : (upd H10 l4 (.lst ((ts ++ if o1.isSome = true then [z] else []).map V.ref))) l4 = some (.lst ((ts ++ if o1.isSome = true then [z] else []).map V.ref)) := upd_same
    generalize upd H10 l4 (.lst ((ts ++ if o1.isSome = true then [z] else []).map V.ref)) = H11 at e11 hl11
    have e811 := e810.trans e11
    have prs11 : Prs H11 (ts ++ if o1.isSome = true then [z] else []) (putOwn own k o1) := by
      unfold putOwn
      refine paired_app (prs.kt (Ex.tup e811)) ?_
      have rv11 := rv8.kt (Ex.tup e811)
      have hz11 := (e10.trans e11) _ _ hz9
      have hk11 := e811 _ _ hk8
      clear er hl11 e11 hl10 e10 hrv hat rv5 rv6 rv8 pr a2 af
      cases o1 with
      | none => exact .nil
      | some n => exact (show Prs H11 [z] [(k, some n)] from (Paired.cons (by exact ⟨kq, rv, hz11, hk11, rv11⟩) .nil : Paired (fun (t : Addr) (x : Rw × Option Int) => ∃ q v, H11 t = some (.tup [.ref q, v]) ∧ H11 q = some (.tup (x.1.map kV)) ∧ RV H11 v x.2) [z] [(k, some n)]))
    obtain ⟨kvs, po, hk11⟩ := prs_pairs prs11
    refine ⟨l4, _, kvs, rfl, .inl hl11, po, fun o' ho' => ?_⟩
    have em : KG.mergeT [] kvs = kvs := merge_self kvs [] (by
      rw [List.nil_append, kvT_keys hk11]
      exact putOwn_nd l.nd k o1)
    rw [em]
    have e12 : KS.Ex H11 (upd H11 o' (.dT kvs)) := Ex.upd ho'
    have a12 := a6.ex ((u6.trans e811).trans e12)
    obtain ⟨_, mkm, gm, _⟩ := (a6.ex (u6.trans e811)).xc
    have nm : o' ≠ m' := fun z => by rw [z, gm] at ho'; cases ho'
    have ow12 : OwnAt m' (upd H11 o' (.dT kvs)) o' (putOwn own k o1) := ⟨kvs, upd_same, kvT_kt hk11 (Ex.tup e12), nm⟩
    refine fin _ _ m' o' cb' (putOwn own k o1) ?_ (a12.own' ow12) (lp_put l pr hkU (putOwn_nd l.nd k o1) (putOwn_keys l.ku o1 hkU) fun j => putOwn_look own k j o1)
    exact ⟨_, _, _, _, _, _, _, _, _, _, _, _, _, _, _, rfl⟩
end
end K18
set_option Elab.async false
set_option linter.all false
set_option maxRecDepth 100000
set_option maxHeartbeats 4000000
namespace K18
open PySem PySem.Spec PyProof.Rows PySem.Calls L2 KB KC KD KS KM LamX R8 CP K7 TK
section
variable {P : Program} {w : World} {K : PySem.W.Frag} {mg : Str → Option Value} {base : Heap} {CR CC CV CE Pa Pl Pk cL fTo fL : Addr} {fdTo : FuncData} {A : Around} {outer : List PySem.Env} {s : Shared} {H0 : Hp} {E0' : XK}
theorem b_flush (ve : LawE P w K mg base CR CC CV CE Pa Pl Pk cL fTo fdTo) (hr : Room 16 (xLaw P w K mg base fL cL A outer s H0 E0').A) :
    ∃ ts, PSs (xLaw P w K mg base fL cL A outer s H0 E0') (thenOf (elseOf (mBody.getD 1 pS))) ts ∧ ∀ (D : Ends) (σ : L2.St) (H : Hp) (d p c m v o td nd : Addr) (cnt : Nat) (i : Int) (cb : Cb) (vt : Vt) (own : Tb) (L : List En), Sl d c v o td nd cnt i σ → Lh CR CC CV Pa Pl Pk d p c m v o td nd cb vt own L H → Lp cb vt own L cnt →
      (∀ (σ' : L2.St) (H' : Hp) (m' : Addr) (cb' : Cb), Sl d c v o td nd cnt i σ' → Lh CR CC CV Pa Pl Pk d p c m' v o td nd cb' vt own L H' → Lp cb' vt own L cnt → D.nx σ' H') → ts D σ H := by
  have hu := hr.units
  have hu1 := Nat.lt_trans (Nat.add_lt_add_left (by decide : 1 < 64) _) hu
  obtain ⟨fF, fdF, GF, mF, bF⟩ := ve.cflush
  refine ⟨_, pss_cons (ps_expr (pe_meth0 (pv 2) ve.B.clC mF GF (hr.mono (by decide)) bF .nil pass0))
    (pss_one (ps_if (pt_cmpR (op_neT0 hu1) (pf 2) pe_dnewT (nomark _)) (pss_one (ps_ret pe_bl)) pss_nil)), ?_⟩
  rintro D σ H d p c m v o td nd cnt i cb vt own L ⟨a0, a9, a10, a11, a12, a13, a14, a15, a16, a17, a18, a19, a20, a21, a22, rfl⟩ a l fin
  obtain ⟨⟨dx, lr, rs, g1, g2, g3⟩, mk, g4, g5⟩ := id a.xc
  refine ⟨_, rfl, c, dx, _, rfl, g1, cF_m (by decide +kernel) (by decide +kernel) (by decide +kernel), ?_⟩
  refine flush_step a.xc l.pre a.tabs fun cb' fr H1 m' af => ?_
  obtain ⟨l1, em⟩ := lp_flush l fr
  have a1 := a.aftC af
  obtain ⟨⟨dx1, lr1, rs1, h1, h2, h3⟩, mk1, h4, h5⟩ := id a1.xc
  have lm := paired_len h5
  rw [em] at lm
  refine ⟨_, rfl, c, CC, dx1, _, _, rfl, h1, ve.B.clC, ve.B.cM, rfl, fun z hz => ?_⟩
  have eZ : KS.Ex H1 (upd H1 z (.dT [])) := Ex.upd hz
  refine ⟨m', z, mk1, rfl, rfl, eZ _ _ h4, upd_same, _, rfl, ?_⟩
  refine ifF (by rw [lm]; simp) ?_
  refine fin _ _ m' cb' ?_ (a1.ex eZ) l1
  exact ⟨_, _, _, _, _, _, _, _, _, _, _, _, _, _, _, rfl⟩
end
end K18
set_option Elab.async false
set_option linter.all false
set_option maxRecDepth 100000
set_option maxHeartbeats 4000000
namespace K18
open PySem PySem.Spec PyProof.Rows PySem.Calls L2 KB KC KD KS KM LamX R8 CP K7 TK
theorem eqv_intsL (a b : List Int) : PyData.eqv (.list (a.map PyData.int)) (.list (b.map PyData.int)) = decide (a = b) := by
  show PyData.eqvAll _ _ = _
  induction a generalizing b with
  | nil => cases b <;> simp [PyData.eqvAll]
  | cons x r ih =>
    cases b with
    | nil => simp [PyData.eqvAll]
    | cons y q =>
      rw [List.map_cons, List.map_cons]
      unfold PyData.eqvAll
      rw [ih q]
      have e1 : PyData.eqv (.int x) (.int y) = decide (x = y) := by
        show (x == y) = _
        rw [Bool.eq_iff_iff, decide_eq_true_eq, beq_iff_eq]
      rw [e1, Bool.eq_iff_iff]
      simp
theorem dp_intsL {K : PySem.W.Frag} {H : Hp} : ∀ ns : List Int, DpAll K H (ns.map V.int) (ns.map PyData.int)
  | [] => .nil
  | n :: ns => .cons (.int _) (dp_intsL ns)
theorem lay_intsL : ∀ ns : List Int, PyData.canLayAll0 (ns.map PyData.int) = true
  | [] => by simp [PyData.canLayAll0]
  | n :: ns => by
    rw [List.map_cons]
    unfold PyData.canLayAll0
    rw [lay_intsL ns]
    simp [PyData.canLay0]
theorem depth_intsL : ∀ ns : List Int, PyData.depthAll (ns.map PyData.int) ≤ 3
  | [] => by simp [PyData.depthAll]
  | p :: S => by
    have h := depth_intsL S
    rw [List.map_cons]
    unfold PyData.depthAll
    have : (PyData.int p).depth ≤ 2 := by simp [PyData.depth]
    omega
theorem sh_intsL (S : List Int) : SeqAt.shaped (.list (S.map PyData.int)) = true := by
  have h := depth_intsL S
  unfold SeqAt.shaped
  rw [Bool.and_eq_true, decide_eq_true_eq]
  refine ⟨?_, ?_⟩
  · unfold PyData.canLay0
    exact lay_intsL S
  · unfold PyData.depth
    omega
def rSortedTI (K : PySem.W.Frag) : List V → Hp → VK → Prop := fun vs H Q => ∃ (a : Addr) (ns : List Int), vs = [V.ref a] ∧ SqT K H a (ns.map V.int) ∧
  ∀ (ns' : List Int) (p : Addr), ns'.Perm ns → ns'.Pairwise (· ≤ ·) → H p = none → Q (.ref p) (upd H p (.lst (ns'.map V.int)))
theorem cr_sortedTI {X : Cx} : CallR X (.builtin "sorted") (rSortedTI X.K) := by
  intro pins s σ H vs us Q I r h
  obtain ⟨a, ns, rfl, hs, q⟩ := h
  obtain ⟨its, rv, hl, hz⟩ := I.tuple hs
  rw [Vals.ref1 r]
  have hi := rv.ints
  refine SrtU.sorted_ordT SrtO.swo_int hl (by rw [← rv.length]; exact hz) (fun h2 h₁ a' _ _ => SrtO.ints_sortable hi h2) fun out h1 h2 => ?_
  obtain ⟨k1, k2, k3⟩ := SrtO.ints_out hi h1 h2
  obtain ⟨ep, he'⟩ := PyProof.Rows.sortedAll_at s.heap its out.toArray
  have hlen : ((out.map SrtO.iv).map V.int).length ≤ sizeLine := by
    rw [List.length_map, k2.length_eq]
    rw [List.length_map] at hz
    exact hz
  exact ⟨.ref _, upd H (s.heap.objs.size + 1) (.lst ((out.map SrtO.iv).map V.int)), I.laid (t' := s.toks) (fun _ _ => PyProof.Rows.sortedAll_old) (Nat.le_succ _) ⟨hlen, out, ep, vals_of_ints k1, he'⟩, rfl, q _ _ k2 k3 (I.hok.fresh (Nat.le_succ _))⟩

theorem qLaw : (Str.ofString "law" ++ Str.ofString ".<locals>.") ++ Str.ofString "<lambda>" = qL := by decide +kernel
theorem tabLo {Pa Pl Pk : Addr} : (Pl, (Str.ofString "law" ++ Str.ofString ".<locals>.") ++ Str.ofString "<lambda>") ∈ TT Pa Pl Pk := by rw [qLaw]; exact List.mem_cons_of_mem _ (List.mem_cons_self ..)
theorem tabLu {Pa Pl Pk : Addr} (ap : Apt Pa Pl Pk) : ∀ p ∈ TT Pa Pl Pk, p.1 = Pl → p.2 = (Str.ofString "law" ++ Str.ofString ".<locals>.") ++ Str.ofString "<lambda>" := by
  rw [qLaw]
  intro p hp e
  rcases List.mem_cons.mp hp with z | hp
  · rw [z] at e
    exact absurd e ap.al
  rcases List.mem_cons.mp hp with z | hp
  · rw [z]
  rcases List.mem_cons.mp hp with z | hp
  · rw [z] at e
    exact absurd e.symm ap.lk
  cases hp
theorem none_of {H H' : Hp} {a : Addr} (e : KS.Ex H H') (h : H' a = none) : H a = none := by
  cases z : H a with
  | none => rfl
  | some o => rw [e _ _ z] at h; cases h
def rDictP (K : PySem.W.Frag) : List V → Hp → VK → Prop := fun xs H Q => ∃ (a : Addr) (ps : List Addr) (kvs : List (Key × V)), xs = [.ref a] ∧ SqL K H a (ps.map V.ref) ∧ Paired (fun p kv => SqT K H p [kV kv.1, kv.2]) ps kvs ∧ ∀ p, H p = none → Q (.ref p) (upd H p (.dK (mergeK [] kvs)))
theorem items_add {K : PySem.W.Frag} {i : Nat} {ta tb : TE} {σ : L2.St} {H : Hp} {Q : VK} {l : Addr} {ks : List (Key × V)} {k : Key} {v : V} (hi : σ[i]? = some (some (.ref l))) (hta : ∀ H' Q, KS.Ex H H' → Q (kV k) H' → ta σ H' Q) (htb : ∀ H' Q, KS.Ex H H' → Q v H' → tb σ H' Q)
    (hl : H l = some (.dK ks)) (nd : ((ks ++ [(k, v)]).map (·.1)).Nodup) (h9 : ks.length ≤ 1000) (fin : ∀ H' q, KS.Ex H H' → H q = none → H' q = some (.dK (ks ++ [(k, v)])) → Q (.ref q) H') :
    tCB (rDictP K) (tCons (tOp rCat (LiI.tListItems (tVar i)) (tLst (tCons (tTup (tCons ta (tCons tb tNil))) tNil))) tNil) σ H Q := by
  have hsl : sizeLine = 16777216 := rfl
  refine ⟨_, hi, l, _, rfl, hl, fun H1 p ts e1 hp hts hpt hp1 pp => ?_⟩
  have e1 : KS.Ex H H1 := e1
  refine hta _ _ e1 (htb _ _ e1 ⟨(by show 2 ≤ sizeLine; decide), fun q hq => ⟨(by show 1 ≤ sizeLine; decide), fun r hr => ?_⟩⟩)
  have e2 : KS.Ex H1 (upd (upd H1 q (.tup [kV k, v])) r (.lst [.ref q])) := (Ex.upd hq).trans (Ex.upd hr)
  have hq2 : (upd (upd H1 q (.tup [kV k, v])) r (.lst [.ref q])) q = some (.tup [kV k, v]) := Ex.upd hr _ _ upd_same
  have hr2 : (upd (upd H1 q (.tup [kV k, v])) r (.lst [.ref q])) r = some (.lst [.ref q]) := upd_same
  generalize upd (upd H1 q (.tup [kV k, v])) r (.lst [.ref q]) = H2 at e2 hq2 hr2
  have lt : ts.length = ks.length := paired_len pp
  refine ⟨p, r, _, _, rfl, rfl, e2 _ _ hp1, hr2, ?_, fun x hx => ?_⟩
  · rw [List.length_map]
    simp
    omega
  rw [show [V.ref q] = [q].map V.ref from rfl, ← List.map_append]
  have e3 : KS.Ex H2 (upd H2 x (.lst ((ts ++ [q]).map V.ref))) := Ex.upd hx
  have hx3 : (upd H2 x (.lst ((ts ++ [q]).map V.ref))) x = some (.lst ((ts ++ [q]).map V.ref)) := upd_same
  generalize upd H2 x (.lst ((ts ++ [q]).map V.ref)) = H3 at e3 hx3
  have pp3 : Paired (fun (p : Addr) (kv : Key × V) => SqT K H3 p [kV kv.1, kv.2]) (ts ++ [q]) (ks ++ [(k, v)]) := paired_app (paired_mono (fun a c h => SqT.of (e3 _ _ (e2 _ _ h))) pp) (.cons (SqT.of (e3 _ _ hq2)) .nil)
  refine ⟨x, _, _, rfl, SqL.of hx3, pp3, fun y hy => ?_⟩
  have e4 : KS.Ex H3 (upd H3 y (.dK (mergeK [] (ks ++ [(k, v)])))) := Ex.upd hy
  refine fin _ y (((e1.trans e2).trans e3).trans e4) (none_of ((e1.trans e2).trans e3) hy) ?_
  rw [upd_same]
  have em : mergeK [] (ks ++ [(k, v)]) = ks ++ [(k, v)] := merge_self (ks ++ [(k, v)]) [] (by rw [List.nil_append]; exact nd)
  rw [em]
theorem told_keys {m : Addr} {H : Hp} {ks : List (Key × V)} {L : List En} (h : ToldD m H ks L) : ks.map (·.1) = L.map fun e => kS e.nm := by
  unfold ToldD at h
  induction h with
  | nil => rfl
  | cons h t ih => rw [List.map_cons, List.map_cons, ih, h.1]
theorem tells_keys {H : Hp} {ks : List (Key × V)} {ts : List (Str × List Nat)} (h : TellsD H ks ts) : ks.map (·.1) = ts.map fun e => kS e.1 := by
  unfold TellsD at h
  induction h with
  | nil => rfl
  | cons h t ih => rw [List.map_cons, List.map_cons, ih, h.1]
theorem kS_nodup {L : List En} (h : (L.map (·.nm)).Nodup) : (L.map fun e => kS e.nm).Nodup := by
  rw [show (fun e : En => kS e.nm) = kS ∘ (·.nm) from rfl, ← List.map_map]
  rw [List.nodup_iff_pairwise_ne, List.pairwise_map]
  exact (List.nodup_iff_pairwise_ne.mp h).imp fun hne z => hne (Sum.inr.inj z)
section
variable {P : Program} {w : World} {K : PySem.W.Frag} {mg : Str → Option Value} {base : Heap} {CR CC CV CE Pa Pl Pk cL fTo fL : Addr} {fdTo : FuncData} {A : Around} {outer : List PySem.Env} {s : Shared} {H0 : Hp} {E0' : XK}
theorem lam_told (ve : LawE P w K mg base CR CC CV CE Pa Pl Pk cL fTo fdTo) (hr : Room 16 (xLaw P w K mg base fL cL A outer s H0 E0').A) {params : Arguments} {body : Expr} {scope : Scope} {t : XK → TE} {p lpos pos : Pos} (L : LamS (defScope sLaw) scope) (hdef : defaultsOf params (xLaw P w K mg base fL cL A outer s H0 E0').env = ([], []))
    (hbind : ∀ (q : Str) (cl : List (Str × Addr)) (pm cv ctv : Value), bindArgs (PySem.W.kla_fn "<lambda>" q params body scope cl pm cv ctv) ⟨[], []⟩ = pure [])
    (hbody : ∀ (A' : Around) (outer' : List Env) (s' : Shared) (H : Hp) (E : XK) (f c' : Addr), Room 14 (A'.deeper (lamEnv (xLaw P w K mg base fL cL A outer s H0 E0') scope s'.heap.objs.size f c')) → PE (lamCx (xLaw P w K mg base fL cL A outer s H0 E0') A' outer' s' H E scope f c') body (t E)) :
    PE (xLaw P w K mg base fL cL A outer s H0 E0') (.Call (.Name "_law_told" p) [.Lambda params body scope lpos] [] pos) (tLam (TT Pa Pl Pk) (TTold K CE "SnapshotError") t) := by
  obtain ⟨oc, od, dV, kV, doc, pm, an, cdv, ct, osl, rfl, lk, hcd, _, _⟩ := ve.told.ex
  have bT := ve.told.bindsN (ps := ["what"]) fun _ _ _ _ _ _ us hl => match us, hl with | [_], _ => rfl
  exact pe_lamcall (T := TT Pa Pl Pk) (P := Pl) (c := cL) (k := 14) (by rfl) ve.gTold ve.told.kp lk hcd bT scTold rfl (Or.inl rfl)
      (told_gives (by rfl) ve.J.g (by decide +kernel) (fun f => rfl)) ve.TBl rfl tabLo (tabLu ve.ap)
      hr L hdef hbind hbody
end
end K18
set_option Elab.async false
set_option linter.all false
set_option maxRecDepth 100000
set_option maxHeartbeats 4000000
namespace K18
open PySem PySem.Spec PyProof.Rows PySem.Calls L2 KB KC KD KS KM LamX R8 CP K7 TK
theorem asc_rev {l ns : List Int} (d : l.Pairwise fun a b => b < a) (pm : ns.Perm l) (so : ns.Pairwise (· ≤ ·)) : ns.reverse = l := by
  have h1 : l.reverse.Pairwise (· ≤ ·) := by
    rw [List.pairwise_reverse]
    exact d.imp fun h => Int.le_of_lt h
  have : ns = l.reverse := (pm.trans (List.reverse_perm l).symm).eq_of_pairwise (fun a b _ _ x y => Int.le_antisymm x y) so h1
  rw [this, List.reverse_reverse]
theorem nums_desc {cb : Cb} (ok : Q18.Ok cb) : (nums cb.runs).Pairwise fun a b => b < a := by
  unfold nums
  rw [List.pairwise_map]
  exact ok.ds.imp fun h => by omega
theorem nums_nat (rs : List Rn) : nums rs = natI (rs.map (·.num)) := by
  unfold nums natI
  rw [List.map_map]; rfl
theorem mem_nums {rs : List Rn} {n : Nat} : (n : Int) ∈ nums rs ↔ Q18.hasN rs n = true := by
  rw [Q18.hasN_iff]
  unfold nums
  rw [List.mem_map]
  constructor
  · rintro ⟨r, h, e⟩
    exact ⟨r, h, by omega⟩
  · rintro ⟨r, h, e⟩
    exact ⟨r, h, by omega⟩
theorem fresh_name {cb : Cb} {vt : Vt} {own : Tb} {L : List En} {cnt : Nat} (l : Lp cb vt own L cnt) (hc : cnt < 99) : ∀ e ∈ L, e.nm ≠ nameOf cnt := fun e he z => by
  obtain ⟨j, hj, e2⟩ := l.nm e he
  have := str_inj (by omega) (by omega) (e2.symm.trans z)
  omega
section
variable {P : Program} {w : World} {K : PySem.W.Frag} {mg : Str → Option Value} {base : Heap} {CR CC CV CE Pa Pl Pk cL fTo fL : Addr} {fdTo : FuncData} {A : Around} {outer : List PySem.Env} {s : Shared} {H0 : Hp} {E0' : XK}
theorem b_tell (ve : LawE P w K mg base CR CC CV CE Pa Pl Pk cL fTo fdTo) (hr : Room 16 (xLaw P w K mg base fL cL A outer s H0 E0').A) :
    ∃ ts, PSs (xLaw P w K mg base fL cL A outer s H0 E0') (thenOf (elseOf (elseOf (mBody.getD 1 pS)))) ts ∧ ∀ (D : Ends) (σ : L2.St) (H : Hp) (d p c m v o td nd : Addr) (cnt : Nat) (i : Int) (cb : Cb) (vt : Vt) (own : Tb) (L : List En), Sl d c v o td nd cnt i σ → Lh CR CC CV Pa Pl Pk d p c m v o td nd cb vt own L H → Lp cb vt own L cnt → cnt < 99 →
      (∀ (σ' : L2.St) (H' : Hp) (m' td' nd' : Addr) (cb' : Cb) (vt' : Vt) (L' : List En), Sl d c v o td' nd' (cnt + 1) i σ' → Lh CR CC CV Pa Pl Pk d p c m' v o td' nd' cb' vt' own L' H' → Lp cb' vt' own L' (cnt + 1) → D.nx σ' H') → ts D σ H := by
  have hu := hr.units
  have hu1 := Nat.lt_trans (Nat.add_lt_add_left (by decide : 1 < 64) _) hu
  obtain ⟨fK, fdK, GK, mK, bK⟩ := ve.known
  obtain ⟨fT, fdT, GT, mT, bT⟩ := ve.ctell
  obtain ⟨fP, fdP, GP, mP, bP⟩ := ve.keep
  refine ⟨_, pss_cons (ps_set (i := 12) scLaw.nd rfl (Or.inr rfl) (pe_meth0 (pv 3) ve.B.clV mK GK (hr.mono (by decide)) bK .nil pass0))
    (pss_cons (ps_set (i := 13) scLaw.nd rfl (Or.inr rfl) (pe_meth (pv 2) ve.B.clC mT GT (hr.mono (by decide)) bT .nil pass0 (pa_cons (pv 12) pa_nil)))
    (pss_cons (ps_asg (pe_tup (pa_cons (pe_op op_add_str pe_str (pe_callTy call_str_int (by rfl) ve.T.str (by decide +kernel) (pa_cons (pv 7) pa_nil))) (pa_cons (pe_op op_add (pv 7) pe_int) pa_nil)))
        (pg_tup rfl (pgs_cons (pg_name (i := 14) scLaw.nd rfl (Or.inr rfl)) (pgs_cons (pg_name (i := 7) scLaw.nd rfl (Or.inl rfl)) pgs_nil))))
    (pss_cons (ps_if (PW.pt (pw_or (pt_cmpR (op_neD hu)
          (pe_lc (own := [("run", 17)]) (g := gName 17) (tt := tYes) (te := tFld K (tVar 17) "number") rfl scLaw.nd (pi_tup (pe_ix ix_tupD (pv 13) pe_int (fun _ _ => rfl))) (blkOk_by (N := nLaw) (sc := defScope sLaw) (by decide +kernel))
            (fun _ _ _ _ _ => pg_name (i := 17) scLaw.nd rfl (Or.inl rfl)) (fun _ _ _ _ _ => pts_nil) (fun _ _ _ _ _ => pf 17))
          (pe_lc (own := [("number", 20)]) (g := gName 20) (tt := tTest (tOp (rIn K true) (tVar 20) (tVar 12))) (te := tVar 20) rfl scLaw.nd (pi_tup (pe_ix ix_tupD (pv 13) pe_int (fun _ _ => rfl))) (blkOk_by (N := nLaw) (sc := defScope sLaw) (by decide +kernel))
            (fun _ _ _ _ _ => pg_name (i := 20) scLaw.nd rfl (Or.inl rfl)) (fun _ _ _ _ _ => pts_one (pt_cmpR op_notIn_seq (pv 20) (pv 12) (by rfl))) (fun _ _ _ _ _ => pv 20)) (nomark _))
        (pw_or (pt_cmpR (op_neD hu) (pe_callTy call_list_of (by rfl) ve.T.list (by decide +kernel) (pa_cons (pe_ix ix_tupD (pv 13) pe_int (fun _ _ => rfl)) pa_nil))
            (pe_revL (pe_callB cr_sortedTI (by rfl) ve.T.sorted (by decide +kernel) (pa_cons (pe_ix ix_tupD (pv 13) pe_int (fun _ _ => rfl)) pa_nil))) (nomark _))
          (pw_or1 (pt_cmpR op_gt (pe_callB call_len_seq (by rfl) ve.T.len PySem.boot_len (pa_cons (pe_ix ix_tupD (pv 13) pe_int (fun _ _ => rfl)) pa_nil)) pe_int (nomark _)))))) (pss_one (ps_ret pe_bl)) pss_nil)
    (pss_cons (ps_expr (pe_meth (pv 3) ve.B.clV mP GP (hr.mono (by decide)) bP (E := fun _ _ _ => False) .nil (passes_call L2.takes0 (fun _ _ _ _ h => h)) (pa_cons (pv 14) (pa_cons (pv 13) pa_nil))))
    (pss_cons (ps_asg (pe_tup (pa_cons (pe_callTy (call_dictP rfl) (by rfl) ve.T.dict (by decide +kernel) (pa_cons (pe_op op_cat (LiI.pe_listItems rfl (pv 5) (by rfl) ve.T.list (by decide +kernel)) (pe_lst (pa_cons (pe_tup (pa_cons (pv 14) (pa_cons (pv 4) pa_nil))) pa_nil))) pa_nil))
          (pa_cons (pe_callTy (call_dictP rfl) (by rfl) ve.T.dict (by decide +kernel) (pa_cons (pe_op op_cat (LiI.pe_listItems rfl (pv 6) (by rfl) ve.T.list (by decide +kernel)) (pe_lst (pa_cons (pe_tup (pa_cons (pv 14) (pa_cons (pe_ix ix_tupD (pv 13) pe_int (fun _ _ => rfl)) pa_nil))) pa_nil))) pa_nil)) pa_nil)))
        (pg_tup rfl (pgs_cons (pg_name (i := 5) scLaw.nd rfl (Or.inr rfl)) (pgs_cons (pg_name (i := 6) scLaw.nd rfl (Or.inr rfl)) pgs_nil))))
    (pss_one (ps_if (pt_cmpR op_ne (lam_told ve hr (lamS_by (by show lamSB (defScope sLaw) _ = true; decide +kernel)) rfl (fun _ _ _ _ _ => rfl)
        (fun A outer s H E f c' hr' => pe_meth (pv 3) ve.B.clV mP GP (hr'.mono (by decide)) bP .nil (passes_call (takes_of rfl rfl rfl rfl) (fun _ _ _ _ h => h)) (pa_cons (pv 14) (pa_cons (pv 13) pa_nil)))) pe_str (nomark _)) (pss_one (ps_ret pe_bl)) pss_nil))))))), ?_⟩
  rintro D σ H d p c m v o td nd cnt i cb vt own L ⟨a0, a9, a10, a11, a12, a13, a14, a15, a16, a17, a18, a19, a20, a21, a22, rfl⟩ a l hc fin
  have hsl : sizeLine = 16777216 := rfl
  obtain ⟨dxv, vr, vs, ev⟩ := a.xv.ins
  refine ⟨_, rfl, v, dxv, _, rfl, ev, vF_m (by decide +kernel) (by decide +kernel) (by decide +kernel), known_step a.xv fun H1 kn e1 hkn => ?_⟩
  have a1 := a.ex e1
  obtain ⟨⟨dx1, lr1, rs1, g1, g2, g3⟩, mk1, g4, g5⟩ := id a1.xc
  refine ⟨_, rfl, c, dx1, _, rfl, g1, cF_m (by decide +kernel) (by decide +kernel) (by decide +kernel), _, rfl, tell_step a1.xc l.pre (by have := l.ok.lt; omega) hkn a1.tabs fun cb' fr H2 m' q qa qb rs af hq hqa hqb hrs => ?_⟩
  have a2 := a1.aftC af
  obtain ⟨l2, em⟩ := lp_flush l fr
  have hkn2 := a1.xc.tup af.kp _ _ hkn
  have hlen := len_name cnt (by omega)
  refine ⟨_, rfl, _, rfl, ?_, _, _, rfl, rfl, ?_, _, rfl, _, _, rfl, rfl, (by show 2 ≤ sizeLine; decide), fun z hz => ⟨z, _, rfl, SqT.of upd_same, rfl, _, _, rfl, _, _, rfl, rfl, ?_⟩⟩
  · show (cnt : Int).natAbs.log2 < 1920
    rw [Int.natAbs_natCast]
    exact Nat.lt_of_le_of_lt (Nat.log2_le_self _) (by omega)
  · have : (nameOf cnt).length = (Str.ofString "t").length + (Str.ofString (toString (cnt : Int))).length := str_len _ _
    show (Str.ofString "t").length + (Str.ofString (toString (cnt : Int))).length ≤ _
    omega
  have e3 : KS.Ex H2 (upd H2 z (.tup [.str (nameOf cnt), .int ((cnt : Int) + 1)])) := Ex.upd hz
  have a3 := a2.ex e3
  show tSeq _ _ D [a0, some (.ref d), some (.ref c), some (.ref v), some (.ref o), some (.ref td), some (.ref nd), some (.int (cnt + 1 : Nat)), some (.int i), a9, a10, a11, some (.ref kn), some (.ref q), some (.str (nameOf cnt)), a15, a16, a17, a18, a19, a20, a21, a22] (upd H2 z (.tup [.str (nameOf cnt), .int ((cnt : Int) + 1)]))
  have hq3 := e3 _ _ hq
  have hqa3 := e3 _ _ hqa
  have hqb3 := e3 _ _ hqb
  have hkn3 := e3 _ _ hkn2
  have hrs3 := paired_mono (fun _ _ h => h.ex (ExtN.of e3)) hrs
  generalize upd H2 z (.tup [.str (nameOf cnt), .int ((cnt : Int) + 1)]) = H3 at e3 a3 hq3 hqa3 hqb3 hkn3 hrs3
  have lrs := paired_len hrs3
  have l6 : cb'.runs.length ≤ 6 := l2.ok.l6
  have lf : (cb'.runs.filter fun r => decide ((r.num : Int) ∉ (nums vt.runs).mergeSort fun a b => decide (a ≤ b))).length ≤ 6 := Nat.le_trans (List.length_filter_le _ _) l6
  have lnm : ((nums cb'.runs).map V.int).length = cb'.runs.length := by unfold nums; rw [List.length_map, List.length_map]
  have ln2 : (nums cb'.runs).length = cb'.runs.length := by unfold nums; rw [List.length_map]
  refine ⟨_, rfl, q, _, _, _, rfl, rfl, hq3, rfl, qb, rfl, ⟨_, SqT.of hqb3⟩, fun D1 hD1 => ?_⟩
  refine lcG walk_tup RInt (fun j => (cb'.runs.filter fun r => decide ((r.num : Int) ∉ (nums vt.runs).mergeSort fun a b => decide (a ≤ b)))[j]?.bind fun r => some (r.num : Int)) RInt.stab hD1 (by rw [List.length_map, lrs]; exact Nat.le_trans (List.length_filter_le _ _) (Nat.le_trans l6 (by decide))) (fun H5 e5 => SqT.of (e5 _ _ hqb3)) (fun i H5 x H6 _ _ h => yat_ex h) (fun j y H5 H6 R0 N0 hj e5 hy hno hsm => ?_) (fun H4 xs e4 hx4 hps => ?_)
  · obtain ⟨rfl, hxi⟩ := hy
    rw [List.getElem?_map] at hxi
    obtain ⟨r, hri, rfl⟩ := Option.map_eq_some_iff.mp hxi
    obtain ⟨rn, hrn, hra⟩ := paired_get hrs3 hri
    obtain ⟨dxr, pr, tr, tsr, kvr, q1, q2⟩ := hra
    refine ⟨rfl, _, rfl, r, CR, dxr, _, _, rfl, e5 _ _ q1, ve.B.clR, ve.B.rN, rfl, ?_⟩
    exact hsm (rn.num : Int) (by rw [hrn]; rfl) _ _ (Ex.refl _) rfl
  rw [List.length_map, lrs, range_fm, map_fm] at hps
  rw [rint_map hps] at hx4
  have a4 := a3.ex e4
  refine ⟨_, rfl, q, _, _, _, rfl, rfl, e4 _ _ hq3, rfl, qa, rfl, ⟨_, SqT.of (e4 _ _ hqa3)⟩, fun D2 hD2 => ?_⟩
  refine lcG walk_tup RInt (fun j => (nums cb'.runs)[j]?.bind fun n => if decide (n ∉ (nums vt.runs).mergeSort fun a b => decide (a ≤ b)) = true then some n else none) RInt.stab hD2 (by omega) (fun H5 e5 => SqT.of (e5 _ _ (e4 _ _ hqa3))) (fun i H5 x H6 _ _ h => yat_ex h) (fun j y H5 H6 R0 N0 hj e5 hy hno hsm => ?_) (fun H5 xs5 e5 hx5 hps5 => ?_)
  · obtain ⟨rfl, hxi⟩ := hy
    rw [List.getElem?_map] at hxi
    obtain ⟨n, hn, rfl⟩ := Option.map_eq_some_iff.mp hxi
    refine ⟨rfl, _, rfl, _, rfl, kn, _, rfl, .inr (SqT.of (e5 _ _ (e4 _ _ hkn3))), rfl, flat_ints _, _, rfl, ?_⟩
    rw [if_pos rfl, inV_int]
    by_cases cc : n ∈ (nums vt.runs).mergeSort fun a b => decide (a ≤ b)
    · exact ifF (by simp [cc]) (hno (by rw [hn]; show (if decide (n ∉ _) = true then some n else none) = none; simp [cc]) _ (Ex.refl _))
    · refine ifT (by simp [cc]) ⟨_, rfl, ?_⟩
      exact hsm n (by rw [hn]; show (if decide (n ∉ _) = true then some n else none) = some n; simp [cc]) _ _ (Ex.refl _) rfl
  rw [lnm, ← ln2, range_fm, filt_fm] at hps5
  rw [rint_map hps5] at hx5
  have a5 := a4.ex e5
  have hq5 := e5 _ _ (e4 _ _ hq3)
  have hqa5 := e5 _ _ (e4 _ _ hqa3)
  have hqb5 := e5 _ _ (e4 _ _ hqb3)
  have hrs5 := paired_mono (fun _ _ h => h.ex (ExtN.of (e4.trans e5))) hrs3
  have hx45 := e5 _ _ hx4
  refine ⟨_, _, .lst (SqL.of hx45) (dp_intsL _), .lst (SqL.of hx5) (dp_intsL _), sh_intsL _, sh_intsL _, _, rfl, ?_⟩
  have eqf : (cb'.runs.filter fun r => decide ((r.num : Int) ∉ (nums vt.runs).mergeSort fun a b => decide (a ≤ b))).map (fun r => (r.num : Int)) = (nums cb'.runs).filter fun n => decide (n ∉ (nums vt.runs).mergeSort fun a b => decide (a ≤ b)) := by
    unfold nums
    rw [List.filter_map]
    rfl
  rw [eqv_intsL]
  refine ifF (by rw [decide_eq_true eqf]; simp) ?_
  refine ⟨_, rfl, q, _, _, _, rfl, rfl, hq5, rfl, qa, _, rfl, .inr (SqT.of hqa5), fun l4 hl4 => ?_⟩
  have e6 : KS.Ex H5 (upd H5 l4 (.lst ((nums cb'.runs).map V.int))) := Ex.upd hl4
  have hl46 : (upd H5 l4 (.lst ((nums cb'.runs).map V.int))) l4 = some (.lst ((nums cb'.runs).map V.int)) := upd_same
  generalize upd H5 l4 (.lst ((nums cb'.runs).map V.int)) = H6 at e6 hl46
  refine ⟨_, rfl, q, _, _, _, rfl, rfl, e6 _ _ hq5, rfl, qa, nums cb'.runs, rfl, SqT.of (e6 _ _ hqa5), fun ns' p1 pm so hp1 => ?_⟩
  have e7 : KS.Ex H6 (upd H6 p1 (.lst (ns'.map V.int))) := Ex.upd hp1
  have h7 : (upd H6 p1 (.lst (ns'.map V.int))) p1 = some (.lst (ns'.map V.int)) := upd_same
  generalize upd H6 p1 (.lst (ns'.map V.int)) = H7 at e7 h7
  refine ⟨p1, _, rfl, SqL.of h7, fun p2 hp2 => ?_⟩
  rw [← List.map_reverse, asc_rev (nums_desc l2.ok) pm so]
  have e8 : KS.Ex H7 (upd H7 p2 (.lst ((nums cb'.runs).map V.int))) := Ex.upd hp2
  have h8 : (upd H7 p2 (.lst ((nums cb'.runs).map V.int))) p2 = some (.lst ((nums cb'.runs).map V.int)) := upd_same
  generalize upd H7 p2 (.lst ((nums cb'.runs).map V.int)) = H8 at e8 h8
  have e58 : KS.Ex H5 H8 := (e6.trans e7).trans e8
  refine ⟨_, _, .lst (SqL.of (e8 _ _ (e7 _ _ hl46))) (dp_intsL _), .lst (SqL.of h8) (dp_intsL _), sh_intsL _, sh_intsL _, _, rfl, ?_⟩
  rw [eqv_intsL]
  refine ifF (by simp) ?_
  refine ⟨_, rfl, q, _, _, _, rfl, rfl, e58 _ _ hq5, rfl, qa, _, rfl, .inr (SqT.of (e58 _ _ hqa5)), _, _, rfl, rfl, _, rfl, ?_⟩
  rw [lnm]
  refine ifF (by simp; omega) ?_
  have a8 := a5.ex e58
  have hq8 := e58 _ _ hq5
  have hqa8 := e58 _ _ hqa5
  have hqb8 := e58 _ _ hqb5
  have hrs8 := paired_mono (fun _ _ h => h.ex (ExtN.of e58)) hrs5
  have etr : (cb'.runs.filter fun r => decide ((r.num : Int) ∉ (nums vt.runs).mergeSort fun a b => decide (a ≤ b))) = cb'.runs.filter fun r => !Q18.hasN vt.runs r.num := by
    refine List.filter_congr fun r hr => ?_
    rw [Bool.eq_iff_iff, decide_eq_true_eq, List.mem_mergeSort, mem_nums]
    simp
  have hrs8 : Paired (RunAt CR m' H8) rs (cb'.runs.filter fun r => !Q18.hasN vt.runs r.num) := by rw [← etr]; exact hrs8
  have hqa8 : H8 qa = some (.tup ((natI (cb'.runs.map (·.num))).map V.int)) := by rw [← nums_nat]; exact hqa8
  have nd8 : ((cb'.runs.filter fun r => !Q18.hasN vt.runs r.num).map (·.num)).Nodup := by
    refine List.Nodup.sublist (List.filter_sublist.map _) ?_
    rw [List.nodup_iff_pairwise_ne, List.pairwise_map]
    exact l2.ok.ds.imp fun h z => by omega
  have ltr : (cb'.runs.filter fun r => !Q18.hasN vt.runs r.num).length ≤ 1000 := Nat.le_trans (List.length_filter_le _ _) (by omega)
  have lt1 : vt.tells.length ≤ 100 := by
    have := l.ll
    rw [l.te, List.length_map]; omega
  obtain ⟨dx8, vr8, vs8, ev8⟩ := a8.xv.ins
  have good : Q18.badK vt (nameOf cnt) (cb'.runs.map (·.num)) (cb'.runs.filter fun r => !Q18.hasN vt.runs r.num) = false := Q18.keep_good l2.ok _ rfl fun ns h => by
    rw [l.te] at h
    obtain ⟨e, he, z⟩ := List.mem_map.mp h
    exact fresh_name l hc e he (congrArg Prod.fst z)
  refine ⟨_, rfl, v, dx8, _, rfl, ev8, vF_m (by decide +kernel) (by decide +kernel) (by decide +kernel), _, rfl, _, rfl, keep_step a8.xv hq8 hqa8 hqb8 hrs8 nd8 hlen (by have := l.lr; rw [List.length_map]; omega) ltr (by omega) a8.tabs (fun z => by rw [good] at z; cases z) fun _ H9 af9 => ?_⟩
  have a9' := a8.aftV af9
  have l9 := lp_keep l2 hc em _ rfl
  have kt9 := af9.kp.tup a8.xv.w.1
  have hq9 := kt9 _ _ hq8
  have hqa9 := kt9 _ _ hqa8
  have hqb9 := kt9 _ _ hqb8
  have hrs9 : Paired (RunAt CR m' H9) rs (cb'.runs.filter fun r => !Q18.hasN vt.runs r.num) := paired_mono (fun _ _ h => h.kp af9.kp a8.xv.w.1 a8.xv.w.2.1 fun b z ks hb => absurd hb (a8.xv.w.2.2.1 b z ks)) hrs8
  generalize hvt : Q18.keepV vt (nameOf cnt) (cb'.runs.map (·.num)) (cb'.runs.filter fun r => !Q18.hasN vt.runs r.num) = vt9 at a9' l9
  have any9 : (vt9.tells.any fun p => decide (p.1 = nameOf cnt)) = true := (tellOf_at l9 (e := ⟨nameOf cnt, own, cb'.runs⟩) (List.mem_append.mpr (.inr (List.mem_singleton.mpr rfl)))).2
  have nn9 := kS_nodup l9.nn
  obtain ⟨ks, hks, hkd⟩ := id a9'.ht
  obtain ⟨ms, hms, hmd⟩ := id a9'.hn
  have lL : L.length ≤ cnt := l.ll
  have lks : ks.length = L.length := paired_len hkd
  have lms : ms.length = L.length := by
    have := paired_len hmd
    unfold numL at this
    rw [List.length_map] at this
    exact this
  have km : ms.map (·.1) = L.map fun e => kS e.nm := by
    rw [tells_keys hmd]
    unfold numL
    rw [List.map_map]; rfl
  rw [List.map_append] at nn9
  dsimp only [tSeq, tAsg]
  show tCons (tCB (rDictP K) (tCons (tOp rCat (LiI.tListItems (tVar 5)) (tLst (tCons (tTup (tCons (tVar 14) (tCons (tVar 4) tNil))) tNil))) tNil)) _ _ H9 _
  dsimp only [tCons]
  refine items_add (k := kS (nameOf cnt)) (v := .ref o) rfl (fun _ _ _ q => ⟨_, rfl, q⟩) (fun _ _ _ q => ⟨_, rfl, q⟩) hks (by rw [List.map_append, told_keys hkd]; exact nn9) (by omega) fun H10 q1 e10 hn1 h1 => ?_
  refine items_add (k := kS (nameOf cnt)) (v := .ref qa) rfl (fun _ _ _ q => ⟨_, rfl, q⟩) (fun _ _ e q2 => ⟨_, rfl, q, _, _, _, rfl, rfl, e _ _ (e10 _ _ hq9), rfl, q2⟩) (e10 _ _ hms) (by rw [List.map_append, km]; exact nn9) (by omega) fun H11 q2 e11 hn2 h2 => ⟨(by show 2 ≤ sizeLine; decide), fun z2 hz2 => ⟨z2, _, rfl, SqT.of upd_same, rfl, _, _, rfl, _, _, rfl, rfl, ?_⟩⟩
  have e12 : KS.Ex H11 (upd H11 z2 (.tup [.ref q1, .ref q2])) := Ex.upd hz2
  generalize upd H11 z2 (.tup [.ref q1, .ref q2]) = H12 at e12
  have e912 := (e10.trans e11).trans e12
  have b12 := a9'.ex e912
  have bk := a9'.xv.back fun C dx fs h => e912 _ _ h
  have a12 : Lh CR CC CV Pa Pl Pk d p c m' v o q1 q2 cb' vt9 own (L ++ [⟨nameOf cnt, own, cb'.runs⟩]) H12 := by
    refine b12.told' ⟨ks ++ [(kS (nameOf cnt), .ref o)], e12 _ _ (e11 _ _ h1), ?_⟩ ⟨ms ++ [(kS (nameOf cnt), .ref qa)], e12 _ _ h2, ?_⟩ (fun z => a9'.new (NewN.of hn1) (wV_same bk z)) (fun z => a9'.new (NewN.of (none_of e10 hn2)) (wV_same bk z))
    · exact paired_app (paired_mono (fun _ _ ⟨y1, y, y2, y3⟩ => ⟨y1, y, y2, y3.kt (fun kv h => e912 _ _ h) (Ex.tup e912)⟩) hkd) (.cons ⟨rfl, o, rfl, b12.ho⟩ .nil)
    · unfold numL TellsD
      rw [List.map_append]
      exact paired_app (paired_mono (fun _ _ ⟨y1, y, y2, y3⟩ => ⟨y1, y, y2, e912 _ _ y3⟩) hmd) (.cons ⟨rfl, qa, rfl, e912 _ _ hqa9⟩ .nil)
  refine ⟨a12.tabs, fun H13 e13 t13 => ?_⟩
  have a13 := a12.lam e13 t13
  obtain ⟨dx13, vr13, vs13, ev13⟩ := a13.xv.ins
  have tp : ∀ {b : Addr} {xs : List V}, H9 b = some (.tup xs) → H13 b = some (.tup xs) := fun h => e13 _ _ (e912 _ _ h) (fun _ z => nomatch z)
  have bad : Q18.badK vt9 (nameOf cnt) (cb'.runs.map (·.num)) (cb'.runs.filter fun r => !Q18.hasN vt.runs r.num) = true := by
    unfold Q18.badK
    rw [any9]; rfl
  have lt9 : vt9.tells.length ≤ 1000 := by
    rw [l9.te, List.length_map, List.length_append, List.length_singleton]; omega
  refine ⟨_, rfl, v, dx13, _, rfl, ev13, vF_m (by decide +kernel) (by decide +kernel) (by decide +kernel), _, rfl, _, rfl, keep_step a13.xv (tp hq9) (tp hqa9) (tp hqb9) (paired_mono (fun _ _ h => (h.ex (ExtN.of e912)).ex e13) hrs9) nd8 hlen (by have := l9.lr; rw [List.length_map]; omega) ltr (by omega) t13 (fun _ H14 e14 t14 => ⟨true, ve.J.e, fun _ => ?_, fun z => nomatch z⟩) (fun z => by rw [bad] at z; cases z)⟩
  refine ⟨rfl, _, rfl, ifF (by decide) ?_⟩
  refine fin _ H14 m' q1 q2 cb' vt9 _ ?_ (a13.lam e14 t14) l9
  exact ⟨_, _, _, _, _, _, _, _, _, _, _, _, _, _, _, rfl⟩
end
end K18
set_option Elab.async false
set_option linter.all false
set_option maxRecDepth 100000
set_option maxHeartbeats 4000000
namespace K18
open PySem PySem.Spec PyProof.Rows PySem.Calls L2 KB KC KD KS KM LamX R8 CP K7 TK
theorem u66 {k : Nat} {A : Around} (r : Room k A) : A.units + 66 < cLine := by have := r.un; omega
theorem lockK {H H3 : Hp} {m : Addr} {od : Obj} {ks : List (Key × V)} (he : H m = some (.dK ks)) (e3 : KS.Ex (upd H m (.frz od (.dK ks))) H3) : KS.Ex H (upd H3 m (.dK ks)) := fun b o h => by
  by_cases z : b = m
  · subst z
    rw [he] at h
    rw [upd_same]; exact h
  · rw [L2.upd_ne z]
    refine e3 _ _ ?_
    rw [L2.upd_ne z]; exact h
def RKp : Hp → V → Key × V → Prop := fun H v p => ∃ t, v = .ref t ∧ H t = some (.tup [kV p.1, p.2])
theorem RKp.stab : ∀ H H' v a, KT' H H' → RKp H v a → RKp H' v a := fun H H' v a kt ⟨t, e, h⟩ => ⟨t, e, kt _ _ h⟩
theorem rkp_ps {K : PySem.W.Frag} {H : Hp} : ∀ {xs : List V} {ks : List (Key × V)}, Paired (RKp H) xs ks → ∃ ps : List Addr, xs = ps.map V.ref ∧ Paired (fun p kv => SqT K H p [kV kv.1, kv.2]) ps ks
  | _, _, .nil => ⟨[], rfl, .nil⟩
  | _, _, .cons ⟨t, e, h⟩ r => by
    obtain ⟨ps, rfl, h2⟩ := rkp_ps (K := K) r
    exact ⟨t :: ps, by rw [e]; rfl, .cons (SqT.of h) h2⟩
theorem wipe1 (σ : L2.St) (j : Nat) (x : Option V) : wipe ((wipe σ [j]).set j x) [j] = wipe σ [j] := by
  show ((wipe σ [j]).set j x).set j none = wipe σ [j]
  unfold wipe
  rw [List.set_set, List.set_set]
theorem wipe_ne {σ : L2.St} {i j : Nat} {x : Option V} (h : i ≠ j) : ((wipe σ [j]).set j x)[i]? = σ[i]? := by
  rw [List.getElem?_set_ne h.symm]
  exact wipe_out (by simpa using h)
theorem wipe_eq {σ : L2.St} {j : Nat} {x : Option V} (h : j < σ.length) : ((wipe σ [j]).set j x)[j]? = some x := by
  rw [List.getElem?_set_self]
  rw [wipe_length]; exact h
theorem items_drop {K : PySem.W.Frag} {i : Nat} {σ : L2.St} {H : Hp} {Q : VK} {l : Addr} {ks : List (Key × V)} {n : Str} (hi : σ[i]? = some (some (.ref l))) (hn : σ[14]? = some (some (.str n))) (ne : i ≠ 18) (hs : σ.length = 23)
    (hl : H l = some (.dK ks)) (str : ∀ p ∈ ks, ∃ x, p.1 = kS x) (nd : (ks.map (·.1)).Nodup) (h9 : ks.length ≤ 1000) (fin : ∀ H' q, KS.Ex H H' → H q = none → H' q = some (.dK (ks.filter fun p => decide (p.1 ≠ kS n))) → Q (.ref q) H') :
    tCB (rDictP K) (tCons (tLockE (tLc (iKeys (tVar i)) (gName 18) (tTest (tOp rNe (tVar 18) (tVar 14))) (tTup (tCons (tVar 18) (tCons (tDGet (tVar i) (tVar 18)) tNil))) [18])) tNil) σ H Q := by
  have hsl : sizeLine = 16777216 := rfl
  refine ⟨l, _, hl, trivial, fun od => ⟨_, hi, l, od, rfl, .inl ⟨_, upd_same, fun D1 hD1 => ?_⟩⟩⟩
  refine lcG walk_keys RKp (fun j => ks[j]?.bind fun e => if decide (e.1 ≠ kS n) = true then some e else none) RKp.stab hD1 (by omega) (fun H5 e5 => e5 _ _ upd_same) (fun i H5 x H6 _ _ h => by rw [h.1]; exact Ex.refl _) (fun j v H5 H6 R0 N0 hj e5 hy hno hsm => ?_) (fun H5 xs e5 hx5 hps => ?_)
  · obtain ⟨rfl, k, v', hk, rfl⟩ := hy
    obtain ⟨x, hx⟩ := str _ (List.mem_of_getElem? hk)
    have hx : k = kS x := hx
    subst hx
    have hg : DGet H6 l (.str x) (some v') := by
      refine .inl ⟨_, kS x, .inr ⟨_, e5 _ _ upd_same⟩, rfl, ?_⟩
      exact (valV_mem nd (List.mem_of_getElem? hk)).symm
    refine ⟨wipe1 σ 18 _, _, wipe_eq (by omega), _, (wipe_ne (by decide)).trans hn, rfl, _, rfl, ?_⟩
    have ed : decide (kV (kS x) = V.str n) = decide (kS x = kS n) := by
      show decide (V.str x = V.str n) = _
      rw [decide_eq_decide]
      exact ⟨fun z => by injection z with z; rw [z], fun z => by rw [Sum.inr.inj z]⟩
    rw [ed]
    by_cases c : kS x = kS n
    · exact ifF (by simp [c]) (hno (by rw [hk]; show (if decide (kS x ≠ kS n) = true then some (kS x, v') else none) = _; simp [c]) _ (Ex.refl _))
    · refine ifT (by rw [decide_eq_false c]; rfl) ⟨_, wipe_eq (by omega), _, (wipe_ne ne).trans hi, _, wipe_eq (by omega), l, _, rfl, hg, (by show 2 ≤ sizeLine; decide), fun q hq => ?_⟩
      exact hsm (kS x, v') (by rw [hk]; show (if decide (kS x ≠ kS n) = true then some (kS x, v') else none) = _; rw [decide_eq_true (show kS x ≠ kS n from c)]; rfl) _ _ (Ex.upd hq) ⟨q, rfl, upd_same⟩
  · rw [range_fm, filt_fm] at hps
    refine ⟨e5 _ _ upd_same, ?_⟩
    have nD : D1 ≠ l := fun z => by rw [z, upd_same] at hD1; cases hD1
    have u6 := lockK hl e5
    have hx6 : (upd H5 l (.dK ks)) D1 = some (.lst xs) := by rw [L2.upd_ne nD]; exact hx5
    have hp6 : Paired (RKp (upd H5 l (.dK ks))) xs (ks.filter fun p => decide (p.1 ≠ kS n)) := paired_mono (fun v b h => RKp.stab _ _ _ _ (fun c ys h => by
      rw [L2.upd_ne (fun z => by rw [z, e5 _ _ upd_same] at h; cases h)]
      exact h) h) hps
    obtain ⟨ps, rfl, pp⟩ := rkp_ps (K := K) hp6
    refine ⟨D1, ps, _, rfl, SqL.of hx6, pp, fun l4 hl4 => ?_⟩
    have em : mergeK [] (ks.filter fun p => decide (p.1 ≠ kS n)) = ks.filter fun p => decide (p.1 ≠ kS n) := merge_self _ [] (by rw [List.nil_append]; exact nd.sublist (List.filter_sublist.map _))
    rw [em]
    exact fin _ _ (u6.trans (Ex.upd hl4)) (none_of u6 hl4) upd_same
section
variable {P : Program} {w : World} {K : PySem.W.Frag} {mg : Str → Option Value} {base : Heap} {CR CC CV CE Pa Pl Pk cL fTo fL : Addr} {fdTo : FuncData} {A : Around} {outer : List PySem.Env} {s : Shared} {H0 : Hp} {E0' : XK}
theorem told_kvs {m : Addr} {H : Hp} {ks : List (Key × V)} {L : List En} (h : ToldD m H ks L) : ks.map (fun kv => kV kv.1) = (L.map (·.nm)).map V.str := by
  unfold ToldD at h
  induction h with
  | nil => rfl
  | cons h t ih => rw [List.map_cons, List.map_cons, List.map_cons, ih, h.1]; rfl
theorem pick_step {σ : L2.St} {H : Hp} {Q : VK} {d p c m v o td nd : Addr} {cb : Cb} {vt : Vt} {own : Tb} {L : List En} (hd : σ[1]? = some (some (.ref d))) (ht : σ[5]? = some (some (.ref td))) (a : Lh CR CC CV Pa Pl Pk d p c m v o td nd cb vt own L H) (ne : L ≠ []) (l9 : L.length ≤ 100)
    (fin : ∀ H' e, e ∈ L → Lh CR CC CV Pa Pl Pk d p c m v o td nd cb vt own L H' → Q (.str e.nm) H') :
    tOp rIxD (tCB rSortDS (tCons (tVar 5) tNil)) (tCall spRoll [] E0 (tCons (tVar 1) (tCons (tCB (fun xs H Q => ∃ a kvs, xs = [V.ref a] ∧ H a = some (.dK kvs) ∧ Q (.int kvs.length) H) (tCons (tVar 5) tNil)) tNil))) σ H Q := by
  obtain ⟨ks, hks, hkd⟩ := id a.ht
  have lk : ks.length = L.length := paired_len hkd
  have l1 : 0 < L.length := List.length_pos_iff.mpr ne
  refine ⟨_, ht, td, ks, L.map (·.nm), rfl, hks, told_kvs hkd, fun D hD => ?_⟩
  have e1 : KS.Ex H (upd H D (.lst (((L.map (·.nm)).mergeSort fun a b => decide (a.cps.toList ≤ b.cps.toList)).map V.str))) := Ex.upd hD
  have h1 : (upd H D (.lst (((L.map (·.nm)).mergeSort fun a b => decide (a.cps.toList ≤ b.cps.toList)).map V.str))) D = some (.lst (((L.map (·.nm)).mergeSort fun a b => decide (a.cps.toList ≤ b.cps.toList)).map V.str)) := upd_same
  have nD := ne_new a.dice hD
  generalize upd H D (.lst (((L.map (·.nm)).mergeSort fun a b => decide (a.cps.toList ≤ b.cps.toList)).map V.str)) = H1 at e1 h1
  have a1 := a.ex e1
  refine ⟨_, hd, _, ht, td, ks, rfl, e1 _ _ hks, roll_step a1.dice (by omega) (by omega) fun r H2 r0 r1 e2 i2 => ?_⟩
  have a2 := a1.roll e2 i2
  have h2 := e2 _ _ nD h1
  have lS : ((L.map (·.nm)).mergeSort fun a b => decide (a.cps.toList ≤ b.cps.toList)).length = L.length := by rw [List.length_mergeSort, List.length_map]
  have hb : r.toNat < ((L.map (·.nm)).mergeSort fun a b => decide (a.cps.toList ≤ b.cps.toList)).length := by omega
  have hm := List.mem_mergeSort.mp (List.getElem_mem hb)
  obtain ⟨e, he, hen⟩ := List.mem_map.mp hm
  refine ⟨D, _, r, .str e.nm, rfl, rfl, h2, ?_, fin H2 e he a2⟩
  have hget : (((L.map (·.nm)).mergeSort fun a b => decide (a.cps.toList ≤ b.cps.toList)).map V.str)[r.toNat]? = some (.str e.nm) := by
    rw [List.getElem?_map, List.getElem?_eq_getElem hb, hen]; rfl
  unfold atI ixN
  rw [if_pos r0, if_pos (by rw [List.length_map]; omega)]
  exact hget
end
end K18
set_option Elab.async false
set_option linter.all false
set_option maxRecDepth 100000
set_option maxHeartbeats 4000000
namespace K18
open PySem PySem.Spec PyProof.Rows PySem.Calls L2 KB KC KD KS KM LamX R8 CP K7 TK
theorem told_drop {m : Addr} {H : Hp} {n : Str} {ks : List (Key × V)} {L : List En} (h : ToldD m H ks L) : ToldD m H (ks.filter fun p => decide (p.1 ≠ kS n)) (L.filter fun e => decide (e.nm ≠ n)) := by
  unfold ToldD at h ⊢
  induction h with
  | nil => exact .nil
  | @cons p e ks L h t ih =>
    rw [List.filter_cons, List.filter_cons]
    have : decide (p.1 ≠ kS n) = decide (e.nm ≠ n) := by
      rw [h.1, decide_eq_decide]
      exact ⟨fun z y => z (by rw [y]), fun z y => z (Sum.inr.inj y)⟩
    rw [this]
    by_cases c : e.nm ≠ n
    · rw [if_pos (decide_eq_true c), if_pos (decide_eq_true c)]
      exact .cons h ih
    · rw [if_neg (by simpa using c), if_neg (by simpa using c)]
      exact ih
theorem tells_drop' {H : Hp} {n : Str} {ks : List (Key × V)} {ts : List (Str × List Nat)} (h : TellsD H ks ts) : TellsD H (ks.filter fun p => decide (p.1 ≠ kS n)) (ts.filter fun p => decide (p.1 ≠ n)) := by
  unfold TellsD at h ⊢
  induction h with
  | nil => exact .nil
  | @cons p e ks L h t ih =>
    rw [List.filter_cons, List.filter_cons]
    have : decide (p.1 ≠ kS n) = decide (e.1 ≠ n) := by
      rw [h.1, decide_eq_decide]
      exact ⟨fun z y => z (by rw [y]), fun z y => z (Sum.inr.inj y)⟩
    rw [this]
    by_cases c : e.1 ≠ n
    · rw [if_pos (decide_eq_true c), if_pos (decide_eq_true c)]
      exact .cons h ih
    · rw [if_neg (by simpa using c), if_neg (by simpa using c)]
      exact ih
theorem paired_get' {α β : Type} {F : α → β → Prop} : ∀ {xs : List α} {ys : List β}, Paired F xs ys → ∀ {i : Nat} {y : β}, ys[i]? = some y → ∃ x, xs[i]? = some x ∧ F x y
  | _, _, .nil, i, x, h => by cases h
  | _, _, .cons r t, 0, x, h => by
    have e := Option.some.inj h
    subst e
    exact ⟨_, rfl, r⟩
  | _, _, .cons r t, i + 1, x, h => paired_get' t h
section
variable {P : Program} {w : World} {K : PySem.W.Frag} {mg : Str → Option Value} {base : Heap} {CR CC CV CE Pa Pl Pk cL fTo fL : Addr} {fdTo : FuncData} {A : Around} {outer : List PySem.Env} {s : Shared} {H0 : Hp} {E0' : XK}
theorem b_forget (ve : LawE P w K mg base CR CC CV CE Pa Pl Pk cL fTo fdTo) (hr : Room 16 (xLaw P w K mg base fL cL A outer s H0 E0').A) :
    ∃ ts, PSs (xLaw P w K mg base fL cL A outer s H0 E0') (thenOf (elseOf (elseOf (elseOf (mBody.getD 1 pS))))) ts ∧ ∀ (D : Ends) (σ : L2.St) (H : Hp) (d p c m v o td nd : Addr) (cnt : Nat) (i : Int) (cb : Cb) (vt : Vt) (own : Tb) (L : List En), Sl d c v o td nd cnt i σ → Lh CR CC CV Pa Pl Pk d p c m v o td nd cb vt own L H → Lp cb vt own L cnt → cnt < 99 → L ≠ [] →
      (∀ (σ' : L2.St) (H' : Hp) (td' nd' : Addr) (vt' : Vt) (L' : List En), Sl d c v o td' nd' cnt i σ' → Lh CR CC CV Pa Pl Pk d p c m v o td' nd' cb vt' own L' H' → Lp cb vt' own L' cnt → D.nx σ' H') → ts D σ H := by
  have hu := hr.units
  have hu1 := Nat.lt_trans (Nat.add_lt_add_left (by decide : 1 < 64) _) hu
  obtain ⟨fR, fdR, GR, gR, kR, bR⟩ := ve.roll
  obtain ⟨fF, fdF, GF, mF, bF⟩ := ve.forget
  refine ⟨_, pss_cons (ps_set (i := 14) scLaw.nd rfl (Or.inr rfl) (pe_ix ix_listD (pe_callB (CP.cr_sortDS rfl (u66 hr)) (by rfl) ve.T.sorted (by decide +kernel) (pa_cons (pv 5) pa_nil)) (pe_call GR (hr.mono (by decide)) (by rfl) gR kR bR .nil pass0 (pa_cons (pv 1) (pa_cons (pe_callB call_lenD (by rfl) ve.T.len PySem.boot_len (pa_cons (pv 5) pa_nil)) pa_nil))) (fun _ _ => rfl)))
    (pss_cons (ps_expr (pe_meth (pv 3) ve.B.clV mF GF (hr.mono (by decide)) bF (E := fun _ _ _ => False) .nil (passes_call L2.takes0 (fun _ _ _ _ h => h)) (pa_cons (pv 14) pa_nil)))
    (pss_one (ps_asg (pe_tup (pa_cons (pe_callTy (call_dictP rfl) (by rfl) ve.T.dict (by decide +kernel) (pa_cons (pe_lock (pe_lc (own := [("one", 18)]) (g := gName 18) (tt := tTest (tOp rNe (tVar 18) (tVar 14))) (te := tTup (tCons (tVar 18) (tCons (tDGet (tVar 5) (tVar 18)) tNil))) rfl scLaw.nd (pi_keys (pv 5)) (blkOk_by (N := nLaw) (sc := defScope sLaw) (by decide +kernel))
          (fun _ _ _ _ _ => pg_name (i := 18) scLaw.nd rfl (Or.inl rfl)) (fun _ _ _ _ _ => pts_one (pt_cmpR op_ne (pv 18) (pv 14) (nomark _))) (fun _ _ _ _ _ => pe_tup (pa_cons (pv 18) (pa_cons (pe_dget hu1 (pv 5) (pv 18) (fun _ _ => rfl)) pa_nil))))) pa_nil))
        (pa_cons (pe_callTy (call_dictP rfl) (by rfl) ve.T.dict (by decide +kernel) (pa_cons (pe_lock (pe_lc (own := [("one", 18)]) (g := gName 18) (tt := tTest (tOp rNe (tVar 18) (tVar 14))) (te := tTup (tCons (tVar 18) (tCons (tDGet (tVar 6) (tVar 18)) tNil))) rfl scLaw.nd (pi_keys (pv 6)) (blkOk_by (N := nLaw) (sc := defScope sLaw) (by decide +kernel))
          (fun _ _ _ _ _ => pg_name (i := 18) scLaw.nd rfl (Or.inl rfl)) (fun _ _ _ _ _ => pts_one (pt_cmpR op_ne (pv 18) (pv 14) (nomark _))) (fun _ _ _ _ _ => pe_tup (pa_cons (pv 18) (pa_cons (pe_dget hu1 (pv 6) (pv 18) (fun _ _ => rfl)) pa_nil))))) pa_nil)) pa_nil)))
        (pg_tup rfl (pgs_cons (pg_name (i := 5) scLaw.nd rfl (Or.inr rfl)) (pgs_cons (pg_name (i := 6) scLaw.nd rfl (Or.inr rfl)) pgs_nil)))))), ?_⟩
  rintro D σ H d p c m v o td nd cnt i cb vt own L ⟨a0, a9, a10, a11, a12, a13, a14, a15, a16, a17, a18, a19, a20, a21, a22, rfl⟩ a l hc ne fin
  have hsl : sizeLine = 16777216 := rfl
  have lL : L.length ≤ cnt := l.ll
  dsimp only [tSeq, tAsg]
  refine pick_step rfl rfl a ne (by omega) fun H1 e he a1 => ?_
  have hl9 : e.nm.length ≤ 900 := by
    obtain ⟨j, hj, ej⟩ := l.nm e he
    rw [ej]
    exact len_name j (by omega)
  obtain ⟨dx, vr, vs, ev⟩ := a1.xv.ins
  have te1 : ∀ e ∈ vt.tells, e.2.length ≤ 1000 := fun x hx => by
    rw [l.te] at hx
    obtain ⟨y, hy, rfl⟩ := List.mem_map.mp hx
    show (y.runs.map (·.num)).length ≤ 1000
    have := (l.en y hy).l6
    rw [List.length_map]; omega
  refine ⟨_, rfl, v, dx, _, rfl, ev, vF_m (by decide +kernel) (by decide +kernel) (by decide +kernel), _, rfl, forget_step a1.xv hl9 (by rw [l.te, List.length_map]; omega) te1 (by have := l.lr; omega) l.un a1.tabs (fun z => by rw [(tellOf_at l he).2] at z; cases z) fun _ H2 af => ?_⟩
  have a2 := a1.aftV af
  have l2 := lp_forget l e.nm
  obtain ⟨ks, hks, hkd⟩ := id a2.ht
  obtain ⟨ms, hms, hmd⟩ := id a2.hn
  have lks : ks.length = L.length := paired_len hkd
  have lms : ms.length = L.length := by
    have := paired_len hmd
    unfold numL at this
    rw [List.length_map] at this
    exact this
  have km : ms.map (·.1) = L.map fun e => kS e.nm := by
    rw [tells_keys hmd]
    unfold numL
    rw [List.map_map]; rfl
  have sk : ∀ {ks : List (Key × V)}, ks.map (·.1) = L.map (fun e => kS e.nm) → ∀ p ∈ ks, ∃ x, p.1 = kS x := fun {ks} h p hp => by
    have : p.1 ∈ ks.map (·.1) := List.mem_map.mpr ⟨p, hp, rfl⟩
    rw [h] at this
    obtain ⟨e, _, he⟩ := List.mem_map.mp this
    exact ⟨e.nm, he.symm⟩
  have nnk := kS_nodup l.nn
  dsimp only [tSeq, tAsg]
  show tCons (tCB (rDictP K) (tCons (tLockE (tLc (iKeys (tVar 5)) (gName 18) (tTest (tOp rNe (tVar 18) (tVar 14))) (tTup (tCons (tVar 18) (tCons (tDGet (tVar 5) (tVar 18)) tNil))) [18])) tNil)) _ _ H2 _
  dsimp only [tCons]
  refine items_drop rfl rfl (by decide) rfl hks (sk (told_keys hkd)) (by rw [told_keys hkd]; exact nnk) (by omega) fun H3 q1 e3 hn1 h1 => ?_
  refine items_drop rfl rfl (by decide) rfl (e3 _ _ hms) (sk km) (by rw [km]; exact nnk) (by omega) fun H4 q2 e4 hn2 h2 => ⟨(by show 2 ≤ sizeLine; decide), fun z2 hz2 => ⟨z2, _, rfl, SqT.of upd_same, rfl, _, _, rfl, _, _, rfl, rfl, ?_⟩⟩
  have e5 : KS.Ex H4 (upd H4 z2 (.tup [.ref q1, .ref q2])) := Ex.upd hz2
  generalize upd H4 z2 (.tup [.ref q1, .ref q2]) = H5 at e5
  have e25 := (e3.trans e4).trans e5
  have b5 := a2.ex e25
  have bk := a2.xv.back fun C dx fs h => e25 _ _ h
  have a5 : Lh CR CC CV Pa Pl Pk d p c m v o q1 q2 cb (Q18.forgetV vt e.nm) own (L.filter fun x => decide (x.nm ≠ e.nm)) H5 := by
    refine b5.told' ⟨_, e5 _ _ (e4 _ _ h1), told_drop (paired_mono (fun _ _ ⟨y1, y, y2, y3⟩ => ⟨y1, y, y2, y3.kt (fun kv h => e25 _ _ h) (Ex.tup e25)⟩) hkd)⟩ ⟨_, e5 _ _ h2, ?_⟩ (fun z => a2.new (NewN.of hn1) (wV_same bk z)) (fun z => a2.new (NewN.of (none_of e3 hn2)) (wV_same bk z))
    have : numL (L.filter fun x => decide (x.nm ≠ e.nm)) = (numL L).filter fun p => decide (p.1 ≠ e.nm) := by
      unfold numL
      rw [List.filter_map]
      rfl
    rw [this]
    exact tells_drop' (hmd.kt (Ex.tup e25))
  refine fin _ H5 q1 q2 _ _ ?_ a5 l2
  exact ⟨_, _, _, _, _, _, _, _, _, _, _, _, _, _, _, rfl⟩
theorem b_back (ve : LawE P w K mg base CR CC CV CE Pa Pl Pk cL fTo fdTo) (hr : Room 16 (xLaw P w K mg base fL cL A outer s H0 E0').A) :
    ∃ ts, PSs (xLaw P w K mg base fL cL A outer s H0 E0') (thenOf (elseOf (elseOf (elseOf (elseOf (mBody.getD 1 pS)))))) ts ∧ ∀ (D : Ends) (σ : L2.St) (H : Hp) (d p c m v o td nd : Addr) (cnt : Nat) (i : Int) (cb : Cb) (vt : Vt) (own : Tb) (L : List En), Sl d c v o td nd cnt i σ → Lh CR CC CV Pa Pl Pk d p c m v o td nd cb vt own L H → Lp cb vt own L cnt → cnt < 99 → L ≠ [] →
      (∀ (σ' : L2.St) (H' : Hp) (c' m' o' : Addr) (cb' : Cb) (own' : Tb), Sl d c' v o' td nd cnt i σ' → Lh CR CC CV Pa Pl Pk d p c' m' v o' td nd cb' vt own' L H' → Lp cb' vt own' L cnt → D.nx σ' H') → ts D σ H := by
  have hu := hr.units
  have hu1 := Nat.lt_trans (Nat.add_lt_add_left (by decide : 1 < 64) _) hu
  obtain ⟨fR, fdR, GR, gR, kR, bR⟩ := ve.roll
  obtain ⟨fF, fdF, GF, mF, bF⟩ := ve.restored
  refine ⟨_, pss_cons (ps_set (i := 14) scLaw.nd rfl (Or.inr rfl) (pe_ix ix_listD (pe_callB (CP.cr_sortDS rfl (u66 hr)) (by rfl) ve.T.sorted (by decide +kernel) (pa_cons (pv 5) pa_nil)) (pe_call GR (hr.mono (by decide)) (by rfl) gR kR bR .nil pass0 (pa_cons (pv 1) (pa_cons (pe_callB call_lenD (by rfl) ve.T.len PySem.boot_len (pa_cons (pv 5) pa_nil)) pa_nil))) (fun _ _ => rfl)))
    (pss_one (ps_asg (pe_tup (pa_cons (pe_meth (pv 3) ve.B.clV mF GF (hr.mono (by decide)) bF (E := fun _ _ _ => False) .nil (passes_call L2.takes0 (fun _ _ _ _ h => h)) (pa_cons (pv 14) pa_nil)) (pa_cons (pe_dget hu1 (pv 5) (pv 14) (fun _ _ => rfl)) pa_nil)))
        (pg_tup rfl (pgs_cons (pg_name (i := 2) scLaw.nd rfl (Or.inl rfl)) (pgs_cons (pg_name (i := 4) scLaw.nd rfl (Or.inr rfl)) pgs_nil))))), ?_⟩
  rintro D σ H d p c m v o td nd cnt i cb vt own L ⟨a0, a9, a10, a11, a12, a13, a14, a15, a16, a17, a18, a19, a20, a21, a22, rfl⟩ a l hc ne fin
  have lL : L.length ≤ cnt := l.ll
  dsimp only [tSeq, tAsg]
  refine pick_step rfl rfl a ne (by omega) fun H1 e he a1 => ?_
  have hl9 : e.nm.length ≤ 900 := by
    obtain ⟨j, hj, ej⟩ := l.nm e he
    rw [ej]
    exact len_name j (by omega)
  obtain ⟨dx, vr, vs, ev⟩ := a1.xv.ins
  obtain ⟨t1, t2⟩ := tellOf_at l he
  refine ⟨_, rfl, v, dx, _, rfl, ev, vF_m (by decide +kernel) (by decide +kernel) (by decide +kernel), _, rfl, restored_step a1.xv hl9 (by rw [t1, List.length_map]; have := (l.en e he).l6; omega) (fun z => by rw [t2] at z; cases z) fun _ => ⟨fun k hk => ?_, fun H2 c' m' e2 hc' hm' x' => ?_⟩⟩
  · rw [t1] at hk
    obtain ⟨r, hr', rfl⟩ := List.mem_map.mp hk
    exact Q18.hasN_iff.mpr ⟨r, (l.en e he).inr r hr', rfl⟩
  have a2 := a1.cab e2 hm' x'
  obtain ⟨ks, hks, hkd⟩ := id a2.ht
  obtain ⟨j, hj⟩ := List.mem_iff_getElem?.mp he
  obtain ⟨z, hz, hzt⟩ := paired_get' hkd hj
  obtain ⟨y1, x, y2, y3⟩ := hzt
  have hv : valV ks (kS e.nm) = some (.ref x) := by
    rw [← y1, ← y2]
    exact valV_mem (by rw [told_keys hkd]; exact kS_nodup l.nn) (List.mem_of_getElem? hz)
  refine ⟨_, rfl, _, rfl, td, _, rfl, hv ▸ DGet.k (k := kS e.nm) hks, (by show 2 ≤ sizeLine; decide), fun z2 hz2 => ⟨z2, _, rfl, SqT.of upd_same, rfl, _, _, rfl, _, _, rfl, rfl, ?_⟩⟩
  have e3 : KS.Ex H2 (upd H2 z2 (.tup [.ref c', .ref x])) := Ex.upd hz2
  have a3 := (a2.own' y3).ex e3
  refine fin _ _ c' m' x _ _ ?_ a3 (lp_back l he)
  exact ⟨_, _, _, _, _, _, _, _, _, _, _, _, _, _, _, rfl⟩
end
end K18
set_option Elab.async false
set_option linter.all false
set_option maxRecDepth 100000
set_option maxHeartbeats 4000000
namespace K18
open PySem PySem.Spec PyProof.Rows PySem.Calls L2 KB KC KD KS KM LamX R8 CP K7 TK
section
variable {P : Program} {w : World} {K : PySem.W.Frag} {mg : Str → Option Value} {base : Heap} {CR CC CV CE Pa Pl Pk cL fTo fL : Addr} {fdTo : FuncData} {A : Around} {outer : List PySem.Env} {s : Shared} {H0 : Hp} {E0' : XK}
def Nxt (CR CC CV Pa Pl Pk d p v : Addr) (cnt : Nat) (i : Int) (N : L2.St → Hp → Prop) : Prop :=
  ∀ (σ' : L2.St) (H' : Hp) (c' m' o' td' nd' : Addr) (cnt' : Nat) (cb' : Cb) (vt' : Vt) (own' : Tb) (L' : List En), cnt' ≤ cnt + 1 → Sl d c' v o' td' nd' cnt' i σ' → Lh CR CC CV Pa Pl Pk d p c' m' v o' td' nd' cb' vt' own' L' H' → Lp cb' vt' own' L' cnt' → N σ' H'
theorem m_sort (ve : LawE P w K mg base CR CC CV CE Pa Pl Pk cL fTo fdTo) (hr : Room 16 (xLaw P w K mg base fL cL A outer s H0 E0').A) :
    ∃ tA tB, PS (xLaw P w K mg base fL cL A outer s H0 E0') (mBody.getD 0 pS) tA ∧ PS (xLaw P w K mg base fL cL A outer s H0 E0') (mBody.getD 1 pS) tB ∧ ∀ (D : Ends) (σ : L2.St) (H : Hp) (d p c m v o td nd : Addr) (cnt : Nat) (i : Int) (cb : Cb) (vt : Vt) (own : Tb) (L : List En), Sl d c v o td nd cnt i σ → Lh CR CC CV Pa Pl Pk d p c m v o td nd cb vt own L H → Lp cb vt own L cnt → cnt < 99 →
      Nxt CR CC CV Pa Pl Pk d p v cnt i D.nx → tSeq tA tB D σ H := by
  have hu := hr.units
  obtain ⟨fR, fdR, GR, gR, kR, bR⟩ := ve.roll
  obtain ⟨t1, d1, q1⟩ := b_put (fL := fL) (A := A) (outer := outer) (s := s) (H0 := H0) (E0' := E0') ve hr
  obtain ⟨t2, d2, q2⟩ := b_flush (fL := fL) (A := A) (outer := outer) (s := s) (H0 := H0) (E0' := E0') ve hr
  obtain ⟨t3, d3, q3⟩ := b_tell (fL := fL) (A := A) (outer := outer) (s := s) (H0 := H0) (E0' := E0') ve hr
  obtain ⟨t4, d4, q4⟩ := b_forget (fL := fL) (A := A) (outer := outer) (s := s) (H0 := H0) (E0' := E0') ve hr
  obtain ⟨t5, d5, q5⟩ := b_back (fL := fL) (A := A) (outer := outer) (s := s) (H0 := H0) (E0' := E0') ve hr
  refine ⟨_, _, ps_set (i := 9) scLaw.nd rfl (Or.inl rfl) (pe_call GR (hr.mono (by decide)) (by rfl) gR kR bR .nil pass0 (pa_cons (pv 1) (pa_cons pe_int pa_nil))),
    ps_if (pt_cmpR op_lt (pv 9) pe_int (nomark _)) d1 (pss_one (ps_if (pt_cmpR op_eq (pv 9) pe_int (nomark _)) d2 (pss_one (ps_if (pt_cmpR op_eq (pv 9) pe_int (nomark _)) d3
      (pss_one (ps_if (PW.pt (pw_and (pt_cmpR op_eq (pv 9) pe_int (nomark _)) (pw_and1 (pt_cmpR (op_neK0 (Nat.lt_of_le_of_lt (Nat.le_add_right _ 64) hu)) (pv 5) pe_dnewK (nomark _))))) d4
      (pss_one (ps_if (PW.pt (pw_and (pt_cmpR op_eq (pv 9) pe_int (nomark _)) (pw_and1 (pt_cmpR (op_neK0 (Nat.lt_of_le_of_lt (Nat.le_add_right _ 64) hu)) (pv 5) pe_dnewK (nomark _))))) d5 pss_nil)))))))), ?_⟩
  rintro D σ H d p c m v o td nd cnt i cb vt own L ⟨a0, a9, a10, a11, a12, a13, a14, a15, a16, a17, a18, a19, a20, a21, a22, rfl⟩ a l hc fin
  refine ⟨_, rfl, roll_step a.dice (by decide) (by decide) fun r H1 r0 r1 e1 i1 => ?_⟩
  have a1 := a.roll e1 i1
  have sl : ∀ {N : Prop}, (Sl d c v o td nd cnt i [a0, some (.ref d), some (.ref c), some (.ref v), some (.ref o), some (.ref td), some (.ref nd), some (.int (cnt : Nat)), some (.int i), some (.int r), a10, a11, a12, a13, a14, a15, a16, a17, a18, a19, a20, a21, a22] → N) → N := fun h => h ⟨_, _, _, _, _, _, _, _, _, _, _, _, _, _, _, rfl⟩
  have ei : ∀ n : Int, decide (V.int r = V.int n) = decide (r = n) := fun n => by
    rw [decide_eq_decide]
    exact ⟨fun z => by injection z, fun z => by rw [z]⟩
  have same : Sl d c v o td nd cnt i [a0, some (.ref d), some (.ref c), some (.ref v), some (.ref o), some (.ref td), some (.ref nd), some (.int (cnt : Nat)), some (.int i), some (.int r), a10, a11, a12, a13, a14, a15, a16, a17, a18, a19, a20, a21, a22] := sl fun h => h
  obtain ⟨ks, hks, hkd⟩ := id a1.ht
  have lks : ks.length = L.length := paired_len hkd
  refine ⟨_, rfl, _, _, rfl, rfl, _, rfl, ?_⟩
  by_cases c7 : r < 7
  · refine ifT (decide_eq_true c7) ?_
    exact q1 _ _ H1 d p c m v o td nd cnt i cb vt own L same a1 l fun σ' H' m' o' cb' own' s' a' l' => fin σ' H' c m' o' td nd cnt cb' vt own' L (Nat.le_succ _) s' a' l'
  refine ifF (by simp; omega) ⟨_, rfl, rfl, _, rfl, ?_⟩
  rw [ei]
  by_cases c8 : r = 7
  · refine ifT (decide_eq_true c8) ?_
    exact q2 _ _ H1 d p c m v o td nd cnt i cb vt own L same a1 l fun σ' H' m' cb' s' a' l' => fin σ' H' c m' o td nd cnt cb' vt own L (Nat.le_succ _) s' a' l'
  refine ifF (by simp [c8]) ⟨_, rfl, rfl, _, rfl, ?_⟩
  rw [ei]
  by_cases c9 : r = 8
  · refine ifT (decide_eq_true c9) ?_
    exact q3 _ _ H1 d p c m v o td nd cnt i cb vt own L same a1 l hc fun σ' H' m' td' nd' cb' vt' L' s' a' l' => fin σ' H' c m' o td' nd' (cnt + 1) cb' vt' own L' (Nat.le_refl _) s' a' l'
  refine ifF (by simp [c9]) ⟨_, rfl, rfl, _, rfl, ?_⟩
  rw [ei]
  have done : ∀ H', KS.Ex H1 H' → D.nx [a0, some (.ref d), some (.ref c), some (.ref v), some (.ref o), some (.ref td), some (.ref nd), some (.int (cnt : Nat)), some (.int i), some (.int r), a10, a11, a12, a13, a14, a15, a16, a17, a18, a19, a20, a21, a22] H' := fun H' e => fin _ H' c m o td nd cnt cb vt own L (Nat.le_succ _) same (a1.ex e) l
  have last : ∀ H', KS.Ex H1 H' → tIfS (tAnd (tTest (tOp rEq (tVar 9) (tC (.int 10)))) (tTest (tOp rNeK0 (tVar 5) tDNewK))) t5 tNext D [a0, some (.ref d), some (.ref c), some (.ref v), some (.ref o), some (.ref td), some (.ref nd), some (.int (cnt : Nat)), some (.int i), some (.int r), a10, a11, a12, a13, a14, a15, a16, a17, a18, a19, a20, a21, a22] H' := fun H2 e2 => by
    refine ⟨_, rfl, rfl, _, rfl, ?_⟩
    rw [ei]
    by_cases c10 : r = 10
    · refine ifT (decide_eq_true c10) ⟨_, rfl, fun z hz => ⟨td, z, ks, rfl, rfl, Ex.upd hz _ _ (e2 _ _ hks), upd_same, _, rfl, ?_⟩⟩
      by_cases ce : L = []
      · exact ifF (by rw [lks, ce]; simp) (done _ (e2.trans (Ex.upd hz)))
      · refine ifT (by rw [lks]; simpa using ce) ?_
        exact q5 _ _ _ d p c m v o td nd cnt i cb vt own L same ((a1.ex e2).ex (Ex.upd hz)) l hc ce fun σ' H' c' m' o' cb' own' s' a' l' => fin σ' H' c' m' o' td nd cnt cb' vt own' L (Nat.le_succ _) s' a' l'
    · exact ifF (by simp [c10]) (ifF (by decide) (done _ e2))
  by_cases c10 : r = 9
  · refine ifT (decide_eq_true c10) ⟨_, rfl, fun z hz => ⟨td, z, ks, rfl, rfl, Ex.upd hz _ _ hks, upd_same, _, rfl, ?_⟩⟩
    by_cases ce : L = []
    · exact ifF (by rw [lks, ce]; simp) (last _ (Ex.upd hz))
    · refine ifT (by rw [lks]; simpa using ce) ?_
      exact q4 _ _ _ d p c m v o td nd cnt i cb vt own L same (a1.ex (Ex.upd hz)) l hc ce fun σ' H' td' nd' vt' L' s' a' l' => fin σ' H' c m o td' nd' cnt cb vt' own L' (Nat.le_succ _) s' a' l'
  · exact ifF (by simp [c10]) (ifF (by decide) (last _ (Ex.refl _)))
end
end K18
set_option Elab.async false
set_option linter.all false
set_option maxRecDepth 100000
set_option maxHeartbeats 4000000
namespace UK
open PySem PySem.Spec PyProof.Rows PySem.Calls L2 KB KC KD LamX R8 CP K7 TK
section
variable {κ : Type} [DecidableEq κ]
def kvG (k : κ → Key) (l : List (κ × Int)) : List (Key × V) := l.map fun p => (k p.1, V.int p.2)
def look (l : List (κ × Int)) (n : κ) : Option Int := (l.find? fun p => decide (p.1 = n)).map (·.2)
def put (l : List (κ × Int)) (n : κ) (t : Int) : List (κ × Int) := if n ∈ l.map (·.1) then l.map (fun p => if p.1 = n then (p.1, t) else p) else l ++ [(n, t)]
def drop (l : List (κ × Int)) (n : κ) : List (κ × Int) := l.filter fun p => decide (p.1 ≠ n)
def SameK (k : κ → Key) : Prop := ∀ a b, k a = k b → a = b
theorem kvG_len (k : κ → Key) (l : List (κ × Int)) : (kvG k l).length = l.length := List.length_map _
theorem valV_kvG {k : κ → Key} (hk : SameK k) (l : List (κ × Int)) (n : κ) : valV (kvG k l) (k n) = (look l n).map V.int := by
  unfold valV kvG look
  rw [List.find?_map]
  have e : ((fun kv : Key × V => decide (kv.1 = k n)) ∘ fun p : κ × Int => (k p.1, V.int p.2)) = fun p => decide (p.1 = n) := by
    funext p
    show decide (k p.1 = k n) = _
    by_cases c : p.1 = n
    · simp [c]
    · rw [decide_eq_false c, decide_eq_false fun z => c (hk _ _ z)]
  rw [e]
  cases l.find? fun p => decide (p.1 = n) <;> rfl
theorem look_mem {l : List (κ × Int)} (nd : (l.map (·.1)).Nodup) {p : κ × Int} (h : p ∈ l) : look l p.1 = some p.2 := by
  induction l with
  | nil => simp at h
  | cons a l ih =>
    rw [List.map_cons, List.nodup_cons] at nd
    unfold look
    rw [List.find?_cons]
    rcases List.mem_cons.mp h with rfl | h
    · simp
    · have : ¬ a.1 = p.1 := fun e => nd.1 (e ▸ List.mem_map.mpr ⟨p, h, rfl⟩)
      simp only [this, decide_false]
      exact ih nd.2 h
theorem look_none {l : List (κ × Int)} {n : κ} : look l n = none ↔ n ∉ l.map (·.1) := by
  unfold look
  rw [Option.map_eq_none_iff, List.find?_eq_none]
  simp only [decide_eq_true_eq, List.mem_map, not_exists, not_and]
theorem look_some {l : List (κ × Int)} {n : κ} (h : n ∈ l.map (·.1)) : ∃ t, look l n = some t := by
  cases e : look l n with
  | none => exact absurd h (look_none.mp e)
  | some t => exact ⟨t, rfl⟩
theorem putK_kvG {k : κ → Key} (hk : SameK k) (l : List (κ × Int)) (n : κ) (t : Int) : putK (kvG k l) (k n) (.int t) = kvG k (put l n t) := by
  unfold putK put
  rw [valV_any, valV_kvG hk]
  by_cases c : n ∈ l.map (·.1)
  · obtain ⟨u, hu⟩ := look_some c
    rw [hu, if_pos c, if_pos (show (Option.map V.int (some u)).isSome = true from rfl)]
    unfold kvG
    rw [List.map_map, List.map_map]
    refine List.map_congr_left fun p hp => ?_
    show (if k p.1 = k n then (k p.1, V.int t) else (k p.1, V.int p.2)) = (k (if p.1 = n then (p.1, t) else p).1, V.int (if p.1 = n then (p.1, t) else p).2)
    by_cases e : p.1 = n
    · rw [if_pos e, if_pos (by rw [e])]
    · rw [if_neg e, if_neg (fun z => e (hk _ _ z))]
  · rw [look_none.mpr c, if_neg c, if_neg (by simp)]
    unfold kvG
    rw [List.map_append]
    rfl
theorem dropK_kvG {k : κ → Key} (hk : SameK k) (l : List (κ × Int)) (n : κ) : dropK (kvG k l) (k n) = kvG k (drop l n) := by
  unfold dropK kvG drop
  rw [List.filter_map]
  congr 1
  refine List.filter_congr fun x _ => ?_
  show decide (k x.1 ≠ k n) = decide (x.1 ≠ n)
  by_cases c : x.1 = n
  · simp [c]
  · rw [decide_eq_true (show x.1 ≠ n from c), decide_eq_true (show k x.1 ≠ k n from fun z => c (hk _ _ z))]
theorem put_in {l : List (κ × Int)} {n : κ} {t : Int} (h : n ∈ l.map (·.1)) : (put l n t).map (·.1) = l.map (·.1) := by
  unfold put
  rw [if_pos h, List.map_map]
  refine List.map_congr_left fun p _ => ?_
  show (if p.1 = n then (p.1, t) else p).1 = p.1
  split <;> rfl
theorem put_off {l : List (κ × Int)} {n : κ} {t : Int} (h : n ∉ l.map (·.1)) : put l n t = l ++ [(n, t)] := by
  unfold put
  rw [if_neg h]
theorem put_len {l : List (κ × Int)} {n : κ} {t : Int} : (put l n t).length ≤ l.length + 1 := by
  unfold put
  split
  · rw [List.length_map]; omega
  · rw [List.length_append]; simp
theorem put_nodup {l : List (κ × Int)} {n : κ} {t : Int} (h : (l.map (·.1)).Nodup) : ((put l n t).map (·.1)).Nodup := by
  by_cases c : n ∈ l.map (·.1)
  · rw [put_in c]; exact h
  · rw [put_off c, List.map_append, List.nodup_append]
    exact ⟨h, by simp, fun a ha b hb z => c (by rw [← (show b = n from List.mem_singleton.mp hb), ← z]; exact ha)⟩
theorem put_mem {l : List (κ × Int)} {n m : κ} {t : Int} : m ∈ (put l n t).map (·.1) ↔ m ∈ l.map (·.1) ∨ m = n := by
  by_cases c : n ∈ l.map (·.1)
  · rw [put_in c]
    exact ⟨.inl, fun h => h.elim id fun z => z ▸ c⟩
  · rw [put_off c, List.map_append, List.mem_append]
    exact or_congr Iff.rfl List.mem_singleton
theorem drop_names (l : List (κ × Int)) (n : κ) : (drop l n).map (·.1) = (l.map (·.1)).filter fun x => decide (x ≠ n) := by
  unfold drop
  rw [List.filter_map]
  rfl
end
theorem merge_kvG {κ : Type} [DecidableEq κ] {k : κ → Key} (hk : SameK k) : ∀ (B A : List (κ × Int)), mergeK (kvG k A) (kvG k B) = kvG k (B.foldl (fun acc e => put acc e.1 e.2) A)
  | [], A => rfl
  | p :: B, A => by
    show mergeK (putK (kvG k A) (k p.1) (.int p.2)) (kvG k B) = _
    rw [putK_kvG hk, merge_kvG hk B]
    rfl

theorem foldp_nodup {κ : Type} [DecidableEq κ] : ∀ (B A : List (κ × Int)), (A.map (·.1)).Nodup → ((B.foldl (fun acc e => put acc e.1 e.2) A).map (·.1)).Nodup
  | [], A, h => h
  | p :: B, A, h => foldp_nodup B _ (put_nodup h)
theorem foldp_mem {κ : Type} [DecidableEq κ] {m : κ} : ∀ (B A : List (κ × Int)), m ∈ (B.foldl (fun acc e => put acc e.1 e.2) A).map (·.1) ↔ m ∈ A.map (·.1) ∨ m ∈ B.map (·.1)
  | [], A => by simp
  | p :: B, A => by
    rw [List.foldl_cons, foldp_mem B _, put_mem, List.map_cons, List.mem_cons, or_assoc]
theorem foldp_len {κ : Type} [DecidableEq κ] : ∀ (B A : List (κ × Int)), (B.foldl (fun acc e => put acc e.1 e.2) A).length ≤ A.length + B.length
  | [], A => by simp
  | p :: B, A => by
    have := foldp_len B (put A p.1 p.2)
    have := put_len (l := A) (n := p.1) (t := p.2)
    rw [List.foldl_cons, List.length_cons]
    omega
def kZ : Int → Key := Sum.inl
theorem sameZ : SameK kZ := fun _ _ => Sum.inl.inj
theorem kvZ_keys (l : List (Int × Int)) : (kvG kZ l).map (fun kv => kV kv.1) = (l.map (·.1)).map V.int := by
  unfold kvG
  rw [List.map_map, List.map_map]
  rfl
end UK
namespace K18
open PySem PySem.Spec PyProof.Rows PySem.Calls L2 KB KC KD KS KM LamX R8 CP K7 TK
def ones (ns : List Int) : List (Int × Int) := ns.map fun n => (n, 1)
theorem ones_keys (ns : List Int) : (ones ns).map (·.1) = ns := by
  unfold ones
  rw [List.map_map]
  exact List.map_id _
theorem rkp_ps' {H : Hp} : ∀ {xs : List V} {ks : List (Key × V)}, Paired (RKp H) xs ks → ∃ ps : List Addr, xs = ps.map V.ref ∧ Paired (fun (p : Addr) (kv : Key × V) => H p = some (.tup [kV kv.1, kv.2])) ps ks
  | _, _, .nil => ⟨[], rfl, .nil⟩
  | _, _, .cons ⟨t, e, h⟩ r => by
    obtain ⟨ps, rfl, h2⟩ := rkp_ps' r
    exact ⟨t :: ps, by rw [e]; rfl, .cons h h2⟩
theorem used_add {K : PySem.W.Frag} {σ : L2.St} {H : Hp} {Q : VK} {ud nd qa : Addr} {n : Str} {l : List (Int × Int)} {ns : List Int} (hu : σ[15]? = some (some (.ref ud))) (hn : σ[14]? = some (some (.str n))) (hm : σ[6]? = some (some (.ref nd))) (hs : σ.length = 23)
    (hud : H ud = some (.dK (UK.kvG UK.kZ l))) (hg : ∀ H', KS.Ex H H' → DGet H' nd (.str n) (some (.ref qa))) (hqa : H qa = some (.tup (ns.map V.int))) (l1 : l.length ≤ 1000) (l2 : ns.length ≤ 1000)
    (fin : ∀ H' q, KS.Ex H H' → H q = none → H' q = some (.dK (UK.kvG UK.kZ ((l ++ ones ns).foldl (fun acc e => UK.put acc e.1 e.2) []))) → Q (.ref q) H') :
    tCB (rDictP K) (tCons (tOp rCat (LiI.tListItems (tVar 15)) (tLc (iTup K (tDGet (tVar 6) (tVar 14))) (gName 20) tYes (tTup (tCons (tVar 20) (tCons (tC (.int 1)) tNil))) [20])) tNil) σ H Q := by
  have hsl : sizeLine = 16777216 := rfl
  refine ⟨_, hu, ud, _, rfl, hud, fun H1 p ts e1 hp hts hpt hp1 pp => ?_⟩
  have e1 : KS.Ex H H1 := e1
  have hqa1 := e1 _ _ hqa
  refine ⟨_, hm, _, hn, nd, _, rfl, hg _ e1, qa, rfl, ⟨_, SqT.of hqa1⟩, fun D1 hD1 => ?_⟩
  refine lcG walk_tup RKp (fun j => ns[j]?.bind fun x => some (UK.kZ x, V.int 1)) RKp.stab hD1 (by rw [List.length_map]; omega) (fun H5 e5 => SqT.of (e5 _ _ hqa1)) (fun i H5 x H6 _ _ h => yat_ex h) (fun j v H5 H6 R0 N0 hj e5 hy hno hsm => ?_) (fun H2 xs e2 hx2 hps => ?_)
  · obtain ⟨rfl, hxi⟩ := hy
    rw [List.getElem?_map] at hxi
    obtain ⟨x, hx, rfl⟩ := Option.map_eq_some_iff.mp hxi
    refine ⟨wipe1 σ 20 _, _, wipe_eq (by omega), (by show 2 ≤ sizeLine; decide), fun q hq => ?_⟩
    exact hsm (UK.kZ x, V.int 1) (by rw [hx]; rfl) _ _ (Ex.upd hq) ⟨q, rfl, upd_same⟩
  rw [List.length_map, range_fm, map_fm] at hps
  obtain ⟨ps, rfl, pq⟩ := rkp_ps' hps
  have lt : ts.length = l.length := by
    have := paired_len pp
    rw [UK.kvG_len] at this
    exact this
  have lp : ps.length = ns.length := by
    have := paired_len pq
    rw [List.length_map] at this
    exact this
  refine ⟨p, D1, _, _, rfl, rfl, e2 _ _ hp1, hx2, ?_, fun x hx => ?_⟩
  · rw [List.length_map, List.length_map]
    omega
  rw [← List.map_append]
  have e3 : KS.Ex H2 (upd H2 x (.lst ((ts ++ ps).map V.ref))) := Ex.upd hx
  have hx3 : (upd H2 x (.lst ((ts ++ ps).map V.ref))) x = some (.lst ((ts ++ ps).map V.ref)) := upd_same
  generalize upd H2 x (.lst ((ts ++ ps).map V.ref)) = H3 at e3 hx3
  have ek : UK.kvG UK.kZ l ++ ns.map (fun x => (UK.kZ x, V.int 1)) = UK.kvG UK.kZ (l ++ ones ns) := by
    unfold UK.kvG ones
    rw [List.map_append, List.map_map]
    rfl
  have pp3 : Paired (fun (p : Addr) (kv : Key × V) => SqT K H3 p [kV kv.1, kv.2]) (ts ++ ps) (UK.kvG UK.kZ (l ++ ones ns)) := by
    rw [← ek]
    exact paired_app (paired_mono (fun a c h => SqT.of (e3 _ _ (e2 _ _ h))) pp) (paired_mono (fun a c h => SqT.of (e3 _ _ h)) pq)
  refine ⟨x, _, _, rfl, SqL.of hx3, pp3, fun y hy => ?_⟩
  refine fin _ y (((e1.trans e2).trans e3).trans (Ex.upd hy)) (none_of ((e1.trans e2).trans e3) hy) ?_
  rw [upd_same]
  exact congrArg (fun z => some (HO.dK z)) (UK.merge_kvG UK.sameZ (l ++ ones ns) [])
end K18
set_option Elab.async false
set_option linter.all false
set_option maxRecDepth 100000
set_option maxHeartbeats 4000000
namespace K18
open PySem PySem.Spec PyProof.Rows PySem.Calls L2 KB KC KD KS KM LamX R8 CP K7 TK
theorem nodup_le {α : Type} [DecidableEq α] : ∀ {l m : List α}, l.Nodup → (∀ x ∈ l, x ∈ m) → l.length ≤ m.length
  | [], _, _, _ => Nat.zero_le _
  | x :: l, m, h, k => by
    rw [List.nodup_cons] at h
    have h1 := nodup_le (l := l) (m := m.erase x) h.2 fun y hy => (List.mem_erase_of_ne (fun z => h.1 (by rw [← z]; exact hy))).mpr (k y (List.mem_cons_of_mem _ hy))
    have hx := k x List.mem_cons_self
    rw [List.length_erase_of_mem hx] at h1
    have := List.length_pos_of_mem hx
    rw [List.length_cons]
    omega
theorem take_ex {α : Type} {L : List α} {j : Nat} {e : α} (h : L[j]? = some e) {p : α → Prop} : (∃ x ∈ L.take (j + 1), p x) ↔ (∃ x ∈ L.take j, p x) ∨ p e := by
  rw [take_snoc' h]
  constructor
  · rintro ⟨x, hx, px⟩
    rcases List.mem_append.mp hx with hx | hx
    · exact .inl ⟨x, hx, px⟩
    · rw [List.mem_singleton.mp hx] at px
      exact .inr px
  · rintro (⟨x, hx, px⟩ | px)
    · exact ⟨x, List.mem_append.mpr (.inl hx), px⟩
    · exact ⟨e, List.mem_append.mpr (.inr (List.mem_singleton.mpr rfl)), px⟩
theorem mem_num {rs : List Rn} {n : Int} : n ∈ nums rs ↔ ∃ r ∈ rs, (r.num : Int) = n := by
  unfold nums
  exact List.mem_map
theorem used_known {cb : Cb} {vt : Vt} {own : Tb} {L : List En} {cnt : Nat} (l : Lp cb vt own L cnt) (n : Int) : n ∈ nums vt.runs ↔ ∃ e ∈ L, n ∈ nums e.runs := by
  rw [mem_num]
  constructor
  · rintro ⟨r, hr, e⟩
    obtain ⟨x, hx, h⟩ := l.he r hr
    exact ⟨x, hx, mem_num.mpr ⟨r, h, e⟩⟩
  · rintro ⟨x, hx, h⟩
    obtain ⟨r, hr, e⟩ := mem_num.mp h
    exact ⟨r, (l.en x hx).inr r hr, e⟩
theorem sort_same {a b : List Int} (p : a.Perm b) : (a.mergeSort fun x y => decide (x ≤ y)) = b.mergeSort fun x y => decide (x ≤ y) := by
  have tr : ∀ x y z : Int, decide (x ≤ y) = true → decide (y ≤ z) = true → decide (x ≤ z) = true := fun x y z h1 h2 => decide_eq_true (Int.le_trans (of_decide_eq_true h1) (of_decide_eq_true h2))
  have to : ∀ x y : Int, (decide (x ≤ y) || decide (y ≤ x)) = true := fun x y => by
    rcases Int.le_total x y with h | h
    · rw [decide_eq_true h]; rfl
    · rw [decide_eq_true h, Bool.or_true]
  have h1 := List.pairwise_mergeSort (le := fun x y : Int => decide (x ≤ y)) tr to a
  have h2 := List.pairwise_mergeSort (le := fun x y : Int => decide (x ≤ y)) tr to b
  refine ((List.mergeSort_perm _ _).trans (p.trans (List.mergeSort_perm _ _).symm)).eq_of_pairwise (fun x y _ _ u v => Int.le_antisymm u v) (h1.imp fun h => of_decide_eq_true h) (h2.imp fun h => of_decide_eq_true h)
theorem perm_of {a b : List Int} (na : a.Nodup) (nb : b.Nodup) (h : ∀ x, x ∈ a ↔ x ∈ b) : a.Perm b := (List.perm_ext_iff_of_nodup na nb).mpr h
theorem nums_nodup {rs : List Rn} (h : (rs.map (·.num)).Nodup) : (nums rs).Nodup := by
  unfold nums
  rw [List.nodup_iff_pairwise_ne, List.pairwise_map] at h ⊢
  exact h.imp fun hne z => hne (by omega)
section
variable {P : Program} {w : World} {K : PySem.W.Frag} {mg : Str → Option Value} {base : Heap} {CR CC CV CE Pa Pl Pk cL fTo fL : Addr} {fdTo : FuncData} {A : Around} {outer : List PySem.Env} {s : Shared} {H0 : Hp} {E0' : XK}
theorem m_used (ve : LawE P w K mg base CR CC CV CE Pa Pl Pk cL fTo fdTo) (hr : Room 16 (xLaw P w K mg base fL cL A outer s H0 E0').A) :
    ∃ tA tB, PS (xLaw P w K mg base fL cL A outer s H0 E0') (mBody.getD 2 pS) tA ∧ PS (xLaw P w K mg base fL cL A outer s H0 E0') (mBody.getD 3 pS) tB ∧ ∀ (D : Ends) (σ : L2.St) (H : Hp) (d p c m v o td nd : Addr) (cnt : Nat) (i : Int) (cb : Cb) (vt : Vt) (own : Tb) (L : List En), Sl d c v o td nd cnt i σ → Lh CR CC CV Pa Pl Pk d p c m v o td nd cb vt own L H → Lp cb vt own L cnt → cnt < 101 →
      (∀ (σ' : L2.St) (H' : Hp) (ud : Addr) (lu : List (Int × Int)), Sl d c v o td nd cnt i σ' → σ'[15]? = some (some (.ref ud)) → Lh CR CC CV Pa Pl Pk d p c m v o td nd cb vt own L H' → H' ud = some (.dK (UK.kvG UK.kZ lu)) → (lu.map (·.1)).Perm (nums vt.runs) → D.nx σ' H') → tSeq tA tB D σ H := by
  have hu := hr.units
  have hu1 := Nat.lt_trans (Nat.add_lt_add_left (by decide : 1 < 64) _) hu
  refine ⟨_, _, ps_set (i := 15) scLaw.nd rfl (Or.inl rfl) pe_dnewK,
    ps_lock (ps_for PassesOwn.never rfl (pi_keys (pv 6)) (pg_name (i := 14) scLaw.nd rfl (Or.inr rfl))
      (pss_one (ps_set (i := 15) scLaw.nd rfl (Or.inl rfl) (pe_callTy (call_dictP rfl) (by rfl) ve.T.dict (by decide +kernel) (pa_cons (pe_op op_cat (LiI.pe_listItems rfl (pv 15) (by rfl) ve.T.list (by decide +kernel))
        (pe_lc (own := [("number", 20)]) (g := gName 20) (tt := tYes) (te := tTup (tCons (tVar 20) (tCons (tC (.int 1)) tNil))) rfl scLaw.nd (pi_tup (pe_dget hu1 (pv 6) (pv 14) (fun _ _ => rfl))) (blkOk_by (N := nLaw) (sc := defScope sLaw) (by decide +kernel))
          (fun _ _ _ _ _ => pg_name (i := 20) scLaw.nd rfl (Or.inl rfl)) (fun _ _ _ _ _ => pts_nil) (fun _ _ _ _ _ => pe_tup (pa_cons (pv 20) (pa_cons pe_int pa_nil))))) pa_nil))))), ?_⟩
  rintro D σ H d p c m v o td nd cnt i cb vt own L ⟨a0, a9, a10, a11, a12, a13, a14, a15, a16, a17, a18, a19, a20, a21, a22, rfl⟩ a l hc fin
  refine fun u hu => ?_
  have e1 : KS.Ex H (upd H u (.dK [])) := Ex.upd hu
  have h1 : (upd H u (.dK [])) u = some (.dK (UK.kvG UK.kZ [])) := upd_same
  have a1 := a.ex e1
  generalize upd H u (.dK []) = H1 at e1 h1 a1
  obtain ⟨ms, hms, hmd⟩ := id a1.hn
  have lms : ms.length = L.length := by
    have := paired_len hmd
    unfold numL at this
    rw [List.length_map] at this
    exact this
  have nun : u ≠ nd := fun z => by
    rw [z] at hu
    obtain ⟨_, q, _⟩ := a.hn
    rw [q] at hu; cases hu
  have nnk := kS_nodup l.nn
  have km : ms.map (·.1) = L.map fun e => kS e.nm := by
    rw [tells_keys hmd]
    unfold numL
    rw [List.map_map]; rfl
  refine ⟨nd, .dK ms, hms, trivial, fun od => ⟨_, rfl, nd, od, rfl, .inl ⟨_, upd_same, for_it walk_keys
    (fun j σ H' => ∃ b14 ud lu, σ = [a0, some (.ref d), some (.ref c), some (.ref v), some (.ref o), some (.ref td), some (.ref nd), some (.int (cnt : Nat)), some (.int i), a9, a10, a11, a12, a13, b14, some (.ref ud), a16, a17, a18, a19, a20, a21, a22] ∧ KS.Ex (upd H1 nd (.frz od (.dK ms))) H' ∧ H' ud = some (.dK (UK.kvG UK.kZ lu)) ∧ (lu.map (·.1)).Nodup ∧ ∀ n, n ∈ lu.map (·.1) ↔ ∃ e ∈ L.take j, n ∈ nums e.runs)
    ⟨_, u, [], rfl, Ex.refl _, ?_, by simp, fun n => by simp⟩ (fun j σ H' _ ⟨_, _, _, _, e, _⟩ => e _ _ upd_same) ?_ ?_⟩⟩⟩
  · rw [L2.upd_ne nun]; exact h1
  · rintro j x σ H2 H3 hj ⟨b14, ud, lu, rfl, e2, hud, ndu, mem⟩ ⟨rfl, k, v', hk, rfl⟩
    obtain ⟨z, hz, hz2⟩ := paired_get hmd hk
    unfold numL at hz
    rw [List.getElem?_map] at hz
    obtain ⟨e, he, rfl⟩ := Option.map_eq_some_iff.mp hz
    obtain ⟨hk2, qa, hv2, hqa⟩ := hz2
    have hk2 : k = kS e.nm := hk2
    have hv2 : v' = .ref qa := hv2
    subst hk2 hv2
    have hqa : H1 qa = some (.tup ((natI (e.runs.map (·.num))).map V.int)) := hqa
    rw [← nums_nat] at hqa
    have hqa2 : H3 qa = some (.tup ((nums e.runs).map V.int)) := e2 _ _ (by rw [L2.upd_ne (fun z => by rw [z, hms] at hqa; cases hqa)]; exact hqa)
    have lu6 : lu.length ≤ 1000 := by
      have h2 := nodup_le (m := nums vt.runs) ndu fun n hn => by
        obtain ⟨y, hy, hn⟩ := (mem n).mp hn
        exact (used_known l n).mpr ⟨y, List.mem_of_mem_take hy, hn⟩
      have h3 := l.lr
      unfold nums at h2
      rw [List.length_map, List.length_map] at h2
      omega
    have ln6 : (nums e.runs).length ≤ 1000 := by
      have := (l.en e (List.mem_of_getElem? he)).l6
      unfold nums
      rw [List.length_map]; omega
    dsimp only [gName, tAsg]
    refine used_add (K := K) (σ := [a0, some (.ref d), some (.ref c), some (.ref v), some (.ref o), some (.ref td), some (.ref nd), some (.int (cnt : Nat)), some (.int i), a9, a10, a11, a12, a13, some (.str e.nm), some (.ref ud), a16, a17, a18, a19, a20, a21, a22]) (n := e.nm) rfl rfl rfl rfl hud (fun H' e' => .inl ⟨_, kS e.nm, .inr ⟨_, e' _ _ (e2 _ _ upd_same)⟩, rfl, (valV_mem (by rw [km]; exact nnk) (List.mem_of_getElem? hk)).symm⟩) hqa2 lu6 ln6 fun H4 q e4 hq h4 => ?_
    refine ⟨_, q, _, rfl, e2.trans e4, h4, UK.foldp_nodup _ _ (by simp), fun n => ?_⟩
    rw [UK.foldp_mem, List.map_append, List.mem_append, ones_keys, mem, take_ex he]
    simp
  · rintro σ H2 ⟨b14, ud, lu, rfl, e2, hud, ndu, mem⟩
    refine ⟨e2 _ _ upd_same, ?_⟩
    have u2 := lockK hms e2
    refine fin _ _ ud lu ⟨_, _, _, _, _, _, _, _, _, _, _, _, _, _, _, rfl⟩ rfl (a1.ex u2) ?_ (perm_of ndu (nums_nodup l.un) fun n => ?_)
    · rw [L2.upd_ne (fun z => by rw [z, e2 _ _ upd_same] at hud; cases hud)]; exact hud
    · rw [mem, used_known l, lms, List.take_length]
end
end K18
set_option Elab.async false
set_option linter.all false
set_option maxRecDepth 100000
set_option maxHeartbeats 4000000
namespace K18
open PySem PySem.Spec PyProof.Rows PySem.Calls L2 KB KC KD KS KM LamX R8 CP K7 TK
theorem rows_keys {cb : Cb} {rs own : Tb} (pm : rs.Perm own) (ku : Keys own) : Keys rs := fun p hp => ku p (pm.mem_iff.mp hp)
section
variable {P : Program} {w : World} {K : PySem.W.Frag} {mg : Str → Option Value} {base : Heap} {CR CC CV CE Pa Pl Pk cL fTo fL : Addr} {fdTo : FuncData} {A : Around} {outer : List PySem.Env} {s : Shared} {H0 : Hp} {E0' : XK}
theorem m_check (ve : LawE P w K mg base CR CC CV CE Pa Pl Pk cL fTo fdTo) (hr : Room 16 (xLaw P w K mg base fL cL A outer s H0 E0').A) :
    ∃ tA tB, PS (xLaw P w K mg base fL cL A outer s H0 E0') (mBody.getD 4 pS) tA ∧ PS (xLaw P w K mg base fL cL A outer s H0 E0') (mBody.getD 5 pS) tB ∧ ∀ (D : Ends) (σ : L2.St) (H : Hp) (d p c m v o td nd ud : Addr) (lu : List (Int × Int)) (cnt : Nat) (i : Int) (cb : Cb) (vt : Vt) (own : Tb) (L : List En), Sl d c v o td nd cnt i σ → σ[15]? = some (some (.ref ud)) → Lh CR CC CV Pa Pl Pk d p c m v o td nd cb vt own L H → H ud = some (.dK (UK.kvG UK.kZ lu)) → (lu.map (·.1)).Perm (nums vt.runs) → Lp cb vt own L cnt →
      (∀ (σ' : L2.St) (H' : Hp), Sl d c v o td nd cnt i σ' → Lh CR CC CV Pa Pl Pk d p c m v o td nd cb vt own L H' → D.nx σ' H') → tSeq tA tB D σ H := by
  have hu := hr.units
  have hu1 := Nat.lt_trans (Nat.add_lt_add_left (by decide : 1 < 64) _) hu
  obtain ⟨fK, fdK, GK, gK, kK, bK⟩ := ve.key
  obtain ⟨fP, fdP, GP, gP, kP, bP⟩ := ve.pairs
  obtain ⟨fR, fdR, GR, mR, bR⟩ := ve.crows
  obtain ⟨fA, fdA, GA, mA, bA⟩ := ve.crowat
  obtain ⟨fN, fdN, GN, mN, bN⟩ := ve.known
  refine ⟨_, _, ps_set (i := 10) scLaw.nd rfl (Or.inr rfl) (pe_call GK (hr.mono (by decide)) (by rfl) gK kK bK .nil pass0 (pa_cons (pv 1) pa_nil)),
    ps_if (PW.pt (pw_or (pt_cmpR (op_neD hu) (pe_meth0 (pv 2) ve.B.clC mR GR (hr.mono (by decide)) bR .nil pass0) (pe_call GP (hr.mono (by decide)) (by rfl) gP kP bP .nil pass0 (pa_cons (pv 4) pa_nil)) (nomark _))
      (pw_or (pt_cmpR (op_neD hu) (pe_meth (pv 2) ve.B.clC mA GA (hr.mono (by decide)) bA .nil pass0 (pa_cons (pv 10) pa_nil)) (pe_dget1 hu1 (pv 4) (pv 10) ⟨rfl, rfl, rfl, rfl⟩) (nomark _))
      (pw_or (pt_cmpR (op_neD hu) (pe_callTy call_list_of (by rfl) ve.T.list (by decide +kernel) (pa_cons (pe_meth0 (pv 3) ve.B.clV mN GN (hr.mono (by decide)) bN .nil pass0) pa_nil)) (pe_callB (CP.cr_sortDI rfl (u66 hr)) (by rfl) ve.T.sorted (by decide +kernel) (pa_cons (pv 15) pa_nil)) (nomark _))
      (pw_or1 (pt_cmpR op_ge (pe_callB call_len_dT (by rfl) ve.T.len PySem.boot_len (pa_cons (pf 2) pa_nil)) pe_int (nomark _))))))) (pss_one (ps_ret pe_bl)) pss_nil, ?_⟩
  rintro D σ H d p c m v o td nd ud lu cnt i cb vt own L ⟨a0, a9, a10, a11, a12, a13, a14, a15, a16, a17, a18, a19, a20, a21, a22, rfl⟩ h15 a hud pu l fin
  have h15 : a15 = some (.ref ud) := Option.some.inj h15
  subst h15
  refine ⟨_, rfl, key_step a.dice fun H1 kq k e1 i1 hkq hkU => ?_⟩
  have a1 := a.roll e1 i1
  have hud1 := e1 _ _ (dice_ne a.dice hud (fun _ z => nomatch z)) hud
  obtain ⟨⟨dx1, lr1, rs1, g1, g2, g3⟩, mk1, g4, g5⟩ := id a1.xc
  obtain ⟨kv1, ho1, hkv1, hom1⟩ := id a1.ho
  refine ⟨_, rfl, c, dx1, _, rfl, g1, cF_m (by decide +kernel) (by decide +kernel) (by decide +kernel), rows_step a1.xc l.gk l.ok.nd (fun r hr => Q18.asc_nd (l.ok.asc r hr)) (by have := l.ok.l6; omega) a1.tabs fun rs hrs H2 q1 ts1 e2 t2 hq1 prs1 => ?_⟩
  have a2 := a1.lam e2 t2
  obtain ⟨kv2, ho2, hkv2, hom2⟩ := id a2.ho
  refine ⟨_, rfl, pairs_step ho2 hkv2 l.nd l.ku fun rs' pm as' H3 q2 ts2 e3 hq2 prs2 => ?_⟩
  have a3 := a2.ex e3
  have kr' : Keys rs' := rows_keys (cb := cb) pm l.ku
  have er : rs = rs' := rows_own l.ow l.nd hrs pm as'
  subst er
  refine ⟨_, _, .tup (SqT.of (e3 _ _ hq1)) (dp_prs K (prs1.kt (Ex.tup e3))), .tup (SqT.of hq2) (dp_prs K prs2), shaped_prs kr', shaped_prs kr', _, rfl, ?_⟩
  rw [eqv_prs]
  refine ifF (by simp) ?_
  obtain ⟨⟨dx3, lr3, rs3, g1, g2, g3⟩, mk3, g4, g5⟩ := id a3.xc
  have hkq3 := e3 _ _ (e2 _ _ hkq (fun _ z => nomatch z))
  refine ⟨_, rfl, c, dx3, _, rfl, g1, cF_m (by decide +kernel) (by decide +kernel) (by decide +kernel), _, rfl, rowat_step a3.xc hkq3 fun H4 rv e4 hrv => ?_⟩
  have a4 := a3.ex e4
  obtain ⟨kv4, ho4, hkv4, hom4⟩ := id a4.ho
  have hkq4 := e4 _ _ hkq3
  have hg2 : RV H4 ((valV kv4 k).getD .non) (Q18.val cb k) := by
    have ow := l.ow k
    rcases kvT_val (k := k) hkv4 with ⟨z1, z2⟩ | ⟨y, oo, z1, z2, z3⟩
    · rw [z1]
      rw [z2] at ow
      cases e : Q18.val cb k with
      | none => rfl
      | some x => rw [e] at ow; cases ow
    · rw [z1]
      rw [z2] at ow
      cases e : Q18.val cb k with
      | none => rw [e] at ow; cases ow
      | some x =>
        rw [e] at ow
        rw [← Option.some.inj ow]
        exact z3
  refine ⟨_, rfl, o, rfl, .inr ⟨_, .inl ho4⟩, _, rfl, _, DGet.t ho4 hkq4, ?_⟩
  refine ⟨_, _, dp_o K hrv, dp_o K hg2, shaped_oD _, shaped_oD _, _, rfl, ?_⟩
  rw [eqv_oD]
  refine ifF (by simp) ?_
  obtain ⟨dxv, vr, vs, ev⟩ := a4.xv.ins
  refine ⟨_, rfl, v, dxv, _, rfl, ev, vF_m (by decide +kernel) (by decide +kernel) (by decide +kernel), known_step a4.xv fun H5 kn e5 hkn => ?_⟩
  refine ⟨kn, _, rfl, .inr (SqT.of hkn), fun l5 hl5 => ?_⟩
  have e6 : KS.Ex H5 (upd H5 l5 (.lst (((nums vt.runs).mergeSort fun a b => decide (a ≤ b)).map V.int))) := Ex.upd hl5
  have h6 : (upd H5 l5 (.lst (((nums vt.runs).mergeSort fun a b => decide (a ≤ b)).map V.int))) l5 = some (.lst (((nums vt.runs).mergeSort fun a b => decide (a ≤ b)).map V.int)) := upd_same
  generalize upd H5 l5 (.lst (((nums vt.runs).mergeSort fun a b => decide (a ≤ b)).map V.int)) = H6 at e6 h6
  have hud6 := e6 _ _ (e5 _ _ (e4 _ _ (e3 _ _ (e2 _ _ hud1 (fun _ z => nomatch z)))))
  refine ⟨_, rfl, ud, _, lu.map (·.1), rfl, hud6, UK.kvZ_keys lu, fun l7 hl7 => ?_⟩
  rw [sort_same pu]
  have e7 : KS.Ex H6 (upd H6 l7 (.lst (((nums vt.runs).mergeSort fun a b => decide (a ≤ b)).map V.int))) := Ex.upd hl7
  have h7 : (upd H6 l7 (.lst (((nums vt.runs).mergeSort fun a b => decide (a ≤ b)).map V.int))) l7 = some (.lst (((nums vt.runs).mergeSort fun a b => decide (a ≤ b)).map V.int)) := upd_same
  generalize upd H6 l7 (.lst (((nums vt.runs).mergeSort fun a b => decide (a ≤ b)).map V.int)) = H7 at e7 h7
  refine ⟨_, _, .lst (SqL.of (e7 _ _ h6)) (dp_intsL _), .lst (SqL.of h7) (dp_intsL _), sh_intsL _, sh_intsL _, _, rfl, ?_⟩
  rw [eqv_intsL]
  refine ifF (by simp) ?_
  have a7 := a4.ex ((e5.trans e6).trans e7)
  obtain ⟨⟨dx7, lr7, rs7, y1, y2, y3⟩, mk7, y4, y5⟩ := id a7.xc
  have lm := paired_len y5
  have := l.ok.lt
  refine ⟨_, rfl, c, CC, dx7, _, _, rfl, y1, ve.B.clC, ve.B.cM, rfl, m, _, rfl, y4, _, _, rfl, rfl, _, rfl, ?_⟩
  refine ifF (by rw [lm]; simp; omega) ?_
  exact fin _ H7 ⟨_, _, _, _, _, _, _, _, _, _, _, _, _, _, _, rfl⟩ a7
end
end K18
set_option Elab.async false
set_option linter.all false
set_option maxRecDepth 100000
set_option maxHeartbeats 4000000
namespace K18
open PySem PySem.Spec PyProof.Rows PySem.Calls L2 KB KC KD KS KM LamX R8 CP K7 TK
section
variable {P : Program} {w : World} {K : PySem.W.Frag} {mg : Str → Option Value} {base : Heap} {CR CC CV CE Pa Pl Pk cL fTo fL : Addr} {fdTo : FuncData} {A : Around} {outer : List PySem.Env} {s : Shared} {H0 : Hp} {E0' : XK}
theorem m_three (ve : LawE P w K mg base CR CC CV CE Pa Pl Pk cL fTo fdTo) (hr : Room 16 (xLaw P w K mg base fL cL A outer s H0 E0').A) :
    ∃ tA, PS (xLaw P w K mg base fL cL A outer s H0 E0') (mBody.getD 6 pS) tA ∧ ∀ (D : Ends) (σ : L2.St) (H : Hp) (d p c m v o td nd : Addr) (cnt : Nat) (i : Int) (cb : Cb) (vt : Vt) (own : Tb) (L : List En), Sl d c v o td nd cnt i σ → Lh CR CC CV Pa Pl Pk d p c m v o td nd cb vt own L H → Lp cb vt own L cnt → cnt < 100 →
      (∀ (σ' : L2.St) (H' : Hp), Sl d c v o td nd cnt i σ' → Lh CR CC CV Pa Pl Pk d p c m v o td nd cb vt own L H' → D.nx σ' H') → tA D σ H := by
  have hu := hr.units
  have hu1 := Nat.lt_trans (Nat.add_lt_add_left (by decide : 1 < 64) _) hu
  obtain ⟨fP, fdP, GP, gP, kP, bP⟩ := ve.pairs
  obtain ⟨fR, fdR, GR, mR, bR⟩ := ve.crows
  obtain ⟨fS, fdS, GS, mS, bS⟩ := ve.restored
  refine ⟨_, ps_for PassesOwn.never rfl (pi_list (pe_slice sl_list (pe_callTy (call_list_dK rfl) (by rfl) ve.T.list (by decide +kernel) (pa_cons (pv 5) pa_nil)) po_none (po_some pe_int))) (pg_name (i := 14) scLaw.nd rfl (Or.inr rfl))
    (pss_one (ps_if (pt_cmpR (op_neD hu) (pe_meth0 (pe_meth (pv 3) ve.B.clV mS GS (hr.mono (by decide)) bS (E := fun _ _ _ => False) .nil (passes_call L2.takes0 (fun _ _ _ _ h => h)) (pa_cons (pv 14) pa_nil)) ve.B.clC mR GR (hr.mono (by decide)) bR .nil pass0)
      (pe_call GP (hr.mono (by decide)) (by rfl) gP kP bP .nil pass0 (pa_cons (pe_dget hu1 (pv 5) (pv 14) (fun _ _ => rfl)) pa_nil)) (nomark _)) (pss_one (ps_ret pe_bl)) pss_nil)), ?_⟩
  rintro D σ H d p c m v o td nd cnt i cb vt own L ⟨a0, a9, a10, a11, a12, a13, a14, a15, a16, a17, a18, a19, a20, a21, a22, rfl⟩ a l hc fin
  have lL : L.length ≤ cnt := l.ll
  obtain ⟨ks, hks, hkd⟩ := id a.ht
  refine ⟨_, rfl, td, ks, rfl, hks, fun q1 hq1 => ?_⟩
  have e1 : KS.Ex H (upd H q1 (.lst (ks.map fun kv => kV kv.1))) := Ex.upd hq1
  have h1 : (upd H q1 (.lst (ks.map fun kv => kV kv.1))) q1 = some (.lst (ks.map fun kv => kV kv.1)) := upd_same
  generalize upd H q1 (.lst (ks.map fun kv => kV kv.1)) = H1 at e1 h1
  rw [told_kvs hkd] at h1
  refine ⟨3, rfl, q1, _, rfl, SqL.of h1, fun q2 hq2 => ?_⟩
  have e2 : KS.Ex H1 (upd H1 q2 (.lst (cutV ((L.map (·.nm)).map V.str) none (some 3)))) := Ex.upd hq2
  have h2 : (upd H1 q2 (.lst (cutV ((L.map (·.nm)).map V.str) none (some 3)))) q2 = some (.lst (cutV ((L.map (·.nm)).map V.str) none (some 3))) := upd_same
  generalize upd H1 q2 (.lst (cutV ((L.map (·.nm)).map V.str) none (some 3))) = H2 at e2 h2
  have a2 := a.ex (e1.trans e2)
  have nq2 : ∀ {H3 : Hp}, ExtN H2 H3 → H3 q2 = some (.lst (cutV ((L.map (·.nm)).map V.str) none (some 3))) := fun e => e _ _ h2 (fun _ z => nomatch z)
  refine ⟨q2, rfl, ⟨_, SqL.of h2⟩, for_list (xs := cutV ((L.map (·.nm)).map V.str) none (some 3)) (fun j σ H' => ∃ b14, σ = [a0, some (.ref d), some (.ref c), some (.ref v), some (.ref o), some (.ref td), some (.ref nd), some (.int (cnt : Nat)), some (.int i), a9, a10, a11, a12, a13, b14, a15, a16, a17, a18, a19, a20, a21, a22] ∧ ExtN H2 H' ∧ Lh CR CC CV Pa Pl Pk d p c m v o td nd cb vt own L H')
    ⟨_, rfl, ExtN.refl _, a2⟩ (fun j σ H' _ ⟨_, _, e, _⟩ => SqL.of (nq2 e)) ?_ ?_⟩
  · rintro j x σ H3 hx ⟨b14, rfl, e3, a3⟩
    have hm : x ∈ (L.map (·.nm)).map V.str := by
      have := List.mem_of_getElem? hx
      unfold cutV at this
      exact List.mem_of_mem_drop (List.mem_of_mem_take this)
    obtain ⟨n, hn, rfl⟩ := List.mem_map.mp hm
    obtain ⟨e, he, rfl⟩ := List.mem_map.mp hn
    have hl9 : e.nm.length ≤ 900 := by
      obtain ⟨j, hj, ej⟩ := l.nm e he
      rw [ej]
      exact len_name j (by omega)
    obtain ⟨dx, vr, vs, ev⟩ := a3.xv.ins
    obtain ⟨t1, t2⟩ := tellOf_at l he
    have lb := lp_back l he
    refine ⟨_, rfl, v, dx, _, rfl, ev, vF_m (by decide +kernel) (by decide +kernel) (by decide +kernel), _, rfl, restored_step a3.xv hl9 (by rw [t1, List.length_map]; have := (l.en e he).l6; omega) (fun z => by rw [t2] at z; cases z) fun _ => ⟨fun k hk => ?_, fun H4 c' m' e4 hc' hm' x' => ?_⟩⟩
    · rw [t1] at hk
      obtain ⟨r, hr', rfl⟩ := List.mem_map.mp hk
      exact Q18.hasN_iff.mpr ⟨r, (l.en e he).inr r hr', rfl⟩
    have a4 := a3.ex e4
    obtain ⟨⟨dx4, lr4, rs4, g1, g2, g3⟩, mk4, g4, g5⟩ := id x'
    refine ⟨c', dx4, _, rfl, g1, cF_m (by decide +kernel) (by decide +kernel) (by decide +kernel), rows_step x' lb.gk lb.ok.nd (fun r hr => Q18.asc_nd (lb.ok.asc r hr)) (by have := lb.ok.l6; omega) a4.tabs fun rs hrs H5 q5 ts5 e5 t5 hq5 prs5 => ?_⟩
    have a5 := a4.lam e5 t5
    obtain ⟨ks5, hks5, hkd5⟩ := id a5.ht
    obtain ⟨j5, hj5⟩ := List.mem_iff_getElem?.mp he
    obtain ⟨z, hz, hzt⟩ := paired_get' hkd5 hj5
    obtain ⟨y1, y, y2, kv5, hy, hkv5, _⟩ := hzt
    have hv : valV ks5 (kS e.nm) = some (.ref y) := by
      rw [← y1, ← y2]
      exact valV_mem (by rw [told_keys hkd5]; exact kS_nodup l.nn) (List.mem_of_getElem? hz)
    refine ⟨_, rfl, _, rfl, td, _, rfl, hv ▸ DGet.k (k := kS e.nm) hks5, pairs_step hy hkv5 lb.nd lb.ku fun rs' pm as' H6 q6 ts6 e6 hq6 prs6 => ?_⟩
    have kr' : Keys rs' := rows_keys (cb := cb) pm lb.ku
    have er : rs = rs' := rows_own lb.ow lb.nd hrs pm as'
    subst er
    refine ⟨_, _, .tup (SqT.of (e6 _ _ hq5)) (dp_prs K (prs5.kt (Ex.tup e6))), .tup (SqT.of hq6) (dp_prs K prs6), shaped_prs kr', shaped_prs kr', _, rfl, ?_⟩
    rw [eqv_prs]
    refine ifF (by simp) ?_
    exact ⟨_, rfl, ((e3.trans (ExtN.of e4)).trans e5).trans (ExtN.of e6), a5.ex e6⟩
  · rintro σ H3 ⟨b14, rfl, e3, a3⟩
    exact fin _ H3 ⟨_, _, _, _, _, _, _, _, _, _, _, _, _, _, _, rfl⟩ a3
end
end K18
set_option Elab.async false
set_option linter.all false
set_option maxRecDepth 100000
set_option maxHeartbeats 4000000
namespace K18
open PySem PySem.Spec PyProof.Rows PySem.Calls L2 KB KC KD KS KM LamX R8 CP K7 TK
section
variable {P : Program} {w : World} {K : PySem.W.Frag} {mg : Str → Option Value} {base : Heap} {CR CC CV CE Pa Pl Pk cL fTo fL : Addr} {fdTo : FuncData} {A : Around} {outer : List PySem.Env} {s : Shared} {H0 : Hp} {E0' : XK}
theorem m_turn (ve : LawE P w K mg base CR CC CV CE Pa Pl Pk cL fTo fdTo) (hr : Room 16 (xLaw P w K mg base fL cL A outer s H0 E0').A) :
    ∃ ts, PSs (xLaw P w K mg base fL cL A outer s H0 E0') mBody ts ∧ ∀ (D : Ends) (σ : L2.St) (H : Hp) (d p c m v o td nd : Addr) (cnt : Nat) (i : Int) (cb : Cb) (vt : Vt) (own : Tb) (L : List En), Sl d c v o td nd cnt i σ → Lh CR CC CV Pa Pl Pk d p c m v o td nd cb vt own L H → Lp cb vt own L cnt → cnt < 99 →
      Nxt CR CC CV Pa Pl Pk d p v cnt i D.nx → ts D σ H := by
  obtain ⟨t0, t1, d0, d1, q01⟩ := m_sort (fL := fL) (A := A) (outer := outer) (s := s) (H0 := H0) (E0' := E0') ve hr
  obtain ⟨t2, t3, d2, d3, q23⟩ := m_used (fL := fL) (A := A) (outer := outer) (s := s) (H0 := H0) (E0' := E0') ve hr
  obtain ⟨t4, t5, d4, d5, q45⟩ := m_check (fL := fL) (A := A) (outer := outer) (s := s) (H0 := H0) (E0' := E0') ve hr
  obtain ⟨t6, d6, q6⟩ := m_three (fL := fL) (A := A) (outer := outer) (s := s) (H0 := H0) (E0' := E0') ve hr
  refine ⟨_, pss_cons d0 (pss_cons d1 (pss_cons d2 (pss_cons d3 (pss_cons d4 (pss_cons d5 (pss_one d6)))))), ?_⟩
  intro D σ H d p c m v o td nd cnt i cb vt own L hs a l hc fin
  refine q01 _ σ H d p c m v o td nd cnt i cb vt own L hs a l hc fun σ1 H1 c1 m1 o1 td1 nd1 cnt1 cb1 vt1 own1 L1 le1 hs1 a1 l1 => ?_
  refine q23 _ σ1 H1 d p c1 m1 v o1 td1 nd1 cnt1 i cb1 vt1 own1 L1 hs1 a1 l1 (by omega) fun σ2 H2 ud lu hs2 h15 a2 hud pu => ?_
  refine q45 _ σ2 H2 d p c1 m1 v o1 td1 nd1 ud lu cnt1 i cb1 vt1 own1 L1 hs2 h15 a2 hud pu l1 fun σ3 H3 hs3 a3 => ?_
  refine q6 _ σ3 H3 d p c1 m1 v o1 td1 nd1 cnt1 i cb1 vt1 own1 L1 hs3 a3 l1 (by omega) fun σ4 H4 hs4 a4 => ?_
  exact fin σ4 H4 c1 m1 o1 td1 nd1 cnt1 cb1 vt1 own1 L1 le1 hs4 a4 l1
structure Bs (CR CC CV Pa Pl Pk d p : Addr) (H : Hp) : Prop where
  dice : IsDice H d
  tabs : Tabs (TT Pa Pl Pk) H
  hp : H p = some (.lst [.ref d])
theorem Lh.b {Pa Pl Pk d p c m v o td nd : Addr} {cb : Cb} {vt : Vt} {own : Tb} {L : List En} {H : Hp} (a : Lh CR CC CV Pa Pl Pk d p c m v o td nd cb vt own L H) : Bs CR CC CV Pa Pl Pk d p H := ⟨a.dice, a.tabs, a.hp⟩
def Sd (d : Addr) (σ : L2.St) : Prop := ∃ a0 a2 a3 a4 a5 a6 a7 a8 a9 a10 a11 a12 a13 a14 a15 a16 a17 a18 a19 a20 a21 a22 : Option V, σ = [a0, some (.ref d), a2, a3, a4, a5, a6, a7, a8, a9, a10, a11, a12, a13, a14, a15, a16, a17, a18, a19, a20, a21, a22]
theorem law_1 (ve : LawE P w K mg base CR CC CV CE Pa Pl Pk cL fTo fdTo) (hr : Room 16 (xLaw P w K mg base fL cL A outer s H0 E0').A) :
    ∃ ts, PS (xLaw P w K mg base fL cL A outer s H0 E0') (law0.getD 1 pS) ts ∧ ∀ (D : Ends) (σ : L2.St) (H : Hp) (d p c m v o td nd : Addr) (cb : Cb) (vt : Vt) (own : Tb) (L : List En) (a0 a8 a9 a10 a11 a12 a13 a14 a15 a16 a17 a18 a19 a20 a21 a22 : Option V), σ = [a0, some (.ref d), some (.ref c), some (.ref v), some (.ref o), some (.ref td), some (.ref nd), some (.int (0 : Nat)), a8, a9, a10, a11, a12, a13, a14, a15, a16, a17, a18, a19, a20, a21, a22] → Lh CR CC CV Pa Pl Pk d p c m v o td nd cb vt own L H → Lp cb vt own L 0 →
      (∀ (σ' : L2.St) (H' : Hp), Sd d σ' → Bs CR CC CV Pa Pl Pk d p H' → D.nx σ' H') → ts D σ H := by
  obtain ⟨f1, fd1, G1, g1, k1, b1⟩ := ve.roll
  obtain ⟨tB, dB, qB⟩ := m_turn (fL := fL) (A := A) (outer := outer) (s := s) (H0 := H0) (E0' := E0') ve hr
  refine ⟨_, ps_for PassesOwn.never rfl (pi_range1 (by rfl) ve.T.range (pa_cons (pe_call G1 (hr.mono (by decide)) (by rfl) g1 k1 b1 .nil pass0 (pa_cons (pv 1) (pa_cons pe_int pa_nil))) pa_nil)) (pg_name (i := 8) scLaw.nd rfl (Or.inl rfl)) dB, ?_⟩
  rintro D σ H d p c m v o td nd cb vt own L a0 a8 a9 a10 a11 a12 a13 a14 a15 a16 a17 a18 a19 a20 a21 a22 rfl a l fin
  refine ⟨_, rfl, roll_step a.dice (by decide) (by decide) fun r H1 r0' r1 e1 i1 => ⟨r, rfl, by omega, by omega, ?_⟩⟩
  have a1 := a.roll e1 i1
  refine for_range (n := r.toNat) (fun j σ H2 => ∃ (c' m' o' td' nd' : Addr) (cnt' : Nat) (cb' : Cb) (vt' : Vt) (own' : Tb) (L' : List En) (a0 a8 a9 a10 a11 a12 a13 a14 a15 a16 a17 a18 a19 a20 a21 a22 : Option V), cnt' ≤ j ∧ σ = [a0, some (.ref d), some (.ref c'), some (.ref v), some (.ref o'), some (.ref td'), some (.ref nd'), some (.int (cnt' : Nat)), a8, a9, a10, a11, a12, a13, a14, a15, a16, a17, a18, a19, a20, a21, a22] ∧ Lh CR CC CV Pa Pl Pk d p c' m' v o' td' nd' cb' vt' own' L' H2 ∧ Lp cb' vt' own' L' cnt')
    ⟨c, m, o, td, nd, 0, cb, vt, own, L, a0, a8, a9, a10, a11, a12, a13, a14, a15, a16, a17, a18, a19, a20, a21, a22, Nat.le_refl _, rfl, a1, l⟩ ?_ ?_
  · rintro j σ H2 hj ⟨c', m', o', td', nd', cnt', cb', vt', own', L', b0, b8, b9, b10, b11, b12, b13, b14, b15, b16, b17, b18, b19, b20, b21, b22, hcj, rfl, a2, l2⟩
    dsimp only [gName]
    refine qB _ _ H2 d p c' m' v o' td' nd' cnt' (0 + j) cb' vt' own' L' ⟨_, _, _, _, _, _, _, _, _, _, _, _, _, _, _, rfl⟩ a2 l2 (by omega) fun σ3 H3 c3 m3 o3 td3 nd3 cnt3 cb3 vt3 own3 L3 hl3 hs3 a3 l3 => ?_
    obtain ⟨y0, y9, y10, y11, y12, y13, y14, y15, y16, y17, y18, y19, y20, y21, y22, rfl⟩ := hs3
    exact ⟨c3, m3, o3, td3, nd3, cnt3, cb3, vt3, own3, L3, _, _, _, _, _, _, _, _, _, _, _, _, _, _, _, _, by omega, rfl, a3, l3⟩
  · rintro σ H2 ⟨c', m', o', td', nd', cnt', cb', vt', own', L', b0, b8, b9, b10, b11, b12, b13, b14, b15, b16, b17, b18, b19, b20, b21, b22, hcj, rfl, a2, l2⟩
    exact fin _ H2 ⟨_, _, _, _, _, _, _, _, _, _, _, _, _, _, _, _, _, _, _, _, _, _, rfl⟩ a2.b
end
end K18
set_option Elab.async false
set_option linter.all false
set_option maxRecDepth 100000
set_option maxHeartbeats 4000000
namespace K18
open PySem PySem.Spec PyProof.Rows PySem.Calls L2 KB KC KD KS KM LamX R8 CP K7 TK
theorem vat_new {CR CV m v q : Addr} {vt : Vt} {H : Hp} (x : VAt CR CV m v vt H) (h : NewN H q) : ¬ wV H CV v q := fun z => by
  obtain ⟨dx, r, s, ks, ts, h1, h2, _, h4, _⟩ := x
  rcases z with e | ⟨dx', r', s', n', h1', e⟩
  · exact h.ne h1 (fun _ z => nomatch z) e.symm
  · rw [h1] at h1'
    have er : r = r' := by cases h1'; rfl
    have es : s = s' := by cases h1'; rfl
    rcases e with e | e
    · exact h.ne h2 (fun _ z => nomatch z) (er.trans e.symm)
    · exact h.ne h4 (fun _ z => nomatch z) (es.trans e.symm)
abbrev cb0 : Cb := ⟨[], [], 0⟩
abbrev vt0 : Vt := ⟨[], [], 0⟩
theorem lp_zero : Lp cb0 vt0 [] [] 0 := by
  refine ⟨⟨List.nodup_nil, (by show 0 < 8; decide), (by show 0 ≤ 6; decide), (fun _ h => nomatch h), .nil, (fun _ h => nomatch h)⟩, ⟨(fun _ h => nomatch h), (fun _ h => nomatch h)⟩, List.nodup_nil, (fun _ h => nomatch h), fun k => rfl, ⟨Nat.le_refl _, (fun _ h => nomatch h), (fun _ h => nomatch h)⟩, rfl, (fun _ h => nomatch h), List.nodup_nil, (fun _ h => nomatch h), List.nodup_nil, (fun _ h => nomatch h), (fun _ h => nomatch h), (fun _ h => nomatch h), Nat.le_refl _, Nat.le_refl _⟩
section
variable {P : Program} {w : World} {K : PySem.W.Frag} {mg : Str → Option Value} {base : Heap} {CR CC CV CE Pa Pl Pk cL fTo fL : Addr} {fdTo : FuncData} {A : Around} {outer : List PySem.Env} {s : Shared} {H0 : Hp} {E0' : XK}
theorem law_0 (ve : LawE P w K mg base CR CC CV CE Pa Pl Pk cL fTo fdTo) (hr : Room 16 (xLaw P w K mg base fL cL A outer s H0 E0').A) :
    ∃ ts, PS (xLaw P w K mg base fL cL A outer s H0 E0') (law0.getD 0 pS) ts ∧ ∀ (D : Ends) (σ : L2.St) (H : Hp) (d p : Addr), Sd d σ → Bs CR CC CV Pa Pl Pk d p H →
      (∀ (σ' : L2.St) (H' : Hp) (c m v o td nd : Addr) (a0 a8 a9 a10 a11 a12 a13 a14 a15 a16 a17 a18 a19 a20 a21 a22 : Option V), σ' = [a0, some (.ref d), some (.ref c), some (.ref v), some (.ref o), some (.ref td), some (.ref nd), some (.int (0 : Nat)), a8, a9, a10, a11, a12, a13, a14, a15, a16, a17, a18, a19, a20, a21, a22] → Lh CR CC CV Pa Pl Pk d p c m v o td nd cb0 vt0 [] [] H' → D.nx σ' H') → ts D σ H := by
  have hu := hr.units
  obtain ⟨f1, fd1, G1, M1, b1⟩ := ve.cinit
  obtain ⟨f2, fd2, G2, M2, b2⟩ := ve.vinit
  refine ⟨_, ps_asg (pe_tup (pa_cons (pe_make0 M1 G1 (hr.mono (by decide)) (by rfl) ve.B.gC b1 .nil pass0) (pa_cons (pe_make0 M2 G2 (hr.mono (by decide)) (by rfl) ve.B.gV b2 .nil pass0) (pa_cons pe_dnewT (pa_cons pe_dnewK (pa_cons pe_dnewK (pa_cons pe_int pa_nil)))))))
      (pg_tup rfl (pgs_cons (pg_name (i := 2) scLaw.nd rfl (Or.inl rfl)) (pgs_cons (pg_name (i := 3) scLaw.nd rfl (Or.inr rfl)) (pgs_cons (pg_name (i := 4) scLaw.nd rfl (Or.inr rfl)) (pgs_cons (pg_name (i := 5) scLaw.nd rfl (Or.inr rfl)) (pgs_cons (pg_name (i := 6) scLaw.nd rfl (Or.inr rfl)) (pgs_cons (pg_name (i := 7) scLaw.nd rfl (Or.inl rfl)) pgs_nil))))))), ?_⟩
  rintro D σ H d p ⟨a0, a2, a3, a4, a5, a6, a7, a8, a9, a10, a11, a12, a13, a14, a15, a16, a17, a18, a19, a20, a21, a22, rfl⟩ b fin
  refine fun c dc hc hdc nc => ?_
  have e1 : KS.Ex H (upd (upd H dc (.own c)) c (.ins CC dc [])) := (Ex.upd hdc).trans (Ex.upd (by rw [L2.upd_ne nc.symm]; exact hc))
  have hc2 : (upd (upd H dc (.own c)) c (.ins CC dc [])) c = some (.ins CC dc []) := upd_same
  show spCInit CR CC [.ref c] _ _ _
  generalize upd (upd H dc (.own c)) c (.ins CC dc []) = H2 at e1 hc2
  refine cinit_step hc2 fun H3 m k3 hm' x3 => ⟨rfl, ?_⟩
  have e3 : KS.Ex H H3 := fun b o h => k3 b o (ne_of_none h hc) (e1 b o h)
  refine fun v dv hv hdv nv => ?_
  have e4 : KS.Ex H3 (upd (upd H3 dv (.own v)) v (.ins CV dv [])) := (Ex.upd hdv).trans (Ex.upd (by rw [L2.upd_ne nv.symm]; exact hv))
  have hv4 : (upd (upd H3 dv (.own v)) v (.ins CV dv [])) v = some (.ins CV dv []) := upd_same
  show spVInit CR CV [.ref v] _ _ _
  generalize upd (upd H3 dv (.own v)) v (.ins CV dv []) = H4 at e4 hv4
  refine vinit_step hv4 fun H5 k5 x5 => ⟨rfl, ?_⟩
  have e5 : KS.Ex H3 H5 := fun b o h => k5 b o (ne_of_none h hv) (e4 b o h)
  have xc5 := x3.ex e5
  refine fun o ho td htd nd hnd => ⟨(by show 6 ≤ sizeLine; decide), fun q hq => ⟨q, _, rfl, SqT.of upd_same, rfl, _, _, rfl, _, _, rfl, _, _, rfl, _, _, rfl, _, _, rfl, _, _, rfl, rfl, ?_⟩⟩
  have e6 : KS.Ex H5 (upd H5 o (.dT [])) := Ex.upd ho
  have e7 : KS.Ex (upd H5 o (.dT [])) (upd (upd H5 o (.dT [])) td (.dK [])) := Ex.upd htd
  have e8 : KS.Ex (upd (upd H5 o (.dT [])) td (.dK [])) (upd (upd (upd H5 o (.dT [])) td (.dK [])) nd (.dK [])) := Ex.upd hnd
  have e9 : KS.Ex (upd (upd (upd H5 o (.dT [])) td (.dK [])) nd (.dK [])) (upd (upd (upd (upd H5 o (.dT [])) td (.dK [])) nd (.dK [])) q (.tup [.ref c, .ref v, .ref o, .ref td, .ref nd, .int 0])) := Ex.upd hq
  have ho9 := e9 _ _ (e8 _ _ (e7 _ _ (upd_same (H := H5) (a := o) (o := .dT []))))
  have ht9 := e9 _ _ (e8 _ _ (upd_same (H := upd H5 o (.dT [])) (a := td) (o := .dK [])))
  have hn9 := e9 _ _ (upd_same (H := upd (upd H5 o (.dT [])) td (.dK [])) (a := nd) (o := .dK []))
  have htd5 := none_of e6 htd
  have hnd5 := none_of (e6.trans e7) hnd
  have e59 := ((e6.trans e7).trans e8).trans e9
  have e09 : KS.Ex H _ := (e3.trans e5).trans e59
  generalize upd (upd (upd (upd H5 o (.dT [])) td (.dK [])) nd (.dK [])) q (.tup [.ref c, .ref v, .ref o, .ref td, .ref nd, .int 0]) = H9 at e9 e59 ho9 ht9 hn9 e09
  have bk := (x5 m).back fun C dx fs h => e59 _ _ h
  refine fin _ H9 c m v o td nd _ _ _ _ _ _ _ _ _ _ _ _ _ _ _ _ rfl ⟨?_, b.tabs.ext e09, e09 _ _ b.hp, xc5.ex e59, (x5 m).ex e59, ⟨[], ho9, .nil, fun z => ?_⟩, ⟨[], ht9, .nil⟩, ⟨[], hn9, .nil⟩, fun z => vat_new (x5 m) (NewN.of htd5) (wV_same bk z), fun z => vat_new (x5 m) (NewN.of hnd5) (wV_same bk z)⟩
  · obtain ⟨x, y, z, h⟩ := b.dice
    exact ⟨x, y, z, e09 _ _ h⟩
  · obtain ⟨_, mk, g4, _⟩ := xc5
    rw [z, g4] at ho
    cases ho
end
end K18
set_option Elab.async false
set_option linter.all false
set_option maxRecDepth 100000
set_option maxHeartbeats 4000000
namespace K18
open PySem PySem.Spec PyProof.Rows PySem.Calls L2 KB KC KD KS KM LamX R8 CP K7 TK
theorem putK_keys {κ : Type} [DecidableEq κ] {kvs : List (κ × V)} {k : κ} {v : V} : (∀ x, x ∈ (putK kvs k v).map (·.1) → x ∈ kvs.map (·.1) ∨ x = k) ∧ ((kvs.map (·.1)).Nodup → ((putK kvs k v).map (·.1)).Nodup) := by
  unfold putK
  by_cases c : (kvs.any fun kv => decide (kv.1 = k)) = true
  · rw [if_pos c]
    have e : (kvs.map fun kv => if kv.1 = k then (kv.1, v) else kv).map (·.1) = kvs.map (·.1) := by
      rw [List.map_map]
      refine List.map_congr_left fun p _ => ?_
      show (if p.1 = k then (p.1, v) else p).1 = p.1
      split <;> rfl
    rw [e]
    exact ⟨fun x h => .inl h, id⟩
  · rw [if_neg c, List.map_append]
    have hk : k ∉ kvs.map (·.1) := fun h => by
      obtain ⟨p, hp, e⟩ := List.mem_map.mp h
      exact c (List.any_eq_true.mpr ⟨p, hp, decide_eq_true e⟩)
    refine ⟨fun x h => ?_, fun nd => ?_⟩
    · rcases List.mem_append.mp h with h | h
      · exact .inl h
      · exact .inr (by simpa using h)
    · rw [List.nodup_append]
      exact ⟨nd, by simp, fun a ha b hb z => hk (by rw [← (show b = k by simpa using hb), ← z]; exact ha)⟩
theorem merge_keys {κ : Type} [DecidableEq κ] : ∀ (kvs acc : List (κ × V)), (∀ x, x ∈ (kvs.foldl (fun acc p => putK acc p.1 p.2) acc).map (·.1) → x ∈ acc.map (·.1) ∨ x ∈ kvs.map (·.1)) ∧ ((acc.map (·.1)).Nodup → ((kvs.foldl (fun acc p => putK acc p.1 p.2) acc).map (·.1)).Nodup)
  | [], acc => ⟨fun x h => .inl h, id⟩
  | p :: kvs, acc => by
    obtain ⟨h1, h2⟩ := merge_keys kvs (putK acc p.1 p.2)
    obtain ⟨g1, g2⟩ := putK_keys (kvs := acc) (k := p.1) (v := p.2)
    refine ⟨fun x h => ?_, fun nd => h2 (g2 nd)⟩
    rcases h1 x h with h | h
    · rcases g1 x h with h | h
      · exact .inl h
      · exact .inr (by rw [h]; exact List.mem_cons_self)
    · exact .inr (List.mem_cons_of_mem _ h)
section
variable {CR CC CV Pa Pl Pk d p : Addr} {H H' : Hp}
theorem Bs.ex (b : Bs CR CC CV Pa Pl Pk d p H) (e : KS.Ex H H') : Bs CR CC CV Pa Pl Pk d p H' := by
  obtain ⟨⟨x, y, z, h⟩, t, hp⟩ := b
  exact ⟨⟨x, y, z, e _ _ h⟩, t.ext e, e _ _ hp⟩
theorem Bs.roll (b : Bs CR CC CV Pa Pl Pk d p H) (e : ExD d H H') (i : IsDice H' d) : Bs CR CC CV Pa Pl Pk d p H' := by
  refine ⟨i, tabs_kp b.tabs fun c u h n1 _ _ _ => e c u (dice_ne b.dice h n1) h, e _ _ (fun z => ?_) b.hp⟩
  obtain ⟨x, y, k, hd⟩ := b.dice
  have hp := b.hp
  rw [z, hd] at hp
  cases hp
theorem Bs.updL {D : Addr} {xs : List V} {o : HO} (b : Bs CR CC CV Pa Pl Pk d p H) (h : H D = some (.lst xs)) (n1 : D ≠ d) (n2 : D ≠ p) : Bs CR CC CV Pa Pl Pk d p (upd H D o) := by
  obtain ⟨x, y, z, hd⟩ := b.dice
  exact ⟨⟨x, y, z, by rw [L2.upd_ne n1.symm]; exact hd⟩, tabs_upd b.tabs h (.inl ⟨_, rfl⟩), by rw [L2.upd_ne n2.symm]; exact b.hp⟩
theorem Bs.newL {D : Addr} (b : Bs CR CC CV Pa Pl Pk d p H) (h : H D = none) : D ≠ d ∧ D ≠ p := by
  obtain ⟨x, y, z, hd⟩ := b.dice
  have hp := b.hp
  exact ⟨(fun c => by rw [c, hd] at h; cases h), (fun c => by rw [c, hp] at h; cases h)⟩
theorem pairsOf_kt {ts : List Addr} {kvs : List (Rw × V)} (h : PairsOf H ts kvs) (e : KtTup H H') : PairsOf H' ts kvs := paired_mono (fun _ _ ⟨q, h1, h2⟩ => ⟨q, e _ _ h1, e _ _ h2⟩) h
end
section
variable {P : Program} {w : World} {K : PySem.W.Frag} {mg : Str → Option Value} {base : Heap} {CR CC CV CE Pa Pl Pk cL fTo fL : Addr} {fdTo : FuncData} {A : Around} {outer : List PySem.Env} {s : Shared} {H0 : Hp} {E0' : XK}
theorem law_2 (ve : LawE P w K mg base CR CC CV CE Pa Pl Pk cL fTo fdTo) (hr : Room 16 (xLaw P w K mg base fL cL A outer s H0 E0').A) :
    ∃ ts, PS (xLaw P w K mg base fL cL A outer s H0 E0') (law0.getD 2 pS) ts ∧ ∀ (D : Ends) (σ : L2.St) (H : Hp) (d p : Addr), Sd d σ → Bs CR CC CV Pa Pl Pk d p H →
      (∀ (σ' : L2.St) (H' : Hp) (pl : Addr) (zs : List (Addr × Rw)), Sd d σ' → σ'[16]? = some (some (.ref pl)) → Bs CR CC CV Pa Pl Pk d p H' → H' pl = some (.lst (zs.map fun z => V.ref z.1)) → pl ≠ d → (zs.map (·.2)).Nodup → (∀ z ∈ zs, z.2 ∈ Q18.U ∧ H' z.1 = some (.tup (z.2.map kV))) → D.nx σ' H') → ts D σ H := by
  have hu := hr.units
  have hu4 := Nat.lt_trans (Nat.add_lt_add_left (by decide : 4 < 64) _) hu
  obtain ⟨fR, fdR, GR, gR, kR, bR⟩ := ve.roll
  obtain ⟨fK, fdK, GK, gK, kK, bK⟩ := ve.key
  obtain ⟨f1, fd1, G1, g1, k1, b1⟩ := ve.rr
  refine ⟨_, ps_set (i := 16) scLaw.nd rfl (Or.inl rfl) (pe_callBK (ST.cr_sortTK rfl (u66 hr)) (by rfl) ve.T.sorted boot_sorted (pa_cons (pe_callTy (KG.cr_dictT rfl hu4) (by rfl) ve.T.dict (by decide +kernel)
      (pa_cons (pe_lc (own := [("k", 19)]) (g := gName 19) (tt := tYes) (te := tTup (tCons (tCall spKey [] E0 (tCons (tVar 1) tNil)) (tCons (tC (.int 1)) tNil))) rfl scLaw.nd (pi_range1 (by rfl) ve.T.range (pa_cons (pe_call GR (hr.mono (by decide)) (by rfl) gR kR bR .nil pass0 (pa_cons (pv 1) (pa_cons pe_int pa_nil))) pa_nil)) (blkOk_by (N := nLaw) (sc := defScope sLaw) (by decide +kernel))
        (fun _ _ _ _ _ => pg_name (i := 19) scLaw.nd rfl (Or.inl rfl)) (fun _ _ _ _ _ => pts_nil) (fun _ _ _ _ _ => pe_tup (pa_cons (pe_call GK (hr.mono (by decide)) (by rfl) gK kK bK .nil pass0 (pa_cons (pv 1) pa_nil)) (pa_cons pe_int pa_nil)))) pa_nil)) pa_nil) (pk_cons (pe_glob (v := .ref f1) (by rfl) g1 rfl) pk_nil)), ?_⟩
  rintro D σ H d p ⟨a0, a2, a3, a4, a5, a6, a7, a8, a9, a10, a11, a12, a13, a14, a15, a16, a17, a18, a19, a20, a21, a22, rfl⟩ b fin
  refine ⟨_, rfl, roll_step b.dice (by decide) (by decide) fun r H1 r0' r1 e1 i1 => ⟨r, rfl, by omega, by omega, fun D1 hD1 => ?_⟩⟩
  have b1' := b.roll e1 i1
  obtain ⟨nd1, np1⟩ := b1'.newL hD1
  have hsl : sizeLine = 16777216 := rfl
  refine lc_it walk_range (fun j H' => Bs CR CC CV Pa Pl Pk d p H' ∧ ∃ ts kvs, H' D1 = some (.lst (ts.map V.ref)) ∧ PairsOf H' ts kvs ∧ ts.length = j ∧ ∀ x ∈ kvs, x.1 ∈ Q18.U) ⟨b1'.ex (Ex.upd hD1), [], [], upd_same, .nil, rfl, (fun _ h => nomatch h)⟩ (fun _ _ _ _ => trivial) ?_ ?_
  · rintro j x H2 H3 hj ⟨b2, ts, kvs, hx2, hp2, lt2, hu2⟩ ⟨rfl, rfl⟩
    refine ⟨rfl, _, rfl, key_step b2.dice fun H4 kq k e4 i4 hkq hkU => ?_⟩
    have b4 := b2.roll e4 i4
    have hx4 := e4 _ _ nd1 hx2
    have hp4 := pairsOf_kt hp2 fun c xs h => e4 c _ (dice_ne b2.dice h (fun _ z => nomatch z)) h
    refine ⟨(by show 2 ≤ sizeLine; decide), fun q hq => ?_⟩
    have e5 : KS.Ex H4 (upd H4 q (.tup [.ref kq, .int 1])) := Ex.upd hq
    have hq5 : (upd H4 q (.tup [.ref kq, .int 1])) q = some (.tup [.ref kq, .int 1]) := upd_same
    generalize upd H4 q (.tup [.ref kq, .int 1]) = H5 at e5 hq5
    have hx5 := e5 _ _ hx4
    refine ⟨_, hx5, by rw [List.length_map]; omega, (b4.ex e5).updL hx5 nd1 np1, ts ++ [q], kvs ++ [(k, .int 1)], ?_, ?_, by rw [List.length_append, List.length_singleton, lt2], ?_⟩
    · rw [upd_same, List.map_append]; rfl
    · have kt : KtTup H5 (upd H5 D1 (.lst (ts.map V.ref ++ [V.ref q]))) := fun c xs h => by rw [L2.upd_ne (fun z => by rw [z, hx5] at h; cases h)]; exact h
      exact paired_app (pairsOf_kt (pairsOf_kt hp4 (Ex.tup e5)) kt) (.cons ⟨kq, kt _ _ hq5, kt _ _ (e5 _ _ hkq)⟩ .nil)
    · intro x hx
      rcases List.mem_append.mp hx with hx | hx
      · exact hu2 x hx
      · rw [List.mem_singleton.mp hx]; exact hkU
  · rintro H2 ⟨b2, ts, kvs, hx2, hp2, lt2, hu2⟩
    refine ⟨D1, ts, kvs, rfl, .inl hx2, hp2, fun a ha => ?_⟩
    obtain ⟨mk, mn⟩ := merge_keys kvs []
    have ha3 : (upd H2 a (.dT (KG.mergeT [] kvs))) a = some (.dT (KG.mergeT [] kvs)) := upd_same
    have e3 : KS.Ex H2 (upd H2 a (.dT (KG.mergeT [] kvs))) := Ex.upd ha
    have mn : ((KG.mergeT [] kvs).map (·.1)).Nodup := mn (by simp)
    have um : ∀ x ∈ (KG.mergeT [] kvs).map (·.1), x ∈ Q18.U := fun x hx => by
      rcases mk x hx with h | h
      · simp at h
      · obtain ⟨y, hy, rfl⟩ := List.mem_map.mp h
        exact hu2 y hy
    have ok : ∀ x ∈ (KG.mergeT [] kvs).map (·.1), x ≠ [] ∧ x.all okK = true ∧ x.length ≤ 1000 := fun x hx => U_ok x (um x hx)
    generalize KG.mergeT [] kvs = ms at ha3 e3 mn um ok
    generalize upd H2 a (.dT ms) = H3 at ha3 e3
    refine ⟨a, f1, ms, rk, rho (ms.map (·.1)), rfl, rfl, ha3, mn, fun x hx => shaped_rk (ok x hx).2.1, fun x _ => pure_rk x, fun x hx => ft_rk (ok x hx).1, fun x _ y _ => okL_rk x y, fun x hx y hy => by rw [ltL_rk]; exact rho_iff hx hy, ?_, fun H4 pl zs e4 hpl hpl4 pm so ht => ?_⟩
    · exact ST.keyCall_fn (k := 2) G1 b1 (hr.mono (by decide)) fun x hx t H1 Q h1 hf => rrank_step h1 (ok x hx).2.2 fun H2 y e d => hf (.ref y) H2 e d
    · have b4 := (b2.ex e3).ex e4
      refine fin _ H4 pl zs ⟨_, _, _, _, _, _, _, _, _, _, _, _, _, _, _, _, _, _, _, _, _, _, rfl⟩ rfl b4 hpl4 (fun z => ?_) (pm.nodup_iff.mpr mn) fun z hz => ⟨um _ (pm.mem_iff.mp (List.mem_map.mpr ⟨z, hz, rfl⟩)), ht z hz⟩
      obtain ⟨x, y, k, hd⟩ := (b2.ex e3).dice
      rw [z, hd] at hpl
      cases hpl
end
end K18
set_option Elab.async false
set_option linter.all false
set_option maxRecDepth 100000
set_option maxHeartbeats 4000000
namespace K18
open PySem PySem.Spec PyProof.Rows PySem.Calls L2 KB KC KD KS KM LamX R8 CP K7 TK
theorem RunAt.roll {CR m r d : Addr} {rn : Rn} {H H' : Hp} (h : RunAt CR m H r rn) (i : IsDice H d) (e : ExD d H H') : RunAt CR m H' r rn := by
  have st : ∀ b u, H b = some u → (∀ xs, u ≠ .lst xs) → H' b = some u := fun b u h n => e b u (dice_ne i h n) h
  have kt : KtTup H H' := fun b xs h => st b _ h (fun _ z => nomatch z)
  obtain ⟨dx, p, t, ts, kvs, q1, q2, q3, q4, q5, q6⟩ := h
  exact ⟨dx, p, t, ts, kvs, st _ _ q1 (fun _ z => nomatch z), st _ _ q2 (fun _ z => nomatch z), q3.kt kt, st _ _ q4 (fun _ z => nomatch z), kvT_kt q5 kt, q6⟩
theorem rF_m {p t : Addr} {n : Nat} {x : Str} (h1 : (x == ("number" : Str)) = false) (h2 : (x == ("pairs" : Str)) = false) (h3 : (x == ("table" : Str)) = false) : (rF n p t).lookup x = none := by
  simp only [List.lookup, h1, h2, h3]
def prE (zs : List (Addr × Rw)) : Tb := zs.zipIdx.map fun e => (e.1.2, some ((e.2 : Nat) : Int))
theorem prE_keys (zs : List (Addr × Rw)) : (prE zs).map (·.1) = zs.map (·.2) := by
  unfold prE
  rw [List.map_map]
  show zs.zipIdx.map ((·.2) ∘ Prod.fst) = _
  rw [← List.map_map, List.zipIdx_map_fst]
theorem prE_at {zs : List (Addr × Rw)} {j : Nat} {z : Addr × Rw} (h : zs[j]? = some z) : (prE zs)[j]? = some (z.2, some ((j : Nat) : Int)) := by
  unfold prE
  rw [List.getElem?_map, List.getElem?_zipIdx, h]
  simp
theorem prE_look {zs : List (Addr × Rw)} (nd : (zs.map (·.2)).Nodup) {j : Nat} {z : Addr × Rw} (h : zs[j]? = some z) : Q18.look (prE zs) z.2 = some (some ((j : Nat) : Int)) := by
  exact (Q18.look_mem (by show ((prE zs).map (·.1)).Nodup; rw [prE_keys]; exact nd)).mpr (List.mem_of_getElem? (prE_at h))
theorem sh_keys : ∀ {ks : List Rw}, (∀ k ∈ ks, k ∈ Q18.U) → PyData.canLayAll0 (ks.map kD) = true ∧ PyData.depthAll (ks.map kD) ≤ 4
  | [], _ => ⟨rfl, Nat.zero_le _⟩
  | k :: ks, h => by
    obtain ⟨h1, h2⟩ := sh_keys fun q hq => h q (List.mem_cons_of_mem _ hq)
    have a := sh_kU _ (h k List.mem_cons_self)
    rw [Bool.and_eq_true, decide_eq_true_eq] at a
    constructor
    · show (PyData.canLay0 (kD k) && PyData.canLayAll0 (ks.map kD)) = true
      rw [a.1, h1]; rfl
    · show max (PyData.depth (kD k)) (PyData.depthAll (ks.map kD)) ≤ 4
      omega
theorem shaped_keys {ks : List Rw} (h : ∀ k ∈ ks, k ∈ Q18.U) : SeqAt.shaped (.list (ks.map kD)) = true := by
  obtain ⟨h1, h2⟩ := sh_keys h
  show (PyData.canLayAll0 (ks.map kD) && decide (PyData.depthAll (ks.map kD) + 1 ≤ 64)) = true
  rw [h1, decide_eq_true (by omega)]; rfl
theorem dp_keys (K : PySem.W.Frag) {H : Hp} : ∀ {zs : List (Addr × Rw)}, (∀ z ∈ zs, H z.1 = some (.tup (z.2.map kV))) → DpAll K H (zs.map fun z => V.ref z.1) ((zs.map (·.2)).map kD)
  | [], _ => .nil
  | z :: zs, h => .cons (dp_k K (h z List.mem_cons_self)) (dp_keys K fun y hy => h y (List.mem_cons_of_mem _ hy))
theorem any_kD (ks : List Rw) (k : Rw) : ((ks.map kD).any fun z => PyData.eqv z (kD k)) = ks.any fun x => decide (x = k) := by
  rw [List.any_map]
  exact congrArg (fun f => ks.any f) (funext fun x => eqv_kD x k)
def fD (b : Bool) (o : Option Int) : PyData := .tuple [.bool b, oD o]
theorem eqv_fD (b : Bool) (o : Option Int) : PyData.eqv (fD b o) (fD b o) = true := by
  show ((PyData.eqv (.bool b) (.bool b)) && (PyData.eqv (oD o) (oD o) && true)) = true
  rw [eqv_oD]
  cases b <;> simp <;> rfl
theorem shaped_fD (b : Bool) (o : Option Int) : SeqAt.shaped (fD b o) = true := by
  have h := sh_oD o
  show ((true && (PyData.canLay0 (oD o) && true)) && decide (max 0 (max (PyData.depth (oD o)) 0) + 1 ≤ 64)) = true
  rw [h.1, decide_eq_true (by omega)]; rfl
section
variable {P : Program} {w : World} {K : PySem.W.Frag} {mg : Str → Option Value} {base : Heap} {CR CC CV CE Pa Pl Pk cL fTo fL : Addr} {fdTo : FuncData} {A : Around} {outer : List PySem.Env} {s : Shared} {H0 : Hp} {E0' : XK}
theorem law_34 (ve : LawE P w K mg base CR CC CV CE Pa Pl Pk cL fTo fdTo) (hr : Room 16 (xLaw P w K mg base fL cL A outer s H0 E0').A) :
    ∃ tA tB, PS (xLaw P w K mg base fL cL A outer s H0 E0') (law0.getD 3 pS) tA ∧ PS (xLaw P w K mg base fL cL A outer s H0 E0') (law0.getD 4 pS) tB ∧ ∀ (D : Ends) (σ : L2.St) (H : Hp) (d p pl : Addr) (zs : List (Addr × Rw)), Sd d σ → σ[16]? = some (some (.ref pl)) → Bs CR CC CV Pa Pl Pk d p H → H pl = some (.lst (zs.map fun z => V.ref z.1)) → pl ≠ d → (zs.map (·.2)).Nodup → (∀ z ∈ zs, z.2 ∈ Q18.U ∧ H z.1 = some (.tup (z.2.map kV))) →
      (∀ (σ' : L2.St) (H' : Hp), Sd d σ' → Bs CR CC CV Pa Pl Pk d p H' → D.nx σ' H') → tSeq tA tB D σ H := by
  have hu := hr.units
  have hu65 : (xLaw P w K mg base fL cL A outer s H0 E0').A.units + 65 < cLine := Nat.lt_trans (Nat.lt_succ_self _) (u66 hr)
  obtain ⟨fK, fdK, GK, gK, kK, bK⟩ := ve.key
  obtain ⟨fI, fdI, GI, MI, bI⟩ := ve.rinit
  obtain ⟨fF, fdF, GF, mF, bF⟩ := ve.find
  refine ⟨_, _, ps_asg (pe_tup (pa_cons (pe_make MI GI (hr.mono (by decide)) (by rfl) ve.B.gR bI .nil pass0 (pa_cons pe_int (pa_cons (pe_lc (own := [("k", 19), ("one", 18)]) (g := gTup K 2 (gCons (gName 19) (gCons (gName 18) gNil))) (tt := tYes) (te := tTup (tCons (tVar 18) (tCons (tTup (tCons (tVar 19) tNil)) tNil))) rfl scLaw.nd (pi_enum (by rfl) ve.T.enum (pa_cons (pv 16) pa_nil)) (blkOk_by (N := nLaw) (sc := defScope sLaw) (by decide +kernel))
        (fun _ _ _ _ _ => pg_tup rfl (pgs_cons (pg_name (i := 19) scLaw.nd rfl (Or.inl rfl)) (pgs_cons (pg_name (i := 18) scLaw.nd rfl (Or.inl rfl)) pgs_nil))) (fun _ _ _ _ _ => pts_nil) (fun _ _ _ _ _ => pe_tup (pa_cons (pv 18) (pa_cons (pe_tup (pa_cons (pv 19) pa_nil)) pa_nil)))) pa_nil)))
      (pa_cons (pe_call GK (hr.mono (by decide)) (by rfl) gK kK bK .nil pass0 (pa_cons (pv 1) pa_nil)) pa_nil)))
      (pg_tup rfl (pgs_cons (pg_name (i := 17) scLaw.nd rfl (Or.inl rfl)) (pgs_cons (pg_name (i := 10) scLaw.nd rfl (Or.inr rfl)) pgs_nil))),
    ps_if (pt_cmpR (op_neD hu) (pe_meth (pv 17) ve.B.clR mF GF (hr.mono (by decide)) bF .nil pass0 (pa_cons (pv 10) pa_nil))
      (pe_ifExp (pt_cmpR (op_inD hu65) (pv 10) (pv 16) (by rfl)) (pe_tup (pa_cons pe_bl (pa_cons (pe_tup (pa_cons (pe_bm PySem.F.plainAttrs_list PySem.F.slot_list_index PySem.F.type_list_index (mt_indexD hu65) (pv 16) (pa_cons (pv 10) pa_nil)) pa_nil)) pa_nil))) (pe_tup (pa_cons pe_bl (pa_cons pe_non pa_nil)))) (nomark _)) (pss_one (ps_ret pe_bl)) pss_nil, ?_⟩
  rintro D σ H d p pl zs ⟨a0, a2, a3, a4, a5, a6, a7, a8, a9, a10, a11, a12, a13, a14, a15, a16, a17, a18, a19, a20, a21, a22, rfl⟩ h16 b hpl npd nd hz fin
  have h16 : a16 = some (.ref pl) := Option.some.inj h16
  subst h16
  have hsl : sizeLine = 16777216 := rfl
  have um : ∀ k ∈ zs.map (·.2), k ∈ Q18.U := fun k hk => by
    obtain ⟨z, h1, rfl⟩ := List.mem_map.mp hk
    exact (hz z h1).1
  have lz : zs.length ≤ 21 := by
    have := nodup_le (m := Q18.U) nd um
    rw [List.length_map] at this
    exact Nat.le_trans this (by decide)
  refine ⟨_, rfl, pl, _, rfl, SqL.of hpl, fun D1 hD1 => ?_⟩
  have lzi : (zs.map fun z => V.ref z.1).length = zs.zipIdx.length := by rw [List.length_map, List.length_zipIdx]
  refine lcG walk_enum RPr (fun j => zs.zipIdx[j]?.bind fun e => some (e.1.2, some ((e.2 : Nat) : Int))) RPr.stab hD1 (by rw [List.length_map]; omega) (fun H5 e5 => SqL.of (e5 _ _ hpl)) (fun i H5 x H6 _ _ h => ypair_ex h) (fun j v H5 H6 R0 N0 hj e5 hy hno hsm => ?_) (fun H1 xs e1 hx1 hps => ?_)
  · obtain ⟨T, x, y, rfl, hT, rfl, hx, hy⟩ := hy
    have hx : V.int ((j : Nat) : Int) = x := Option.some.inj hx
    subst hx
    have hy : (zs.map fun z => V.ref z.1)[j]? = some y := hy
    rw [List.getElem?_map] at hy
    obtain ⟨z, hzj, rfl⟩ := Option.map_eq_some_iff.mp hy
    have hz1 := (hz z (List.mem_of_getElem? hzj)).2
    refine ⟨T, _, rfl, SqT.of upd_same, rfl, _, _, rfl, _, _, rfl, rfl, rfl, ?_⟩
    refine ⟨_, rfl, _, rfl, (by show 1 ≤ sizeLine; decide), fun q1 hq1 => ⟨(by show 2 ≤ sizeLine; decide), fun q2 hq2 => ?_⟩⟩
    have e6 : KS.Ex (upd H5 T (.tup [.int ((j : Nat) : Int), .ref z.1])) _ := (Ex.upd hq1).trans (Ex.upd (o := .tup [.ref z.1, .ref q1]) hq2)
    refine hsm (z.2, some ((j : Nat) : Int)) (by rw [List.getElem?_zipIdx, hzj]; simp) _ _ e6 ⟨q2, z.1, .ref q1, rfl, upd_same, e6 _ _ (Ex.upd hT _ _ (e5 _ _ hz1)), q1, rfl, Ex.upd hq2 _ _ upd_same⟩
  rw [lzi, range_fm, map_fm] at hps
  obtain ⟨ts, rfl, prs⟩ := rpr_prs hps
  have prs : Prs H1 ts (prE zs) := prs
  refine fun r dx hr1 hdx ndx => ?_
  have e2 : KS.Ex H1 (upd (upd H1 dx (.own r)) r (.ins CR dx [])) := (Ex.upd hdx).trans (Ex.upd (by rw [L2.upd_ne ndx.symm]; exact hr1))
  have hr2 : (upd (upd H1 dx (.own r)) r (.ins CR dx [])) r = some (.ins CR dx []) := upd_same
  show spRInit K CR [.ref r, .int (3 : Nat), .ref D1] _ _ _
  generalize upd (upd H1 dx (.own r)) r (.ins CR dx []) = H2 at e2 hr2
  have b2 := b.ex (e1.trans e2)
  have ndE : Q18.Nd (prE zs) := by
    show ((prE zs).map (·.1)).Nodup
    rw [prE_keys]; exact nd
  have lE : (prE zs).length ≤ 1000 := by
    have : ((prE zs).map (·.1)).length = (zs.map (·.2)).length := by rw [prE_keys]
    rw [List.length_map, List.length_map] at this
    omega
  refine rinit_step hr2 (.inl (e2 _ _ hx1)) (prs.kt (Ex.tup e2)) ndE lE fun H3 k3 run3 => ⟨rfl, ?_⟩
  have e3 : KS.Ex H1 H3 := fun c o h => k3 c o (ne_of_none h hr1) (e2 c o h)
  have b3 := b.ex (e1.trans e3)
  have run3 := run3 d (by obtain ⟨x, y, k, hd⟩ := b2.dice; rw [hd]; simp)
  have hpl3 := e3 _ _ (e1 _ _ hpl)
  have hz3 : ∀ z ∈ zs, H3 z.1 = some (.tup (z.2.map kV)) := fun z h => e3 _ _ (e1 _ _ (hz z h).2)
  refine ⟨_, rfl, key_step b3.dice fun H4 kq k e4 i4 hkq hkU => ⟨(by show 2 ≤ sizeLine; decide), fun q hq => ⟨q, _, rfl, SqT.of upd_same, rfl, _, _, rfl, _, _, rfl, rfl, ?_⟩⟩⟩
  have b4 := b3.roll e4 i4
  have run4 := run3.roll b3.dice e4
  have hpl4 := e4 _ _ npd hpl3
  have hz4 : ∀ z ∈ zs, H4 z.1 = some (.tup (z.2.map kV)) := fun z h => e4 _ _ (dice_ne b3.dice (hz3 z h) (fun _ z => nomatch z)) (hz3 z h)
  have e5 : KS.Ex H4 (upd H4 q (.tup [.ref r, .ref kq])) := Ex.upd hq
  generalize upd H4 q (.tup [.ref r, .ref kq]) = H5 at e5
  have b5 := b4.ex e5
  have run5 := run4.ex (ExtN.of e5)
  obtain ⟨dx5, p5, t5, ts5, kv5, q1, q2⟩ := id run5
  have hkq5 := e5 _ _ hkq
  refine ⟨_, rfl, r, dx5, _, rfl, q1, ?_, _, rfl, find_step run5 hkq5 fun fp fb fv hfp hfm => ?_⟩
  · exact rF_m (by decide +kernel) (by decide +kernel) (by decide +kernel)
  have e6 : KS.Ex H5 (upd H5 fp (.tup [.bl fb, fv])) := Ex.upd hfp
  have hfp6 : (upd H5 fp (.tup [.bl fb, fv])) fp = some (.tup [.bl fb, fv]) := upd_same
  generalize upd H5 fp (.tup [.bl fb, fv]) = H6 at e6 hfp6
  have e46 := e5.trans e6
  have hpl6 := e46 _ _ hpl4
  have hkq6 := e6 _ _ hkq5
  have hz6 : ∀ z ∈ zs, H6 z.1 = some (.tup (z.2.map kV)) := fun z h => e46 _ _ (hz4 z h)
  have b6 := b5.ex e6
  refine ⟨_, rfl, _, rfl, kD k, _, dp_k K hkq6, .lst (SqL.of hpl6) (dp_keys K hz6), shaped_kU hkU, shaped_keys um, _, rfl, ?_⟩
  rw [any_kD]
  by_cases c : k ∈ zs.map (·.2)
  · obtain ⟨j, hj⟩ := List.mem_iff_getElem?.mp c
    have hj' := hj
    rw [List.getElem?_map] at hj'
    obtain ⟨z, hzj, hzk⟩ := Option.map_eq_some_iff.mp hj'
    have hl := prE_look nd hzj
    rw [show z.2 = k from hzk] at hl
    have hfm : match Q18.look (prE zs) k with | some o => fb = true ∧ RV H5 fv o | none => fb = false ∧ fv = .non := hfm
    rw [hl] at hfm
    obtain ⟨rfl, hrv⟩ : fb = true ∧ RV H5 fv (some ((j : Nat) : Int)) := hfm
    refine ifT (List.any_eq_true.mpr ⟨k, c, by simp⟩) ?_
    have first : ∀ (i : Nat) (z' : PyData), i < j → ((zs.map (·.2)).map kD)[i]? = some z' → PyData.eqv z' (kD k) = false := fun i z' hi hz' => by
      rw [List.getElem?_map] at hz'
      obtain ⟨x, hx, rfl⟩ := Option.map_eq_some_iff.mp hz'
      rw [eqv_kD, decide_eq_false_iff_not]
      rintro rfl
      obtain ⟨h1, h2⟩ := List.getElem?_eq_some_iff.mp hx
      obtain ⟨h3, h4⟩ := List.getElem?_eq_some_iff.mp hj
      have := (List.nodup_iff_pairwise_ne.mp nd)
      rw [List.pairwise_iff_getElem] at this
      exact this i j h1 h3 hi (h2.trans h4.symm)
    refine ⟨_, rfl, .inl ⟨rfl, _, SqL.of hpl6⟩, _, rfl, pl, _, kD k, _, j, kD k, rfl, rfl, .lst (SqL.of hpl6) (dp_keys K hz6), dp_k K hkq6, shaped_keys um, shaped_kU hkU, by rw [List.getElem?_map, hj]; rfl, by rw [eqv_kD]; simp, first, (by show 1 ≤ sizeLine; decide), fun q8 hq8 => ⟨(by show 2 ≤ sizeLine; decide), fun q9 hq9 => ?_⟩⟩
    have e8 : KS.Ex H6 (upd H6 q8 (.tup [.int ((j : Nat) : Int)])) := Ex.upd hq8
    have e9 : KS.Ex _ (upd (upd H6 q8 (.tup [.int ((j : Nat) : Int)])) q9 (.tup [.bl true, .ref q8])) := Ex.upd hq9
    have h89 := e8.trans e9
    refine ⟨fD true (some ((j : Nat) : Int)), fD true (some ((j : Nat) : Int)), .tup (SqT.of (h89 _ _ hfp6)) (.cons (.bl _) (.cons (dp_o K ((hrv.kt (Ex.tup e6)).kt (Ex.tup h89))) .nil)), .tup (SqT.of upd_same) (.cons (.bl _) (.cons (dp_o K (o := some ((j : Nat) : Int)) ⟨q8, rfl, e9 _ _ upd_same⟩) .nil)), shaped_fD _ _, shaped_fD _ _, _, rfl, ?_⟩
    rw [eqv_fD]
    exact ifF (by simp) (fin _ _ ⟨_, _, _, _, _, _, _, _, _, _, _, _, _, _, _, _, _, _, _, _, _, _, rfl⟩ (b6.ex h89))
  · have hl : Q18.look (prE zs) k = none := Q18.look_none.mpr (by rw [prE_keys]; exact c)
    have hfm : match Q18.look (prE zs) k with | some o => fb = true ∧ RV H5 fv o | none => fb = false ∧ fv = .non := hfm
    rw [hl] at hfm
    obtain ⟨rfl, rfl⟩ : fb = false ∧ fv = .non := hfm
    refine ifF (fun h => ?_) ⟨(by show 2 ≤ sizeLine; decide), fun q9 hq9 => ?_⟩
    · obtain ⟨x, hx, hxk⟩ := List.any_eq_true.mp h
      exact c (of_decide_eq_true hxk ▸ hx)
    have e9 : KS.Ex H6 (upd H6 q9 (.tup [.bl false, .non])) := Ex.upd hq9
    refine ⟨fD false none, fD false none, .tup (SqT.of (e9 _ _ hfp6)) (.cons (.bl _) (.cons .non .nil)), .tup (SqT.of upd_same) (.cons (.bl _) (.cons .non .nil)), shaped_fD _ _, shaped_fD _ _, _, rfl, ?_⟩
    rw [eqv_fD]
    exact ifF (by simp) (fin _ _ ⟨_, _, _, _, _, _, _, _, _, _, _, _, _, _, _, _, _, _, _, _, _, _, rfl⟩ (b6.ex e9))
end
end K18
set_option Elab.async false
set_option linter.all false
set_option maxRecDepth 100000
set_option maxHeartbeats 4000000
namespace Q18
open KM
def key (i : Nat) : KM.Row := [Sum.inl ((i % 9 : Nat) : Int)]
def memK (i : Nat) : List KM.Row := (List.range (i % 8)).map fun t => key (8 * (i / 8) + t)
theorem key_U (i : Nat) (h : i < 56) : key i ∈ U := by
  have a : ∀ i < 56, (U.any fun x => decide (x = key i)) = true := by decide +kernel
  obtain ⟨x, hx, e⟩ := List.any_eq_true.mp (a i h)
  exact of_decide_eq_true e ▸ hx
theorem key_new (i : Nat) (h : i < 56) : key i ∉ memK i := fun hk => by
  have a : ∀ i < 56, ((memK i).any fun x => decide (x = key i)) = false := by decide +kernel
  have := a i h
  rw [List.any_eq_false] at this
  exact this _ hk (decide_eq_true rfl)
theorem memK_step : ∀ i < 56, i % 8 ≠ 7 → memK (i + 1) = memK i ++ [key i] := by decide +kernel
theorem memK_flush : ∀ i < 56, i % 8 = 7 → memK (i + 1) = [] := by decide +kernel
theorem memK_len (i : Nat) : (memK i).length = i % 8 := by unfold memK; rw [List.length_map, List.length_range]
structure Inv (i : Nat) (c : Cb) : Prop where
  ok : Ok c
  gk : Gk c
  mem : c.mem.map (·.1) = memK i
  len : i < 56 → c.runs.length = i / 8 ∧ c.nxt = i / 8
  val : ∀ k, (val c k).isSome = true ↔ ∃ j < i, k = key j
  fin : i = 56 → ∃ rs, c = ⟨[], [⟨7, rs⟩], 8⟩ ∧ ∀ p ∈ rs, p.2.isSome = true
theorem inv_zero : Inv 0 ⟨[], [], 0⟩ := by
  refine ⟨⟨List.nodup_nil, (by show 0 < 8; decide), (by show 0 ≤ 6; decide), (fun _ h => nomatch h), .nil, (fun _ h => nomatch h)⟩, ⟨(fun _ h => nomatch h), (fun _ h => nomatch h)⟩, rfl, fun _ => ⟨rfl, rfl⟩, fun k => ⟨fun h => (nomatch h), fun ⟨j, h, _⟩ => (nomatch h)⟩, fun h => (nomatch h)⟩
theorem inv_step {i : Nat} {c c' : Cb} (v : Inv i c) (hi : i < 56) (h : PutR c c' (key i) (some (i : Int))) : Inv (i + 1) c' := by
  obtain ⟨ok', val'⟩ := put_step v.ok h
  have gk' := gk_put v.gk (key_U i hi) h
  have hv : ∀ k, (Q18.val c' k).isSome = true ↔ ∃ j < i + 1, k = key j := fun k => by
    rw [val']
    by_cases e : k = key i
    · rw [if_pos e]
      exact ⟨fun _ => ⟨i, Nat.lt_succ_self _, e⟩, fun _ => rfl⟩
    · rw [if_neg e, v.val]
      constructor
      · rintro ⟨j, hj, r⟩
        exact ⟨j, Nat.lt_succ_of_lt hj, r⟩
      · rintro ⟨j, hj, r⟩
        rcases Nat.lt_succ_iff_lt_or_eq.mp hj with z | z
        · exact ⟨j, z, r⟩
        · exact absurd (z ▸ r) e
  obtain ⟨l1, l2⟩ := v.len hi
  have hno : look c.mem (key i) = none := look_none.mpr (by rw [v.mem]; exact key_new i hi)
  have hm1 : (put c (key i) (some (i : Int))).mem = c.mem ++ [(key i, some (i : Int))] := by
    unfold put
    rw [hno]
    rfl
  have lm : (put c (key i) (some (i : Int))).mem.length = i % 8 + 1 := by
    rw [hm1, List.length_append]
    have := congrArg List.length v.mem
    rw [List.length_map, memK_len] at this
    rw [this]; rfl
  unfold PutR at h
  by_cases c7 : i % 8 = 7
  · rw [if_pos (by omega)] at h
    have hmem : c'.mem = [] := by
      have hnd := put_nd v.ok.nd (key i) (some (i : Int))
      unfold FlushR at h
      have hne : (put c (key i) (some (i : Int))).mem ≠ [] := by rw [hm1]; simp
      rw [if_neg hne] at h
      obtain ⟨ps, _, _, h⟩ := h
      by_cases c6 : 6 < (put c (key i) (some (i : Int))).runs.length + 1
      · rw [if_pos c6] at h
        exact (join_ok h).2
      · rw [if_neg c6] at h
        rw [h]
    unfold FlushR at h
    have hne : (put c (key i) (some (i : Int))).mem ≠ [] := by rw [hm1]; simp
    rw [if_neg hne] at h
    obtain ⟨ps, pm, pa, h⟩ := h
    have hr : (put c (key i) (some (i : Int))).runs = c.runs := rfl
    have hx : (put c (key i) (some (i : Int))).nxt = c.nxt := rfl
    rw [hr, hx] at h
    by_cases c6 : i = 55
    · subst c6
      rw [if_pos (by omega)] at h
      obtain ⟨rs, hrs, e⟩ := h
      have hrn : rs ≠ [] := fun z => by
        have h1 := (hv (key 0)).mpr ⟨0, by decide, rfl⟩
        rw [z, if_pos rfl] at e
        rw [e] at h1
        exact (nomatch h1)
      rw [if_neg hrn] at e
      have l2' : c.nxt = 6 := l2
      refine ⟨ok', gk', by rw [hmem]; rfl, fun z => absurd z (by decide), hv, fun _ => ⟨rs, by rw [e, l2'], fun p hp => ?_⟩⟩
      obtain ⟨x, hx, _⟩ := (hrs.2 p.1 p.2).mp hp
      rw [hx]; rfl
    · rw [if_neg (by omega)] at h
      refine ⟨ok', gk', by rw [hmem, memK_flush i hi c7]; rfl, fun z => ?_, hv, fun z => by omega⟩
      rw [h]
      refine ⟨?_, ?_⟩
      · show (_ :: c.runs).length = _
        rw [List.length_cons]; omega
      · show c.nxt + 1 = _
        omega
  · rw [if_neg (by omega)] at h
    subst h
    refine ⟨ok', gk', by rw [hm1, List.map_append, v.mem, memK_step i hi c7]; rfl, fun z => ?_, hv, fun z => by omega⟩
    show c.runs.length = _ ∧ c.nxt = _
    omega
theorem inv_end {c : Cb} (v : Inv 56 c) : ∃ rs, c = ⟨[], [⟨7, rs⟩], 8⟩ ∧ rs.length = 9 ∧ ∀ rs', RowsOf c rs' → rs' = rs := by
  obtain ⟨rs, e, so⟩ := v.fin rfl
  have as : Asc rs := v.ok.asc ⟨7, rs⟩ (by rw [e]; exact List.mem_singleton.mpr rfl)
  have nd := asc_nd as
  have hl : ∀ k, val c k = (look rs k).join := fun k => by
    rw [e]
    unfold val cval runsVal
    show (match look [] k with | some o => some o | none => match look rs k with | some o => some o | none => runsVal [] k).join = _
    rw [show look ([] : Tb) k = none from rfl]
    cases look rs k <;> rfl
  refine ⟨rs, e, ?_, fun rs' h => asc_un h.1 as fun ⟨k, o⟩ => ?_⟩
  · have mem : ∀ k, k ∈ rs.map (·.1) ↔ k ∈ (List.range 9).map key := fun k => by
      have h1 := v.val k
      rw [hl] at h1
      constructor
      · intro hk
        obtain ⟨p, hp, rfl⟩ := List.mem_map.mp hk
        have := (look_mem nd (k := p.1) (v := p.2)).mpr hp
        rw [this] at h1
        obtain ⟨j, hj, r⟩ := h1.mp (by have := so p hp; cases hq : p.2 with
          | none => rw [hq] at this; cases this
          | some x => rfl)
        refine List.mem_map.mpr ⟨j % 9, List.mem_range.mpr (Nat.mod_lt _ (by decide)), ?_⟩
        rw [r]
        unfold key
        rw [Nat.mod_mod]
      · intro hk
        obtain ⟨j, hj, rfl⟩ := List.mem_map.mp hk
        have h2 := h1.mpr ⟨j, by have := List.mem_range.mp hj; omega, rfl⟩
        cases hq : look rs (key j) with
        | none => rw [hq] at h2; cases h2
        | some o => exact List.mem_map.mpr ⟨(key j, o), (look_mem nd).mp hq, rfl⟩
    have pm : (rs.map (·.1)).Perm ((List.range 9).map key) := (List.perm_ext_iff_of_nodup nd (by decide +kernel)).mpr mem
    have := pm.length_eq
    rw [List.length_map] at this
    rw [this]; rfl
  · rw [h.2, hl, ← look_mem nd]
    constructor
    · rintro ⟨x, rfl, h⟩
      cases hq : look rs k with
      | none => rw [hq] at h; cases h
      | some o => rw [hq] at h; exact congrArg some h
    · intro h
      have := so (k, o) ((look_mem nd).mp h)
      cases o with
      | none => cases this
      | some x => exact ⟨x, rfl, by rw [h]; rfl⟩
end Q18
set_option Elab.async false
set_option linter.all false
set_option maxRecDepth 100000
set_option maxHeartbeats 4000000
namespace K18
open PySem PySem.Spec PyProof.Rows PySem.Calls L2 KB KC KD KS KM LamX R8 CP K7 TK
def So (c : Addr) (σ : L2.St) : Prop := ∃ a0 a1 a2 a3 a4 a5 a6 a7 a8 a9 a10 a11 a12 a13 a14 a15 a16 a17 a19 a20 a21 a22 : Option V, σ = [a0, a1, a2, a3, a4, a5, a6, a7, a8, a9, a10, a11, a12, a13, a14, a15, a16, a17, some (.ref c), a19, a20, a21, a22]
section
variable {P : Program} {w : World} {K : PySem.W.Frag} {mg : Str → Option Value} {base : Heap} {CR CC CV CE Pa Pl Pk cL fTo fL : Addr} {fdTo : FuncData} {A : Around} {outer : List PySem.Env} {s : Shared} {H0 : Hp} {E0' : XK}
theorem law_round (ve : LawE P w K mg base CR CC CV CE Pa Pl Pk cL fTo fdTo) (hr : Room 16 (xLaw P w K mg base fL cL A outer s H0 E0').A) :
    ∃ ts, PSs (xLaw P w K mg base fL cL A outer s H0 E0') law0 ts ∧ ∀ (D : Ends) (σ : L2.St) (H : Hp) (d p : Addr), Sd d σ → Bs CR CC CV Pa Pl Pk d p H → (∀ (σ' : L2.St) (H' : Hp), Sd d σ' → Bs CR CC CV Pa Pl Pk d p H' → D.nx σ' H') → ts D σ H := by
  obtain ⟨t0, d0, q0⟩ := law_0 (fL := fL) (A := A) (outer := outer) (s := s) (H0 := H0) (E0' := E0') ve hr
  obtain ⟨t1, d1, q1⟩ := law_1 (fL := fL) (A := A) (outer := outer) (s := s) (H0 := H0) (E0' := E0') ve hr
  obtain ⟨t2, d2, q2⟩ := law_2 (fL := fL) (A := A) (outer := outer) (s := s) (H0 := H0) (E0' := E0') ve hr
  obtain ⟨t3, t4, d3, d4, q34⟩ := law_34 (fL := fL) (A := A) (outer := outer) (s := s) (H0 := H0) (E0' := E0') ve hr
  refine ⟨_, pss_cons d0 (pss_cons d1 (pss_cons d2 (pss_cons d3 (pss_one d4)))), ?_⟩
  intro D σ H d p hs b fin
  refine q0 _ σ H d p hs b fun σ1 H1 c m v o td nd a0 a8 a9 a10 a11 a12 a13 a14 a15 a16 a17 a18 a19 a20 a21 a22 e1 a1 => ?_
  refine q1 _ σ1 H1 d p c m v o td nd cb0 vt0 [] [] _ _ _ _ _ _ _ _ _ _ _ _ _ _ _ _ e1 a1 lp_zero fun σ2 H2 hs2 b2 => ?_
  refine q2 _ σ2 H2 d p hs2 b2 fun σ3 H3 pl zs hs3 h16 b3 hpl npd nd3 hz3 => ?_
  exact q34 _ σ3 H3 d p pl zs hs3 h16 b3 hpl npd nd3 hz3 fin
theorem law_puts (ve : LawE P w K mg base CR CC CV CE Pa Pl Pk cL fTo fdTo) (hr : Room 16 (xLaw P w K mg base fL cL A outer s H0 E0').A) :
    ∃ tA tB, PS (xLaw P w K mg base fL cL A outer s H0 E0') ((defBody sLaw).getD 1 pS) tA ∧ PS (xLaw P w K mg base fL cL A outer s H0 E0') ((defBody sLaw).getD 2 pS) tB ∧ ∀ (D : Ends) (σ : L2.St) (H : Hp), σ.length = 23 → Tabs (TT Pa Pl Pk) H →
      (∀ (σ' : L2.St) (H' : Hp) (c m : Addr) (cb : Cb), So c σ' → CabAt CR CC c m cb H' → Tabs (TT Pa Pl Pk) H' → Q18.Inv 56 cb → D.nx σ' H') → tSeq tA tB D σ H := by
  obtain ⟨f1, fd1, G1, M1, b1⟩ := ve.cinit
  obtain ⟨fP, fdP, GP, mP, bP⟩ := ve.cput
  refine ⟨_, _, ps_set (i := 18) scLaw.nd rfl (Or.inl rfl) (pe_make0 M1 G1 (hr.mono (by decide)) (by rfl) ve.B.gC b1 .nil pass0),
    ps_for PassesOwn.never rfl (pi_range1 (by rfl) ve.T.range (pa_cons (pe_op op_mul pe_int pe_int) pa_nil)) (pg_name (i := 19) scLaw.nd rfl (Or.inl rfl))
      (pss_one (ps_expr (pe_meth (pv 18) ve.B.clC mP GP (hr.mono (by decide)) bP .nil pass0 (pa_cons (pe_tup (pa_cons (pe_op op_mod (pv 19) pe_int) pa_nil)) (pa_cons (pe_tup (pa_cons (pv 19) pa_nil)) pa_nil))))), ?_⟩
  intro D σ H hσ ht fin
  obtain ⟨a0, a1, a2, a3, a4, a5, a6, a7, a8, a9, a10, a11, a12, a13, a14, a15, a16, a17, a18, a19, a20, a21, a22, rfl⟩ : ∃ a0 a1 a2 a3 a4 a5 a6 a7 a8 a9 a10 a11 a12 a13 a14 a15 a16 a17 a18 a19 a20 a21 a22 : Option V, σ = [a0, a1, a2, a3, a4, a5, a6, a7, a8, a9, a10, a11, a12, a13, a14, a15, a16, a17, a18, a19, a20, a21, a22] :=
    match σ, hσ with
    | [a0, a1, a2, a3, a4, a5, a6, a7, a8, a9, a10, a11, a12, a13, a14, a15, a16, a17, a18, a19, a20, a21, a22], _ => ⟨_, _, _, _, _, _, _, _, _, _, _, _, _, _, _, _, _, _, _, _, _, _, _, rfl⟩
  refine fun c dc hc hdc nc => ?_
  have e1 : KS.Ex H (upd (upd H dc (.own c)) c (.ins CC dc [])) := (Ex.upd hdc).trans (Ex.upd (by rw [L2.upd_ne nc.symm]; exact hc))
  have hc2 : (upd (upd H dc (.own c)) c (.ins CC dc [])) c = some (.ins CC dc []) := upd_same
  show spCInit CR CC [.ref c] _ _ _
  generalize upd (upd H dc (.own c)) c (.ins CC dc []) = H2 at e1 hc2
  refine cinit_step hc2 fun H3 m k3 hm' x3 => ⟨rfl, ?_⟩
  have e3 : KS.Ex H H3 := fun b o h => k3 b o (ne_of_none h hc) (e1 b o h)
  refine ⟨_, _, rfl, rfl, (by unfold CMul; decide), 56, rfl, by decide, by decide, for_range (n := 56) (fun j σ H' => ∃ m cb, So c σ ∧ CabAt CR CC c m cb H' ∧ Tabs (TT Pa Pl Pk) H' ∧ Q18.Inv j cb)
    ⟨m, _, ⟨_, _, _, _, _, _, _, _, _, _, _, _, _, _, _, _, _, _, _, _, _, _, rfl⟩, x3, ht.ext e3, Q18.inv_zero⟩ ?_ ?_⟩
  · rintro j σ H4 hj ⟨m4, cb, ⟨b0, b1, b2, b3, b4, b5, b6, b7, b8, b9, b10, b11, b12, b13, b14, b15, b16, b17, b19, b20, b21, b22, rfl⟩, x4, t4, iv⟩
    obtain ⟨⟨dx4, l4, rs4, g1, g2, g3⟩, mk4, g4, g5⟩ := id x4
    dsimp only [gName]
    refine ⟨_, rfl, c, dx4, _, rfl, g1, cF_m (by decide +kernel) (by decide +kernel) (by decide +kernel), _, rfl, _, _, rfl, rfl, (by show (0 : Int) < 9; decide), (by show 1 ≤ sizeLine; decide), fun q1 hq1 => ⟨_, rfl, (by show 1 ≤ sizeLine; decide), fun q2 hq2 => ?_⟩⟩
    have ek : (0 + (j : Int)) % 9 = ((j % 9 : Nat) : Int) := by omega
    have e5 : KS.Ex H4 (upd H4 q1 (.tup [.int ((0 + (j : Int)) % 9)])) := Ex.upd hq1
    have h5 : (upd H4 q1 (.tup [.int ((0 + (j : Int)) % 9)])) q1 = some (.tup ((Q18.key j).map kV)) := by
      rw [upd_same, ek]; rfl
    generalize upd H4 q1 (.tup [.int ((0 + (j : Int)) % 9)]) = H5 at e5 h5 hq2
    have e6 : KS.Ex H5 (upd H5 q2 (.tup [.int (0 + (j : Int))])) := Ex.upd hq2
    have h6 : (upd H5 q2 (.tup [.int (0 + (j : Int))])) q2 = some (.tup [.int (0 + (j : Int))]) := upd_same
    generalize upd H5 q2 (.tup [.int (0 + (j : Int))]) = H6 at e6 h6
    rw [Int.zero_add] at h6
    have x6 := x4.ex (e5.trans e6)
    refine put_step x6 ⟨iv.gk, iv.ok.nd, fun r hr => Q18.asc_nd (iv.ok.asc r hr), iv.ok.l6⟩ (e6 _ _ h5) (Q18.key_U j hj) (o := some (j : Int)) ⟨q2, rfl, h6⟩ (t4.ext (e5.trans e6)) fun cb' pr H7 m7 af => ?_
    exact ⟨m7, cb', ⟨_, _, _, _, _, _, _, _, _, _, _, _, _, _, _, _, _, _, _, _, _, _, rfl⟩, af.x, af.tb, Q18.inv_step iv hj pr⟩
  · rintro σ H4 ⟨m4, cb, hs, x4, t4, iv⟩
    exact fin σ H4 c m4 cb hs x4 t4 iv
end
end K18
set_option Elab.async false
set_option linter.all false
set_option maxRecDepth 100000
set_option maxHeartbeats 4000000
namespace K18
open PySem PySem.Spec PyProof.Rows PySem.Calls L2 KB KC KD KS KM LamX R8 CP K7 TK TL
section
variable {P : Program} {w : World} {K : PySem.W.Frag} {mg : Str → Option Value} {base : Heap} {CR CC CV CE Pa Pl Pk cL fTo fL : Addr} {fdTo : FuncData} {A : Around} {outer : List PySem.Env} {s : Shared} {H0 : Hp} {E0' : XK}
abbrev EJ (K : PySem.W.Frag) (CE : Addr) (Q : VK) : XK := fun cls _ H' => ∃ b, PySem.W.exmOne K cls (.ref CE) = some b ∧ (b = true → Q (.str "SnapshotError") H') ∧ (b = false → False)
def lamsOf : Stmt → List Expr
  | .Assign _ (.List es _) _ => es
  | _ => []
abbrev noE : Expr := .Constant (.int 0) 0 ⟨0, 0, 0, 0⟩
abbrev lamE (i : Nat) : Expr := (lamsOf ((defBody sLaw).getD 3 pS)).getD i noE
def lamP : Expr → Arguments
  | .Lambda a _ _ _ => a
  | _ => { posonlyargs := [], args := [], vararg := none, kwonlyargs := [], kw_defaults := [], kwarg := none, defaults := [] }
def lamB : Expr → Expr
  | .Lambda _ b _ _ => b
  | e => e
def lamSc : Expr → Scope
  | .Lambda _ _ sc _ => sc
  | _ => defScope sLaw
def BadL (P : Program) (w : World) (K : PySem.W.Frag) (mg : Str → Option Value) (base : Heap) (CE Pa Pl Pk f : Addr) (H : Hp) : Prop :=
  ∀ (H' : Hp) (Q : VK), ExtN H H' → Tabs (TT Pa Pl Pk) H' → (∀ H'', ExtN H' H'' → Tabs (TT Pa Pl Pk) H'' → Q (.str "SnapshotError") H'') → LamAt P w K mg base 10 f H' Q (EJ K CE Q)
theorem BadL.exN {f : Addr} {H H1 : Hp} (b : BadL P w K mg base CE Pa Pl Pk f H) (e : ExtN H H1) : BadL P w K mg base CE Pa Pl Pk f H1 := fun H' Q e' t h => b H' Q (e.trans e') t h
theorem ne_tblL {f c' : Addr} {q : Str} {pa : Arguments} {bd : Expr} {sc : Scope} : ∀ ps, LamO f q pa bd sc c' ≠ .tbl ps := fun ps z => by
  unfold LamO at z
  cases z
theorem ne_tblC {q : Str} {c' : Addr} : ∀ ps, CodeO c' q ≠ .tbl ps := fun ps z => codeO_ne ps z
abbrev Beh1 (P : Program) (w : World) (K : PySem.W.Frag) (mg : Str → Option Value) (base : Heap) (CE Pa Pl Pk f c' : Addr) (i : Nat) : Prop :=
  ∀ (H' : Hp) (Q : VK) (E : XK), Tabs (TT Pa Pl Pk) H' → (∀ H'', ExtN H' H'' → Tabs (TT Pa Pl Pk) H'' → E (.ref CE) none H'') → ∀ (A : Around) (outer : List Env) (s : Shared), Room 10 (A.deeper (envOfC qL (lamSc (lamE i)) s.heap.objs.size f (.ref c'))) →
      ∃ t, PE (cxOf (L2.CX P w) P w K mg base [] qL (lamSc (lamE i)) f (.ref c') A outer s H' E) (lamB (lamE i)) t ∧ t (start [] []) H' Q
theorem bad_of {i : Nat} {f c' : Addr} {H : Hp} (hf : H f = some (LamO f qL (lamP (lamE i)) (lamB (lamE i)) (lamSc (lamE i)) c')) (hc : H c' = some (CodeO c' qL)) (S : FnScope [] [] (lamSc (lamE i)))
    (hb : ∀ pm ctv, bindArgs (PySem.W.kla_fn "<lambda>" qL (lamP (lamE i)) (lamB (lamE i)) (lamSc (lamE i)) [] pm (.ref c') ctv) ⟨[], []⟩ = pure [])
    (beh : Beh1 P w K mg base CE Pa Pl Pk f c' i) (J : TxtX K mg CE) : BadL P w K mg base CE Pa Pl Pk f H := by
  intro H' Q e tb h
  refine ⟨c', qL, _, _, _, [], e _ _ hf ne_tblL, e _ _ hc ne_tblC, S, hb, fun E hE A outer s hr => beh H' Q E tb (fun H'' ex t2 => hE _ _ _ ⟨true, J.e, fun _ => h H'' ex t2, fun z => nomatch z⟩) A outer s hr⟩
theorem vault_new {H : Hp} {N : V → Hp → Prop} {v dv : Addr} (hv : H v = none) (hdv : H dv = none) (nv : dv ≠ v) (fin : ∀ H', KS.Ex H H' → (∀ m, VAt CR CV m v vt0 H') → N .non H') : spVInit CR CV [.ref v] (upd (upd H dv (.own v)) v (.ins CV dv [])) N E0 := by
  have e4 : KS.Ex H (upd (upd H dv (.own v)) v (.ins CV dv [])) := (Ex.upd hdv).trans (Ex.upd (by rw [L2.upd_ne nv.symm]; exact hv))
  have hv4 : (upd (upd H dv (.own v)) v (.ins CV dv [])) v = some (.ins CV dv []) := upd_same
  generalize upd (upd H dv (.own v)) v (.ins CV dv []) = H4 at e4 hv4
  exact vinit_step hv4 fun H5 k5 x5 => fin H5 (fun b o h => k5 b o (ne_of_none h hv) (e4 b o h)) x5
theorem beh_0 (ve : LawE P w K mg base CR CC CV CE Pa Pl Pk cL fTo fdTo) {f c' : Addr} : Beh1 P w K mg base CE Pa Pl Pk f c' 0 := fun H' Q E tb hE A outer s hr => by
  obtain ⟨f1, fd1, G1, M1, b1⟩ := ve.vinit
  obtain ⟨fF, fdF, GF, mF, bF⟩ := ve.forget
  refine ⟨_, pe_meth (pe_make0 M1 G1 (hr.mono (by decide)) (by rfl) ve.B.gV b1 .nil pass0) ve.B.clV mF GF (hr.mono (by decide)) bF .nil (passes_call (takes_of rfl rfl rfl rfl) (fun _ _ _ _ h => h)) (pa_cons pe_str pa_nil), ?_⟩
  refine fun v dv hv hdv nv => vault_new hv hdv nv fun H5 e5 x5 => ⟨rfl, ?_⟩
  obtain ⟨dx, vr, vs, ev⟩ := (x5 0).ins
  refine ⟨v, dx, _, rfl, ev, vF_m (by decide +kernel) (by decide +kernel) (by decide +kernel), forget_step (x5 0) (by decide +kernel) (by decide) (fun _ h => nomatch h) (by decide) List.nodup_nil (tb.ext e5) (fun _ => hE _ (ExtN.of e5) (tb.ext e5)) (fun z => nomatch z)⟩
theorem beh_1 (ve : LawE P w K mg base CR CC CV CE Pa Pl Pk cL fTo fdTo) {f c' : Addr} : Beh1 P w K mg base CE Pa Pl Pk f c' 1 := fun H' Q E tb hE A outer s hr => by
  obtain ⟨f1, fd1, G1, M1, b1⟩ := ve.vinit
  obtain ⟨fF, fdF, GF, mF, bF⟩ := ve.restored
  refine ⟨_, pe_meth (pe_make0 M1 G1 (hr.mono (by decide)) (by rfl) ve.B.gV b1 .nil pass0) ve.B.clV mF GF (hr.mono (by decide)) bF .nil (passes_call (takes_of rfl rfl rfl rfl) (fun _ _ _ _ h => h)) (pa_cons pe_str pa_nil), ?_⟩
  refine fun v dv hv hdv nv => vault_new hv hdv nv fun H5 e5 x5 => ⟨rfl, ?_⟩
  obtain ⟨dx, vr, vs, ev⟩ := (x5 0).ins
  refine ⟨v, dx, _, rfl, ev, vF_m (by decide +kernel) (by decide +kernel) (by decide +kernel), restored_step (x5 0) (by decide +kernel) (by decide) (fun _ => hE _ (ExtN.of e5) (tb.ext e5)) (fun z => nomatch z)⟩
theorem beh_2 (ve : LawE P w K mg base CR CC CV CE Pa Pl Pk cL fTo fdTo) {f c' : Addr} : Beh1 P w K mg base CE Pa Pl Pk f c' 2 := fun H' Q E tb hE A outer s hr => by
  obtain ⟨f1, fd1, G1, M1, b1⟩ := ve.vinit
  obtain ⟨fF, fdF, GF, mF, bF⟩ := ve.keep
  refine ⟨_, pe_meth (pe_make0 M1 G1 (hr.mono (by decide)) (by rfl) ve.B.gV b1 .nil pass0) ve.B.clV mF GF (hr.mono (by decide)) bF .nil (passes_call (takes_of rfl rfl rfl rfl) (fun _ _ _ _ h => h)) (pa_cons pe_str (pa_cons (pe_tup (pa_cons (pe_tup (pa_cons pe_int pa_nil)) (pa_cons (pe_tup pa_nil) pa_nil))) pa_nil)), ?_⟩
  refine fun v dv hv hdv nv => vault_new hv hdv nv fun H5 e5 x5 => ⟨rfl, ?_⟩
  obtain ⟨dx, vr, vs, ev⟩ := (x5 0).ins
  refine ⟨v, dx, _, rfl, ev, vF_m (by decide +kernel) (by decide +kernel) (by decide +kernel), (by show 1 ≤ sizeLine; decide), fun qa hqa => ⟨(by show 0 ≤ sizeLine; decide), fun qb hqb => ⟨(by show 2 ≤ sizeLine; decide), fun q hq => ?_⟩⟩⟩
  have e6 : KS.Ex H5 (upd H5 qa (.tup [.int 0])) := Ex.upd hqa
  have e7 : KS.Ex (upd H5 qa (.tup [.int 0])) (upd (upd H5 qa (.tup [.int 0])) qb (.tup [])) := Ex.upd hqb
  have e8 : KS.Ex (upd (upd H5 qa (.tup [.int 0])) qb (.tup [])) (upd (upd (upd H5 qa (.tup [.int 0])) qb (.tup [])) q (.tup [.ref qa, .ref qb])) := Ex.upd hq
  have e58 := (e6.trans e7).trans e8
  have t8 := (tb.ext e5).ext e58
  refine keep_step (ns := [0]) (rs := []) (trs := []) ((x5 0).ex e58) upd_same (e8 _ _ (e7 _ _ upd_same)) (e8 _ _ upd_same) .nil List.nodup_nil (by decide +kernel) (by decide) (by decide) (by decide) t8 (fun _ H9 e9 t9 => hE _ ((ExtN.of (e5.trans e58)).trans e9) t9) (fun z => nomatch z)
theorem toldV_step {f : Addr} {H : Hp} {Q : VK} {E : XK} (b : BadL P w K mg base CE Pa Pl Pk f H) (t : Tabs (TT Pa Pl Pk) H) (q : ∀ H', ExtN H H' → Tabs (TT Pa Pl Pk) H' → Q (.str "SnapshotError") H') : spToldV P w K mg base 10 CE "SnapshotError" [.ref f] H Q E := by
  unfold spToldV
  exact ⟨f, rfl, b H Q (ExtN.refl H) t q⟩
end
end K18
set_option Elab.async false
set_option linter.all false
set_option maxRecDepth 100000
set_option maxHeartbeats 4000000
namespace K18
open PySem PySem.Spec PyProof.Rows PySem.Calls L2 KB KC KD KS KM LamX R8 CP K7 TK TL
section
variable {P : Program} {w : World} {K : PySem.W.Frag} {mg : Str → Option Value} {base : Heap} {CR CC CV CE Pa Pl Pk cL fTo fL : Addr} {fdTo : FuncData} {A : Around} {outer : List PySem.Env} {s : Shared} {H0 : Hp} {E0' : XK}
theorem law_bad (ve : LawE P w K mg base CR CC CV CE Pa Pl Pk cL fTo fdTo) (hr : Room 16 (xLaw P w K mg base fL cL A outer s H0 E0').A) :
    ∃ tA tB, PS (xLaw P w K mg base fL cL A outer s H0 E0') ((defBody sLaw).getD 3 pS) tA ∧ PS (xLaw P w K mg base fL cL A outer s H0 E0') ((defBody sLaw).getD 4 pS) tB ∧ ∀ (D : Ends) (σ : L2.St) (H : Hp) (c m : Addr) (cb : Cb), So c σ → CabAt CR CC c m cb H → Tabs (TT Pa Pl Pk) H →
      (∀ (σ' : L2.St) (H' : Hp), So c σ' → CabAt CR CC c m cb H' → Tabs (TT Pa Pl Pk) H' → D.nx σ' H') → tSeq tA tB D σ H := by
  have GT : FnOk P w K mg base CX0 12 fTo fdTo ["what"] (spToldV P w K mg base 10 CE "SnapshotError") := ok_toldV ve.told scTold rfl (Or.inl rfl) (fun f => rfl) (by rfl) ve.J.g (by decide +kernel) (by decide +kernel) (by decide +kernel)
  have bT : L2.Binds K fdTo ["what"] [] := ve.told.bindsN (ps := ["what"]) fun _ _ _ _ _ _ us hl => match us, hl with | [_], _ => rfl
  have hu := hr.units
  have U := tabLu (Pa := Pa) (Pl := Pl) ve.ap
  obtain ⟨tR, hR⟩ := ve.mr
  obtain ⟨tM, hM⟩ := ve.mm
  refine ⟨_, _, ps_set (i := 21) scLaw.nd rfl (Or.inl rfl) (pe_lst (pa_cons (pe_lamV (T := TT Pa Pl Pk) ve.TBl rfl tabLo U rfl (by decide +kernel) rfl) (pa_cons (pe_lamV (T := TT Pa Pl Pk) ve.TBl rfl tabLo U rfl (by decide +kernel) rfl) (pa_cons (pe_lamV (T := TT Pa Pl Pk) ve.TBl rfl tabLo U rfl (by decide +kernel) rfl) pa_nil)))),
    ps_if (PW.pt (pw_or (pt_cmpR (op_neD hu) (pe_lc (own := [("f", 22)]) (g := gName 22) (tt := tTest (tOp rNe (tCall (spToldV P w K mg base 10 CE "SnapshotError") [] E0 (tCons (tVar 22) tNil)) (tC (.str "SnapshotError")))) (te := tC (.int 1)) rfl scLaw.nd
          (pi_list (pv 21)) (blkOk_by (N := nLaw) (sc := defScope sLaw) (by decide +kernel)) (fun _ _ _ _ _ => pg_name (i := 22) scLaw.nd rfl (Or.inl rfl)) (fun _ _ _ _ _ => pts_one (pt_cmpR op_ne (pe_call GT (hr.mono (by decide)) (by rfl) ve.gTold ve.told.kp bT .nil pass0 (pa_cons (pv 22) pa_nil)) pe_str (nomark _))) (fun _ _ _ _ _ => pe_int)) (pe_lst pa_nil) (nomark _))
        (pw_or1 (pt_cmpR (op_neD hu) (pe_tup (pa_cons (pe_glob (v := .int 6) (by rfl) hR ⟨tR, rfl⟩) (pa_cons (pe_glob (v := .int 8) (by rfl) hM ⟨tM, rfl⟩) pa_nil))) (pe_tup (pa_cons pe_int (pa_cons pe_int pa_nil))) (nomark _))))) (pss_one (ps_ret pe_bl)) pss_nil, ?_⟩
  rintro D σ H c m cb ⟨a0, a1, a2, a3, a4, a5, a6, a7, a8, a9, a10, a11, a12, a13, a14, a15, a16, a17, a19, a20, a21, a22, rfl⟩ x ht fin
  have q : (Str.ofString "law" ++ Str.ofString ".<locals>.") ++ Str.ofString "<lambda>" = qL := qLaw
  refine ⟨ht, fun f0 c0 H1 e0 t0 hf0 hc0 n0 => ⟨t0, fun f1 c1 H2 e1 t1 hf1 hc1 n1 => ⟨t1, fun f2 c2 H3 e2 t2 hf2 hc2 n2 => ⟨(by show 3 ≤ sizeLine; decide), fun l hl => ?_⟩⟩⟩⟩
  have b0 : BadL P w K mg base CE Pa Pl Pk f0 H1 := bad_of (i := 0) (by rw [← q]; exact hf0) (by rw [← q]; exact hc0) ⟨rfl, rfl, rfl, by decide +kernel, rfl, by decide +kernel, by decide +kernel⟩ (fun _ _ => rfl) (beh_0 ve) ve.J
  have b1 : BadL P w K mg base CE Pa Pl Pk f1 H2 := bad_of (i := 1) (by rw [← q]; exact hf1) (by rw [← q]; exact hc1) ⟨rfl, rfl, rfl, by decide +kernel, rfl, by decide +kernel, by decide +kernel⟩ (fun _ _ => rfl) (beh_1 ve) ve.J
  have b2 : BadL P w K mg base CE Pa Pl Pk f2 H3 := bad_of (i := 2) (by rw [← q]; exact hf2) (by rw [← q]; exact hc2) ⟨rfl, rfl, rfl, by decide +kernel, rfl, by decide +kernel, by decide +kernel⟩ (fun _ _ => rfl) (beh_2 ve) ve.J
  have el : ExtN H3 (upd H3 l (.lst [.ref f0, .ref f1, .ref f2])) := ExtN.of (Ex.upd hl)
  have hl4 : (upd H3 l (.lst [.ref f0, .ref f1, .ref f2])) l = some (.lst ([f0, f1, f2].map V.ref)) := upd_same
  have t4 := t2.ext (Ex.upd (o := .lst [.ref f0, .ref f1, .ref f2]) hl)
  have hb : ∀ f ∈ [f0, f1, f2], BadL P w K mg base CE Pa Pl Pk f (upd H3 l (.lst [.ref f0, .ref f1, .ref f2])) := fun f hf => by
    simp only [List.mem_cons, List.not_mem_nil, or_false] at hf
    rcases hf with rfl | rfl | rfl
    · exact b0.exN ((e1.trans e2).trans el)
    · exact b1.exN (e2.trans el)
    · exact b2.exN el
  have x4 := x.exN (((e0.trans e1).trans e2).trans el)
  generalize upd H3 l (.lst [.ref f0, .ref f1, .ref f2]) = H4 at hl4 t4 hb x4
  refine ⟨_, rfl, l, rfl, ⟨_, SqL.of hl4⟩, fun D1 hD1 => ?_⟩
  have eD : ExtN H4 (upd H4 D1 (.lst [])) := ExtN.of (Ex.upd hD1)
  refine lc_it walk_list (fun j H' => ExtN H4 H' ∧ Tabs (TT Pa Pl Pk) H' ∧ H' D1 = some (.lst [])) ⟨eD, t4.ext (Ex.upd hD1), upd_same⟩ (fun j H' _ h => SqL.of (h.1 _ _ hl4 (fun _ z => nomatch z))) ?_ ?_
  · rintro j v H5 H6 hj ⟨e5, t5, h5⟩ ⟨rfl, hx⟩
    rw [List.getElem?_map] at hx
    obtain ⟨f, hf, rfl⟩ := Option.map_eq_some_iff.mp hx
    refine ⟨rfl, _, rfl, toldV_step ((hb f (List.mem_of_getElem? hf)).exN e5) t5 fun H7 e7 t7 => ⟨rfl, _, rfl, ?_⟩⟩
    exact ifF (by decide) ⟨e5.trans e7, t7, e7 _ _ h5 (fun _ z => nomatch z)⟩
  · rintro H5 ⟨e5, t5, h5⟩
    have x5 := x4.exN e5
    refine ⟨(by show 0 ≤ sizeLine; decide), fun l2 hl2 => ?_⟩
    have e6 : KS.Ex H5 (upd H5 l2 (.lst [])) := Ex.upd hl2
    refine ⟨.list (([] : List Int).map PyData.int), .list (([] : List Int).map PyData.int), .lst (SqL.of (e6 _ _ h5)) .nil, .lst (SqL.of upd_same) .nil, sh_intsL _, sh_intsL _, _, rfl, ?_⟩
    rw [eqv_intsL]
    refine ifF (by simp) ?_
    refine ⟨(by show 2 ≤ sizeLine; decide), fun q1 hq1 => ⟨(by show 2 ≤ sizeLine; decide), fun q2 hq2 => ?_⟩⟩
    have e7 : KS.Ex (upd H5 l2 (.lst [])) (upd (upd H5 l2 (.lst [])) q1 (.tup [.int 6, .int 8])) := Ex.upd hq1
    have e8 : KS.Ex (upd (upd H5 l2 (.lst [])) q1 (.tup [.int 6, .int 8])) (upd (upd (upd H5 l2 (.lst [])) q1 (.tup [.int 6, .int 8])) q2 (.tup [.int 6, .int 8])) := Ex.upd hq2
    refine ⟨.tuple ([6, 8].map PyData.int), .tuple ([6, 8].map PyData.int), .tup (SqT.of (e8 _ _ upd_same)) (dp_intsL [6, 8]), .tup (SqT.of upd_same) (dp_intsL [6, 8]), by decide +kernel, by decide +kernel, _, rfl, ?_⟩
    refine ifF (by decide +kernel) ?_
    have e := (e6.trans e7).trans e8
    exact fin _ _ ⟨_, _, _, _, _, _, _, _, _, _, _, _, _, _, _, _, _, _, _, _, _, _, rfl⟩ (x5.ex e) (t5.ext e)
end
end K18
set_option Elab.async false
set_option linter.all false
set_option maxRecDepth 100000
set_option maxHeartbeats 4000000
namespace K18
open PySem PySem.Spec PyProof.Rows PySem.Calls L2 KB KC KD KS KM LamX R8 CP K7 TK TL
section
variable {P : Program} {w : World} {K : PySem.W.Frag} {mg : Str → Option Value} {base : Heap} {CR CC CV CE Pa Pl Pk cL fTo fL : Addr} {fdTo : FuncData} {A : Around} {outer : List PySem.Env} {s : Shared} {H0 : Hp} {E0' : XK}
theorem law_ret (ve : LawE P w K mg base CR CC CV CE Pa Pl Pk cL fTo fdTo) (hr : Room 16 (xLaw P w K mg base fL cL A outer s H0 E0').A) :
    ∃ tA, PS (xLaw P w K mg base fL cL A outer s H0 E0') ((defBody sLaw).getD 5 pS) tA ∧ ∀ (D : Ends) (σ : L2.St) (H : Hp) (c m : Addr) (cb : Cb), So c σ → CabAt CR CC c m cb H → Tabs (TT Pa Pl Pk) H → Q18.Inv 56 cb → (∀ H', D.rt (.bl true) H') → tA D σ H := by
  have hu := hr.units
  obtain ⟨fR, fdR, GR, mR, bR⟩ := ve.crows
  refine ⟨_, ps_ret (pe_and (pe_cmpR (op_eqD hu) (pe_lc (own := [("run", 17)]) (g := gName 17) (tt := tYes) (te := tFld K (tVar 17) "number") rfl scLaw.nd (pi_list (pf 18)) (blkOk_by (N := nLaw) (sc := defScope sLaw) (by decide +kernel))
        (fun _ _ _ _ _ => pg_name (i := 17) scLaw.nd rfl (Or.inl rfl)) (fun _ _ _ _ _ => pts_nil) (fun _ _ _ _ _ => pf 17)) (pe_lst (pa_cons pe_int pa_nil)) (nomark _))
      (pe_and (pe_cmpR op_eq (pf 18) pe_int (nomark _))
      (pe_and (pe_cmpR (op_eqD hu) (pe_fld (pe_ix ix_listD (pf 18) pe_int (fun _ _ => rfl)) rfl) (pe_meth0 (pv 18) ve.B.clC mR GR (hr.mono (by decide)) bR .nil pass0) (nomark _))
      (pe_one (pe_cmpR op_eq (pe_callB call_len_seq (by rfl) ve.T.len PySem.boot_len (pa_cons (pe_meth0 (pv 18) ve.B.clC mR GR (hr.mono (by decide)) bR .nil pass0) pa_nil)) pe_int (nomark _)))))), ?_⟩
  rintro D σ H c m cb ⟨a0, a1, a2, a3, a4, a5, a6, a7, a8, a9, a10, a11, a12, a13, a14, a15, a16, a17, a19, a20, a21, a22, rfl⟩ x ht iv fin
  obtain ⟨rs, rfl, l9, un⟩ := Q18.inv_end iv
  have kr : Keys rs := iv.gk.run ⟨7, rs⟩ (List.mem_singleton.mpr rfl)
  obtain ⟨⟨dx, l, as, g1, g2, g3⟩, mk, g4, g5⟩ := id x
  obtain ⟨r, rfl, hra⟩ : ∃ r, as = [r] ∧ RunAt CR m H r ⟨7, rs⟩ := by
    have g3 : Paired (RunAt CR m H) as [⟨7, rs⟩] := g3
    cases g3 with
    | cons h t => cases t; exact ⟨_, rfl, h⟩
  obtain ⟨dxr, pr, tr, tsr, kvr, q1, q2, q3, _⟩ := hra
  refine ⟨_, rfl, c, CC, dx, _, _, rfl, g1, ve.B.clC, ve.B.cR, rfl, l, rfl, ⟨_, SqL.of g2⟩, fun D1 hD1 => ?_⟩
  refine lcG walk_list RInt (fun j => ([7] : List Int)[j]?.bind fun n => some n) RInt.stab hD1 (by show 1 ≤ 1000000; decide) (fun H5 e5 => SqL.of (e5 _ _ g2)) (fun i H5 x H6 _ _ h => yat_ex h) (fun j y H5 H6 R0 N0 hj e5 hy hno hsm => ?_) (fun H1 xs e1 hx1 hps => ?_)
  · obtain ⟨rfl, hxi⟩ := hy
    have j0 : j = 0 := by
      have : j < 1 := hj
      omega
    subst j0
    have hxi : V.ref r = y := Option.some.inj hxi
    subst hxi
    refine ⟨rfl, _, rfl, r, CR, dxr, _, _, rfl, e5 _ _ q1, ve.B.clR, ve.B.rN, rfl, ?_⟩
    exact hsm 7 rfl _ _ (Ex.refl _) rfl
  have hps : Paired (RInt H1) xs [7] := hps
  rw [rint_map hps] at hx1
  refine ⟨(by show 1 ≤ sizeLine; decide), fun l2 hl2 => ?_⟩
  have e2 : KS.Ex H1 (upd H1 l2 (.lst [.int 7])) := Ex.upd hl2
  have h2 : (upd H1 l2 (.lst [.int 7])) l2 = some (.lst ([7].map V.int)) := upd_same
  generalize upd H1 l2 (.lst [.int 7]) = H2 at e2 h2
  refine ⟨.list (([7] : List Int).map PyData.int), .list (([7] : List Int).map PyData.int), .lst (SqL.of (e2 _ _ hx1)) (dp_intsL _), .lst (SqL.of h2) (dp_intsL _), sh_intsL _, sh_intsL _, ?_⟩
  rw [eqv_intsL]
  have e12 := e1.trans e2
  refine ⟨_, rfl, ifT (by simp) ?_⟩
  refine ⟨_, rfl, c, CC, dx, _, _, rfl, e12 _ _ g1, ve.B.clC, ve.B.cN, rfl, rfl, _, rfl, ifT (by show decide (V.int ((8 : Nat) : Int) = V.int 8) = true; decide) ?_⟩
  refine ⟨_, rfl, c, CC, dx, _, _, rfl, e12 _ _ g1, ve.B.clC, ve.B.cR, rfl, l, _, _, .ref r, rfl, rfl, e12 _ _ g2, rfl, r, CR, dxr, _, _, rfl, e12 _ _ q1, ve.B.clR, ve.B.rP, rfl, ?_⟩
  have x2 := x.ex e12
  have nr : ∀ y ∈ ([⟨7, rs⟩] : List Rn), Q18.Nd y.prs := fun y hy => Q18.asc_nd (iv.ok.asc y hy)
  refine ⟨_, rfl, c, dx, _, rfl, e12 _ _ g1, cF_m (by decide +kernel) (by decide +kernel) (by decide +kernel), rows_step x2 iv.gk iv.ok.nd nr (by show 1 ≤ 1000; decide) (ht.ext e12) fun rs' hrs H3 q3' ts3 e3 t3 hq3 prs3 => ?_⟩
  have er := un rs' hrs
  subst er
  have hpr3 := e3 _ _ (e12 _ _ q2) (fun _ z => nomatch z)
  have prs' := (q3.kt (Ex.tup e12)).kt fun b xs h => e3 _ _ h (fun _ z => nomatch z)
  refine ⟨_, _, .tup (SqT.of hpr3) (dp_prs K prs'), .tup (SqT.of hq3) (dp_prs K prs3), shaped_prs kr, shaped_prs kr, ?_⟩
  rw [eqv_prs]
  refine ⟨_, rfl, ifT (by simp) ?_⟩
  have x3 := x2.exN e3
  obtain ⟨⟨dx3, l3, as3, y1, y2, y3⟩, mk3, y4, y5⟩ := id x3
  refine ⟨_, rfl, c, dx3, _, rfl, y1, cF_m (by decide +kernel) (by decide +kernel) (by decide +kernel), rows_step x3 iv.gk iv.ok.nd nr (by show 1 ≤ 1000; decide) t3 fun rs4 hrs4 H4 q4 ts4 e4 t4 hq4 prs4 => ?_⟩
  have er := un rs4 hrs4
  subst er
  have lt := paired_len prs4
  refine ⟨q4, _, rfl, .inr (SqT.of hq4), rfl, ?_⟩
  rw [show decide (V.int ((ts4.map V.ref).length : Nat) = V.int 9) = true from by rw [List.length_map, lt, l9]; rfl]
  exact fin H4
end
end K18
set_option Elab.async false
set_option linter.all false
set_option maxRecDepth 100000
set_option maxHeartbeats 4000000
namespace K18
open PySem PySem.Spec PyProof.Rows PySem.Calls L2 KB KC KD KS KM LamX R8 CP K7 TK TL
def spLaw (K : PySem.W.Frag) (Pa Pl Pk : Addr) : Sp := fun vs H Q _ => ∃ (a : Addr) (ns : List Int), vs = [.ref a] ∧ SqL K H a (ns.map V.int) ∧ Tabs (TT Pa Pl Pk) H ∧ ∀ H', Q (.bl true) H'
theorem rounds_step {K : PySem.W.Frag} {H : Hp} {s : Addr} {ns : List Int} {Q : VK} {E : XK} (h : SqL K H s (ns.map V.int)) (fin : ∀ H' p d, KS.Ex H H' → H' p = some (.lst [.ref d]) → IsDice H' d → Q (.ref p) H') : spRounds K [.ref s, .int 1] H Q E := by
  unfold spRounds
  exact ⟨s, ns, rfl, h, fin⟩
theorem Sd.len {d : Addr} {σ : L2.St} (h : Sd d σ) : σ.length = 23 := by
  obtain ⟨_, _, _, _, _, _, _, _, _, _, _, _, _, _, _, _, _, _, _, _, _, _, rfl⟩ := h
  rfl
section
variable {P : Program} {w : World} {K : PySem.W.Frag} {mg : Str → Option Value} {base : Heap} {CR CC CV CE Pa Pl Pk cL fTo fL : Addr} {fdTo fdL : FuncData}
theorem ok_law (F : FnP K "law" "law" sLaw [] fL fdL) (hc : fdL.code = .ref cL) (ve : LawE P w K mg base CR CC CV CE Pa Pl Pk cL fTo fdTo) : FnOk P w K mg base CX0 17 fL fdL ["script"] (spLaw K Pa Pl Pk) := by
  refine okC F hc scLaw (fun vs H Q E h => ?_) (fun A outer s H vs Q E hr h => ?_)
  · obtain ⟨_, _, rfl, _⟩ := h; rfl
  · obtain ⟨a, ns, rfl, hS, ht, fin⟩ := h
    obtain ⟨fR, fdR, GR, gR, kR, bR⟩ := ve.rounds
    obtain ⟨t0, d0, q0⟩ := law_round (fL := fL) (A := A) (outer := outer) (s := s) (H0 := H) (E0' := E) ve hr
    obtain ⟨t1, t2, d1, d2, q12⟩ := law_puts (fL := fL) (A := A) (outer := outer) (s := s) (H0 := H) (E0' := E) ve hr
    obtain ⟨t3, t4, d3, d4, q34⟩ := law_bad (fL := fL) (A := A) (outer := outer) (s := s) (H0 := H) (E0' := E) ve hr
    obtain ⟨t5, d5, q5⟩ := law_ret (fL := fL) (A := A) (outer := outer) (s := s) (H0 := H) (E0' := E) ve hr
    refine ⟨_, PSs.nox <| (pss_cons (ps_for PassesOwn.never rfl (pi_list (pe_call GR (hr.mono (by decide)) (by rfl) gR kR bR .nil pass0 (pa_cons (pv 0) (pa_cons pe_int pa_nil)))) (pg_name (i := 1) scLaw.nd rfl (Or.inr rfl)) d0) (pss_cons d1 (pss_cons d2 (pss_cons d3 (pss_cons d4 (pss_one d5))))) : PSs (xLaw P w K mg base fL cL A outer s H E) (defBody sLaw) _), ?_⟩
    refine ⟨_, rfl, rounds_step hS fun H1 p d e1 hp hd => ⟨p, rfl, ⟨_, SqL.of hp⟩, for_list (xs := [V.ref d]) (fun i σ H2 => Tabs (TT Pa Pl Pk) H2 ∧ H2 p = some (.lst [.ref d]) ∧ σ.length = 23 ∧ (i = 0 → σ = L2.start nLaw [.ref a] ∧ H2 = H1)) ⟨ht.ext e1, hp, rfl, fun _ => ⟨rfl, rfl⟩⟩ (fun i σ H2 _ h => SqL.of h.2.1) ?_ ?_⟩⟩
    · rintro i x σ H2 hx ⟨tt, hp2, _, hi⟩
      cases i with
      | succ i => cases hx
      | zero =>
        obtain ⟨rfl, rfl⟩ := hi rfl
        cases hx
        have B0 : Bs CR CC CV Pa Pl Pk d p H2 := ⟨hd, tt, hp2⟩
        dsimp only [gName]
        refine q0 _ _ H2 d p ⟨_, _, _, _, _, _, _, _, _, _, _, _, _, _, _, _, _, _, _, _, _, _, rfl⟩ B0 fun σ' H3 hs b3 => ?_
        exact ⟨b3.tabs, b3.hp, hs.len, fun z => nomatch z⟩
    · rintro σ H2 ⟨tt, hp2, hl, _⟩
      refine q12 _ σ H2 hl tt fun σ3 H3 c m cb hs x3 t3 iv => ?_
      refine q34 _ σ3 H3 c m cb hs x3 t3 fun σ4 H4 hs4 x4 t4 => ?_
      exact q5 _ σ4 H4 c m cb hs4 x4 t4 iv fun H' => fin H'
end
end K18
set_option Elab.async false
set_option linter.all false
set_option maxRecDepth 100000
set_option maxHeartbeats 0
namespace K18
open PySem PySem.Spec PyProof.Rows L2
def dD (x : Str) (st : Stmt) : He.DefD := ⟨(x, none), x, x, defArgs st, defBody st, defScope st, [], []⟩
def dM (c m q : Str) (st : Stmt) : He.DefD := ⟨(c, some m), m, q, defArgs st, defBody st, defScope st, [], []⟩
def fnL : List He.DefD := [dD "_law_dice" sDice, dD "_law_roll" sRoll, dD "_law_rounds" sRounds, dD "_law_told" sTold, dD "_law_key" sKey, dD "_law_pairs" sPairs, dD "law" sLaw, dD "value_rank" sVRank, dD "row_rank" sRRank, dD "ascending" sAsc,
  dM "Run" "__init__" "Run.__init__" (sUM 0), dM "Run" "find" "Run.find" (sUM 1),
  dM "Cabinet" "__init__" "Cabinet.__init__" (sCM 0), dM "Cabinet" "put" "Cabinet.put" (sCM 1), dM "Cabinet" "row_at" "Cabinet.row_at" (sCM 2), dM "Cabinet" "flush" "Cabinet.flush" (sCM 3), dM "Cabinet" "add_run" "Cabinet.add_run" (sCM 4), dM "Cabinet" "join_all" "Cabinet.join_all" (sCM 6), dM "Cabinet" "rows" "Cabinet.rows" (sCM 7), dM "Cabinet" "tell" "Cabinet.tell" (sCM 8),
  dM "Vault" "__init__" "Vault.__init__" (sVM 0), dM "Vault" "known" "Vault.known" (sVM 1), dM "Vault" "keep" "Vault.keep" (sVM 2), dM "Vault" "forget" "Vault.forget" (sVM 3), dM "Vault" "need" "Vault.need" (sVM 4), dM "Vault" "restored" "Vault.restored" (sVM 5)]
def faL : List He.Fa := [.glo "_law_dice", .glo "_law_roll", .glo "_law_rounds", .glo "_law_told", .glo "_law_key", .glo "_law_pairs", .glo "law", .glo "value_rank", .glo "row_rank", .glo "ascending", .glo "Run", .glo "Cabinet", .glo "Vault", .glo "SnapshotError",
  .free "abs", .free "int", .free "range", .free "dict", .free "list", .free "tuple", .free "len", .free "sorted", .free "max", .free "min", .free "enumerate", .free "isinstance", .free "str", .free "any", .free "reversed",
  .int "MOST_RUNS" 6, .int "MOST_MEMORY" 8,
  .cls "Run", .noat "Run" "number", .noat "Run" "pairs", .noat "Run" "table",
  .cls "Cabinet", .noat "Cabinet" "memory", .noat "Cabinet" "runs", .noat "Cabinet" "next_number",
  .cls "Vault", .noat "Vault" "runs", .noat "Vault" "tellings", .noat "Vault" "next_number",
  .mkr "Run", .mkr "Cabinet", .mkr "Vault",
  .meth "Run" "find", .meth "Cabinet" "put", .meth "Cabinet" "row_at", .meth "Cabinet" "flush", .meth "Cabinet" "add_run", .meth "Cabinet" "join_all", .meth "Cabinet" "rows", .meth "Cabinet" "tell",
  .meth "Vault" "known", .meth "Vault" "keep", .meth "Vault" "forget", .meth "Vault" "need", .meth "Vault" "restored", .exc "SnapshotError", .exm "SnapshotError" "SnapshotError" true]
def tA : He.Defn := ("ascending", none)
def tL : He.Defn := ("law", none)
def tK : He.Defn := ("Vault", some "keep")
def tfL : List He.Defn := [tA, tL, tK]
def exL (K : PySem.W.Frag) : Bool := ((He.cT K tA).2 != (He.cT K tL).2) && ((He.cT K tA).2 != (He.cT K tK).2) && ((He.cT K tL).2 != (He.cT K tK).2)
abbrev RL : PySem.W.OpenRow := PySem.W.OpenLaw.row PySem.Challenge.rw_streamstack_k18_cabinets_and_what_change
abbrev hkL : PySem.W.Hook := He.hookX 6 faL fnL [] tfL exL
def obL (s : PySem.W.SharedT) : He.AlX := He.obsX 6 faL fnL [] tfL exL (HandSHeadRun.getT s)
theorem obL_eq (s : PySem.W.SharedT) : obL s = hkL.obs s.abs := He.obsX_eq (HandSHeadRun.getT_eq s)
def looseL : List Str := ["StreamError", "SnapshotError", "value_rank", "row_rank", "MOST_RUNS", "MOST_MEMORY", "Run", "Cabinet", "ascending", "Vault", "_law_dice", "_law_roll", "_law_rounds", "_law_told", "_law_key", "_law_pairs"]
theorem runL (w : World) : HandSHeadRun.RunEq RL (PySem.W.view RL.prog [20]) hkL obL 3000 looseL w := by
  intro os
  kernel_rfl
end K18
set_option Elab.async false
set_option linter.all false
set_option maxRecDepth 100000
set_option maxHeartbeats 4000000
namespace K18
open PySem PySem.Spec PyProof.Rows PySem.Calls L2 KB KC KD KS KM LamX R8 CP K7 TK TL
theorem code_at {K : PySem.W.Frag} {x q : Str} {st : Stmt} {dvs : List V} {p : He.Defn} {fd : FuncData} (F : FnP K x q st dvs (He.fAd K p) fd) : fd.code = .ref (He.cT K p).1 := by
  obtain ⟨oc, od, dV, kV, doc, pm, an, cdv, ct, osl, rfl, lk, hcd, _, _⟩ := F.ex
  obtain ⟨c, e⟩ := He.codeIn_ref hcd
  subst e
  have z : He.codeOf K p = c := He.codeOf_eq lk rfl
  show Value.ref c = Value.ref (He.codeOf K p)
  rw [z]
def pickL (K : PySem.W.Frag) : List (Addr × Addr) := [He.cT K tA, He.cT K tL, He.cT K tK]
abbrev pr : Program := PySem.Challenge.rw_streamstack_k18_cabinets_and_what_change.prog
theorem lawAt {w : World} {mg : Str → Option Value} {fa : Addr} {h : Heap} {K : PySem.W.Frag} (X : K.In h) (G : h.Ns mainGlobals mg) (hmg : mg ("law" : Str) = some (.ref fa)) (c : He.SaysX faL fnL [] tfL exL w h K) :
    LawAtS PySem.Challenge.rw_streamstack_k18_cabinets_and_what_change w K CX0 17 63 "script" mg fa h := by
  have D := c.t.d
  obtain ⟨fd0, F0⟩ := D.def_ 0 (d := dD "_law_dice" sDice) rfl
  obtain ⟨fd1, F1⟩ := D.def_ 1 (d := dD "_law_roll" sRoll) rfl
  obtain ⟨fd2, F2⟩ := D.def_ 2 (d := dD "_law_rounds" sRounds) rfl
  obtain ⟨fd3, F3⟩ := D.def_ 3 (d := dD "_law_told" sTold) rfl
  obtain ⟨fd4, F4⟩ := D.def_ 4 (d := dD "_law_key" sKey) rfl
  obtain ⟨fd5, F5⟩ := D.def_ 5 (d := dD "_law_pairs" sPairs) rfl
  obtain ⟨fd6, F6⟩ := D.def_ 6 (d := dD "law" sLaw) rfl
  obtain ⟨fd7, F7⟩ := D.def_ 7 (d := dD "value_rank" sVRank) rfl
  obtain ⟨fd8, F8⟩ := D.def_ 8 (d := dD "row_rank" sRRank) rfl
  obtain ⟨fd9, F9⟩ := D.def_ 9 (d := dD "ascending" sAsc) rfl
  obtain ⟨fd10, F10⟩ := D.def_ 10 (d := dM "Run" "__init__" "Run.__init__" (sUM 0)) rfl
  obtain ⟨fd11, F11⟩ := D.def_ 11 (d := dM "Run" "find" "Run.find" (sUM 1)) rfl
  obtain ⟨fd12, F12⟩ := D.def_ 12 (d := dM "Cabinet" "__init__" "Cabinet.__init__" (sCM 0)) rfl
  obtain ⟨fd13, F13⟩ := D.def_ 13 (d := dM "Cabinet" "put" "Cabinet.put" (sCM 1)) rfl
  obtain ⟨fd14, F14⟩ := D.def_ 14 (d := dM "Cabinet" "row_at" "Cabinet.row_at" (sCM 2)) rfl
  obtain ⟨fd15, F15⟩ := D.def_ 15 (d := dM "Cabinet" "flush" "Cabinet.flush" (sCM 3)) rfl
  obtain ⟨fd16, F16⟩ := D.def_ 16 (d := dM "Cabinet" "add_run" "Cabinet.add_run" (sCM 4)) rfl
  obtain ⟨fd17, F17⟩ := D.def_ 17 (d := dM "Cabinet" "join_all" "Cabinet.join_all" (sCM 6)) rfl
  obtain ⟨fd18, F18⟩ := D.def_ 18 (d := dM "Cabinet" "rows" "Cabinet.rows" (sCM 7)) rfl
  obtain ⟨fd19, F19⟩ := D.def_ 19 (d := dM "Cabinet" "tell" "Cabinet.tell" (sCM 8)) rfl
  obtain ⟨fd20, F20⟩ := D.def_ 20 (d := dM "Vault" "__init__" "Vault.__init__" (sVM 0)) rfl
  obtain ⟨fd21, F21⟩ := D.def_ 21 (d := dM "Vault" "known" "Vault.known" (sVM 1)) rfl
  obtain ⟨fd22, F22⟩ := D.def_ 22 (d := dM "Vault" "keep" "Vault.keep" (sVM 2)) rfl
  obtain ⟨fd23, F23⟩ := D.def_ 23 (d := dM "Vault" "forget" "Vault.forget" (sVM 3)) rfl
  obtain ⟨fd24, F24⟩ := D.def_ 24 (d := dM "Vault" "need" "Vault.need" (sVM 4)) rfl
  obtain ⟨fd25, F25⟩ := D.def_ 25 (d := dM "Vault" "restored" "Vault.restored" (sVM 5)) rfl
  have gl : ∀ (i : Nat) (x : Str), faL[i]? = some (.glo x) → mg x = some (.ref (He.ga K x)) := fun i x h => He.glo_ok X G (D.fact i h)
  have fr : ∀ (i : Nat) (x : Str), faL[i]? = some (.free x) → mg x = none := fun i x h => He.free_ok X G (D.fact i h)
  have me : ∀ (i : Nat) (C m : Str), faL[i]? = some (.meth C m) → Meth K (He.ga K C) m (He.ma K (He.ga K C) m) := fun i C m h => He.meth_ok (D.fact i h)
  have na : ∀ (i : Nat) (C m : Str), faL[i]? = some (.noat C m) → NoAttr K (He.ga K C) m := fun i C m h => He.noat_ok (D.fact i h)
  have T : TxtL mg := ⟨fr 14 _ rfl, fr 15 _ rfl, fr 16 _ rfl, fr 17 _ rfl, fr 18 _ rfl, fr 19 _ rfl, fr 20 _ rfl, fr 21 _ rfl, fr 22 _ rfl, fr 23 _ rfl, fr 24 _ rfl, fr 25 _ rfl, fr 26 _ rfl, fr 27 _ rfl, fr 28 _ rfl⟩
  have mr : ∃ t, mg "MOST_RUNS" = some (.int 6 t) := He.int_ok X G (D.fact 29 (f := .int "MOST_RUNS" 6) rfl)
  have mm : ∃ t, mg "MOST_MEMORY" = some (.int 8 t) := He.int_ok X G (D.fact 30 (f := .int "MOST_MEMORY" 8) rfl)
  have B : TxtC K mg (He.ga K "Run") (He.ga K "Cabinet") (He.ga K "Vault") := ⟨He.cls_ok (D.fact 31 (f := .cls "Run") rfl), na 32 _ _ rfl, na 33 _ _ rfl, na 34 _ _ rfl, He.cls_ok (D.fact 35 (f := .cls "Cabinet") rfl), na 36 _ _ rfl, na 37 _ _ rfl, na 38 _ _ rfl, He.cls_ok (D.fact 39 (f := .cls "Vault") rfl), na 40 _ _ rfl, na 41 _ _ rfl, na 42 _ _ rfl, gl 10 _ rfl, gl 11 _ rfl, gl 12 _ rfl⟩
  obtain ⟨x1, x2, x3, x4⟩ := He.exc_ok (D.fact 59 (f := .exc "SnapshotError") rfl)
  have J : TxtX K mg (He.ga K "SnapshotError") := ⟨gl 13 _ rfl, x1, x2, x3, x4, He.exm_ok (D.fact 60 (f := .exm "SnapshotError" "SnapshotError" true) rfl)⟩
  have MR := He.mkr_ok (D.fact 43 (f := .mkr "Run") rfl)
  have MC := He.mkr_ok (D.fact 44 (f := .mkr "Cabinet") rfl)
  have MV := He.mkr_ok (D.fact 45 (f := .mkr "Vault") rfl)
  have hex := c.more
  unfold exL at hex
  rw [Bool.and_eq_true, Bool.and_eq_true, bne_iff_ne, bne_iff_ne, bne_iff_ne] at hex
  have ap : Apt (He.cT K tA).2 (He.cT K tL).2 (He.cT K tK).2 := ⟨hex.1.1, hex.1.2, hex.2⟩
  have e := hmg.symm.trans (gl 6 _ rfl)
  cases e
  have memL : ∀ p ∈ pickL K, ∃ q ∈ tfL, p = He.cT K q := fun p hp => by
    rcases List.mem_cons.mp hp with rfl | hp
    · exact ⟨tA, List.mem_cons_self .., rfl⟩
    rcases List.mem_cons.mp hp with rfl | hp
    · exact ⟨tL, List.mem_cons_of_mem _ (List.mem_cons_self ..), rfl⟩
    rcases List.mem_cons.mp hp with rfl | hp
    · exact ⟨tK, List.mem_cons_of_mem _ (List.mem_cons_of_mem _ (List.mem_cons_self ..)), rfl⟩
    cases hp
  refine ⟨fd6, pickL K, spLaw K (He.cT K tA).2 (He.cT K tL).2 (He.cT K tK).2, fun p hp => ?_, fun p hp => ?_, fun p hp => ?_, fun s u => ?_, fun H a ns hl hb hT hS => ?_, fun base KB GB TB => ?_⟩
  · obtain ⟨q, hq, rfl⟩ := memL p hp
    exact c.empty q hq
  · obtain ⟨q, hq, rfl⟩ := memL p hp
    exact c.out q hq
  · obtain ⟨q, hq, rfl⟩ := memL p hp
    exact PySem.W.codeHd_of_K X (c.hd q hq)
  · exact F6.bindsA (ps := ["script"]) (fun _ _ _ _ _ _ us hl => match us, hl with | [_], _ => rfl) s [u] rfl
  · refine ⟨a, ns, rfl, hS, fun p hp => ?_, fun _ => rfl⟩
    rcases List.mem_cons.mp hp with rfl | hp
    · exact TabS.nil (hT (He.cT K tA) (List.mem_cons_self ..))
    rcases List.mem_cons.mp hp with rfl | hp
    · exact TabS.nil (hT (He.cT K tL) (List.mem_cons_of_mem _ (List.mem_cons_self ..)))
    rcases List.mem_cons.mp hp with rfl | hp
    · exact TabS.nil (hT (He.cT K tK) (List.mem_cons_of_mem _ (List.mem_cons_of_mem _ (List.mem_cons_self ..))))
    cases hp
  · have tbA := TB (He.cT K tA) (List.mem_cons_self ..)
    have tbL := TB (He.cT K tL) (List.mem_cons_of_mem _ (List.mem_cons_self ..))
    have tbK := TB (He.cT K tK) (List.mem_cons_of_mem _ (List.mem_cons_of_mem _ (List.mem_cons_self ..)))
    have roll : Cal pr w K mg base 1 "_law_roll" ["dice", "many"] spRoll := ⟨_, _, ok_roll F1 T, gl 1 _ rfl, F1.kp, F1.bindsN fun _ _ _ _ _ _ us hl => match us, hl with | [_, _], _ => rfl⟩
    have rr : Cal pr w K mg base 2 "row_rank" ["row"] (spRRank K) := ⟨_, _, ok_rrank F8 T F7 (gl 7 _ rfl), gl 8 _ rfl, F8.kp, F8.bindsN fun _ _ _ _ _ _ us hl => match us, hl with | [_], _ => rfl⟩
    have asc : Cal pr w K mg base 6 "ascending" ["table"] (spAsc (He.cT K tA).2 (He.cT K tL).2 (He.cT K tK).2) := ⟨_, _, ok_asc F9 (code_at (p := tA) (st := sAsc) (dvs := []) F9) tbA ap T F8 (gl 8 _ rfl) F7 (gl 7 _ rfl), gl 9 _ rfl, F9.kp, F9.bindsN fun _ _ _ _ _ _ us hl => match us, hl with | [_], _ => rfl⟩
    have GRi : FnOk pr w K mg base CX0 1 _ fd10 ["self", "number", "pairs"] (spRInit K (He.ga K "Run")) := ok_rinit F10 B T
    have ri : CalI pr w K mg base (He.ga K "Run") CX0 1 ["self", "number", "pairs"] (spRInit K (He.ga K "Run")) := ⟨_, _, GRi, MR, F10.bindsN fun _ _ _ _ _ _ us hl => match us, hl with | [_, _, _], _ => rfl⟩
    have GFi : FnOk pr w K mg base CX0 1 _ fd11 ["self", "key"] (spFind (He.ga K "Run")) := ok_find F11 B
    have bFi : L2.Binds K fd11 ["self", "key"] [] := F11.bindsN fun _ _ _ _ _ _ us hl => match us, hl with | [_, _], _ => rfl
    have ci : CalI pr w K mg base (He.ga K "Cabinet") CX0 1 ["self"] (spCInit (He.ga K "Run") (He.ga K "Cabinet")) := ⟨_, _, ok_cinit F12 B, MC, F12.bindsN fun _ _ _ _ _ _ us hl => match us, hl with | [_], _ => rfl⟩
    have GAd : FnOk pr w K mg base CX0 3 _ fd16 ["self", "pairs"] (spAddRun (He.ga K "Run") (He.ga K "Cabinet")) := ok_addrun F16 B ri
    have bAd : L2.Binds K fd16 ["self", "pairs"] [] := F16.bindsN fun _ _ _ _ _ _ us hl => match us, hl with | [_, _], _ => rfl
    have GRo : FnOk pr w K mg base CX0 8 _ fd18 ["self"] (spRows (He.ga K "Run") (He.ga K "Cabinet") (He.cT K tA).2 (He.cT K tL).2 (He.cT K tK).2) := ok_rows F18 B T asc
    have bRo : L2.Binds K fd18 ["self"] [] := F18.bindsN fun _ _ _ _ _ _ us hl => match us, hl with | [_], _ => rfl
    have GJa : FnOk pr w K mg base CX0 9 _ fd17 ["self"] (spJoinAll (He.ga K "Run") (He.ga K "Cabinet") (He.cT K tA).2 (He.cT K tL).2 (He.cT K tK).2) := ok_joinall F17 B (me 52 _ _ rfl) GRo bRo (me 50 _ _ rfl) GAd bAd
    have bJa : L2.Binds K fd17 ["self"] [] := F17.bindsN fun _ _ _ _ _ _ us hl => match us, hl with | [_], _ => rfl
    have GFl : FnOk pr w K mg base CX0 10 _ fd15 ["self"] (spFlush (He.ga K "Run") (He.ga K "Cabinet") (He.cT K tA).2 (He.cT K tL).2 (He.cT K tK).2) := ok_flush F15 B T mr asc (me 51 _ _ rfl) GJa bJa (me 50 _ _ rfl) GAd bAd
    have bFl : L2.Binds K fd15 ["self"] [] := F15.bindsN fun _ _ _ _ _ _ us hl => match us, hl with | [_], _ => rfl
    have GNv : FnOk pr w K mg base (L2.CX pr w) 1 _ fd24 ["self", "name"] (spNeedV (He.ga K "Run") (He.ga K "Vault") (He.ga K "SnapshotError")) := ok_needv F24 B J
    have bNv : L2.Binds K fd24 ["self", "name"] [] := F24.bindsN fun _ _ _ _ _ _ us hl => match us, hl with | [_, _], _ => rfl
    have ve : LawE pr w K mg base (He.ga K "Run") (He.ga K "Cabinet") (He.ga K "Vault") (He.ga K "SnapshotError") (He.cT K tA).2 (He.cT K tL).2 (He.cT K tK).2 (He.cT K tL).1 (He.ga K "_law_told") fd3 :=
      { T := T, B := B, J := J, TBl := tbL, ap := ap
        rounds := ⟨_, _, ok_rounds F2 T F0 (gl 0 _ rfl), gl 2 _ rfl, F2.kp, F2.bindsN fun _ _ _ _ _ _ us hl => match us, hl with | [_, _], _ => rfl⟩
        roll := roll
        key := ⟨_, _, ok_key F4 roll, gl 4 _ rfl, F4.kp, F4.bindsN fun _ _ _ _ _ _ us hl => match us, hl with | [_], _ => rfl⟩
        pairs := ⟨_, _, ok_pairs F5 T rr, gl 5 _ rfl, F5.kp, F5.bindsN fun _ _ _ _ _ _ us hl => match us, hl with | [_], _ => rfl⟩
        rr := rr
        rinit := ri
        cinit := ci
        vinit := ⟨_, _, ok_vinit F20 B, MV, F20.bindsN fun _ _ _ _ _ _ us hl => match us, hl with | [_], _ => rfl⟩
        cput := ⟨_, _, ok_put F13 B T mm (me 49 _ _ rfl) GFl bFl, me 47 _ _ rfl, F13.bindsN fun _ _ _ _ _ _ us hl => match us, hl with | [_, _, _], _ => rfl⟩
        cflush := ⟨_, _, GFl, me 49 _ _ rfl, bFl⟩
        crows := ⟨_, _, GRo, me 52 _ _ rfl, bRo⟩
        crowat := ⟨_, _, ok_rowat F14 B (me 46 _ _ rfl) GFi bFi, me 48 _ _ rfl, F14.bindsN fun _ _ _ _ _ _ us hl => match us, hl with | [_, _], _ => rfl⟩
        ctell := ⟨_, _, ok_tell F19 B T (me 49 _ _ rfl) GFl bFl, me 53 _ _ rfl, F19.bindsN fun _ _ _ _ _ _ us hl => match us, hl with | [_, _], _ => rfl⟩
        find := ⟨_, _, GFi, me 46 _ _ rfl, bFi⟩
        known := ⟨_, _, ok_known F21 B T, me 54 _ _ rfl, F21.bindsN fun _ _ _ _ _ _ us hl => match us, hl with | [_], _ => rfl⟩
        keep := ⟨_, _, ok_keep F22 (code_at (p := tK) (st := sVM 2) (dvs := []) F22) ⟨tbK.code, tbK.bm, tbK.gP⟩ ap B J T, me 55 _ _ rfl, F22.bindsN fun _ _ _ _ _ _ us hl => match us, hl with | [_, _, _], _ => rfl⟩
        forget := ⟨_, _, ok_forget F23 B (me 57 _ _ rfl) GNv bNv, me 56 _ _ rfl, F23.bindsN fun _ _ _ _ _ _ us hl => match us, hl with | [_, _], _ => rfl⟩
        restored := ⟨_, _, ok_restored F25 B (me 57 _ _ rfl) GNv bNv ci, me 58 _ _ rfl, F25.bindsN fun _ _ _ _ _ _ us hl => match us, hl with | [_, _], _ => rfl⟩
        told := F3
        gTold := gl 3 _ rfl
        mr := mr
        mm := mm }
    exact ok_law F6 (code_at (p := tL) (st := sLaw) (dvs := []) F6) ve
end K18
open PySem PySem.W PySem.Calls PyProof.Rows
theorem PySem.Challenge.cw_streamstack_k18_cabinets_and_what_change_holds : PySem.Challenge.rw_streamstack_k18_cabinets_and_what_change.Holds := by
  w_on; o_law
  refine HandSHeadRun.head_any (r := OpenLaw.row PySem.Challenge.rw_streamstack_k18_cabinets_and_what_change) (q := view (OpenLaw.row PySem.Challenge.rw_streamstack_k18_cabinets_and_what_change).prog [20]) (H := K18.hkL) (ob := K18.obL) (M := 3000) (loose := K18.looseL) (d := HandSHeadRun.topDef (OpenLaw.row PySem.Challenge.rw_streamstack_k18_cabinets_and_what_change).prog 20) (kwd := []) K18.obL_eq
    (by kernel_rfl) (fun s => by kernel_rfl) K18.runL (by kernel_rfl) (by kernel_rfl) (by kernel_rfl) (by rfl) (by first | assumption | decide +kernel) (by decide +kernel) ⟨rfl, rfl, rfl, rfl, rfl, by decide +kernel⟩ ?hw ?hc
  case hw => w_witness2
  case hc =>
    refine LamX.walk_ofTsE (l := PySem.Challenge.rw_streamstack_k18_cabinets_and_what_change) (n := 63) (k := 17) (x := "script") (CX := fun _ => L2.CX0) rfl (by decide) (by kernel_rfl) ⟨rfl, by decide, by decide⟩ ?F (fun _ _ _ _ _ z => z)
    intro w mg fa h Y G hmg0
    obtain ⟨K, KX, c⟩ := Y
    have hmg : mg ("law" : PySem.Str) = some (.ref fa) := by
      have e : (HandSHeadRun.topDef (OpenLaw.row PySem.Challenge.rw_streamstack_k18_cabinets_and_what_change).prog 20).name = ("law" : PySem.Str) := by kernel_rfl
      rw [← e]
      exact hmg0
    exact ⟨K, KX, K18.lawAt KX G hmg c⟩
