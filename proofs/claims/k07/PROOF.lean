import PyProof.Rows.All
import Wide.All
import OpenK.AllK
import Wide.FinOn
import HandS.ForMost
import HandS.Lambda
import HandS.AnyAll
import HandS.EndTab
import HandS.TupAny
import HandS.Zip
import HandS.DictTup
import HandS.Codes
import HandS.ExcOwn
import HandS.TryOnly
import HandS.IsInst
import HandS.Wide
import HandS.DictComp
import HandS.DictEq
import HandS.ListItems
import KE.LtSeq
import KE.KSortTup
import HandS.SortOrd
import HandS.SortKw
import HandS.SortRule
import KE.KDictPairs
import HandS.Defaults
import HandS.WordsExc
import HandS.Deep
import HandS.Conv
import PyProof.P3In
import KE.DatumOrd
import KE.SortKeyHeap
import KE.DataMinKey
import PySem.Challenge.RW_streamstack_k07_members_who_share
import HandS.Walk
import HandS.RaiseMore
import HandS.FStr
import HandS.RevRange
import HandS.WordsDict
import HandS.More
import HandS.Small
import HandS.SortInts
import KE.KStateDown
import Lean
import HandS.Ends
import HandS.Words
import HandS.Head0
import HandS.Head1
import HandS.Head2
import HandS.HeadEnd
import HandS.HeadHook1
import HandS.HeadHook2
import HandS.HeadHook3
import HandS.HeadHook4
import HandS.HeadWalk
set_option Elab.async false
set_option linter.all false
set_option maxRecDepth 100000
set_option maxHeartbeats 4000000
namespace KB
open PySem PySem.Spec PyProof.Rows L2
section
variable {prog : Program} {w : World} {K : Type} [DecidableEq K] {knd : HeapKind prog w K} {A : Around} {E : Value → Shared → Prop} {s : Shared}
def hitH (ys : List (K × Addr × Value)) (eqb : Value → Value → Bool) (x : K × Addr × Value) : Bool :=
  match atKey ys x.1 with
  | none => false
  | some q => eqb x.2.2 q.2
theorem samePairsH {nm : String} {a b : Addr} {xs ys : List (K × Addr × Value)} {eqb : Value → Value → Bool} {Q : Bool → Shared → Prop} (ha : (a == sysModules) = false) (hb : (b == sysModules) = false)
    (da : s.heap.DictOfH knd a xs) (db : s.heap.DictOfH knd b ys) (hu : knd.room A)
    (heq : ∀ x ∈ xs, ∀ q, atKey ys x.1 = some q → ∀ (R : Bool → Shared → Prop) (F : Value → Shared → Prop), R (eqb x.2.2 q.2) s → wpAny (model prog w) A (eqBool x.2.2 q.2) R F s)
    (h : Q (xs.length == ys.length && xs.all (hitH ys eqb)) s) :
    wpAny (model prog w) A (Builtin.Dict.samePairs nm a b) Q E s := by
  obtain ⟨oa, es, ep, hoa, _, hda, hka, hia, hna⟩ := da
  obtain ⟨ob, es', ep', hob, _, hdb, hkb, hib, hnb⟩ := db
  have hla : xs.length = es.size := (size_of_entries hka).symm
  have hlb : ys.length = es'.size := (size_of_entries hkb).symm
  rw [hla, hlb] at h
  unfold Builtin.Dict.samePairs Builtin.Dict.showsAll
  rw [if_neg (show ¬ (a == sysModules) = true by rw [ha]; exact Bool.false_ne_true), if_neg (show ¬ (b == sysModules) = true by rw [hb]; exact Bool.false_ne_true)]
  refine wpAny_bind (wpAny_pure (wpAny_bind (wpAny_pure ?_)))
  refine wpAny_bind (wpAny_dictEntries hoa hda ?_)
  dsimp only
  refine wpAny_bind (wpAny_dictEntries hob hdb ?_)
  by_cases hsz : es.size = es'.size
  case neg =>
    rw [if_pos (by simpa using hsz)]
    have hbf : (es.size == es'.size) = false := by simpa using hsz
    rw [hbf, Bool.false_and] at h
    exact wpAny_bind (wpAny_rule (wpAny_pure h))
  case pos =>
    have h' : Q (xs.all (hitH ys eqb)) s := by simpa [hsz] using h
    rw [if_neg (by rw [hsz]; simp)]
    refine wpAny_bind (wpAny_dictEpoch hoa hda ?_)
    refine wpAny_bind ?_
    rw [Std.Legacy.Range.forIn_eq_forIn_range']
    simp only [Std.Legacy.Range.size, Nat.sub_zero, Nat.add_sub_cancel, Nat.div_one]
    refine wpAny_forIn_list _
      (fun rest q s' => s' = s ∧ q = (none, ()) ∧ ∃ i, rest = List.range' i (es.size - i) ∧ i ≤ es.size ∧ (xs.drop i).all (hitH ys eqb) = xs.all (hitH ys eqb))
      _ ?_ ?_ _ _ ⟨rfl, rfl, 0, by simp, Nat.zero_le _, by simp⟩
    · rintro x rest q s' ⟨rfl, rfl, i, hr, hi, hpre⟩
      have hlt : i < es.size := by
        rcases Nat.lt_or_ge i es.size with h | h
        · exact h
        · rw [Nat.sub_eq_zero_of_le h] at hr; simp at hr
      obtain ⟨rfl, hrest⟩ : x = i ∧ rest = List.range' (i + 1) (es.size - (i + 1)) := by
        have e : es.size - i = (es.size - (i + 1)) + 1 := by omega
        rw [e, List.range'_succ] at hr
        injection hr with h1 h2
        exact ⟨h1, h2⟩
      refine wpAny_bind (wpAny_dictEntries hoa hda ?_)
      have hlt' : x < xs.length := by rw [hla]; exact hlt
      obtain ⟨k, c, v, hkv⟩ : ∃ k c v, xs[x] = (k, c, v) := ⟨_, _, _, rfl⟩
      have hdrop : xs.drop x = (k, c, v) :: xs.drop (x + 1) := by rw [← hkv]; exact List.drop_eq_getElem_cons hlt'
      have hget : xs[x]? = some (k, c, v) := by rw [List.getElem?_eq_getElem hlt', hkv]
      have hmem : (k, c, v) ∈ xs := List.mem_of_getElem? hget
      have hex : es[x]? = some (entryOfKey knd (k, c, v)) := by rw [entry_at hka x, hget]; rfl
      rw [hex]
      rw [hdrop, List.all_cons] at hpre
      have hkey : knd.is s'.heap k c := hia _ hmem
      show wpAny _ _ (holding [Value.ref c, v] _ >>= _) _ _ _
      refine wpAny_bind (wpAny_holding (wpAny_bind (wpAny_dictFind_heap hu hkey hob hdb hkb hib hnb ?_ ?_)))
      · intro hno
        have hn : atKey ys k = none := atKey_none_of_get hno
        have e1 : hitH ys eqb (k, c, v) = false := by unfold hitH; simp only [hn]
        rw [e1, Bool.false_and] at hpre
        rw [← hpre] at h'
        refine wpAny_pure ?_
        show wpAny _ _ (if (!false) = true then _ else _) _ _ _
        rw [if_pos (by decide)]
        exact wpAny_pure (wpAny_pure h')
      · intro j p hj
        have hp : atKey ys k = some p := atKey_of_get hnb hj
        have e1 : hitH ys eqb (k, c, v) = eqb v p.2 := by unfold hitH; simp only [hp]
        have hey : es'[j]? = some (entryOfKey knd (k, p)) := by rw [entry_at hkb j, hj]; rfl
        refine wpAny_bind (wpAny_dictEntries hob hdb ?_)
        rw [hey]
        refine wpAny_holding (heq _ hmem p hp _ _ ?_)
        show wpAny _ _ (if (!eqb v p.2) = true then _ else _) _ _ _
        cases he : eqb v p.2 with
        | false =>
          rw [e1, he, Bool.false_and] at hpre
          rw [← hpre] at h'
          rw [if_pos (by decide)]
          exact wpAny_pure (wpAny_pure h')
        | true =>
          rw [e1, he, Bool.true_and] at hpre
          rw [if_neg (by decide)]
          refine wpAny_bind (wpAny_dictEpoch hoa hda ?_)
          rw [if_neg (by simp)]
          exact wpAny_pure ⟨rfl, rfl, x + 1, hrest, hlt, hpre⟩
    · rintro q s' ⟨rfl, rfl, i, hr, hi, hpre⟩
      have hin : i = es.size := by
        rcases Nat.lt_or_ge i es.size with h | h
        · have e : es.size - i = (es.size - (i + 1)) + 1 := by omega
          rw [e, List.range'_succ] at hr; exact nomatch hr
        · exact Nat.le_antisymm hi h
      have e2 : xs.all (hitH ys eqb) = true := by
        rw [← hpre, hin, ← hla, List.drop_length]; rfl
      rw [e2] at h'
      exact wpAny_pure h'
end
section
variable {prog : Program} {w : World} {K : Type} [DecidableEq K] {knd : HeapKind prog w K} {A : Around} {E : Value → Shared → Prop} {s : Shared}
theorem eqH {a b : Addr} {xs ys : List (K × Addr × Value)} {eqb : Value → Value → Bool} {Q : Value → Shared → Prop} (ha : (a == sysModules) = false) (hb : (b == sysModules) = false)
    (da : s.heap.DictOfH knd a xs) (db : s.heap.DictOfH knd b ys) (hA : A.units < cLine) (hu : knd.room A.in1)
    (heq : ∀ x ∈ xs, ∀ q, atKey ys x.1 = some q → ∀ (R : Bool → Shared → Prop) (F : Value → Shared → Prop), R (eqb x.2.2 q.2) s → wpAny (model prog w) A.in1 (eqBool x.2.2 q.2) R F s)
    (h : Q (.bool (xs.length == ys.length && xs.all (hitH ys eqb))) s) :
    wpAny (model prog w) A (compareOp .Eq (.ref a) (.ref b)) Q E s := by
  refine wpAny_richCompare_same_room (op := .Eq) da.typeIs db.typeIs PySem.F.slot_dict_eq (wpAny_call_entry PySem.F.slot_dict_eq da.typeIs PySem.F.entry_dict_eq ?_ (PySem.F.args_dict_eq_2 _ _)) hA
  show wpAny _ _ (Builtin.Dict.dictSlotArgs "__eq__" ⟨[.ref a, .ref b], []⟩ >>= _) _ _ s
  refine wpAny_bind ?_
  unfold Builtin.Dict.dictSlotArgs
  refine wpAny_bind (wpAny_notOrdered_dict da.typeIs ?_)
  show wpAny _ _ (pure (Value.ref a, Value.ref b)) _ _ s
  refine wpAny_pure ?_
  refine wpAny_bind (wpAny_isInstance (T := "dict") db.typeIs PySem.F.sub_dict_dict ?_)
  simp only [Bool.not_true, Bool.false_eq_true, if_false]
  refine wpAny_bind (wpAny_pure (wpAny_bind (wpAny_pure ?_)))
  refine wpAny_bind (samePairsH ha hb da db hu heq ?_)
  refine wpAny_pure ⟨_, rfl, ?_, ?_⟩
  · exact fun x => nomatch x
  · simpa using h
theorem neH {a b : Addr} {xs ys : List (K × Addr × Value)} {eqb : Value → Value → Bool} {Q : Value → Shared → Prop} (ha : (a == sysModules) = false) (hb : (b == sysModules) = false)
    (da : s.heap.DictOfH knd a xs) (db : s.heap.DictOfH knd b ys) (hA : A.units < cLine) (hu : knd.room A.in1)
    (heq : ∀ x ∈ xs, ∀ q, atKey ys x.1 = some q → ∀ (R : Bool → Shared → Prop) (F : Value → Shared → Prop), R (eqb x.2.2 q.2) s → wpAny (model prog w) A.in1 (eqBool x.2.2 q.2) R F s)
    (h : Q (.bool (!(xs.length == ys.length && xs.all (hitH ys eqb)))) s) :
    wpAny (model prog w) A (compareOp .NotEq (.ref a) (.ref b)) Q E s := by
  refine wpAny_richCompare_same_room (op := .NotEq) da.typeIs db.typeIs PySem.F.slot_dict_ne (wpAny_call_entry PySem.F.slot_dict_ne da.typeIs PySem.F.entry_dict_ne ?_ (PySem.F.args_dict_ne_2 _ _)) hA
  show wpAny _ _ (Builtin.Dict.dictSlotArgs "__ne__" ⟨[.ref a, .ref b], []⟩ >>= _) _ _ s
  refine wpAny_bind ?_
  unfold Builtin.Dict.dictSlotArgs
  refine wpAny_bind (wpAny_notOrdered_dict da.typeIs ?_)
  show wpAny _ _ (pure (Value.ref a, Value.ref b)) _ _ s
  refine wpAny_pure ?_
  refine wpAny_bind (wpAny_isInstance (T := "dict") db.typeIs PySem.F.sub_dict_dict ?_)
  simp only [Bool.not_true, Bool.false_eq_true, if_false]
  refine wpAny_bind (wpAny_pure (wpAny_bind (wpAny_pure ?_)))
  refine wpAny_bind (samePairsH ha hb da db hu heq ?_)
  refine wpAny_pure ⟨_, rfl, ?_, ?_⟩
  · exact fun x => nomatch x
  · simpa using h
end
def eqT (ks ls : List (List Key × V)) : Bool := (ks.length == ls.length) && ks.all fun p => decide (valV ls p.1 = some p.2)
def intB : Value → Value → Bool
  | .int i _, .int j _ => i == j
  | _, _ => false
def IntVals (ks : List (List Key × V)) : Prop := ∀ p ∈ ks, ∃ i, p.2 = V.int i
theorem mem_r {α β : Type} {R : α → β → Prop} : ∀ {l : List α} {m : List β}, Paired R l m → ∀ y ∈ m, ∃ x ∈ l, R x y
  | _, _, .nil, y, h => nomatch h
  | _, _, .cons (a := a) (b := b) r t, y, h => by
    rcases List.mem_cons.mp h with rfl | h
    · exact ⟨a, List.mem_cons_self, r⟩
    · obtain ⟨x, hx, q⟩ := mem_r t y h
      exact ⟨x, List.mem_cons_of_mem _ hx, q⟩
theorem kt_int {H : Hp} {ks : List (List Key × V)} {xs : List (List Key × Addr × Value)} (r : KT H ks xs) (hi : IntVals ks) : ∀ x ∈ xs, ∃ i t, x.2.2 = Value.int i t := by
  intro x hx
  obtain ⟨p, hp, _, _, rv⟩ := mem_r r x hx
  obtain ⟨i, e⟩ := hi p hp
  rw [e] at rv
  obtain ⟨t, rv⟩ := rv
  exact ⟨i, t, rv⟩
theorem atKey_mem {K : Type} [DecidableEq K] {xs : List (K × Addr × Value)} {k : K} {q : Addr × Value} (h : atKey xs k = some q) : (k, q) ∈ xs := by
  unfold atKey at h
  rw [Option.map_eq_some_iff] at h
  obtain ⟨x, h1, h2⟩ := h
  have h3 := List.find?_some h1
  have h4 := List.mem_of_find?_eq_some h1
  have h5 : x.1 = k := of_decide_eq_true h3
  rw [← h5, ← h2]
  exact h4
theorem all_hits {H : Hp} {ls : List (List Key × V)} {ys : List (List Key × Addr × Value)} (rb : KT H ls ys) : ∀ {ks : List (List Key × V)} {xs : List (List Key × Addr × Value)}, KT H ks xs → IntVals ks → IntVals ls →
    xs.all (hitH ys intB) = ks.all fun p => decide (valV ls p.1 = some p.2)
  | _, _, .nil, _, _ => rfl
  | _, _, .cons (a := p) (b := x) (l₁ := ks) (l₂ := xs) h t, hi, hj => by
    rw [List.all_cons, List.all_cons, all_hits rb t (fun q hq => hi q (List.mem_cons_of_mem _ hq)) hj]
    refine congrArg (fun z => z && _) ?_
    obtain ⟨h1, _, h2⟩ := h
    obtain ⟨i, ei⟩ := hi p List.mem_cons_self
    have rv := rb.val p.1
    unfold hitH
    rw [← h1]
    cases hx : atKey ys p.1 with
    | none =>
      rw [hx] at rv
      cases hv : valV ls p.1 with
      | none => simp
      | some v => rw [hv] at rv; exact rv.elim
    | some q =>
      rw [hx] at rv
      cases hv : valV ls p.1 with
      | none => rw [hv] at rv; exact rv.elim
      | some v =>
        rw [hv] at rv
        have rv : RelV v q.2 := rv
        obtain ⟨j, ej⟩ : ∃ j, v = V.int j := by
          have hm : (p.1, v) ∈ ls := by
            unfold valV at hv
            rw [Option.map_eq_some_iff] at hv
            obtain ⟨y, y1, y2⟩ := hv
            have y3 : y.1 = p.1 := by
              have z := List.find?_some y1
              simpa using z
            have y4 := List.mem_of_find?_eq_some y1
            rw [← y3, ← y2]
            exact y4
          exact hj _ hm
        rw [ei] at h2
        rw [ej] at rv
        obtain ⟨t1, e1⟩ := h2
        obtain ⟨t2, e2⟩ := rv
        show intB x.2.2 q.2 = _
        rw [e1, e2, ei, ej]
        unfold intB
        rw [Bool.eq_iff_iff]
        simp
        exact ⟨fun z => z.symm, fun z => z.symm⟩
def rEqDT : R2 := fun x y H Q => ∃ a b ks ls, x = .ref a ∧ y = .ref b ∧ H a = some (.dT ks) ∧ H b = some (.dT ls) ∧ IntVals ks ∧ IntVals ls ∧ Q (.bl (eqT ks ls)) H
def rNeDT : R2 := fun x y H Q => ∃ a b ks ls, x = .ref a ∧ y = .ref b ∧ H a = some (.dT ks) ∧ H b = some (.dT ls) ∧ IntVals ks ∧ IntVals ls ∧ Q (.bl (!eqT ks ls)) H
section
variable {X : Cx}
theorem eq_ints {A : Around} {s : Shared} {H : Hp} {ks ls : List (List Key × V)} {xs ys : List (List Key × Addr × Value)} (ra : KT H ks xs) (rb : KT H ls ys) (hi : IntVals ks) (hj : IntVals ls) :
    ∀ x ∈ xs, ∀ q, atKey ys x.1 = some q → ∀ (R : Bool → Shared → Prop) (F : Value → Shared → Prop), R (intB x.2.2 q.2) s → wpAny (model X.prog X.w) A (eqBool x.2.2 q.2) R F s := by
  intro x hx q hq R F hR
  obtain ⟨i, t, e1⟩ := kt_int ra hi x hx
  obtain ⟨j, u, e2⟩ := kt_int rb hj (x.1, q) (atKey_mem hq)
  have e2 : q.2 = Value.int j u := e2
  rw [e1, e2] at hR ⊢
  exact SeqAt.EqAt.int_int i t j u _ _ _ _ (by unfold intB at hR; exact hR)
theorem op_eqDT (hu : X.A.units + 1 < cLine) : OpR X (compareOp .Eq) rEqDT := by
  intro pins s σ H x y v u Q I rx ry h
  obtain ⟨a, b, ks, ls, rfl, rfl, ea, eb, hi, hj, q⟩ := h
  obtain rfl : v = Value.ref a := rx
  obtain rfl : u = Value.ref b := ry
  obtain ⟨_, ya, xs, ra, da⟩ := dt_of I.hok ea
  obtain ⟨_, yb, ys, rb, db⟩ := dt_of I.hok eb
  refine eqH (eqb := intB) ya yb da db (by omega) (tupleKind_room_in1 hu) (eq_ints ra rb hi hj) (fin_bl I q ?_)
  unfold eqT
  rw [all_hits rb ra hi hj, Paired.length ra, Paired.length rb]
theorem op_neDT (hu : X.A.units + 1 < cLine) : OpR X (compareOp .NotEq) rNeDT := by
  intro pins s σ H x y v u Q I rx ry h
  obtain ⟨a, b, ks, ls, rfl, rfl, ea, eb, hi, hj, q⟩ := h
  obtain rfl : v = Value.ref a := rx
  obtain rfl : u = Value.ref b := ry
  obtain ⟨_, ya, xs, ra, da⟩ := dt_of I.hok ea
  obtain ⟨_, yb, ys, rb, db⟩ := dt_of I.hok eb
  refine neH (eqb := intB) ya yb da db (by omega) (tupleKind_room_in1 hu) (eq_ints ra rb hi hj) (fin_bl I q ?_)
  unfold eqT
  rw [all_hits rb ra hi hj, Paired.length ra, Paired.length rb]
end
theorem paired_of {α β : Type} {R : α → β → Prop} : ∀ {l : List α} {m : List β}, l.length = m.length → (∀ (j : Nat) a b, l[j]? = some a → m[j]? = some b → R a b) → Paired R l m
  | [], [], _, _ => .nil
  | [], _ :: _, h, _ => by cases h
  | _ :: _, [], h, _ => by cases h
  | a :: l, b :: m, h, k => .cons (k 0 a b rfl rfl) (paired_of (Nat.succ.inj h) fun j x y e1 e2 => k (j + 1) x y e1 e2)
def PairsOf (H : Hp) (ts : List Addr) (kvs : List (List Key × V)) : Prop := Paired (fun (t : Addr) (p : List Key × V) => ∃ q, H t = some (.tup [.ref q, p.2]) ∧ H q = some (.tup (p.1.map kV))) ts kvs
section
variable {X : Cx}
theorem take_all {pins : List (Addr × Obj)} {σ : L2.St} {H0 : Hp} {s : Shared} {h' : Heap} {tk : Nat} {P : Addr → List V → Prop} (I0 : Inv X pins σ H0 s) (L : List Addr) : ∀ H1 : Hp, Inv X pins σ H1 { s with heap := h', toks := tk } → L.Nodup →
    (∀ a ∈ L, s.heap.objs.size ≤ a ∧ H1 a = none ∧ ∃ vs, P a vs ∧ ∀ H2, ObjOk X.prog X.w H2 h' a (.tup vs)) →
    ∃ H2, Inv X pins σ H2 { s with heap := h', toks := tk } ∧ (∀ b o, H1 b = some o → H2 b = some o) ∧ (∀ a ∈ L, ∃ vs, P a vs ∧ H2 a = some (.tup vs)) ∧ ∀ b, b ∉ L → H2 b = H1 b := by
  induction L with
  | nil => exact fun H1 I1 _ _ => ⟨H1, I1, fun _ _ e => e, (fun _ h => nomatch h), fun _ _ => rfl⟩
  | cons a L ih =>
    intro H1 I1 hn h
    obtain ⟨hb, hnone, vs, hP, ok⟩ := h a List.mem_cons_self
    obtain ⟨na, nd⟩ := List.nodup_cons.mp hn
    have J := I1.take (h' := h') (t' := tk) (fun b ob _ e => e) (I0.fpOk hb hnone) (ok _)
    obtain ⟨H2, I3, g, q, off⟩ := ih _ J nd fun c hc => by
      obtain ⟨c1, c2, c3⟩ := h c (List.mem_cons_of_mem _ hc)
      exact ⟨c1, by rw [upd_ne fun z => na (by rw [← z]; exact hc)]; exact c2, c3⟩
    refine ⟨H2, I3, fun b o e => g b o (by rw [upd_ne (ne_of_none e hnone)]; exact e), fun c hc => ?_, fun b hb' => ?_⟩
    · rcases List.mem_cons.mp hc with rfl | hc
      · exact ⟨vs, hP, g _ _ upd_same⟩
      · exact q c hc
    · rw [off b fun z => hb' (List.mem_cons_of_mem _ z), upd_ne fun z => hb' (by rw [z]; exact List.mem_cons_self)]
theorem made_tracked {pins : List (Addr × Obj)} {σ : L2.St} {H H1 : Hp} {s : Shared} {h' : Heap} {tk : Nat} {kvs : List (List Key × V)} {xs : List (List Key × Addr × Value)} {es : Array DictEntry} {as : List Addr} (I : Inv X pins σ H s)
    (rel : KT H kvs xs) (hes : es.toList = xs.map (entryOfKey (tupleKind (mixKind X.prog X.w)))) (hl : as.length = es.size) (hG : DT.Made es s.heap.objs.size h' as)
    (I1 : Inv X pins σ H1 { s with heap := h', toks := tk }) (g1 : ∀ b o, H b = some o → H1 b = some o) (hn : ∀ b ∈ as, H1 b = none) :
    ∃ H2, Inv X pins σ H2 { s with heap := h', toks := tk } ∧ (∀ b o, H1 b = some o → H2 b = some o) ∧ PairsOf H2 as kvs ∧ ∀ b, b ∉ as → H2 b = H1 b := by
  have l1 : kvs.length = xs.length := Paired.length rel
  have l2 : es.size = xs.length := size_of_entries hes
  have nd : as.Nodup := List.Pairwise.imp (fun h => Nat.ne_of_lt h) hG.rise
  have pr : ∀ (j : Nat) (b : Addr), as[j]? = some b → ∃ (p : List Key × V) (q : Addr) (u : Value), kvs[j]? = some p ∧ H q = some (.tup (p.1.map kV)) ∧ RelV p.2 u ∧ h'.get? b = some { cls := .type "tuple", data := .seq #[Value.ref q, u] } := by
    intro j b hj
    obtain ⟨en, he, hg⟩ := hG.pairs j b hj
    rw [entry_at hes j] at he
    cases hxj : xs[j]? with
    | none =>
      rw [hxj] at he
      exact nomatch (show (none : Option DictEntry) = some en from he)
    | some x =>
      rw [hxj] at he
      have een : entryOfKey (tupleKind (mixKind X.prog X.w)) x = en := Option.some.inj he
      obtain ⟨e0, he0, r1, r2, r3⟩ := L2.DX.pget rel hxj
      exact ⟨e0, x.2.1, x.2.2, he0, r2, r3, by rw [hg, ← een]; rfl⟩
  obtain ⟨H2, I2, g, qt, off⟩ := take_all (P := fun b vs => ∃ (j : Nat) (p : List Key × V) (q : Addr), as[j]? = some b ∧ kvs[j]? = some p ∧ vs = [.ref q, p.2] ∧ H q = some (.tup (p.1.map kV))) I as H1 I1 nd fun b hb => by
    obtain ⟨j, hj⟩ := List.mem_iff_getElem?.mp hb
    obtain ⟨p, q, u, hp, hq, ru, hg⟩ := pr j b hj
    exact ⟨Nat.le_of_lt (hG.above b hb), hn b hb, [.ref q, p.2], ⟨j, p, q, hj, hp, rfl, hq⟩, fun H3 => ⟨(by rw [sizeLine_eq]; show 2 ≤ 16777216; omega), [Value.ref q, u], .cons rfl (.cons ru .nil), ⟨_, hg, rfl, 0, rfl⟩⟩⟩
  refine ⟨H2, I2, g, paired_of (by omega) fun j b p hj hp => ?_, off⟩
  obtain ⟨vs, ⟨i, p', q, i1, i2, ev, hq⟩, hH⟩ := qt b (List.mem_of_getElem? hj)
  have eij : j = i := (List.getElem?_inj (List.getElem?_eq_some_iff.mp hj).1 nd).mp (hj.trans i1.symm)
  subst eij
  have ep : p' = p := Option.some.inj (i2.symm.trans hp)
  rw [ev, ep] at hH
  rw [ep] at hq
  exact ⟨q, hH, g _ _ (g1 _ _ hq)⟩
theorem vals_refs : ∀ as : List Addr, Vals (as.map V.ref) (as.map Value.ref)
  | [] => .nil
  | _ :: as => .cons rfl (vals_refs as)
end
section
variable {prog : Program} {w : World} {A : Around} {E : Value → Shared → Prop} {s : Shared} {r d : Addr} {es : Array DictEntry} {ep : Nat}
theorem initI {R : Result → Shared → Prop} (hh : A.handled = none) (hv : s.heap.IsItemsView r d) (hm : DT.Raw s.heap d es ep) (S : Addr) (hSr : S ≠ r) (hSd : d ≠ S) (hS : s.heap.get? S = some { cls := .type "list", data := .seq #[] })
    (hR : ∀ h' tk acc c as, (∀ b o, b ≠ S → s.heap.get? b = some o → h'.get? b = some o) → h'.get? S = some { cls := .type "list", dict := none, data := .seq acc c, slots := #[] } → as.length = es.size → DT.Made es S h' as →
      acc.toList = as.map Value.ref → R (.ok (.ret .none)) { s with heap := h', toks := tk }) (hn : es.size ≤ sizeLine) :
    wpAny (model prog w) A.in1 (Builtin.«list.__init__» ⟨[.ref S, .ref r], []⟩)
      (fun fin s' => match fin with | .done f => R (.ok f) s' | .again c' => c'.quiet = true ∧ codeAny (model prog w) A c' R s') (fun e s' => R (.error e) s') s := by
  show wpAny _ _ (do let old ← Builtin.List.listItems (.ref S); Builtin.List.listUpdate (.ref S) (fun _ => #[]); letGo old.toList.reverse; Builtin.List.listExtendWith (.ref S) (.ref r) .none) _ _ s
  refine wpAny_bind ?_
  unfold Builtin.List.listItems
  refine wpAny_bind (wpAny_seqItems hS rfl (wpAny_pure ?_))
  show wpAny _ _ (updateSeq S (fun _ => #[]) >>= fun _ => letGo (#[] : Array Value).toList.reverse >>= fun _ => Builtin.List.listExtendWith (.ref S) (.ref r) .none) _ _ s
  refine wpAny_bind (wpAny_updateSeq hS rfl ?_)
  have hS₂ := Heap.get?_update_self (Obj.mapSeq (fun _ => (#[] : Array Value))) hS rfl
  have oth : ∀ b o, b ≠ S → s.heap.get? b = some o → (s.heap.update S (Obj.mapSeq (fun _ => (#[] : Array Value)))).get? b = some o :=
    fun b o hb e => (Heap.get?_update_other _ _ (Ne.symm hb)).trans e
  refine wpAny_bind (wpAny_letGo ?_)
  refine DT.extI (es := es) (ep := ep) hh (let ⟨o, ho, x⟩ := hv; ⟨o, oth r o hSr.symm ho, x⟩) (hm.at' fun o e => oth d o hSd e) S hSr hSd .none _ hS₂ (fun h' tk acc c as hk hS' hl hG hacc => ?_) hn
  exact hR h' tk acc c as (fun b o hb e => hk b o hb (oth b o hb e)) hS' hl (hG.low (Nat.le_of_lt (Heap.lt_size hS₂))) hacc
theorem listCallI {Q : Value → Shared → Prop} (hh : A.handled = none) (hv : s.heap.IsItemsView r d) (hm : DT.Raw s.heap d es ep) (hn : es.size ≤ sizeLine)
    (hQ : ∀ h' tk acc c as, (∀ b o, s.heap.get? b = some o → h'.get? b = some o) → h'.get? s.heap.objs.size = some { cls := .type "list", dict := none, data := .seq acc c, slots := #[] } → as.length = es.size → DT.Made es s.heap.objs.size h' as →
      acc.toList = as.map Value.ref → Q (.ref s.heap.objs.size) { s with heap := h', toks := tk }) :
    wpAny (model prog w) A (call (.type "list") [.ref r]) Q E s := by
  refine callType_codes (Q₁ := fun obj s₁ => obj = .ref s.heap.objs.size ∧ s₁ = { s with heap := s.heap.push { cls := .type "list", data := .seq #[] } }) PySem.F.called_list (PySem.F.typeCall_list_1 _) PySem.F.entry_list_init
    (code_list_new _ ⟨rfl, rfl⟩) fun obj s₁ h₁ => ?_
  obtain ⟨rfl, rfl⟩ := h₁
  have hS : (s.heap.push { cls := .type "list", data := .seq #[] }).get? s.heap.objs.size = some { cls := .type "list", data := .seq #[] } := Heap.get?_push_size _ rfl
  have hr : r < s.heap.objs.size := let ⟨_, ho, _⟩ := hv; Heap.lt_size ho
  have hd : d < s.heap.objs.size := hm.lt
  refine ⟨⟨_, hS, rfl⟩, PySem.F.args_list_init_2 _ _, initI (es := es) (ep := ep) (A := A.in1) hh (let ⟨o, ho, x⟩ := hv; ⟨o, Heap.get?_push_of_some _ ho, x⟩) (hm.push _) _ (Nat.ne_of_gt hr) (Nat.ne_of_lt hd) hS (fun h' tk acc c as hk hS' hl hG hacc => ?_) hn⟩
  exact ⟨rfl, hQ h' tk acc c as (fun b o e => hk b o (Nat.ne_of_lt (Heap.lt_size e)) (Heap.get?_push_of_some _ e)) hS' hl hG hacc⟩
end
def rListItT : List V → Hp → VK → Prop := fun vs H Q => ∃ (p a : Addr) (kvs : List (List Key × V)), vs = [.ref p] ∧ H p = some (L2.DX.itemsO p a) ∧ H a = some (.dT kvs) ∧
  ∀ (H' : Hp) (l : Addr) (ts : List Addr), (∀ b o, H b = some o → H' b = some o) → H l = none → H' l = some (.lst (ts.map V.ref)) → PairsOf H' ts kvs → Q (.ref l) H'
section
variable {X : Cx}
theorem cr_listItT (hc : X.calm = true) : CallR X (.type "list") rListItT := by
  intro pins s σ H xs us Q I r h
  obtain ⟨p, a, kvs, rfl, hp, ha, q⟩ := h
  obtain rfl := Vals.ref1 r
  have view : s.heap.IsItemsView p a := (show ObjOk X.prog X.w H s.heap p (L2.DX.itemsO p a) from I.hok p _ hp).1
  obtain ⟨z, hd, xs', rel, o, es, ep, ho, hx, hdat, hes, his, hn⟩ := dt_of I.hok ha
  have l1 : kvs.length = xs'.length := Paired.length rel
  have l2 : es.size = xs'.length := size_of_entries hes
  refine listCallI (es := es) (ep := ep) (I.ok.hd hc) view ⟨o, ho, hx, hdat⟩ (by omega) fun h' tk acc c as hk hS hl hG hacc => ?_
  have newS : H s.heap.objs.size = none := I.hok.fresh (Nat.le_refl _)
  have nS : ∀ b ∈ as, b ≠ s.heap.objs.size := fun b hb => Nat.ne_of_gt (hG.above b hb)
  have I1 : Inv X pins σ (upd H s.heap.objs.size (.lst (as.map V.ref))) { s with heap := h', toks := tk } :=
    I.laid (t' := tk) hk (Nat.le_refl _) ⟨by rw [List.length_map]; omega, acc.toList, c, by rw [hacc]; exact vals_refs as, by rw [Array.toArray_toList]; exact hS⟩
  obtain ⟨H2, I2, g, pp, _⟩ := made_tracked (h' := h') (tk := tk) I rel hes hl hG I1 (fun b o e => by rw [upd_ne (ne_of_none e newS)]; exact e) fun b hb => by
    rw [upd_ne (nS b hb)]
    exact I.hok.fresh (Nat.le_of_lt (hG.above b hb))
  exact ⟨.ref _, H2, I2, rfl, q H2 _ as (fun b o e => g b o (by rw [upd_ne (ne_of_none e newS)]; exact e)) newS (g _ _ upd_same) pp⟩
end
end KB
set_option Elab.async false
set_option linter.all false
set_option maxRecDepth 100000
set_option maxHeartbeats 4000000
namespace PySem.SeqAt
open AutoSeq1 (wpAny_loadPart')
open MeetsSeq MeetsSeq2 MeetsSeq3 SeqRoads2
theorem kc_tuple_lt (l b : Addr) (items items2 : Array Value) (n n2 : Nat) (dd dd2 : Option Addr) (sl sl2 : Array (Option Value)) (e r : Nat → Bool) :
    Meets (Builtin.«tuple.__lt__» ⟨[.ref l, .ref b], []⟩)
      (fun A R s => s.heap.get? l = some { cls := .type "tuple", dict := dd, data := .seq items n, slots := sl } ∧ s.heap.get? b = some { cls := .type "tuple", dict := dd2, data := .seq items2 n2, slots := sl2 } ∧
        (∀ j (h1 : j < items.size) (h2 : j < items2.size), EqAt A.in1 s items[j] items2[j] (e j)) ∧ (∀ j (h1 : j < items.size) (h2 : j < items2.size), (∀ i, i < j → e i = true) → e j = false → RcLt A.in1 s items[j] items2[j] (r j)) ∧
        R (.ok (.ret (.bool (firstLt e r (decide (items.size < items2.size)) (List.range (min items.size items2.size)))))) s) :=
  .of_wp fun prog w A R s h => by
    obtain ⟨hp, g, d, tk, os⟩ := s; obtain ⟨hl, hb, he, hr, h⟩ := h
    have f2 := AutoSeq1.sub_tuple_tuple
    have hZ : (items.toList.zip items2.toList).length = min items.size items2.size := by simp
    wp_walk using wpAny_loadPart' hl, wpAny_loadPart' hb, wpAny_forIn_list _ (fun rest b s' => b.1 = none ∧ s' = ⟨hp, g, d, tk, os⟩ ∧ ∃ i, rest = (items.toList.zip items2.toList).drop i ∧ (∀ m, m < i → e m = true) ∧
      R (.ok (.ret (.bool (firstLt e r (decide (items.size < items2.size)) ((List.range (min items.size items2.size)).drop i))))) ⟨hp, g, d, tk, os⟩) _
    case turn =>
      rintro ⟨y, x⟩ rest b s' ⟨hb', rfl, i, hz, hpre, hR⟩
      have hlt : i < (items.toList.zip items2.toList).length := by
        rcases Nat.lt_or_ge i (items.toList.zip items2.toList).length with h' | h'
        · exact h'
        · rw [List.drop_of_length_le h'] at hz; cases hz
      have hm : i < min items.size items2.size := hZ ▸ hlt
      have h1 : i < items.size := Nat.lt_of_lt_of_le hm (Nat.min_le_left _ _)
      have h2 : i < items2.size := Nat.lt_of_lt_of_le hm (Nat.min_le_right _ _)
      rw [List.drop_eq_getElem_cons hlt] at hz
      injection hz with hyx hrest
      have hy : y = items[i] := by have := congrArg Prod.fst hyx; simpa using this
      have hx : x = items2[i] := by have := congrArg Prod.snd hyx; simpa using this
      subst hy hx
      have hd : (List.range (min items.size items2.size)).drop i = i :: (List.range (min items.size items2.size)).drop (i + 1) := by simp [List.drop_eq_getElem_cons, hm]
      rw [hd] at hR
      refine wpAny_bind (he i h1 h2 prog w _ _ ?_)
      cases hy : e i with
      | true =>
        rw [firstLt_yes hy] at hR
        wp_walk
        refine ⟨rfl, rfl, i + 1, hrest, fun m hm => ?_, hR⟩
        rcases Nat.lt_or_ge m i with z | z
        · exact hpre m z
        · have : m = i := by omega
          rw [this]; exact hy
      | false =>
        rw [firstLt_no hy] at hR
        rw [if_pos (by rfl)]
        show wpAny _ _ (do rule "tuple.compare.by-the-first-pair-that-differs"; let v ← richCompare CmpOp.Lt items[i] items2[i]; let v' ← ret v; pure (ForInStep.done (some v', ()))) _ _ _
        refine wpAny_bind (wpAny_rule ?_)
        refine wpAny_bind (hr i h1 h2 hpre hy prog w _ _ ?_)
        wp_walk
        exact ⟨_, rfl, hR⟩
    case fin =>
      rintro ⟨b1, b2⟩ s' ⟨hb', rfl, i, hz, hpre, hR⟩
      simp only at hb'
      subst hb'
      have hge : min items.size items2.size ≤ i := by
        rcases Nat.lt_or_ge i (items.toList.zip items2.toList).length with h' | h'
        · rw [List.drop_eq_getElem_cons h'] at hz; cases hz
        · exact hZ ▸ h'
      rw [List.drop_of_length_le (by simpa using hge)] at hR
      wp_walk
      exact ⟨_, rfl, by simpa [Builtin.Tuple.tupleCompareSizes, firstLt] using hR⟩
    case h =>
      exact ⟨rfl, rfl, 0, rfl, fun m hm => absurd hm (Nat.not_lt_zero _), by simpa using h⟩
section
variable {A : Around} {s : Shared}
theorem RcLt.tuplesF {l b : Addr} {items items2 : Array Value} {e r : Nat → Bool} (hl : s.heap.IsTuple l items) (hb : s.heap.IsTuple b items2) (hu : A.units < cLine)
    (he : ∀ j (h1 : j < items.size) (h2 : j < items2.size), EqAt A.in1 s items[j] items2[j] (e j)) (hr : ∀ j (h1 : j < items.size) (h2 : j < items2.size), (∀ i, i < j → e i = true) → e j = false → RcLt A.in1 s items[j] items2[j] (r j)) :
    RcLt A s (.ref l) (.ref b) (firstLt e r (decide (items.size < items2.size)) (List.range (min items.size items2.size))) := fun prog w E Q h => by
  obtain ⟨⟨cls, dd, data, sl⟩, ho, hc, n, hd⟩ := id hl
  obtain ⟨⟨cls2, dd2, data2, sl2⟩, ho2, hc2, n2, hd2⟩ := id hb
  simp only at hc hd hc2 hd2
  subst hc hd hc2 hd2
  exact richCompare_meets_room (op := .Lt) ⟨_, ho, rfl⟩ ⟨_, ho2, rfl⟩ F.slot_tuple_lt F.entry_tuple_lt (F.args_tuple_lt_2 _ _) (kc_tuple_lt l b items items2 n n2 dd dd2 sl sl2 e r)
    ⟨ho, ho2, he, hr, show Value.bool (firstLt e r (decide (items.size < items2.size)) (List.range (min items.size items2.size))) ≠ Value.notImplemented ∧ Q (.bool (firstLt e r (decide (items.size < items2.size)) (List.range (min items.size items2.size)))) s from ⟨(fun x => nomatch x), h⟩⟩ hu
end
end PySem.SeqAt
namespace KC
open PySem PySem.Spec PyProof.Rows L2 KB PySem.SeqAt
mutual
def ltD : PyData → PyData → Bool
  | .int i, .int j => decide (i < j)
  | .str x, .str y => decide (x.cps.toList < y.cps.toList)
  | .tuple xs, .tuple ys => ltL xs ys
  | _, _ => false
def ltL : List PyData → List PyData → Bool
  | [], [] => false
  | [], _ :: _ => true
  | _ :: _, [] => false
  | x :: xs, y :: ys => if PyData.eqv x y = true then ltL xs ys else ltD x y
end
mutual
def okD : PyData → PyData → Bool
  | .int _, .int _ => true
  | .str _, .str _ => true
  | .tuple xs, .tuple ys => okL xs ys
  | _, _ => false
def okL : List PyData → List PyData → Bool
  | [], _ => true
  | _ :: _, [] => true
  | x :: xs, y :: ys => if PyData.eqv x y = true then okL xs ys else okD x y
end
theorem firstLt_shift {e r : Nat → Bool} {fin : Bool} : ∀ l : List Nat, firstLt e r fin (l.map (· + 1)) = firstLt (fun j => e (j + 1)) (fun j => r (j + 1)) fin l
  | [] => rfl
  | j :: l => by
    show (if e (j + 1) = true then firstLt e r fin (l.map (· + 1)) else r (j + 1)) = _
    rw [firstLt_shift l]
    rfl
theorem ltL_first : ∀ (xs ys : List PyData) (e r : Nat → Bool), (∀ j x y, xs[j]? = some x → ys[j]? = some y → e j = PyData.eqv x y ∧ r j = ltD x y) →
    firstLt e r (decide (xs.length < ys.length)) (List.range (min xs.length ys.length)) = ltL xs ys
  | [], [], _, _, _ => by unfold ltL; rfl
  | [], _ :: _, _, _, _ => by
    unfold ltL
    simp [firstLt]
  | _ :: _, [], _, _, _ => by
    unfold ltL
    simp [firstLt]
  | x :: xs, y :: ys, e, r, h => by
    have h0 := h 0 x y rfl rfl
    have e1 : min (x :: xs).length (y :: ys).length = min xs.length ys.length + 1 := by simp only [List.length_cons]; omega
    rw [e1, List.range_succ_eq_map]
    have e2 : decide ((x :: xs).length < (y :: ys).length) = decide (xs.length < ys.length) := by simp
    rw [e2]
    unfold ltL
    show (if e 0 = true then firstLt e r _ (List.map Nat.succ _) else r 0) = _
    rw [h0.1, h0.2]
    by_cases q : PyData.eqv x y = true
    · rw [if_pos q, if_pos q]
      rw [show (List.map Nat.succ (List.range (min xs.length ys.length))) = (List.range (min xs.length ys.length)).map (· + 1) from rfl, firstLt_shift]
      exact ltL_first xs ys _ _ fun j a b ha hb => h (j + 1) a b ha hb
    · rw [if_neg q, if_neg q]
end KC
namespace KC
open PySem PySem.Spec PyProof.Rows L2 KB PySem.SeqAt
theorem lt_str_b {prog : Program} {w : World} {A : Around} {E : Value → Shared → Prop} {s : Shared} {x y : Str} {t u : Tok} {Q : Value → Shared → Prop} (h : Q (.bool (decide (x.cps.toList < y.cps.toList))) s) :
    wpAny (model prog w) A (richCompare .Lt (.str x t) (.str y u)) Q E s := DT.rcLt_str A s x t y u prog w E Q h
mutual
theorem rcLt_data : ∀ (da db : PyData) (A : Around) (s : Shared) (a b : Value) (as bs : List Addr), Reads s.heap a da as → Reads s.heap b db bs → da.canLay0 = true → db.canLay0 = true → okD da db = true →
    A.units + min da.depth db.depth < cLine → RcLt A s a b (ltD da db)
  | .int x, .int y, A, s, _, _, _, _, ra, rb, _, _, _, hu => by
    cases ra; cases rb
    intro prog w E Q h
    exact PyProof.Rows.lt_int (by unfold ltD at h; exact h)
  | .str x, .str y, A, s, _, _, _, _, ra, rb, _, _, _, hu => by
    cases ra; cases rb
    intro prog w E Q h
    exact lt_str_b (by unfold ltD at h; exact h)
  | .tuple xs, .tuple ys, A, s, _, _, _, _, ra, rb, ha, hb, hok, hu => by
    cases ra with
    | @tuple l o vs n _ as₁ h1 h2 h3 h4 =>
      cases rb with
      | @tuple l' o' vs' n' _ bs₁ k1 k2 k3 k4 =>
        have hl : s.heap.IsTuple l vs := ⟨_, h1, h2, _, h3⟩
        have hl' : s.heap.IsTuple l' vs' := ⟨_, k1, k2, _, k3⟩
        have n1 : vs.size = xs.length := by simpa using ReadsAll.length _ _ _ h4
        have n2 : vs'.size = ys.length := by simpa using ReadsAll.length _ _ _ k4
        have hok' : okL xs ys = true := by unfold okD at hok; exact hok
        have e : ltD (.tuple xs) (.tuple ys) = firstLt (pairEq xs ys) (fun j => ltD (xs.getD j .none) (ys.getD j .none)) (decide (vs.size < vs'.size)) (List.range (min vs.size vs'.size)) := by
          rw [n1, n2, ltL_first xs ys]
          · unfold ltD; rfl
          · intro j x y hx hy
            simp [pairEq, List.getD, hx, hy]
        rw [e]
        refine RcLt.tuplesF hl hl' (room_here hu) (fun j j1 j2 => ?_) (fun j j1 j2 hp hf => ?_)
        · have := eqAt_readsAll xs ys A.in1 s vs.toList vs'.toList _ _ h4 k4 ha hb (room_in hu) j (by simpa using j1) (by simpa using j2)
          simpa using this
        · have := rcLt_all xs ys A.in1 s vs.toList vs'.toList _ _ h4 k4 ha hb hok' (room_in hu) j (by simpa using j1) (by simpa using j2) hp hf
          simpa using this
  | .none, _, _, _, _, _, _, _, _, _, _, _, hok, _ => by unfold okD at hok; cases hok
  | .bool _, _, _, _, _, _, _, _, _, _, _, _, hok, _ => by unfold okD at hok; cases hok
  | .list _, _, _, _, _, _, _, _, _, _, _, _, hok, _ => by unfold okD at hok; cases hok
  | .dict _, _, _, _, _, _, _, _, _, _, _, _, hok, _ => by unfold okD at hok; cases hok
  | .int _, .none, _, _, _, _, _, _, _, _, _, _, hok, _ => by unfold okD at hok; cases hok
  | .int _, .bool _, _, _, _, _, _, _, _, _, _, _, hok, _ => by unfold okD at hok; cases hok
  | .int _, .str _, _, _, _, _, _, _, _, _, _, _, hok, _ => by unfold okD at hok; cases hok
  | .int _, .list _, _, _, _, _, _, _, _, _, _, _, hok, _ => by unfold okD at hok; cases hok
  | .int _, .tuple _, _, _, _, _, _, _, _, _, _, _, hok, _ => by unfold okD at hok; cases hok
  | .int _, .dict _, _, _, _, _, _, _, _, _, _, _, hok, _ => by unfold okD at hok; cases hok
  | .str _, .none, _, _, _, _, _, _, _, _, _, _, hok, _ => by unfold okD at hok; cases hok
  | .str _, .bool _, _, _, _, _, _, _, _, _, _, _, hok, _ => by unfold okD at hok; cases hok
  | .str _, .int _, _, _, _, _, _, _, _, _, _, _, hok, _ => by unfold okD at hok; cases hok
  | .str _, .list _, _, _, _, _, _, _, _, _, _, _, hok, _ => by unfold okD at hok; cases hok
  | .str _, .tuple _, _, _, _, _, _, _, _, _, _, _, hok, _ => by unfold okD at hok; cases hok
  | .str _, .dict _, _, _, _, _, _, _, _, _, _, _, hok, _ => by unfold okD at hok; cases hok
  | .tuple _, .none, _, _, _, _, _, _, _, _, _, _, hok, _ => by unfold okD at hok; cases hok
  | .tuple _, .bool _, _, _, _, _, _, _, _, _, _, _, hok, _ => by unfold okD at hok; cases hok
  | .tuple _, .int _, _, _, _, _, _, _, _, _, _, _, hok, _ => by unfold okD at hok; cases hok
  | .tuple _, .str _, _, _, _, _, _, _, _, _, _, _, hok, _ => by unfold okD at hok; cases hok
  | .tuple _, .list _, _, _, _, _, _, _, _, _, _, _, hok, _ => by unfold okD at hok; cases hok
  | .tuple _, .dict _, _, _, _, _, _, _, _, _, _, _, hok, _ => by unfold okD at hok; cases hok
theorem rcLt_all : ∀ (xs ys : List PyData) (A : Around) (s : Shared) (vs ws : List Value) (as bs : List Addr), ReadsAll s.heap vs xs as → ReadsAll s.heap ws ys bs → PyData.canLayAll0 xs = true → PyData.canLayAll0 ys = true → okL xs ys = true →
    A.units + min (PyData.depthAll xs) (PyData.depthAll ys) < cLine → ∀ j (h1 : j < vs.length) (h2 : j < ws.length), (∀ i, i < j → pairEq xs ys i = true) → pairEq xs ys j = false → RcLt A s vs[j] ws[j] (ltD (xs.getD j .none) (ys.getD j .none))
  | [], _, _, _, _, _, _, _, ra, _, _, _, _, _, j, h1, _, _, _ => by cases ra; exact absurd h1 (Nat.not_lt_zero _)
  | _ :: _, [], _, _, _, _, _, _, _, rb, _, _, _, _, j, _, h2, _, _ => by cases rb; exact absurd h2 (Nat.not_lt_zero _)
  | x :: xs, y :: ys, A, s, _, _, _, _, ra, rb, ha, hb, hok, hu, j, h1, h2, hp, hf => by
    have ha' : x.canLay0 = true ∧ PyData.canLayAll0 xs = true := by simpa [PyData.canLayAll0] using ha
    have hb' : y.canLay0 = true ∧ PyData.canLayAll0 ys = true := by simpa [PyData.canLayAll0] using hb
    unfold okL at hok
    cases ra with
    | cons r rs =>
      cases rb with
      | cons r' rs' =>
        cases j with
        | zero =>
          have e0 : PyData.eqv x y = false := hf
          rw [if_neg (by rw [e0]; exact Bool.false_ne_true)] at hok
          exact rcLt_data x y A s _ _ _ _ r r' ha'.1 hb'.1 hok (room_head hu)
        | succ j =>
          have e0 : PyData.eqv x y = true := hp 0 (Nat.succ_pos _)
          rw [if_pos e0] at hok
          exact rcLt_all xs ys A s _ _ _ _ rs rs' ha'.2 hb'.2 hok (room_tail hu) j (Nat.lt_of_succ_lt_succ h1) (Nat.lt_of_succ_lt_succ h2) (fun i hi => hp (i + 1) (Nat.succ_lt_succ hi)) hf
end
def rLtD (K : PySem.W.Frag) : R2 := fun x y H Q => ∃ d e, Dp K H x d ∧ Dp K H y e ∧ shaped d = true ∧ shaped e = true ∧ okD d e = true ∧ Q (.bl (ltD d e)) H
theorem op_ltD {X : Cx} (hu : X.A.units + 64 < cLine) : OpR X (compareOp .Lt) (rLtD X.K) := by
  intro pins s σ H x y v u Q I rx ry h
  obtain ⟨d, e, hd, he, sd, se, hok, q⟩ := h
  obtain ⟨as, r1⟩ := Dp.reads I d x v hd rx
  obtain ⟨bs, r2⟩ := Dp.reads I e y u he ry
  exact rcLt_data d e X.A s v u as bs r1 r2 (canLay_of_shaped sd) (canLay_of_shaped se) hok (room_of_shaped sd hu) X.prog X.w X.xe _ ⟨.bl _, H, I, rfl, q⟩
theorem keyLt_data {prog : Program} {w : World} {A : Around} {E : Value → Shared → Prop} {s : Shared} {xs ys : List PyData} {u v : Value} {as bs : List Addr} {Q : Bool → Shared → Prop} (ra : Reads s.heap u (.tuple xs) as) (rb : Reads s.heap v (.tuple ys) bs)
    (ha : (PyData.tuple xs).canLay0 = true) (hb : (PyData.tuple ys).canLay0 = true) (hok : okL xs ys = true) (hu : A.units + min (PyData.tuple xs).depth (PyData.tuple ys).depth < cLine) (h : Q (ltL xs ys) s) :
    wpAny (model prog w) A (keyLt' (tuples' false) u v) Q E s := by
  cases ra with
  | @tuple l o vs n _ as₁ h1 h2 h3 h4 =>
    cases rb with
    | @tuple l' o' vs' n' _ bs₁ k1 k2 k3 k4 =>
      refine PySem.W.kat_lt h1 h3 k1 k3 ?_
      have n1 : vs.size = xs.length := by simpa using ReadsAll.length _ _ _ h4
      have n2 : vs'.size = ys.length := by simpa using ReadsAll.length _ _ _ k4
      rw [n1, n2]
      have hu0 : A.units + min (PyData.depthAll xs) (PyData.depthAll ys) < cLine := by
        have q := room_in hu
        omega
      clear h3 k3 n1 n2 h1 k1
      generalize vs.toList = us at h4
      generalize vs'.toList = ws at k4
      have key : ∀ (xs ys : List PyData) (us ws : List Value) (as bs : List Addr) (i : Nat), ReadsAll s.heap us xs as → ReadsAll s.heap ws ys bs → PyData.canLayAll0 xs = true → PyData.canLayAll0 ys = true → okL xs ys = true →
          A.units + min (PyData.depthAll xs) (PyData.depthAll ys) < cLine → Q (ltL xs ys) s → PySem.W.KatLex prog w A false (decide (xs.length < ys.length)) Q (us.zip ws) i s := by
        intro xs
        induction xs with
        | nil =>
          intro ys us ws as bs i ra rb _ _ _ _ hq
          cases ra
          cases ys with
          | nil =>
            cases rb
            exact PySem.W.kat_nil (by unfold ltL at hq; exact hq)
          | cons y ys =>
            cases rb
            exact PySem.W.kat_nil (by unfold ltL at hq; simpa using hq)
        | cons x xs ih =>
          intro ys us ws as bs i ra rb ha hb hok hu hq
          cases ys with
          | nil =>
            cases rb
            cases ra
            exact PySem.W.kat_nil (by unfold ltL at hq; simpa using hq)
          | cons y ys =>
            have ha' : x.canLay0 = true ∧ PyData.canLayAll0 xs = true := by simpa [PyData.canLayAll0] using ha
            have hb' : y.canLay0 = true ∧ PyData.canLayAll0 ys = true := by simpa [PyData.canLayAll0] using hb
            unfold okL at hok
            unfold ltL at hq
            cases ra with
            | cons r rs =>
              cases rb with
              | cons r' rs' =>
                have e1 : decide ((x :: xs).length < (y :: ys).length) = decide (xs.length < ys.length) := by simp
                rw [e1]
                refine PySem.W.kat_cons (eqAt_reads x y A s _ _ _ _ r r' ha'.1 hb'.1 (room_head hu) prog w _ _ ?_)
                refine PySem.W.kat_go (fun e => ?_) (fun e => ?_)
                · rw [if_pos e] at hok hq
                  exact PySem.W.kat_yes (ih ys _ _ _ _ (i + 1) rs rs' ha'.2 hb'.2 hok (room_tail hu) hq)
                · rw [if_neg (by rw [e]; exact Bool.false_ne_true)] at hok hq
                  refine PySem.W.kat_no ?_
                  rw [Bool.false_and]
                  exact PySem.W.kat_one _ _ (rcLt_data x y A s _ _ _ _ r r' ha'.1 hb'.1 hok (room_head hu) prog w _ _ hq)
      exact key xs ys _ _ _ _ 0 h4 k4 ha hb hok hu0 h
end KC
set_option Elab.async false
set_option linter.all false
set_option maxRecDepth 100000
set_option maxHeartbeats 4000000
namespace KD
open PySem PySem.Spec PyProof.Rows L2 KB KC LamX
def LamO (f : Addr) (q : Str) (params : Arguments) (body : Expr) (scope : Scope) (c' : Addr) : HO := .ext fun h => ∃ pm ctv, h.get? f = some (PySem.W.kla_obj "<lambda>" q params body scope [] pm c' ctv)
theorem lam_run {CX : CXT} {P : Program} {w : World} {K : PySem.W.Frag} {mg : Str → Option Value} {base : Heap} {k : Nat} {f c' : Addr} {q : Str} {params : Arguments} {body : Expr} {scope : Scope} {N ps : List Str} (S : FnScope N ps scope)
    {A : Around} {outer : List Env} {s : Shared} {H : Hp} {args : Args} {us : List Value} {vs : List V} {Q : VK} {E : XK} (hr : Room (k + 1) A) (e0 : Env0 P w K mg base A outer s H)
    (hf : H f = some (LamO f q params body scope c')) (hc : H c' = some (CodeO c' q)) (hb : ∀ pm ctv, BindsTo s (PySem.W.kla_fn "<lambda>" q params body scope [] pm (.ref c') ctv) args (ps.zip us)) (r : Vals vs us) (hl : vs.length = ps.length)
    (hbody : Room k (A.deeper (envOfC q scope s.heap.objs.size f (.ref c'))) → ∃ t, PE (cxOf CX P w K mg base N q scope f (.ref c') A outer s H E) body t ∧ t (start N vs) H Q) :
    codeAny (model P w) A (.call (.ref f) args) (CR CX outer P w H s Q E) s := by
  have lim : s.heap.NoLimit := e0.mod.nolimit.keeps fun b o e => (e0.bs b o e).1
  have hkind : ∀ y ∈ ps.zip us, scope.names.lookup y.1 = some .local ∨ (scope.names.lookup y.1 = some .cell ∧ ((cellsFrom (s.heap.objs.size + 1) scope.names []).lookup y.1).isSome = true) := fun ⟨n, v⟩ hy =>
    (S.par n (List.of_mem_zip hy).1).elim .inl fun q => .inr ⟨q, PySem.W.cellsFrom_some _ _ _ (.inl q)⟩
  obtain ⟨⟨pm, ctv, of1⟩, _, _⟩ := e0.hok f _ hf
  obtain ⟨⟨oc, vsc, t, hoc, hdc, hvc⟩, _, _⟩ := e0.hok c' _ hc
  refine PySem.W.kla_callFunE hr.depth of1 rfl S.co S.gen rfl ⟨c', oc, vsc, t, rfl, hoc, hdc, hvc⟩ ?_
  refine hb pm ctv _ _ _ _ ?_
  refine wpAny_newFunctionEnv_cells S.kind hkind fun env he s1 x => ?_
  subst he
  refine ⟨lim.keeps x.toInCall.keep, ?_⟩
  obtain ⟨t, ht, hq⟩ := hbody (hr.deeper _)
  have I : Inv (cxOf CX P w K mg base N q scope f (.ref c') A outer s H E) [] (start N vs) H s1 := inv_start S hr.hd e0 hl r x
  refine PySem.W.kla_codeExpr (wpAny_mono (ht.run [] s1 (start N vs) H Q I hq) (fun v s' hs => ?_) fun e s' hs => hs)
  obtain ⟨v', H', J, rv, q⟩ := hs
  exact ⟨v', H', J.os, J.bare, J.base, J.hok, rv, q⟩
theorem lamO_ok {P : Program} {w : World} {H : Hp} {h : Heap} {f c' : Addr} {q : Str} {params : Arguments} {body : Expr} {scope : Scope} {pm ctv : Value} (e : h.get? f = some (PySem.W.kla_obj "<lambda>" q params body scope [] pm c' ctv)) :
    ObjOk P w H h f (LamO f q params body scope c') := ⟨⟨pm, ctv, e⟩, ⟨_, e⟩, fun h1 h2 ⟨a, b, z⟩ k => ⟨a, b, k _ z⟩⟩
theorem tabs_upd {T : List (Addr × Str)} {H : Hp} {a : Addr} {o : HO} (t : Tabs T H) (n : H a = none) : Tabs T (upd H a o) := t.ext fun b u e => by rw [upd_ne (ne_of_none e n)]; exact e
theorem extN_upd {H : Hp} {a : Addr} {o : HO} (n : H a = none) : ExtN H (upd H a o) := fun b u e _ => by rw [upd_ne (ne_of_none e n)]; exact e
def tLamV (T : List (Addr × Str)) (q : Str) (params : Arguments) (body : Expr) (scope : Scope) : TE := fun _ H Q => Tabs T H ∧ ∀ f c' H1, ExtN H H1 → Tabs T H1 → H1 f = some (LamO f q params body scope c') → H1 c' = some (CodeO c' q) → H f = none → Q (.ref f) H1
section
variable {X : Cx}
theorem pe_lamV {T : List (Addr × Str)} {c P : Addr} {params : Arguments} {body : Expr} {scope : Scope} {pos : Pos} (TB : TabB X.base X.mg c P) (hcode : X.env.code = .ref c) (hm : (P, X.env.qual ++ "<lambda>") ∈ T) (hu : ∀ p ∈ T, p.1 = P → p.2 = X.env.qual ++ "<lambda>")
    (hdef : defaultsOf params X.env = ([], [])) (hfree : ∀ y ∈ scope.names, y.2 ≠ .free) (hclo : cloFrom X.env.cells scope.names [] = []) : PE X (.Lambda params body scope pos) (tLamV T (X.env.qual ++ "<lambda>") params body scope) := by
  refine ⟨fun pins s σ H Q I h => ?_⟩
  obtain ⟨hT, h⟩ := h
  obtain ⟨ps, hP, ht, ha⟩ := hT _ hm
  refine PySem.W.kla_eval hdef ?_
  have bP : s.heap.BuiltinsAt X.mg P := TB.bm.keeps I.bk
  have hP' : s.heap.get? P = some { cls := .none, data := .fields ps } := I.hok P _ hP
  have hcl : closureFor scope X.env = pure [] := by
    have z := closure_ok (env := X.env) (scope := scope) (fun y hy e => absurd e (hfree y hy))
    rw [hclo] at z
    exact z
  have end_ : ∀ (f c' : Addr) (ctv : Value) (H1 : Hp) (h' : Heap) (tk : Nat), Inv X pins σ H1 { s with heap := h', toks := tk } → s.heap.objs.size ≤ h'.objs.size → ExtN H H1 → Tabs T H1 → H1 h'.objs.size = none → H1 c' = some (CodeO c' (X.env.qual ++ "<lambda>")) →
      EP X pins σ Q (.ref h'.objs.size) { s with heap := h'.push (PySem.W.kla_obj "<lambda>" (X.env.qual ++ "<lambda>") params body scope [] ((X.mg "__name__").getD .none) c' ctv), toks := tk } := by
    intro f c' ctv H1 h' tk I1 hz e1 t1 n1 co
    have J : Inv X pins σ (upd H1 h'.objs.size (LamO h'.objs.size (X.env.qual ++ "<lambda>") params body scope c')) { s with heap := h'.push (PySem.W.kla_obj "<lambda>" (X.env.qual ++ "<lambda>") params body scope [] ((X.mg "__name__").getD .none) c' ctv), toks := tk } :=
      I1.laid (t' := tk) (fun b u e => Heap.get?_push_of_some _ e) (Nat.le_refl _) (lamO_ok (Heap.get?_push_size _ rfl))
    refine ⟨.ref h'.objs.size, _, J, rfl, h h'.objs.size c' _ (e1.trans (extN_upd n1)) (tabs_upd t1 n1) upd_same (by rw [upd_ne (ne_of_none co n1)]; exact co) (I.hok.fresh hz)⟩
  cases hc : codeAmong pos ps.toList with
  | none =>
    refine PySem.W.kla_makeFunction (mg := X.mg) (c := c) (P := P) (ps := ps) hcl I.ok.glob (I.mod.glob.keeps I.bk) hcode (TB.code.keeps I.bk) hP' ht hc TB.gP bP fun c' ctv h' tk hx hge hlt hrec htb => ?_
    obtain ⟨c2, oc, vs, t, e2, hoc, hd, hv⟩ := hrec
    cases e2
    have nC : H c' = none := I.hok.fresh hge
    have nPc : P ≠ c' := ne_of_none hP nC
    have I1 := inv_table (t' := tk) (more := #[rawInt pos.line, rawInt pos.col, .ref c']) (h' := h') I hP hx htb hge ⟨oc, vs, t, hoc, hd, hv⟩
    have hE : ExtN H (upd (upd H P (.tbl (ps ++ #[rawInt pos.line, rawInt pos.col, .ref c']))) c' (CodeO c' (X.env.qual ++ "<lambda>"))) := fun b o e n => by
      rw [upd_ne (ne_of_none e nC), upd_ne (fun z => n ps (Option.some.inj (e.symm.trans (by rw [z]; exact hP))))]
      exact e
    have eL : (ps ++ #[rawInt pos.line, rawInt pos.col, .ref c']).toList = ps.toList ++ [rawInt pos.line, rawInt pos.col, .ref c'] := by simp
    refine end_ h'.objs.size c' ctv _ h' tk I1 (Nat.le_trans hge (Nat.le_of_lt hlt)) hE (fun p hp => ?_) ?_ upd_same
    · by_cases hb : p.1 = P
      · rw [hu p hp hb, hb]
        refine ⟨_, by rw [upd_ne nPc, upd_same], by rw [eL]; exact PySem.TriplesOk_snoc _ _ _ _ ht, fun p' cv hcv => ?_⟩
        rw [eL] at hcv
        rcases among_app _ ht hcv with z | z
        · obtain ⟨c0, e1, e2⟩ := ha p' cv z
          exact ⟨c0, e1, hE _ _ e2 codeO_ne⟩
        · exact ⟨c', z, upd_same⟩
      · obtain ⟨ps', a1, a2, a3⟩ := hT p hp
        refine ⟨ps', by rw [upd_ne (ne_of_none a1 nC), upd_ne hb]; exact a1, a2, fun p' cv hcv => ?_⟩
        obtain ⟨c0, e1, e2⟩ := a3 p' cv hcv
        exact ⟨c0, e1, hE _ _ e2 codeO_ne⟩
    · have n1 : h'.objs.size ≠ c' := Nat.ne_of_gt hlt
      have n2 : h'.objs.size ≠ P := Nat.ne_of_gt (Nat.lt_of_lt_of_le (Heap.lt_size hP') (Nat.le_trans hge (Nat.le_of_lt hlt)))
      rw [upd_ne n1, upd_ne n2]
      exact I.hok.fresh (Nat.le_trans hge (Nat.le_of_lt hlt))
  | some cv =>
    obtain ⟨c', e, hco⟩ := ha pos cv hc
    subst e
    refine PySem.W.kla_makeFunctionHit (mg := X.mg) (c := c) (P := P) (ps := ps) hcl I.ok.glob (I.mod.glob.keeps I.bk) hcode (TB.code.keeps I.bk) hP' ht hc bP fun ctv h' tk hx hsz => ?_
    exact end_ h'.objs.size c' ctv H h' tk (I.kept (t' := tk) hx) hsz (ExtN.refl H) hT (I.hok.fresh hsz) hco
end
end KD
set_option Elab.async false
set_option linter.all false
set_option maxRecDepth 100000
set_option maxHeartbeats 4000000
namespace KS
open PySem PySem.Spec PyProof.Rows L2 KB KC KD LamX PySem.SeqAt SrtO Srt
def Ex (H H' : Hp) : Prop := ∀ b o, H b = some o → H' b = some o
theorem Ex.refl (H : Hp) : Ex H H := fun _ _ h => h
theorem Ex.trans {H H1 H2 : Hp} (a : Ex H H1) (b : Ex H1 H2) : Ex H H2 := fun c o h => b c o (a c o h)
theorem Ex.upd {H : Hp} {a : Addr} {o : HO} (n : H a = none) : Ex H (upd H a o) := fun b u e => by rw [upd_ne (ne_of_none e n)]; exact e
theorem Ex.rd {H H' : Hp} {a : Addr} {u : HO} (e : Ex H H') (h : Rd H a u) : Rd H' a u := h.elim (fun h => .inl (e _ _ h)) fun ⟨o, h⟩ => .inr ⟨o, e _ _ h⟩
mutual
theorem dp_ex {K : PySem.W.Frag} {H H' : Hp} (e : Ex H H') : ∀ {v : V} {d : PyData}, Dp K H v d → Dp K H' v d
  | _, _, .non => .non
  | _, _, .bl b => .bl b
  | _, _, .int i => .int i
  | _, _, .str x => .str x
  | _, _, .lst h t => .lst (h.elim (fun h => .inl (e.rd h)) .inr) (dpAll_ex e t)
  | _, _, .tup h t => .tup (h.elim (fun h => .inl (e.rd h)) .inr) (dpAll_ex e t)
theorem dpAll_ex {K : PySem.W.Frag} {H H' : Hp} (e : Ex H H') : ∀ {vs : List V} {ds : List PyData}, DpAll K H vs ds → DpAll K H' vs ds
  | _, _, .nil => .nil
  | _, _, .cons h t => .cons (dp_ex e h) (dpAll_ex e t)
end
def KeyCall (X : Cx) (f : Addr) (H : Hp) (kvs : List (List Key × V)) (kd : List Key × V → List PyData) : Prop :=
  ∀ x ∈ kvs, ∀ (t q : Addr) (H1 : Hp), Ex H H1 → H1 t = some (.tup [.ref q, x.2]) → H1 q = some (.tup (x.1.map kV)) → ∀ (pins : List (Addr × Obj)) (σ : L2.St) (s1 : Shared) (R : Value → Shared → Prop), Inv X pins σ H1 s1 →
    (∀ y u H2 s2, Inv X pins σ H2 s2 → Ex H1 H2 → RelV y u → Dp X.K H2 y (.tuple (kd x)) → R u s2) → wpAny (model X.prog X.w) X.A.in1.in1 (call (.ref f) [.ref t]) R (fun _ _ => False) s1
section
variable {X : Cx} {pins : List (Addr × Obj)} {σ : L2.St}
theorem lst_raw {H : Hp} {s : Shared} {a : Addr} {ys : List V} (I : Inv X pins σ H s) (h : H a = some (.lst ys)) : ys.length ≤ sizeLine ∧ ∃ (its : List Value) (n : Nat), Vals ys its ∧ s.heap.get? a = some (seqObj "list" its.toArray n) := I.hok a _ h
theorem lst_write {H : Hp} {s : Shared} {a : Addr} {ys zs : List V} {us vs : List Value} {n tk : Nat} (I : Inv X pins σ H s) (h : H a = some (.lst ys)) (hr : s.heap.get? a = some (seqObj "list" us.toArray n)) (hz : zs.length ≤ sizeLine) (rz : Vals zs vs) (g : Array Value → Array Value) (hg : g us.toArray = vs.toArray) :
    Inv X pins σ (upd H a (.lst zs)) { s with heap := s.heap.update a (Obj.mapSeq g), toks := tk } := by
  have e := get?_update_seq hr g
  rw [hg] at e
  exact I.write (t' := tk) (x := a) (e := a) (by rw [h]; exact True.intro) (.inl rfl) (fun b u hb q => (Heap.get?_update_ne _ _ _ _ hb).trans q) ⟨_, e⟩ ⟨hz, vs, _, rz, e⟩
theorem swo_rank {α : Type} (r : α → Int) : Swo fun p q : α => decide (r p < r q) :=
  ⟨fun x y h => by have h := of_decide_eq_true h; exact decide_eq_false (by omega), fun x y z h1 h2 => by have h1 := of_decide_eq_false h1; have h2 := of_decide_eq_false h2; exact decide_eq_false (by omega)⟩
def rankOf (as : List Addr) (kvs : List (List Key × V)) (ρ : List Key × V → Int) (v : Value) : Int :=
  match v with
  | .ref t => match (as.zip kvs).find? (fun z => decide (z.1 = t)) with
    | some z => ρ z.2
    | none => 0
  | _ => 0
theorem find_zip {as : List Addr} {kvs : List (List Key × V)} (nd : as.Nodup) : ∀ {j : Nat} {t : Addr} {x : List Key × V}, as[j]? = some t → kvs[j]? = some x → (as.zip kvs).find? (fun z => decide (z.1 = t)) = some (t, x) := by
  induction as generalizing kvs with
  | nil => intro j t x h; simp at h
  | cons b as ih =>
    intro j t x h1 h2
    rw [List.nodup_cons] at nd
    cases kvs with
    | nil => simp at h2
    | cons y kvs =>
      cases j with
      | zero =>
        simp only [List.getElem?_cons_zero, Option.some.injEq] at h1 h2
        subst h1 h2
        simp
      | succ j =>
        simp only [List.getElem?_cons_succ] at h1 h2
        have hne : ¬ b = t := fun z => nd.1 (by rw [z]; exact List.mem_of_getElem? h1)
        rw [List.zip_cons_cons, List.find?_cons_of_neg (by simpa using hne)]
        exact ih nd.2 h1 h2
theorem rank_at {as : List Addr} {kvs : List (List Key × V)} {ρ : List Key × V → Int} (nd : as.Nodup) {j : Nat} {t : Addr} {x : List Key × V} (h1 : as[j]? = some t) (h2 : kvs[j]? = some x) : rankOf as kvs ρ (.ref t) = ρ x := by
  unfold rankOf
  simp only [find_zip nd h1 h2]
end
mutual
def pureD : PyData → Bool
  | .none => true
  | .bool _ => true
  | .int _ => true
  | .str _ => true
  | .tuple xs => pureL xs
  | _ => false
def pureL : List PyData → Bool
  | [] => true
  | x :: xs => pureD x && pureL xs
end
mutual
theorem dp_tups {K : PySem.W.Frag} {H H' : Hp} (e : ∀ b xs, Rd H b (.tup xs) → Rd H' b (.tup xs)) : ∀ {v : V} {d : PyData}, pureD d = true → Dp K H v d → Dp K H' v d
  | _, _, _, .non => .non
  | _, _, _, .bl b => .bl b
  | _, _, _, .int i => .int i
  | _, _, _, .str x => .str x
  | _, _, h, .lst _ _ => by unfold pureD at h; cases h
  | _, _, h, .tup a t => .tup (a.elim (fun a => .inl (e _ _ a)) .inr) (dpAll_tups e (by unfold pureD at h; exact h) t)
theorem dpAll_tups {K : PySem.W.Frag} {H H' : Hp} (e : ∀ b xs, Rd H b (.tup xs) → Rd H' b (.tup xs)) : ∀ {vs : List V} {ds : List PyData}, pureL ds = true → DpAll K H vs ds → DpAll K H' vs ds
  | _, _, _, .nil => .nil
  | _, _, h, .cons a t => by
    have h2 := h
    unfold pureL at h2
    rw [Bool.and_eq_true] at h2
    exact .cons (dp_tups e h2.1 a) (dpAll_tups e h2.2 t)
end
theorem kat_of {h : Heap} : ∀ its : List Value, (∀ u ∈ its, ∃ l r as, Reads h u (.tuple (.tuple l :: r)) as) → ∃ fs : List Value, PySem.W.KatTups h its fs ∧ fs.length = its.length ∧ ∀ v ∈ fs, ∃ (b : Addr) (o : Obj), v = .ref b ∧ h.get? b = some o ∧ o.cls = .type "tuple"
  | [], _ => ⟨[], PySem.W.KatTups.nil, rfl, fun v hv => by simp at hv⟩
  | u :: its, hr => by
    obtain ⟨fs, k1, k2, k3⟩ := kat_of its fun u' hu' => hr u' (List.mem_cons_of_mem _ hu')
    obtain ⟨l, r, as, q⟩ := hr u List.mem_cons_self
    cases q with
    | @tuple a o vs n _ as₁ h1 h2 h3 h4 =>
      generalize ev : vs.toList = vl at h4
      cases h4 with
      | @cons v0 vr _ _ as1 as2 r0 rr =>
        cases r0 with
        | @tuple b ob vs' n' _ as₂ g1 g2 g3 g4 =>
          refine ⟨.ref b :: fs, PySem.W.KatTups.cons h1 h2 h3 (by rw [← Array.getElem?_toList, ev]; rfl) k1, by rw [List.length_cons, List.length_cons, k2], fun v hv => ?_⟩
          rcases List.mem_cons.mp hv with e | hv
          · exact ⟨b, ob, e, g1, g2⟩
          · exact k3 v hv
section
variable {X : Cx} {pins : List (Addr × Obj)} {σ : L2.St}
theorem sort_body {f D : Addr} {H : Hp} {s : Shared} {h2 : Heap} {tk : Nat} {kvs : List (List Key × V)} {xs : List (List Key × Addr × Value)} {es : Array DictEntry} {as : List Addr} {kd : List Key × V → List PyData} {ρ : List Key × V → Int} {P : PySem.Fin → Shared → Prop} {E : Value → Shared → Prop}
    (I : Inv X pins σ H s) (hk : ∀ b o, s.heap.get? b = some o → h2.get? b = some o) (hD : h2.get? D = some (seqObj "list" (as.map Value.ref).toArray 0)) (hsD : s.heap.objs.size ≤ D)
    (rel : KT H kvs xs) (hes : es.toList = xs.map (entryOfKey (tupleKind (mixKind X.prog X.w)))) (hl : as.length = es.size) (hG : DT.Made es s.heap.objs.size h2 as) (hz : kvs.length ≤ sizeLine)
    (hsh : ∀ x ∈ kvs, shaped (.tuple (kd x)) = true) (hpu : ∀ x ∈ kvs, pureL (kd x) = true) (hft : ∀ x ∈ kvs, ∃ l r, kd x = .tuple l :: r) (hok : ∀ x ∈ kvs, ∀ y ∈ kvs, okL (kd x) (kd y) = true) (hρ : ∀ x ∈ kvs, ∀ y ∈ kvs, ltL (kd x) (kd y) = decide (ρ x < ρ y))
    (hu : X.A.units + 66 < cLine) (hcall : KeyCall X f H kvs kd)
    (q : ∀ (H' : Hp) (s' : Shared) (zs : List (Addr × (List Key × V))), Inv X pins σ H' s' → Ex H H' → H D = none → H' D = some (.lst (zs.map fun z => V.ref z.1)) → (zs.map (·.2)).Perm kvs → (zs.map (·.2)).Pairwise (fun x y => ¬ ρ y < ρ x) →
      (∀ z ∈ zs, ∃ q, H' z.1 = some (.tup [.ref q, z.2.2]) ∧ H' q = some (.tup (z.2.1.map kV))) → P (.done (.ret .none)) s') :
    wpAny (model X.prog X.w) X.A.in1.in1 (ksk_tree D (.ref f) false) P E { s with heap := h2, toks := tk } := by
  have l1 : kvs.length = xs.length := Paired.length rel
  have l2 : es.size = xs.length := size_of_entries hes
  have lak : as.length = kvs.length := by omega
  have nd : as.Nodup := List.Pairwise.imp (fun h => Nat.ne_of_lt h) hG.rise
  have szl : (as.map Value.ref).toArray.size = kvs.length := by rw [List.size_toArray, List.length_map, lak]
  have asz : (as.map Value.ref).length ≤ sizeLine := by rw [List.length_map]; omega
  have nD : H D = none := I.hok.fresh hsD
  have asD : ∀ b ∈ as, b ≠ D ∧ b < h2.objs.size := fun b hb => by
    obtain ⟨j, hj⟩ := List.mem_iff_getElem?.mp hb
    obtain ⟨_, _, e⟩ := hG.pairs j b hj
    refine ⟨fun z => ?_, Heap.lt_size e⟩
    rw [z, hD] at e
    exact absurd (Value.type.inj (congrArg Obj.cls (Option.some.inj e))) (by decide)
  unfold ksk_tree
  refine wpAny_bind (listItems_at hD rfl ?_)
  refine wpAny_bind (listUpdate_at hD rfl ?_ (by rw [szl]; exact hz) (Nat.zero_le _))
  obtain ⟨e1, ho1⟩ : ∃ e1, (h2.update D (Obj.mapSeq fun _ => (#[] : Array Value))).get? D = some (seqObj "list" #[] e1) := ⟨_, get?_update_seq hD fun _ => #[]⟩
  refine wpAny_bind (seqEpoch_at ho1 rfl ?_)
  refine wpAny_bind (wpAny_newTuple ?_ asz)
  refine wpAny_bind (wpAny_newList ?_ (Nat.zero_le _))
  refine wpAny_holding ?_
  generalize hh4 : (h2.update D (Obj.mapSeq fun _ => (#[] : Array Value))).push (seqObj "tuple" (as.map Value.ref).toArray 0) = h4
  have z4 : h4.objs.size = h2.objs.size + 1 := by rw [← hh4, size_push', Heap.size_update]
  have keep4 : ∀ b o, b ≠ D → h2.get? b = some o → h4.get? b = some o := fun b o hb e => by
    rw [← hh4]
    exact Heap.get?_push_of_some _ ((Heap.get?_update_ne _ _ _ _ hb).trans e)
  have hD4 : h4.get? D = some (seqObj "list" #[] e1) := by rw [← hh4]; exact Heap.get?_push_of_some _ ho1
  have I1 : Inv X pins σ (upd H h4.objs.size (.lst [])) { s with heap := h4.push (seqObj "list" #[] 0), toks := tk } :=
    I.laid (t' := tk) (fun b o e => Heap.get?_push_of_some _ (keep4 b o (fun z => by rw [z] at e; exact absurd (Heap.lt_size e) (Nat.not_lt.mpr hsD)) (hk b o e))) (by rw [z4]; exact Nat.le_succ_of_le (Nat.le_trans hsD (Nat.le_of_lt (Heap.lt_size hD))))
      ⟨Nat.zero_le _, [], 0, .nil, Heap.get?_push_size _ rfl⟩
  have hkn : H h4.objs.size = none := I.hok.fresh (by rw [z4]; exact Nat.le_succ_of_le (Nat.le_trans hsD (Nat.le_of_lt (Heap.lt_size hD))))
  have hDk : D ≠ h4.objs.size := by rw [z4]; exact Nat.ne_of_lt (Nat.lt_succ_of_lt (Heap.lt_size hD))
  have hG5 : DT.Made es s.heap.objs.size (h4.push (seqObj "list" #[] 0)) as := ⟨hG.rise, hG.above, fun j b hj => by
    obtain ⟨e, he, hg⟩ := hG.pairs j b hj
    exact ⟨e, he, Heap.get?_push_of_some _ (keep4 b _ (asD b (List.mem_of_getElem? hj)).1 hg)⟩⟩
  obtain ⟨H2, I2, g2, pp, off⟩ := made_tracked (h' := h4.push (seqObj "list" #[] 0)) (tk := tk) I rel hes hl hG5 I1 (Ex.upd hkn) fun b hb => by
    rw [upd_ne (by rw [z4]; exact Nat.ne_of_lt (Nat.lt_succ_of_lt (asD b hb).2))]
    exact I.hok.fresh (Nat.le_of_lt (hG.above b hb))
  have exH2 : Ex H H2 := (Ex.upd hkn).trans g2
  have hkS2 : H2 h4.objs.size = some (.lst []) := g2 _ _ upd_same
  have hD2 : H2 D = none := by rw [off D fun z => (asD D z).1 rfl, upd_ne hDk]; exact nD
  have fD : ∀ H', H' D = none → FpOk X pins H' D := fun H' n => I.fpOk hsD n
  have I3 : Inv X (pins ++ [(D, seqObj "list" #[] e1)]) σ H2 { s with heap := h4.push (seqObj "list" #[] 0), toks := tk } := I2.pins_of fun p hp => by
    rcases List.mem_append.mp hp with hp | hp
    · exact I2.pin p (List.mem_append_right _ hp)
    · rw [List.mem_singleton.mp hp]
      obtain ⟨_, f1, f2, _⟩ := fD H2 hD2
      exact ⟨Heap.get?_push_of_some _ hD4, hD2, f1, f2, fun v z => by cases z⟩
  have pget : ∀ {j : Nat} {t : Addr}, as[j]? = some t → ∃ x q, kvs[j]? = some x ∧ H2 t = some (.tup [.ref q, x.2]) ∧ H2 q = some (.tup (x.1.map kV)) := fun {j t} hj => by
    obtain ⟨x, hx, q, q1, q2⟩ := LiI.paired_get pp hj
    exact ⟨x, q, hx, q1, q2⟩
  unfold ksk_rest
  refine wpAny_bind (wpAny_rule ?_)
  first
    | rw [List.forIn_toArray]
    | (rw [← Array.forIn_toList]; simp only [List.toList_toArray])
  refine wpAny_bind (ksk_fold (fun i s' => ∃ (Hi : Hp) (ys : List V), Inv X (pins ++ [(D, seqObj "list" #[] e1)]) σ Hi s' ∧ (∀ b o, b ≠ h4.objs.size → H2 b = some o → Hi b = some o) ∧ Hi h4.objs.size = some (.lst ys) ∧ ys.length = i ∧
      ∀ (j : Nat) (y : V), ys[j]? = some y → ∃ x, kvs[j]? = some x ∧ Dp X.K Hi y (.tuple (kd x))) (as.map Value.ref) 0 _ ⟨H2, [], I3, fun b o _ e => e, hkS2, rfl, fun j y h => by simp at h⟩ ?step ?done)
  case step =>
    rintro j v s' hv ⟨Hi, ys, Ii, ei, hki, hlen, hdp⟩
    simp only [Nat.zero_add] at hlen ⊢
    rw [List.getElem?_map] at hv
    obtain ⟨t, ht, rfl⟩ := Option.map_eq_some_iff.mp hv
    obtain ⟨x, qa, hx, q1, q2⟩ := pget ht
    have nk : ∀ {b : Addr} {vs : List V}, H2 b = some (.tup vs) → b ≠ h4.objs.size := fun e z => by rw [z, hkS2] at e; cases e
    have hxm : x ∈ kvs := List.mem_of_getElem? hx
    refine wpAny_bind (wpAny_attempt (wpAny_mono (hcall x hxm t qa Hi (fun b o e => ei b o (fun z => by rw [z, hkn] at e; cases e) (exH2 b o e)) (ei _ _ (nk q1) q1) (ei _ _ (nk q2) q2) _ _ s'
      (fun u s'' => ∃ y H3, Inv X (pins ++ [(D, seqObj "list" #[] e1)]) σ H3 s'' ∧ Ex Hi H3 ∧ RelV y u ∧ Dp X.K H3 y (.tuple (kd x))) Ii fun y u H3 s2 J e3 ry dy => ⟨y, H3, J, e3, ry, dy⟩) (fun u s'' he => ?_) fun _ _ hF => hF.elim))
    obtain ⟨y, H3, J, e3, ry, dy⟩ := he
    have hk3 := e3 _ _ hki
    obtain ⟨hzy, its, n, ri, hraw⟩ := lst_raw J hk3
    have jl : j < as.length := (List.getElem?_eq_some_iff.mp ht).1
    have il : its.length = ys.length := ri.length.symm
    try dsimp only
    refine wpAny_bind (listUpdate_at hraw rfl ?_ (by rw [List.size_toArray]; omega) (by rw [Array.size_push, List.size_toArray]; omega))
    refine wpAny_pure ⟨rfl, _, ys ++ [y], lst_write (tk := s''.toks) J hk3 hraw (by rw [List.length_append, List.length_singleton]; omega) (ri.append (.cons ry .nil)) (·.push u) (by simp), fun b o hb e => ?_, upd_same, by rw [List.length_append, List.length_singleton]; omega, fun i z hz' => ?_⟩
    · rw [upd_ne hb]
      exact e3 _ _ (ei b o hb e)
    · have mono : ∀ {v : V} {x : List Key × V}, x ∈ kvs → Dp X.K H3 v (.tuple (kd x)) → Dp X.K (upd H3 h4.objs.size (.lst (ys ++ [y]))) v (.tuple (kd x)) := fun {v x} hm hd =>
        dp_tups (fun b vs r => r.elim (fun r => .inl (by rw [upd_ne (ne_of r hk3 (fun z => by cases z))]; exact r)) fun ⟨o, r⟩ => .inr ⟨o, by rw [upd_ne (ne_of r hk3 (fun z => by cases z))]; exact r⟩) (by unfold pureD; exact hpu x hm) hd
      by_cases hi : i < ys.length
      · rw [List.getElem?_append_left hi] at hz'
        obtain ⟨x', hx', hd'⟩ := hdp i z hz'
        exact ⟨x', hx', mono (List.mem_of_getElem? hx') (dp_ex e3 hd')⟩
      · rw [List.getElem?_append_right (by omega)] at hz'
        have e0 : i - ys.length = 0 := by
          have := (List.getElem?_eq_some_iff.mp hz').1
          simp at this
          omega
        rw [e0] at hz'
        have e4 : y = z := by simpa using hz'
        have e5 : i = j := by omega
        rw [← e4, e5]
        exact ⟨x, hx, mono hxm dy⟩
  case done =>
    rintro s' ⟨Hi, ys, Ii, ei, hki, hlen, hdp⟩
    rw [List.length_map, Nat.zero_add] at hlen
    obtain ⟨_, its, n, ri, hraw⟩ := lst_raw Ii hki
    have il : its.length = ys.length := ri.length.symm
    try dsimp only
    refine wpAny_bind (listItems_at hraw rfl ?_)
    have pairsL : (its.toArray.zip (as.map Value.ref).toArray).toList = its.zip (as.map Value.ref) := by
      first
        | simp
        | rfl
    have mem_at : ∀ p ∈ its.zip (as.map Value.ref), ∃ (j : Nat) (t : Addr) (x : List Key × V), p.2 = .ref t ∧ as[j]? = some t ∧ kvs[j]? = some x ∧ its[j]? = some p.1 := fun p hp => by
      obtain ⟨j, hj⟩ := List.mem_iff_getElem?.mp hp
      obtain ⟨j1, j2⟩ := List.getElem?_zip_eq_some.mp hj
      rw [List.getElem?_map] at j2
      obtain ⟨t, ht, e⟩ := Option.map_eq_some_iff.mp j2
      obtain ⟨x, _, hx, _⟩ := pget ht
      exact ⟨j, t, x, e.symm, ht, hx, j1⟩
    have tail : ∀ st' : SortSt, Srtd (fun p q : Keyed => decide (rankOf as kvs ρ p.2 < rankOf as kvs ρ q.2)) (arrOf st').toList → Stb (fun p q : Keyed => decide (rankOf as kvs ρ p.2 < rankOf as kvs ρ q.2)) (arrOf st').toList (its.zip (as.map Value.ref)) → failedOf st' = none →
        wpAny (model X.prog X.w) X.A.in1.in1 (ksk_tail D false e1 (.ref h4.objs.size) st') P E s' := by
      intro st' hs hb hf
      have out_perm : ((arrOf st').toList.map (·.2)).Perm (as.map Value.ref) := by
        have z := hb.perm.map (·.2)
        rw [List.map_snd_zip (by rw [List.length_map]; omega)] at z
        exact z
      have ezip : (as.zip kvs).map (fun z => Value.ref z.1) = as.map Value.ref := by
        rw [show (fun z : Addr × (List Key × V) => Value.ref z.1) = Value.ref ∘ Prod.fst from rfl, ← List.map_map, List.map_fst_zip (by omega)]
      obtain ⟨zs, pz, ez⟩ := perm_lift (fun z : Addr × (List Key × V) => Value.ref z.1) out_perm (as.zip kvs) ezip
      have zmem : ∀ z ∈ zs, ∃ j : Nat, as[j]? = some z.1 ∧ kvs[j]? = some z.2 := fun z hz => by
        obtain ⟨j, hj⟩ := List.mem_iff_getElem?.mp (pz.mem_iff.mp hz)
        exact ⟨j, List.getElem?_zip_eq_some.mp hj⟩
      have zlen : zs.length = kvs.length := by
        rw [pz.length_eq, List.length_zip]
        omega
      have osz : ((arrOf st').map (·.2)).size = kvs.length := by
        have z := out_perm.length_eq
        rw [List.length_map, Array.length_toList, List.length_map] at z
        rw [Array.size_map]
        omega
      have oeq : ((arrOf st').map (·.2)).toList = zs.map fun z => Value.ref z.1 := by rw [Array.toList_map, ← ez]
      have J1 := lst_write (tk := s'.toks) (zs := []) (vs := []) Ii hki hraw (Nat.zero_le _) .nil (fun _ => (#[] : Array Value)) rfl
      obtain ⟨pD, nD5, _⟩ := J1.pin (D, seqObj "list" #[] e1) (List.mem_append_right _ (List.mem_append_right _ (List.mem_singleton.mpr rfl)))
      unfold ksk_tail
      try dsimp only
      refine wpAny_bind (listUpdate_at hraw rfl ?_ (by rw [List.size_toArray]; omega) (Nat.zero_le _))
      refine wpAny_bind (wpAny_letGo ?_)
      refine wpAny_bind (seqEpoch_at pD rfl ?_)
      refine wpAny_bind (listUpdate_at pD rfl ?_ (Nat.zero_le _) (by simp only [Bool.false_eq_true, if_false]; rw [osz]; omega))
      rw [hf]
      simp only [bne_self_eq_false, Bool.false_eq_true, if_false]
      refine wpAny_pure ?_
      have J2 := J1.pins_of (pins' := pins) fun p hp => J1.pin p (List.mem_append_right _ (List.mem_append_left _ hp))
      have eD := get?_update_seq pD fun _ => (arrOf st').map (·.2)
      have dk : D ≠ h4.objs.size := hDk
      have J3 := J2.take (t' := s'.toks) (o := .lst (zs.map fun z => V.ref z.1)) (h' := (s'.heap.update h4.objs.size (Obj.mapSeq fun _ => (#[] : Array Value))).update D (Obj.mapSeq fun _ => (arrOf st').map (·.2))) (fun b u hb e => (Heap.get?_update_ne _ _ _ _ hb).trans e) (fD _ nD5)
        ⟨by rw [List.length_map]; omega, zs.map (fun z => Value.ref z.1), _, vals_maps (fun z : Addr × (List Key × V) => V.ref z.1) (fun z => Value.ref z.1) zs fun _ _ => rfl, by rw [← oeq, Array.toArray_toList]; exact eD⟩
      refine q _ _ zs J3 (fun b o e => ?_) nD upd_same ?_ ?_ fun z hz' => ?_
      · rw [upd_ne (ne_of_none e nD), upd_ne (ne_of_none e hkn)]
        exact ei b o (ne_of_none e hkn) (exH2 b o e)
      · have z := pz.map (·.2)
        rw [List.map_snd_zip (by omega)] at z
        exact z
      · have s1 : (zs.map fun z => Value.ref z.1).Pairwise (fun v u => decide (rankOf as kvs ρ u < rankOf as kvs ρ v) = false) := by
          rw [ez, List.pairwise_map]
          exact hs
        rw [List.pairwise_map] at s1 ⊢
        refine List.Pairwise.imp_of_mem (fun {x y} hx hy h => ?_) s1
        obtain ⟨j, j1, j2⟩ := zmem x hx
        obtain ⟨i, i1, i2⟩ := zmem y hy
        rw [rank_at nd j1 j2, rank_at nd i1 i2] at h
        exact of_decide_eq_false h
      · obtain ⟨j, j1, j2⟩ := zmem z hz'
        obtain ⟨x, qa, hx, q1, q2⟩ := pget j1
        have e : x = z.2 := Option.some.inj (hx.symm.trans j2)
        rw [e] at q1 q2
        have up : ∀ {b : Addr} {vs : List V}, H2 b = some (.tup vs) → (upd (upd Hi h4.objs.size (.lst [])) D (.lst (zs.map fun z => V.ref z.1))) b = some (.tup vs) := fun {b vs} h => by
          rw [upd_ne (fun z => by rw [z, hD2] at h; cases h), upd_ne (fun z => by rw [z, hkS2] at h; cases h)]
          exact ei _ _ (fun z => by rw [z, hkS2] at h; cases h) h
        exact ⟨qa, up q1, up q2⟩
    unfold ksk_end
    simp only [Bool.false_eq_true, if_false]
    by_cases h2s : (as.map Value.ref).toArray.size < 2
    · rw [if_pos h2s, if_pos h2s]
      refine wpAny_bind (wpAny_pure ?_)
      rw [StateT.run_pure]
      refine wpAny_bind (wpAny_pure ?_)
      try dsimp only
      refine tail (SortSt.mk' general' (its.toArray.zip (as.map Value.ref).toArray) #[] 7 none) ?_ ?_ rfl
      · show List.Pairwise _ (its.toArray.zip (as.map Value.ref).toArray).toList
        rw [pairsL]
        have ll : (its.zip (as.map Value.ref)).length < 2 := by
          rw [List.length_zip, List.length_map]
          rw [szl] at h2s
          omega
        match h : its.zip (as.map Value.ref), ll with
        | [], _ => exact List.Pairwise.nil
        | [v], _ => exact List.pairwise_singleton _ _
        | _ :: _ :: l, h3 => exact absurd h3 (by rw [List.length_cons, List.length_cons]; omega)
      · show Stb _ (its.toArray.zip (as.map Value.ref).toArray).toList _
        rw [pairsL]
        exact Stb.refl _
    · rw [if_neg h2s, if_neg h2s]
      have rd : ∀ {j : Nat} {u : Value}, its[j]? = some u → ∃ x as', kvs[j]? = some x ∧ Reads s'.heap u (.tuple (kd x)) as' := fun {j u} hj => by
        have jl : j < ys.length := by
          have := (List.getElem?_eq_some_iff.mp hj).1
          omega
        obtain ⟨x, hx, hd⟩ := hdp j ys[j] (List.getElem?_eq_getElem jl)
        obtain ⟨u', hu', ru⟩ := ri.get (List.getElem?_eq_getElem jl)
        have e : u' = u := Option.some.inj (hu'.symm.trans hj)
        rw [e] at ru
        obtain ⟨as', r⟩ := Dp.reads Ii _ _ _ hd ru
        exact ⟨x, as', hx, r⟩
      have cmp : Cmp X.prog X.w X.A.in1.in1 s' (tuples' false) (fun p => p ∈ its.zip (as.map Value.ref)) (fun p q : Keyed => decide (rankOf as kvs ρ p.2 < rankOf as kvs ρ q.2)) := by
        intro p q hp hq
        obtain ⟨j, t, x, e1, h1, h2, h3⟩ := mem_at p hp
        obtain ⟨i, t', x', e1', h1', h2', h3'⟩ := mem_at q hq
        obtain ⟨y, bs, hy, r⟩ := rd h3
        obtain ⟨y', bs', hy', r'⟩ := rd h3'
        have ey : y = x := Option.some.inj (hy.symm.trans h2)
        have ey' : y' = x' := Option.some.inj (hy'.symm.trans h2')
        rw [ey] at r
        rw [ey'] at r'
        have m := List.mem_of_getElem? h2
        have m' := List.mem_of_getElem? h2'
        refine keyLt_data r r' (canLay_of_shaped (hsh x m)) (canLay_of_shaped (hsh x' m')) (hok x m x' m') (room_of_shaped (hsh x m) (by show X.A.units + 1 + 1 + 64 < cLine; omega)) ⟨rfl, ?_⟩
        show ltL (kd x) (kd x') = decide (rankOf as kvs ρ p.2 < rankOf as kvs ρ q.2)
        rw [e1, e1', rank_at nd h1 h2, rank_at nd h1' h2', hρ x m x' m']
      have kk : ∀ (R : SortKind → Shared → Prop), R (tuples' false) s' → wpAny (model X.prog X.w) X.A.in1.in1 (keyKind' its.toArray) R E s' := by
        intro R hR
        obtain ⟨fs, k1, k2, k3⟩ := kat_of (h := s'.heap) its fun u hu' => by
          obtain ⟨j, hj⟩ := List.mem_iff_getElem?.mp hu'
          obtain ⟨x, as', hx, r⟩ := rd hj
          obtain ⟨l, r', e⟩ := hft x (List.mem_of_getElem? hx)
          rw [e] at r
          exact ⟨l, r', as', r⟩
        refine PySem.W.kat_kind (T := .type "tuple") k1 (by rw [szl] at h2s; omega) (fun v hv => ?_) (by decide) (by
          have z : (Value.type "tuple" != Value.type "tuple") = false := by decide
          rw [z]
          exact hR)
        obtain ⟨b, o, rfl, ho, hc⟩ := k3 v hv
        rw [← hc]
        exact (PySem.W.Looks.ld ho).andThen .now
      refine wpAny_bind (kk _ ?_)
      refine wpAny_bind (wpAny_mono (wpS_sortO (st0 := SortSt.mk' (tuples' false) (its.toArray.zip (as.map Value.ref).toArray) #[] 7 none)
        (Q := fun _ st' => Srtd (fun p q : Keyed => decide (rankOf as kvs ρ p.2 < rankOf as kvs ρ q.2)) (arrOf st').toList ∧ Stb (fun p q : Keyed => decide (rankOf as kvs ρ p.2 < rankOf as kvs ρ q.2)) (arrOf st').toList (its.zip (as.map Value.ref)) ∧ failedOf st' = none) (swo_rank fun p : Keyed => rankOf as kvs ρ p.2) cmp rfl
        (fun p hp => by
          have hp : p ∈ (its.toArray.zip (as.map Value.ref).toArray).toList := hp
          rw [pairsL] at hp
          exact hp) rfl rfl fun st' a1 a2 a3 => ⟨a1, by
            have a2 : Stb _ (arrOf st').toList (its.toArray.zip (as.map Value.ref).toArray).toList := a2
            rw [pairsL] at a2
            exact a2, a3⟩) ?_ fun _ _ e => e)
      rintro ⟨⟨⟩, st'⟩ s'' ⟨rfl, a1, a2, a3⟩
      try dsimp only
      exact tail st' a1 a2 a3
end
end KS
set_option Elab.async false
set_option linter.all false
set_option maxRecDepth 100000
set_option maxHeartbeats 4000000
namespace KS
open PySem PySem.Spec PyProof.Rows PySem.Calls L2 KB KC KD LamX PySem.SeqAt
def rSortItK (X : Cx) : List V → List V → Hp → VK → Prop := fun vs zs H Q => ∃ (p a f : Addr) (kvs : List (List Key × V)) (kd : List Key × V → List PyData) (ρ : List Key × V → Int), vs = [.ref p] ∧ zs = [.ref f] ∧ H p = some (L2.DX.itemsO p a) ∧ H a = some (.dT kvs) ∧
  (∀ x ∈ kvs, shaped (.tuple (kd x)) = true) ∧ (∀ x ∈ kvs, pureL (kd x) = true) ∧ (∀ x ∈ kvs, ∃ l r, kd x = .tuple l :: r) ∧ (∀ x ∈ kvs, ∀ y ∈ kvs, okL (kd x) (kd y) = true) ∧ (∀ x ∈ kvs, ∀ y ∈ kvs, ltL (kd x) (kd y) = decide (ρ x < ρ y)) ∧ KeyCall X f H kvs kd ∧
  ∀ (H' : Hp) (D : Addr) (zs : List (Addr × (List Key × V))), Ex H H' → H D = none → H' D = some (.lst (zs.map fun z => V.ref z.1)) → (zs.map (·.2)).Perm kvs → (zs.map (·.2)).Pairwise (fun x y => ¬ ρ y < ρ x) →
    (∀ z ∈ zs, ∃ q, H' z.1 = some (.tup [.ref q, z.2.2]) ∧ H' q = some (.tup (z.2.1.map kV))) → Q (.ref D) H'
section
variable {X : Cx}
theorem cr_sortedItK (hc : X.calm = true) (hu : X.A.units + 66 < cLine) : CallRK X (.builtin "sorted") [Str.ofString "key"] (rSortItK X) := by
  intro pins s σ H xs zs us ws Q I r rz h
  obtain ⟨p, a, f, kvs, kd, ρ, rfl, rfl, hp, ha, hsh, hpu, hft, hok, hρ, hcall, q⟩ := h
  obtain rfl := Vals.ref1 r
  obtain rfl := Vals.ref1 rz
  have view : s.heap.IsItemsView p a := (show ObjOk X.prog X.w H s.heap p (L2.DX.itemsO p a) from I.hok p _ hp).1
  obtain ⟨z, hd, xs', rel, o, es, ep, ho, hx, hdat, hes, his, hn⟩ := dt_of I.hok ha
  have l1 : kvs.length = xs'.length := Paired.length rel
  have l2 : es.size = xs'.length := size_of_entries hes
  show wpAny _ _ (call (.builtin "sorted") [.ref p] [(Str.ofString "key", .ref f)]) _ _ s
  refine call_function_entry_kw kind_sorted plain_sorted entry_sorted (ksk_s1 _ _) ?_
  unfold Builtin.«sorted»
  refine wpAny_bind (m := checkCount "sorted" 1 1 _) (wpAny_pure ?_)
  refine wpAny_bind (DT.collectI (A := X.A.in1) (es := es) (ep := ep) (I.ok.hd hc) view ⟨o, ho, hx, hdat⟩ (by omega) fun h' tk as hk hlt hl hG => ?_)
  refine wpAny_bind (wpAny_newList ?_ (by rw [List.length_map, hl]; omega))
  have hoL : (h'.push (seqObj "list" (as.map Value.ref).toArray 0)).get? h'.objs.size = some (seqObj "list" (as.map Value.ref).toArray 0) := Heap.get?_push_size _ rfl
  refine wpAny_bind (wpAny_holding (wpAny_call_entry_kw slot_list_sort ⟨_, hoL, rfl⟩ entry_list_sort ?body (ksk_l1 _ _)))
  case body =>
    show wpAny (model X.prog X.w) X.A.in1.in1 (Builtin.«list.sort» ⟨[.ref h'.objs.size], [(Str.ofString "key", .ref f)]⟩) _ _ _
    rw [ksk_t1]
    refine sort_body (s := s) (h2 := h'.push (seqObj "list" (as.map Value.ref).toArray 0)) (tk := tk) (ρ := ρ) I (fun b u e => Heap.get?_push_of_some _ (hk b u e)) hoL (Nat.le_of_lt hlt) rel hes hl
      ⟨hG.rise, hG.above, fun j b hj => let ⟨e, he, hg⟩ := hG.pairs j b hj; ⟨e, he, Heap.get?_push_of_some _ hg⟩⟩ z hsh hpu hft hok hρ hu hcall fun H' s' zs J e1 e2 e3 e4 e5 e6 => ⟨_, rfl, ?_⟩
    exact wpAny_pure ⟨_, rfl, .ref h'.objs.size, H', J, rfl, q H' h'.objs.size zs e1 e2 e3 e4 e5 e6⟩
theorem keyCall_lam {k : Nat} {f c' : Addr} {qn : Str} {params : Arguments} {body : Expr} {scope : Scope} {N : List Str} {pn : Str} {H : Hp} {kvs : List (List Key × V)} {kd : List Key × V → List PyData} (S : FnScope N [pn] scope) (hr : Room (k + 3) X.A)
    (hf : H f = some (LamO f qn params body scope c')) (hc : H c' = some (CodeO c' qn)) (hb : ∀ (s : Shared) (pm ctv u : Value), BindsTo s (PySem.W.kla_fn "<lambda>" qn params body scope [] pm (.ref c') ctv) ⟨[u], []⟩ ([pn].zip [u]))
    (hbody : ∀ (A : Around) (outer : List Env) (s : Shared) (H1 : Hp), Room k (A.deeper (envOfC qn scope s.heap.objs.size f (.ref c'))) → ∀ x ∈ kvs, ∀ (t q : Addr) (Q : VK), Ex H H1 → H1 t = some (.tup [.ref q, x.2]) → H1 q = some (.tup (x.1.map kV)) →
      (∀ y H2, Ex H1 H2 → Dp X.K H2 y (.tuple (kd x)) → Q y H2) → ∃ tt, PE (cxOf CX0 X.prog X.w X.K X.mg X.base N qn scope f (.ref c') A outer s H1 E0) body tt ∧ tt (start N [.ref t]) H1 Q) : KeyCall X f H kvs kd := by
  intro x hx t q H1 e1 h1 h2 pins σ s1 R J hR
  have hr2 : Room (k + 1) X.A.in1.in1 := (show Room (k + 2) X.A.in1 from Room.in1 hr).in1
  have rc := lam_run (CX := CX0) (Q := fun y H2 => Ex H1 H2 ∧ Dp X.K H2 y (.tuple (kd x))) (E := E0) (vs := [.ref t]) (us := [.ref t]) (args := ⟨[.ref t], []⟩) S hr2 J.env0.in1.in1 (e1 _ _ hf) (e1 _ _ hc) (fun pm ctv => hb s1 pm ctv _) (.cons rfl .nil) rfl
    (fun hr' => hbody _ _ s1 H1 hr' x hx t q _ e1 h1 h2 fun y H2 a b => ⟨a, b⟩)
  refine wpAny_call (codeAny_mono rc fun r s2 hq => ?_)
  cases r with
  | error e => exact (show False from hq).elim
  | ok fl =>
    cases fl with
    | ret u =>
      obtain ⟨y, H2, J2, ry, a, b⟩ := J.after hq
      exact hR y u H2 s2 J2 a ry b
    | next => exact False.elim hq
    | brk => exact False.elim hq
    | cont => exact False.elim hq
end
end KS
set_option Elab.async false
set_option linter.all false
set_option maxRecDepth 100000
set_option maxHeartbeats 4000000
namespace KG
open PySem PySem.Spec PyProof.Rows PySem.Calls L2 KB
def mergeT (acc kvs : List (List Key × V)) : List (List Key × V) := kvs.foldl (fun acc p => putK acc p.1 p.2) acc
theorem kt_merge {H : Hp} : ∀ {kvs : List (List Key × V)} {xs : List (List Key × Addr × Value)} {acc : List (List Key × V)} {ys : List (List Key × Addr × Value)}, KT H kvs xs → KT H acc ys → KT H (mergeT acc kvs) (storedAllH ys xs)
  | _, _, _, _, .nil, r => r
  | _, _, _, _, .cons (a := p) (b := x) (l₁ := kvs) (l₂ := xs) h t, r => by
    obtain ⟨h1, h2, h3⟩ := h
    have z := KT.put r p.1 (b := x.2.1) (by exact h2) h3
    show KT H (mergeT (putK _ p.1 p.2) kvs) (storedAllH (storedH _ x.1 x.2.1 x.2.2) xs)
    rw [← h1]
    exact kt_merge t z
theorem putK_len {κ : Type} [DecidableEq κ] (kvs : List (κ × V)) (k : κ) (v : V) : (putK kvs k v).length ≤ kvs.length + 1 := by
  unfold putK
  split
  · rw [List.length_map]; omega
  · rw [List.length_append]; simp
theorem merge_len : ∀ (kvs acc : List (List Key × V)), (mergeT acc kvs).length ≤ acc.length + kvs.length
  | [], acc => Nat.le_refl _
  | p :: kvs, acc => by
    have h1 := merge_len kvs (putK acc p.1 p.2)
    have h2 := putK_len acc p.1 p.2
    rw [List.length_cons]
    show (mergeT (putK acc p.1 p.2) kvs).length ≤ _
    omega
section
variable {X : Cx} {pins : List (Addr × Obj)} {σ : L2.St} {H : Hp} {s : Shared}
theorem pairs_raw (I : Inv X pins σ H s) : ∀ {ts : List Addr} {kvs : List (List Key × V)}, PairsOf H ts kvs → ∃ xs : List (List Key × Addr × Value), KT H kvs xs ∧ xs.length = ts.length ∧ ∀ (j : Nat) (x : List Key × Addr × Value), xs[j]? = some x → ∃ t, ts[j]? = some t ∧ s.heap.IsTuple t #[.ref x.2.1, x.2.2]
  | _, _, .nil => ⟨[], .nil, rfl, fun j x h => by simp at h⟩
  | _, _, .cons (a := t) (b := p) (l₁ := ts) (l₂ := kvs) h r => by
    obtain ⟨xs, k1, k2, k3⟩ := pairs_raw I r
    obtain ⟨q, h1, h2⟩ := h
    obtain ⟨_, its, rv, ht⟩ := (show ObjOk X.prog X.w H s.heap t (.tup [.ref q, p.2]) from I.hok t _ h1)
    cases rv with
    | cons r1 r2 =>
      cases r2 with
      | @cons _ u _ _ r3 r4 =>
        cases r4
        cases r1
        refine ⟨(p.1, q, u) :: xs, .cons ⟨rfl, h2, r3⟩ k1, by rw [List.length_cons, List.length_cons, k2], fun j x hj => ?_⟩
        cases j with
        | zero =>
          simp only [List.getElem?_cons_zero, Option.some.injEq] at hj
          subst hj
          exact ⟨t, rfl, ht⟩
        | succ j =>
          simp only [List.getElem?_cons_succ] at hj
          exact k3 j x hj
def rDictT : List V → Hp → VK → Prop := fun vs H Q => ∃ (a : Addr) (ts : List Addr) (kvs : List (List Key × V)), vs = [.ref a] ∧ (H a = some (.lst (ts.map V.ref)) ∨ ∃ o, H a = some (.frz o (.tup (ts.map V.ref))) ∧ o.dict = none) ∧ PairsOf H ts kvs ∧ ∀ p, H p = none → Q (.ref p) (upd H p (.dT (mergeT [] kvs)))
theorem cr_dictT (hc : X.calm = true) (hu : X.A.units + 4 < cLine) : CallR X (.type "dict") rDictT := by
  intro pins s σ H vs us Q I r h
  obtain ⟨a, ts, kvs, rfl, ha, hp, q⟩ := h
  obtain rfl := Vals.ref1 r
  obtain ⟨xs, k1, k2, k3⟩ := pairs_raw I hp
  have lk : kvs.length = xs.length := Paired.length k1
  have items : PairItems s.heap (ts.map Value.ref).toArray (fun j => ts.getD j 0) (xs.map fun x => (Value.ref x.2.1, x.2.2)) := by
    refine ⟨by simp [k2], fun j k v hj => ?_⟩
    rw [List.getElem?_map] at hj
    obtain ⟨x, hx, e⟩ := Option.map_eq_some_iff.mp hj
    obtain ⟨t, ht, hT⟩ := k3 j x hx
    cases e
    refine ⟨by simp [ht], .inl ?_⟩
    have e2 : ts.getD j 0 = t := by simp [List.getD, ht]
    show s.heap.IsTuple (ts.getD j 0) _
    rw [e2]
    exact hT
  have nps : (xs.map fun x => (Value.ref x.2.1, x.2.2)).length = xs.length := List.length_map _
  have hc2 : PairsHaveH (tupleKind (mixKind X.prog X.w)) (xs.map fun x => (Value.ref x.2.1, x.2.2)).length (PairRel (xs.map fun x => (Value.ref x.2.1, x.2.2))) xs := by
    refine ⟨by rw [nps], fun i key v hj => ?_⟩
    have hj : (xs.map fun x => (Value.ref x.2.1, x.2.2))[i]? = some (key, v) := hj
    rw [List.getElem?_map] at hj
    obtain ⟨x, hx, e⟩ := Option.map_eq_some_iff.mp hj
    cases e
    exact ⟨x.1, x.2.1, by rw [hx], rfl⟩
  have keys : ∀ x ∈ xs, (tupleKind (mixKind X.prog X.w)).is s.heap x.1 x.2.1 := fun x hx => by
    obtain ⟨p, _, e1, e2, _⟩ := mem_r k1 x hx
    rw [← e1]
    exact key_of I.hok e2
  have hst : KeysStay (tupleKind (mixKind X.prog X.w)) s.heap s.heap.objs.size [] xs := fun h' hk x hx => by
    obtain ⟨o, its, n, ho, hc', hd, hi⟩ := keys x hx
    exact ⟨o, its, n, hk _ _ (Nat.ne_of_lt (Heap.lt_size ho)) (by simp) ho, hc', hd, hi⟩
  have hroom : (tupleKind (mixKind X.prog X.w)).room X.A.in1.in1 := tupleKind_room_in1 (by show X.A.units + 1 + 1 < cLine; omega)
  have hm : (s.heap.objs.size == sysModules) = false := beq_eq_false_iff_ne.mpr (Nat.ne_of_gt I.big)
  have fin : ∀ (h' : Heap) (tk : Nat), h'.DictOfH (tupleKind (mixKind X.prog X.w)) s.heap.objs.size (storedAllH [] xs) → (∀ b o, b ∉ ([] : List Addr) → s.heap.get? b = some o → h'.get? b = some o) → kvs.length ≤ sizeLine → EP X pins σ Q (.ref s.heap.objs.size) { s with heap := h', toks := tk } := by
    intro h' tk hd hk hz
    obtain ⟨o, es, ep, d1, d2, d3, d4, _, d6⟩ := hd
    have kt : KT (upd H s.heap.objs.size (.dT (mergeT [] kvs))) (mergeT [] kvs) (storedAllH [] xs) := (kt_merge k1 .nil).keeps fun b ys e => by rw [upd_ne (ne_of_none e (I.hok.fresh (Nat.le_refl _)))]; exact e
    have hz2 := merge_len kvs []
    exact ⟨.ref s.heap.objs.size, _, I.laid (t' := tk) (o := .dT (mergeT [] kvs)) (fun b o e => hk b o (by simp) e) (Nat.le_refl _) ⟨by simp at hz2; omega, hm, _, kt, o, es, ep, d1, d2, d3, d4, d6⟩, rfl, q _ (I.hok.fresh (Nat.le_refl _))⟩
  rcases ha with ha | ha
  · obtain ⟨hz, its, n, ri, hraw⟩ := (show ObjOk X.prog X.w H s.heap a (.lst (ts.map V.ref)) from I.hok a _ ha)
    have ei : its = ts.map Value.ref := refs_at ri
    subst ei
    rw [List.length_map] at hz
    exact call_dict_pairsH (knd := tupleKind (mixKind X.prog X.w)) (PairArg.list a _ _ _) (I.ok.hd hc) hroom ⟨⟨_, n, hraw, rfl, rfl, rfl⟩, items⟩ hc2 hst (by rw [nps]; omega) fun h' tk hd hk => fin h' tk hd hk (by omega)
  · obtain ⟨o, ha, hdn⟩ := ha
    obtain ⟨ho, hz, its, ri, hraw⟩ := (show ObjOk X.prog X.w H s.heap a (.frz o (.tup (ts.map V.ref))) from I.hok a _ ha)
    have ei : its = ts.map Value.ref := refs_at ri
    subst ei
    rw [List.length_map] at hz
    obtain ⟨o', ho', hcl, n, hdat⟩ := hraw
    have e : o' = o := Option.some.inj (ho'.symm.trans ho)
    subst e
    exact call_dict_pairsH (knd := tupleKind (mixKind X.prog X.w)) (PairArg.tuple a _ _ _) (I.ok.hd hc) hroom ⟨⟨o', n, ho, hcl, hdn, hdat⟩, items⟩ hc2 hst (by rw [nps]; omega) fun h' tk hd hk => fin h' tk hd hk (by omega)
def rTupleF (K : PySem.W.Frag) : List V → Hp → VK → Prop := fun vs H Q => ∃ (p : Addr) (ys : List V), vs = [.ref p] ∧ SqL K H p ys ∧ ∀ (l : Addr) (o : Obj), o.dict = none → H l = none → Q (.ref l) (upd H l (.frz o (.tup ys)))
theorem cr_tupleF : CallR X (.type "tuple") (rTupleF X.K) := by
  intro pins s σ H vs us Q I r h
  obtain ⟨p, ys, rfl, hq, q⟩ := h
  obtain rfl := Vals.ref1 r
  obtain ⟨its, r', pl, hz⟩ := I.list hq
  have hlen := r'.length
  refine call_tuple_list pl.isList (fun h' kp => ?_) (by simp only [List.size_toArray]; omega)
  have I1 : Inv X pins σ H { s with heap := h' } := I.kept (t' := s.toks) kp
  have hget : (h'.push { cls := .type "tuple", data := .seq its.toArray }).get? h'.objs.size = some { cls := .type "tuple", data := .seq its.toArray } := Heap.get?_push_size _ rfl
  exact ⟨.ref h'.objs.size, _, I1.laid (t' := s.toks) (o := .frz { cls := .type "tuple", data := .seq its.toArray } (.tup ys)) (fun b o e => Heap.get?_push_of_some _ e) (Nat.le_refl _) ⟨hget, hz, its, r', _, hget, rfl, 0, rfl⟩, rfl, q _ _ rfl (I1.hok.fresh (Nat.le_refl _))⟩
end
end KG
set_option Elab.async false
set_option linter.all false
set_option maxRecDepth 100000
set_option maxHeartbeats 2000000
namespace TL
open PySem PySem.Spec PyProof.Rows L2 KB KC KD LamX
def Beh (P : Program) (w : World) (K : PySem.W.Frag) (mg : Str → Option Value) (base : Heap) (k : Nat) (f c' : Addr) (q : Str) (body : Expr) (scope : Scope) (N : List Str) (H : Hp) (Q : VK) (E1 : XK) : Prop :=
  ∀ E : XK, (∀ cls d H', E1 cls d H' → E cls d H') → ∀ (A : Around) (outer : List Env) (s : Shared), Room k (A.deeper (envOfC q scope s.heap.objs.size f (.ref c'))) →
    ∃ t, PE (cxOf (L2.CX P w) P w K mg base N q scope f (.ref c') A outer s H E) body t ∧ t (start N []) H Q
def LamAt (P : Program) (w : World) (K : PySem.W.Frag) (mg : Str → Option Value) (base : Heap) (k : Nat) (f : Addr) (H : Hp) (Q : VK) (E1 : XK) : Prop :=
  ∃ (c' : Addr) (q : Str) (params : Arguments) (body : Expr) (scope : Scope) (N : List Str), H f = some (LamO f q params body scope c') ∧ H c' = some (CodeO c' q) ∧ FnScope N [] scope ∧
    (∀ pm ctv, bindArgs (PySem.W.kla_fn "<lambda>" q params body scope [] pm (.ref c') ctv) ⟨[], []⟩ = pure []) ∧ Beh P w K mg base k f c' q body scope N H Q E1
section
variable {X : Cx}
theorem pe_callLam {k i : Nat} {a : Str} {E : L2.St → XK} {p1 p2 : Pos} (hr : Room (k + 1) X.A) (hx : ∀ σ, PassesAt (L2.CX X.prog X.w) X σ (E σ)) (hN : X.N[i]? = some a) (hv : Vis X.env.scope a) (hd : (a == ("__debug__" : Str)) = false := by decide) (hcd : (a == ("__classdict__" : Str)) = false := by decide) :
    PE X (.Call (.Name a p1) [] [] p2) (fun σ H Q => ∃ f, σ[i]? = some (some (.ref f)) ∧ LamAt X.prog X.w X.K X.mg X.base k f H Q (E σ)) := by
  refine ⟨fun pins s σ H Q I hw => ?_⟩
  obtain ⟨f, hs, c', q, params, body, scope, N, hf, hc, S, hb, beh⟩ := hw
  have nm := (pe_var (pos := p1) (i := i) hN hv hd hcd).run pins s σ H (fun v H1 => v = .ref f ∧ H1 = H) I ⟨_, hs, rfl, rfl⟩
  refine wpAny_Call_Name_kw (thn nm fun u s1 hu => ?_)
  obtain ⟨v, H1, I1, rv, ev, eH⟩ := hu
  subst ev
  subst eH
  have eu : u = Value.ref f := rv
  subst eu
  obtain ⟨⟨pm, ctv, of1⟩, _, _⟩ := I1.hok f _ hf
  refine PySem.W.callWith_F0 ⟨_, _, _, _, of1⟩ ?_
  have run := lam_run (CX := L2.CX X.prog X.w) (Q := Q) (E := E σ) (vs := []) (us := []) (args := ⟨[], []⟩) (ps := []) S hr I1.env0 hf hc (fun pm ctv => .of_eq (hb pm ctv)) .nil rfl (fun hr' => beh (E σ) (fun _ _ _ z => z) _ _ _ hr')
  refine wpAny_call (codeAny_mono run fun r s2 hq => ?_)
  match r, hq with
  | .error e, hq => exact hx σ pins H1 s1 e s2 I1 hq
  | .ok (.ret u), hq => exact I1.after hq
  | .ok .next, hq => exact False.elim hq
  | .ok .brk, hq => exact False.elim hq
  | .ok .cont, hq => exact False.elim hq
end
theorem LamAt.mono {P : Program} {w : World} {K : PySem.W.Frag} {mg : Str → Option Value} {base : Heap} {k : Nat} {f : Addr} {H : Hp} {Q : VK} {E1 E2 : XK} (h : LamAt P w K mg base k f H Q E1) (e : ∀ cls d H', E1 cls d H' → E2 cls d H') : LamAt P w K mg base k f H Q E2 := by
  obtain ⟨c', q, params, body, scope, N, hf, hc, S, hb, beh⟩ := h
  exact ⟨c', q, params, body, scope, N, hf, hc, S, hb, fun E he => beh E fun cls d H' z => he cls d H' (e cls d H' z)⟩
@[irreducible] def spToldV (P : Program) (w : World) (K : PySem.W.Frag) (mg : Str → Option Value) (base : Heap) (k : Nat) (CR : Addr) (ret : Str) : Sp := fun vs H Q _ => ∃ f, vs = [.ref f] ∧
  LamAt P w K mg base k f H Q (fun cls _ H' => ∃ b, PySem.W.exmOne K cls (.ref CR) = some b ∧ (b = true → Q (.str ret) H') ∧ (b = false → False))
section
variable {P : Program} {w : World} {K : PySem.W.Frag} {mg : Str → Option Value} {base : Heap}
theorem ok_toldV {x a e ret : Str} {pg : Arguments} {sg : Scope} {Ng : List Str} {f CR : Addr} {fd : FuncData} {j k : Nat} {p1 p2 p3 p4 p5 p6 p7 p8 : Pos}
    (F : FunD K x x pg [.Try [.Return (some (.Call (.Name a p1) [] [] p2)) p3] [.ExceptHandler (some (.Name e p4)) none [.Return (some (.Constant (.str ret) j p5)) p6] p7] [] [] p8] sg [] [] f fd) (S : FnScope Ng [a] sg) (hN : Ng[0]? = some a) (hva : Vis sg a)
    (h0 : ∀ f : Addr, (L2.start Ng [V.ref f])[0]? = some (some (V.ref f))) (hge : sg.names.lookup e = some .globalImplicit) (hme : mg e = some (.ref CR)) (hde : (e == ("__debug__" : Str)) = false) (hd : (a == ("__debug__" : Str)) = false) (hcd : (a == ("__classdict__" : Str)) = false) :
    FnOk P w K mg base CX0 (k + 2) f fd [a] (spToldV P w K mg base k CR ret) := by
  refine F.ok S (fun vs H Q E h => ?_) (fun cdv A outer s H vs Q E hr h => ?_)
  · unfold spToldV at h
    obtain ⟨_, rfl, _⟩ := h; rfl
  · unfold spToldV at h
    obtain ⟨fl, rfl, hl⟩ := h
    have hgl : Gl (cxOf CX0 P w K mg base Ng x sg f cdv A outer s H E).nox e := hge
    refine ⟨_, PSs.nox <| pss_one (ps_try_only (c := .ref CR) (tb := fun W => tRet fun σ H Q => ∃ fz, σ[0]? = some (some (V.ref fz)) ∧ LamAt P w K mg base k fz H Q (WE W σ)) rfl rfl ⟨hgl, hde, .inl hme⟩ L2.takes0
      (fun W pn xe tk _ => pss_one (ps_ret (pe_callLam (k := k) (i := 0) (E := fun σ => WE W σ) hr (fun σ => passAt tk σ) hN hva hd hcd))) (fun a oe cls d pn _ _ => pss_one (ps_ret pe_str))), ?_⟩
    exact ⟨fl, h0 fl, hl.mono fun cls d H' ⟨b, e1, e2, e3⟩ => ⟨b, e1, fun hb a _ => e2 hb, fun hb => e3 hb⟩⟩
end
end TL
set_option linter.all false
namespace Q1
abbrev Sp2 := Int × Int
structure M (g : Int) (ts : List Int) (s : Sp2) : Prop where
  m1 : s.1 ∈ ts
  m2 : ∀ u ∈ ts, ¬ (s.1 - g < u ∧ u < s.1)
  m3 : s.2 - g ∈ ts
  m4 : ∀ u ∈ ts, ¬ (s.2 - g < u ∧ u < s.2)
  m5 : ∀ x, s.1 ≤ x → x < s.2 - g → ∃ u ∈ ts, x < u ∧ u < x + g
  m6 : s.1 + g ≤ s.2
theorem M.apart {g : Int} {ts : List Int} {a b : Sp2} (hg : 0 < g) (ha : M g ts a) (hb : M g ts b) (h : a.1 ≤ b.1) : a = b ∨ a.2 ≤ b.1 := by
  by_cases e : a.2 ≤ b.1
  · exact .inr e
  · left
    have e1 : a.1 = b.1 := by
      by_cases e2 : b.1 ≤ a.2 - g
      · by_cases e3 : a.1 < b.1
        · exfalso
          by_cases e4 : a.1 ≤ b.1 - g
          · obtain ⟨u, hu, h1, h2⟩ := ha.m5 (b.1 - g) e4 (by omega)
            exact hb.m2 u hu ⟨h1, by omega⟩
          · exact hb.m2 a.1 ha.m1 ⟨by omega, e3⟩
        · omega
      · exact absurd ⟨(by omega : a.2 - g < b.1), (by omega : b.1 < a.2)⟩ (ha.m4 b.1 hb.m1)
    have e2 : a.2 = b.2 := by
      have l1 := ha.m6
      have l2 := hb.m6
      rcases Int.lt_trichotomy a.2 b.2 with h1 | h1 | h1
      · obtain ⟨u, hu, h3, h4⟩ := hb.m5 (a.2 - g) (by omega) (by omega)
        exact absurd ⟨h3, by omega⟩ (ha.m4 u hu)
      · exact h1
      · obtain ⟨u, hu, h3, h4⟩ := ha.m5 (b.2 - g) (by omega) (by omega)
        exact absurd ⟨h3, by omega⟩ (hb.m4 u hu)
    exact Prod.ext e1 e2
theorem M.congr {g : Int} {ts us : List Int} (h : ∀ x, x ∈ ts ↔ x ∈ us) {s : Sp2} (m : M g ts s) : M g us s :=
  ⟨(h _).mp m.m1, fun u hu => m.m2 u ((h _).mpr hu), (h _).mp m.m3, fun u hu => m.m4 u ((h _).mpr hu), fun x h1 h2 => by
    obtain ⟨u, hu, h3⟩ := m.m5 x h1 h2
    exact ⟨u, (h _).mp hu, h3⟩, m.m6⟩
structure Spans (g : Int) (ts : List Int) (S : List Sp2) : Prop where
  mem : ∀ s, s ∈ S ↔ M g ts s
  cover : ∀ u ∈ ts, ∃ s ∈ S, s.1 ≤ u ∧ u + g ≤ s.2
  asc : S.Pairwise fun a b => a.2 ≤ b.1
theorem Spans.congr {g : Int} {ts us : List Int} (h : ∀ x, x ∈ ts ↔ x ∈ us) {S : List Sp2} (m : Spans g ts S) : Spans g us S :=
  ⟨fun s => ⟨fun z => ((m.mem s).mp z).congr h, fun z => (m.mem s).mpr (z.congr fun x => (h x).symm)⟩, fun u hu => m.cover u ((h u).mpr hu), m.asc⟩
theorem asc_eq {g : Int} (hg : 0 < g) : ∀ {A B : List Sp2}, (∀ s ∈ A, s.1 + g ≤ s.2) → A.Pairwise (fun a b => a.2 ≤ b.1) → B.Pairwise (fun a b => a.2 ≤ b.1) → (∀ s, s ∈ A ↔ s ∈ B) → A = B
  | [], [], _, _, _, _ => rfl
  | [], b :: B, _, _, _, h => absurd ((h b).mpr List.mem_cons_self) (by simp)
  | a :: A, [], _, _, _, h => absurd ((h a).mp List.mem_cons_self) (by simp)
  | a :: A, b :: B, w, pa, pb, h => by
    have wB : ∀ s ∈ b :: B, s.1 + g ≤ s.2 := fun s hs => w s ((h s).mpr hs)
    rw [List.pairwise_cons] at pa pb
    have wa := w a List.mem_cons_self
    have wb := wB b List.mem_cons_self
    have e : a = b := by
      rcases List.mem_cons.mp ((h a).mp List.mem_cons_self) with z | z
      · exact z
      rcases List.mem_cons.mp ((h b).mpr List.mem_cons_self) with y | y
      · exact y.symm
      have h1 := pb.1 a z
      have h2 := pa.1 b y
      omega
    subst e
    have na : ∀ {C : List Sp2}, (∀ x ∈ C, a.2 ≤ x.1) → a ∉ C := fun hc hm => by
      have := hc a hm
      omega
    rw [asc_eq hg (fun s hs => w s (List.mem_cons_of_mem _ hs)) pa.2 pb.2 fun s => ?_]
    constructor
    · intro hs
      rcases List.mem_cons.mp ((h s).mp (List.mem_cons_of_mem _ hs)) with z | z
      · exact absurd (z ▸ hs) (na pa.1)
      · exact z
    · intro hs
      rcases List.mem_cons.mp ((h s).mpr (List.mem_cons_of_mem _ hs)) with z | z
      · exact absurd (z ▸ hs) (na pb.1)
      · exact z
theorem Spans.uniq {g : Int} (hg : 0 < g) {ts : List Int} {A B : List Sp2} (a : Spans g ts A) (b : Spans g ts B) : A = B :=
  asc_eq hg (fun s hs => ((a.mem s).mp hs).m6) a.asc b.asc fun s => (a.mem s).trans (b.mem s).symm
def ov (g t : Int) (s : Sp2) : Bool := decide (s.1 < t + g) && decide (t < s.2)
def inner (g t : Int) (S : List Sp2) : List Sp2 := S.filter (ov g t)
def others (g t : Int) (S : List Sp2) : List Sp2 := S.filter fun s => decide (s ∉ inner g t S)
theorem ov_iff {g t : Int} {s : Sp2} : ov g t s = true ↔ s.1 < t + g ∧ t < s.2 := by
  unfold ov
  simp
theorem mem_inner {g t : Int} {S : List Sp2} {s : Sp2} : s ∈ inner g t S ↔ s ∈ S ∧ s.1 < t + g ∧ t < s.2 := by
  unfold inner
  rw [List.mem_filter, ov_iff]
theorem mem_others {g t : Int} {S : List Sp2} {s : Sp2} : s ∈ others g t S ↔ s ∈ S ∧ ¬ (s.1 < t + g ∧ t < s.2) := by
  unfold others
  rw [List.mem_filter, decide_eq_true_eq, mem_inner]
  constructor
  · rintro ⟨h1, h2⟩; exact ⟨h1, fun h => h2 ⟨h1, h⟩⟩
  · rintro ⟨h1, h2⟩; exact ⟨h1, fun h => h2 h.2⟩
structure Joint (g t : Int) (S : List Sp2) (b e : Int) : Prop where
  b1 : b = t ∨ ∃ s ∈ inner g t S, b = s.1
  b2 : b ≤ t
  b3 : ∀ s ∈ inner g t S, b ≤ s.1
  e1 : e = t + g ∨ ∃ s ∈ inner g t S, e = s.2
  e2 : t + g ≤ e
  e3 : ∀ s ∈ inner g t S, s.2 ≤ e
section
variable {g t b e : Int} {ts : List Int} {S : List Sp2}
theorem joint_M (hg : 0 < g) (H : Spans g ts S) (J : Joint g t S b e) : M g (t :: ts) (b, e) := by
  have cov := H.cover
  refine ⟨?_, fun u hu => ?_, ?_, fun u hu => ?_, fun x h1 h2 => ?_, ?_⟩
  · rcases J.b1 with h | ⟨s, hs, h⟩
    · show b ∈ t :: ts
      rw [h]; exact List.mem_cons_self
    · show b ∈ t :: ts
      rw [h]
      exact List.mem_cons_of_mem _ ((H.mem s).mp (mem_inner.mp hs).1).m1
  · show ¬ (b - g < u ∧ u < b)
    rintro ⟨h1, h2⟩
    have hb := J.b2
    rcases List.mem_cons.mp hu with rfl | hu
    · omega
    · rcases J.b1 with h | ⟨s, hs, h⟩
      · obtain ⟨s', hs', h3, h4⟩ := cov u hu
        have := J.b3 s' (mem_inner.mpr ⟨hs', by omega, by omega⟩)
        omega
      · exact ((H.mem s).mp (mem_inner.mp hs).1).m2 u hu ⟨by omega, by omega⟩
  · show e - g ∈ t :: ts
    rcases J.e1 with h | ⟨s, hs, h⟩
    · have : e - g = t := by omega
      rw [this]; exact List.mem_cons_self
    · rw [h]
      exact List.mem_cons_of_mem _ ((H.mem s).mp (mem_inner.mp hs).1).m3
  · show ¬ (e - g < u ∧ u < e)
    rintro ⟨h1, h2⟩
    have he := J.e2
    rcases List.mem_cons.mp hu with rfl | hu
    · omega
    · rcases J.e1 with h | ⟨s, hs, h⟩
      · obtain ⟨s', hs', h3, h4⟩ := cov u hu
        have := J.e3 s' (mem_inner.mpr ⟨hs', by omega, by omega⟩)
        omega
      · exact ((H.mem s).mp (mem_inner.mp hs).1).m4 u hu ⟨by omega, by omega⟩
  · have h1 : b ≤ x := h1
    have h2 : x < e - g := h2
    show ∃ u ∈ t :: ts, x < u ∧ u < x + g
    by_cases hx : x < t
    · -- ahead of t: in the inner span that begins at b
      by_cases hx2 : t < x + g
      · exact ⟨t, List.mem_cons_self, hx, hx2⟩
      · rcases J.b1 with h | ⟨s, hs, h⟩
        · omega
        · obtain ⟨hs1, hs2, hs3⟩ := mem_inner.mp hs
          have m := (H.mem s).mp hs1
          obtain ⟨u, hu, h3⟩ := m.m5 x (by omega) (by omega)
          exact ⟨u, List.mem_cons_of_mem _ hu, h3⟩
    · rcases J.e1 with h | ⟨s, hs, h⟩
      · omega
      · obtain ⟨hs1, hs2, hs3⟩ := mem_inner.mp hs
        have m := (H.mem s).mp hs1
        by_cases hx3 : s.1 ≤ x
        · obtain ⟨u, hu, h3⟩ := m.m5 x hx3 (by omega)
          exact ⟨u, List.mem_cons_of_mem _ hu, h3⟩
        · exact ⟨s.1, List.mem_cons_of_mem _ m.m1, by omega, by omega⟩
  · have := J.b2
    have := J.e2
    show b + g ≤ e
    omega
theorem others_M (hg : 0 < g) (H : Spans g ts S) {s : Sp2} (h : s ∈ others g t S) : M g (t :: ts) s := by
  obtain ⟨h1, h2⟩ := mem_others.mp h
  have m := (H.mem s).mp h1
  have l := m.m6
  refine ⟨List.mem_cons_of_mem _ m.m1, fun u hu => ?_, List.mem_cons_of_mem _ m.m3, fun u hu => ?_, fun x h3 h4 => ?_, m.m6⟩
  · rcases List.mem_cons.mp hu with rfl | hu
    · omega
    · exact m.m2 u hu
  · rcases List.mem_cons.mp hu with rfl | hu
    · omega
    · exact m.m4 u hu
  · obtain ⟨u, hu, h5⟩ := m.m5 x h3 h4
    exact ⟨u, List.mem_cons_of_mem _ hu, h5⟩
theorem joint_mem (hg : 0 < g) (H : Spans g ts S) (J : Joint g t S b e) (s : Sp2) : s ∈ others g t S ++ [(b, e)] ↔ M g (t :: ts) s := by
  have mb := joint_M hg H J
  have lb := J.b2
  have le := J.e2
  rw [List.mem_append, List.mem_singleton]
  constructor
  · rintro (h | rfl)
    · exact others_M hg H h
    · exact mb
  · intro m
    have ls := m.m6
    have ap : s = (b, e) ∨ s.2 ≤ b ∨ e ≤ s.1 := by
      rcases Int.le_total s.1 b with h | h
      · rcases m.apart hg mb h with z | z
        · exact .inl z
        · exact .inr (.inl z)
      · rcases mb.apart hg m h with z | z
        · exact .inl z.symm
        · exact .inr (.inr z)
    rcases ap with z | ap
    · exact .inr z
    · left
      have notT : ∀ u, u ∈ t :: ts → s.1 ≤ u → u < s.2 → u ∈ ts := fun u hu h1 h2 => by
        rcases List.mem_cons.mp hu with rfl | hu
        · exfalso; omega
        · exact hu
      refine mem_others.mpr ⟨(H.mem s).mpr ⟨notT _ m.m1 (by omega) (by omega), fun u hu => m.m2 u (List.mem_cons_of_mem _ hu), notT _ m.m3 (by omega) (by omega), fun u hu => m.m4 u (List.mem_cons_of_mem _ hu), fun x h1 h2 => ?_, m.m6⟩, by omega⟩
      obtain ⟨u, hu, h3, h4⟩ := m.m5 x h1 h2
      exact ⟨u, notT u hu (by omega) (by omega), h3, h4⟩
theorem joint_cover (H : Spans g ts S) (J : Joint g t S b e) : ∀ u ∈ t :: ts, ∃ s ∈ others g t S ++ [(b, e)], s.1 ≤ u ∧ u + g ≤ s.2 := by
  intro u hu
  have lb := J.b2
  have le := J.e2
  have hm : (b, e) ∈ others g t S ++ [(b, e)] := List.mem_append.mpr (.inr (List.mem_singleton.mpr rfl))
  rcases List.mem_cons.mp hu with rfl | hu
  · exact ⟨(b, e), hm, lb, le⟩
  · obtain ⟨s, hs, h1, h2⟩ := H.cover u hu
    by_cases h : s.1 < t + g ∧ t < s.2
    · have hi := mem_inner.mpr ⟨hs, h⟩
      have := J.b3 s hi
      have := J.e3 s hi
      exact ⟨(b, e), hm, by show b ≤ u; omega, by show u + g ≤ e; omega⟩
    · exact ⟨s, List.mem_append.mpr (.inl (mem_others.mpr ⟨hs, h⟩)), h1, h2⟩
theorem asc_nodup (hg : 0 < g) : ∀ {A : List Sp2}, (∀ s ∈ A, s.1 + g ≤ s.2) → A.Pairwise (fun a b => a.2 ≤ b.1) → A.Nodup
  | [], _, _ => List.nodup_nil
  | a :: A, w, p => by
    rw [List.pairwise_cons] at p
    refine List.nodup_cons.mpr ⟨fun h => ?_, asc_nodup hg (fun s hs => w s (List.mem_cons_of_mem _ hs)) p.2⟩
    have := p.1 a h
    have := w a List.mem_cons_self
    omega
theorem joint_nodup (hg : 0 < g) (H : Spans g ts S) (J : Joint g t S b e) : (others g t S ++ [(b, e)]).Nodup := by
  have nS := asc_nodup hg (fun s hs => ((H.mem s).mp hs).m6) H.asc
  have lb := J.b2
  have le := J.e2
  refine List.nodup_append.mpr ⟨nS.filter _, by simp, fun x hx y hy => ?_⟩
  rw [List.mem_singleton] at hy
  subst hy
  rintro rfl
  have := (mem_others.mp hx).2
  exact this ⟨by show b < t + g; omega, by show t < e; omega⟩
def lt2 (a b : Sp2) : Bool := decide (a.1 < b.1) || (decide (a.1 = b.1) && decide (a.2 < b.2))
theorem asc_of_sorted (hg : 0 < g) {A : List Sp2} (hm : ∀ s ∈ A, M g ts s) (nd : A.Nodup) (so : A.Pairwise fun a b => lt2 b a = false) : A.Pairwise fun a b => a.2 ≤ b.1 := by
  induction A with
  | nil => exact .nil
  | cons a A ih =>
    rw [List.pairwise_cons] at so
    rw [List.nodup_cons] at nd
    refine List.pairwise_cons.mpr ⟨fun x hx => ?_, ih (fun s hs => hm s (List.mem_cons_of_mem _ hs)) nd.2 so.2⟩
    have h1 := so.1 x hx
    unfold lt2 at h1
    rw [Bool.or_eq_false_iff, decide_eq_false_iff_not] at h1
    rcases (hm a List.mem_cons_self).apart hg (hm x (List.mem_cons_of_mem _ hx)) (by omega) with z | z
    · exact absurd (z ▸ hx) nd.1
    · exact z
theorem joined_spans (hg : 0 < g) (H : Spans g ts S) (J : Joint g t S b e) {A : List Sp2} (pm : A.Perm (others g t S ++ [(b, e)])) (so : A.Pairwise fun a b => lt2 b a = false) : Spans g (t :: ts) A := by
  have hm : ∀ s, s ∈ A ↔ M g (t :: ts) s := fun s => (pm.mem_iff).trans (joint_mem hg H J s)
  refine ⟨hm, fun u hu => ?_, asc_of_sorted hg (fun s hs => (hm s).mp hs) (pm.nodup_iff.mpr (joint_nodup hg H J)) so⟩
  obtain ⟨s, hs, h⟩ := joint_cover H J u hu
  exact ⟨s, pm.mem_iff.mpr hs, h⟩
theorem taken_eq (hg : 0 < g) (H : Spans g ts S) {A : List Sp2} (pm : A.Perm (inner g t S)) (so : A.Pairwise fun a b => lt2 b a = false) : A = inner g t S := by
  have hi : ∀ s ∈ inner g t S, M g ts s := fun s hs => (H.mem s).mp (mem_inner.mp hs).1
  have ai : (inner g t S).Pairwise fun a b => a.2 ≤ b.1 := H.asc.filter _
  have nd : (inner g t S).Nodup := (asc_nodup hg (fun s hs => ((H.mem s).mp hs).m6) H.asc).filter _
  have hA : ∀ s ∈ A, M g ts s := fun s hs => hi s (pm.mem_iff.mp hs)
  exact asc_eq hg (fun s hs => (hA s hs).m6) (asc_of_sorted hg hA (pm.nodup_iff.mpr nd) so) ai fun s => pm.mem_iff
theorem taken_law (hg : 0 < g) (H : Spans g ts S) (J : Joint g t S b e) {A : List Sp2} (pm : A.Perm (others g t S ++ [(b, e)])) : S.filter (fun s => decide (s ∉ A) || decide (s = (b, e))) = inner g t S := by
  unfold inner
  refine List.filter_congr fun s hs => ?_
  have lb := J.b2
  have le := J.e2
  have hA : s ∈ A ↔ s ∈ others g t S ∨ s = (b, e) := by rw [pm.mem_iff, List.mem_append, List.mem_singleton]
  rw [Bool.eq_iff_iff, ov_iff, Bool.or_eq_true, decide_eq_true_eq, decide_eq_true_eq, hA, mem_others]
  constructor
  · rintro (h | rfl)
    · by_cases z : s.1 < t + g ∧ t < s.2
      · exact z
      · exact absurd (.inl ⟨hs, z⟩) h
    · exact ⟨by show b < t + g; omega, by show t < e; omega⟩
  · intro h
    by_cases z : s = (b, e)
    · exact .inr z
    · left
      rintro (y | y)
      · exact y.2 h
      · exact z y
end
def lsStep (g : Int) (acc : List Sp2) (t : Int) : List Sp2 :=
  match acc.getLast? with
  | some l => if t < l.2 then acc.dropLast ++ [(l.1, t + g)] else acc ++ [(t, t + g)]
  | none => [(t, t + g)]
theorem spans_nil {g : Int} : Spans g [] [] := ⟨fun s => ⟨fun h => by simp at h, fun m => absurd m.m1 (by simp)⟩, fun u hu => absurd hu (by simp), .nil⟩
theorem ls_spans {g t : Int} (hg : 0 < g) {ts : List Int} {S : List Sp2} (H : Spans g ts S) (ht : ∀ u ∈ ts, u ≤ t) : Spans g (t :: ts) (lsStep g S t) := by
  have hs1 : ∀ s ∈ S, s.1 ≤ t := fun s hs => ht _ ((H.mem s).mp hs).m1
  have hs2 : ∀ s ∈ S, s.2 ≤ t + g := fun s hs => by have := ht _ ((H.mem s).mp hs).m3; omega
  rcases List.eq_nil_or_concat S with rfl | ⟨init, l, rfl⟩
  · have J : Joint g t [] t (t + g) := ⟨.inl rfl, Int.le_refl _, fun s hs => absurd hs (by simp [inner]), .inl rfl, Int.le_refl _, fun s hs => absurd hs (by simp [inner])⟩
    exact joined_spans hg H J (A := [(t, t + g)]) (List.Perm.refl _) (by simp)
  · rw [List.concat_eq_append] at H hs1 hs2 ⊢
    have asc := H.asc
    rw [List.pairwise_append] at asc
    have hl := hs1 l (by simp)
    have hl2 := hs2 l (by simp)
    have ml := (H.mem l).mp (by simp)
    have noi : ∀ s ∈ init, s.2 ≤ t := fun s hs => by have := asc.2.2 s hs l (by simp); omega
    have w : ∀ s ∈ init ++ [l], s.1 + g ≤ s.2 := fun s hs => ((H.mem s).mp hs).m6
    unfold lsStep
    rw [List.getLast?_concat]
    show Spans g (t :: ts) (if t < l.2 then _ else _)
    by_cases h : t < l.2
    · rw [if_pos h, List.dropLast_concat]
      have hin : ∀ s, s ∈ inner g t (init ++ [l]) ↔ s = l := fun s => by
        rw [mem_inner]
        constructor
        · rintro ⟨h1, h2, h3⟩
          rcases List.mem_append.mp h1 with z | z
          · have := noi s z; omega
          · exact List.mem_singleton.mp z
        · rintro rfl
          exact ⟨by simp, by omega, h⟩
      have J : Joint g t (init ++ [l]) l.1 (t + g) := ⟨.inr ⟨l, (hin l).mpr rfl, rfl⟩, hl, fun s hs => by rw [(hin s).mp hs]; exact Int.le_refl _, .inl rfl, Int.le_refl _, fun s hs => by rw [(hin s).mp hs]; exact hl2⟩
      have eo : others g t (init ++ [l]) = init := by
        unfold others
        rw [List.filter_append, List.filter_eq_self.mpr fun s hs => ?_]
        · rw [List.filter_cons_of_neg (by simpa using (hin l).mpr rfl)]
          simp
        · rw [decide_eq_true_eq, hin]
          rintro rfl
          have h1 := noi s hs
          omega
      refine joined_spans hg H J (by rw [eo]) ?_
      refine List.pairwise_append.mpr ⟨asc.1.imp_of_mem fun {a b} ha hb hab => ?_, by simp, fun a ha b hb => ?_⟩
      · have := w a (by simp [ha])
        unfold lt2
        simp
        omega
      · rw [List.mem_singleton] at hb
        subst hb
        have h1 := asc.2.2 a ha l (by simp)
        have := w a (by simp [ha])
        unfold lt2
        simp
        omega
    · rw [if_neg h]
      have hin : ∀ s, s ∉ inner g t (init ++ [l]) := fun s hs => by
        obtain ⟨h1, h2, h3⟩ := mem_inner.mp hs
        rcases List.mem_append.mp h1 with z | z
        · have := noi s z; omega
        · rw [List.mem_singleton.mp z] at h3
          exact h h3
      have J : Joint g t (init ++ [l]) t (t + g) := ⟨.inl rfl, Int.le_refl _, fun s hs => absurd hs (hin s), .inl rfl, Int.le_refl _, fun s hs => absurd hs (hin s)⟩
      have eo : others g t (init ++ [l]) = init ++ [l] := by
        unfold others
        exact List.filter_eq_self.mpr fun s _ => by rw [decide_eq_true_eq]; exact hin s
      refine joined_spans hg H J (by rw [eo]) ?_
      refine List.pairwise_append.mpr ⟨H.asc.imp_of_mem fun {a b} ha hb hab => ?_, by simp, fun a ha b hb => ?_⟩
      · have := w a ha
        unfold lt2
        simp
        omega
      · rw [List.mem_singleton] at hb
        subst hb
        have h1 := hs1 a ha
        have h2 := hs2 a ha
        have := w a ha
        have h3 : a.2 ≤ t := by
          rcases List.mem_append.mp ha with z | z
          · exact noi a z
          · rw [List.mem_singleton.mp z]; omega
        unfold lt2
        simp
        omega
def lawSp (g : Int) (ts : List Int) : List Sp2 := ts.foldl (lsStep g) []
theorem lawSp_spans {g : Int} (hg : 0 < g) {ts : List Int} (so : ts.Pairwise (· ≤ ·)) : Spans g ts (lawSp g ts) := by
  have go : ∀ (r p : List Int) (S : List Sp2), Spans g p S → (∀ u ∈ p, ∀ v ∈ r, u ≤ v) → r.Pairwise (· ≤ ·) → Spans g (p ++ r) (r.foldl (lsStep g) S) := by
    intro r
    induction r with
    | nil => intro p S h _ _; simpa using h
    | cons t r ih =>
      intro p S h hp hr
      rw [List.pairwise_cons] at hr
      have h1 := ls_spans hg h fun u hu => hp u hu t List.mem_cons_self
      have h2 := ih (p ++ [t]) (lsStep g S t) (h1.congr fun x => by simp [or_comm]) (fun u hu v hv => ?_) hr.2
      · simpa using h2
      · rcases List.mem_append.mp hu with z | z
        · exact hp u z v (List.mem_cons_of_mem _ hv)
        · rw [List.mem_singleton.mp z]; exact hr.1 v hv
  exact go ts [] [] spans_nil (by simp) so
end Q1
set_option Elab.async false
set_option linter.all false
set_option maxRecDepth 100000
set_option maxHeartbeats 4000000
namespace SrtU
open PySem PyProof.Rows Srt SrtO
section
variable {prog : Program} {w : World} {A : Around} {E : Value → Shared → Prop} {s : Shared}
theorem collect_tup {l : Addr} {vs : List Value} {Q : List Value → Shared → Prop} (hl : s.heap.IsTuple l vs.toArray)
    (h : Q vs { s with heap := (s.heap.push (seqObj "list" #[] 0)).update s.heap.objs.size (Obj.mapSeq (· ++ vs.toArray)) }) (hsz : vs.length ≤ sizeLine) :
    wpAny (model prog w) A (collect (.ref l)) Q E s := by
  obtain ⟨o, ho, hc, n, hd⟩ := id hl
  unfold collect
  refine wpAny_bind (wpAny_runValue (codeAny_builtin entry_proto_collect' ?_))
  show wpAny _ _ (do again (.builtin "list.__iadd__" ⟨[← newList [], .ref l], []⟩)) _ _ s
  refine wpAny_bind (wpAny_newList (wpAny_pure ⟨Code.quiet_builtin _ (by decide +kernel), codeAny_builtin entry_list_iadd' ?_⟩))
  show wpAny _ _ (Builtin.List.listExtendWith (.ref s.heap.objs.size) (.ref l) (.ref s.heap.objs.size)) _ _ { s with heap := s.heap.push (seqObj "list" #[] 0) }
  unfold Builtin.List.listExtendWith
  have ho' : (s.heap.push (seqObj "list" #[] 0)).get? l = some o := Heap.get?_push_of_some _ ho
  refine wpAny_bind (wpAny_typeOf (T := "tuple") ⟨o, ho', hc⟩ ?_)
  have ht : (Value.type "tuple" == Value.type "tuple") = true := by rfl
  rw [if_pos (by rw [ht]; simp)]
  refine wpAny_bind (listItems_at ho' hd ?_)
  refine wpAny_bind (listItems_at (xs := #[]) (n := 0) (Heap.get?_push_size _ rfl) rfl ?_)
  rw [if_neg (by simp)]
  refine wpAny_bind (listUpdate_at (xs := #[]) (n := 0) (Heap.get?_push_size _ rfl) rfl ?_ (Nat.zero_le _) (by show (#[] ++ vs.toArray).size ≤ sizeLine + 1; simp only [Array.size_append, List.size_toArray, List.length_nil]; omega))
  refine wpAny_pure ?_
  show wpAny (model prog w) A (do
      let o ← load s.heap.objs.size
      match o.data with
      | .seq xs _ => pure xs.toList
      | _ => unsupported "internal:collect") Q E { s with heap := (s.heap.push (seqObj "list" #[] 0)).update s.heap.objs.size (Obj.mapSeq (· ++ vs.toArray)) }
  refine wpAny_bind (wpAny_load (get?_update_seq (Heap.get?_push_size _ rfl) _) ?_)
  show wpAny _ _ (pure ((#[] : Array Value) ++ vs.toArray).toList) Q E _
  rw [show ((#[] : Array Value) ++ vs.toArray).toList = vs by simp]
  exact wpAny_pure h
theorem sorted_ordT {l : Addr} {vs : List Value} {ltv : Value → Value → Bool} {Q : Value → Shared → Prop} (O : Swo ltv) (hl : s.heap.IsTuple l vs.toArray) (hz : vs.length ≤ sizeLine)
    (hS : 2 ≤ vs.length → ∀ (h₁ : Heap) (a : Addr), h₁.get? a = some (seqObj "list" vs.toArray 0) → (∀ b o, s.heap.get? b = some o → b ≠ a ∧ h₁.get? b = some o) → SortableO prog w A.in1.in1 { s with heap := h₁ } a vs ltv)
    (h : ∀ out : List Value, Srtd ltv out → Stb ltv out vs → Q (.ref (s.heap.objs.size + 1)) { s with heap := sortedAll s.heap vs out.toArray }) :
    wpAny (model prog w) A (call (.builtin "sorted") [.ref l]) Q E s := by
  refine Calls.call_function_entry kind_sorted plain_sorted entry_sorted (args_sorted1 _) ?_
  unfold Builtin.«sorted»
  refine wpAny_bind (m := checkCount "sorted" 1 1 _) (wpAny_pure ?_)
  refine wpAny_bind (collect_tup hl ?_ hz)
  refine wpAny_bind (wpAny_newList ?_ hz)
  have hsz : ((s.heap.push (seqObj "list" #[] 0)).update s.heap.objs.size (Obj.mapSeq (· ++ vs.toArray))).objs.size = s.heap.objs.size + 1 := by
    rw [Heap.size_update, size_push']
  have hoL : (((s.heap.push (seqObj "list" #[] 0)).update s.heap.objs.size (Obj.mapSeq (· ++ vs.toArray))).push (seqObj "list" vs.toArray 0)).get? (s.heap.objs.size + 1) = some (seqObj "list" vs.toArray 0) := by
    rw [← hsz]; exact Heap.get?_push_size _ rfl
  have keep : ∀ b o, s.heap.get? b = some o → b ≠ s.heap.objs.size + 1 ∧ (((s.heap.push (seqObj "list" #[] 0)).update s.heap.objs.size (Obj.mapSeq (· ++ vs.toArray))).push (seqObj "list" vs.toArray 0)).get? b = some o := fun b o q => by
    have hlt : b < s.heap.objs.size := Heap.lt_size q
    refine ⟨Nat.ne_of_lt (Nat.lt_succ_of_lt hlt), Heap.get?_push_of_some _ ?_⟩
    rw [Heap.get?_update_ne _ _ _ _ (Nat.ne_of_lt hlt)]
    exact Heap.get?_push_of_some _ q
  show wpAny _ _ _ _ _ { s with heap := ((s.heap.push (seqObj "list" #[] 0)).update s.heap.objs.size (Obj.mapSeq (· ++ vs.toArray))).push (seqObj "list" vs.toArray 0) }
  rw [hsz]
  refine wpAny_bind (wpAny_holding (wpAny_call_entry slot_list_sort ⟨_, hoL, rfl⟩ entry_list_sort (list_sort_ord O hoL hz (fun h2 => hS h2 _ _ hoL keep) fun out hs hb => ⟨_, rfl, ?_⟩) (args_list_sort _)))
  exact wpAny_pure ⟨_, rfl, h out hs hb⟩
theorem sorted_pairsT {l : Addr} {vs : List Value} {k : Value → Int × Int} {Q : Value → Shared → Prop} (hl : s.heap.IsTuple l vs.toArray) (hz : vs.length ≤ sizeLine) (hp : ∀ v ∈ vs, IsPair s.heap v (k v).1 (k v).2)
    (h : ∀ (h' : Heap) (d : Addr) (out : List Value), Srtd (fun v u => lexB (k v) (k u)) out → Stb (fun v u => lexB (k v) (k u)) out vs → (∀ b o, s.heap.get? b = some o → h'.get? b = some o) → s.heap.objs.size ≤ d → (∃ n, h'.get? d = some (seqObj "list" out.toArray n)) → Q (.ref d) { s with heap := h' }) :
    wpAny (model prog w) A (call (.builtin "sorted") [.ref l]) Q E s := by
  refine sorted_ordT (swo_lex k) hl hz (fun h2 h₁ a ha kk => ?_) fun out hs hb => ?_
  · refine pairs_sortableO (s := { s with heap := h₁ }) (by omega) (fun v hm => (hp v hm).keeps fun b o e _ => (kk b o e).2) fun o e => ?_
    have e' : some o = some (seqObj "list" vs.toArray 0) := e.symm.trans ha
    cases e'
    intro c
    exact absurd (Value.type.inj c) (by decide)
  · exact h _ _ out hs hb (fun b o e => sortedAll_old e) (Nat.le_succ _) (sortedAll_at s.heap vs out.toArray)
end
end SrtU
namespace R8
open PySem PySem.Spec PyProof.Rows L2 KB KC KS Q1
def pD (p : Sp2) : PyData := .tuple [.int p.1, .int p.2]
def Ps (H : Hp) (us : List Addr) (S : List Sp2) : Prop := Paired (fun (t : Addr) (p : Sp2) => H t = some (.tup [.int p.1, .int p.2])) us S
theorem paired_mono {α β : Type} {R R' : α → β → Prop} (f : ∀ a b, R a b → R' a b) : ∀ {l : List α} {m : List β}, Paired R l m → Paired R' l m
  | _, _, .nil => .nil
  | _, _, .cons h t => .cons (f _ _ h) (paired_mono f t)
theorem paired_app {α β : Type} {R : α → β → Prop} : ∀ {l l' : List α} {m m' : List β}, Paired R l m → Paired R l' m' → Paired R (l ++ l') (m ++ m')
  | _, _, _, _, .nil, h => h
  | _, _, _, _, .cons h t, h' => .cons h (paired_app t h')
theorem Ps.ex {H H' : Hp} {us : List Addr} {S : List Sp2} (p : Ps H us S) (e : ∀ b xs, H b = some (.tup xs) → H' b = some (.tup xs)) : Ps H' us S := paired_mono (fun a b h => e a _ h) p
theorem Ps.dp {K : PySem.W.Frag} {H : Hp} : ∀ {us : List Addr} {S : List Sp2}, Ps H us S → DpAll K H (us.map V.ref) (S.map pD)
  | _, _, .nil => .nil
  | _, _, .cons h t => .cons (.tup (SqT.of h) (.cons (.int _) (.cons (.int _) .nil))) (Ps.dp t)
theorem Ps.at {H : Hp} : ∀ {us : List Addr} {S : List Sp2}, Ps H us S → ∀ {i : Nat} {t : Addr}, us[i]? = some t → ∃ p, S[i]? = some p ∧ H t = some (.tup [.int p.1, .int p.2])
  | _, _, .nil, i, t, h => by simp at h
  | _, _, .cons (a := a) (b := b) h r, i, t, e => by
    cases i with
    | zero => cases e; exact ⟨b, rfl, h⟩
    | succ i => exact Ps.at r (i := i) e
theorem Ps.at2 {H : Hp} : ∀ {us : List Addr} {S : List Sp2}, Ps H us S → ∀ {i : Nat} {p : Sp2}, S[i]? = some p → ∃ t, us[i]? = some t ∧ H t = some (.tup [.int p.1, .int p.2])
  | _, _, .nil, i, t, h => by simp at h
  | _, _, .cons (a := a) (b := b) h r, i, t, e => by
    cases i with
    | zero => cases e; exact ⟨a, rfl, h⟩
    | succ i => exact Ps.at2 r (i := i) e
def kH (H : Hp) : V → Int × Int
  | .ref t => match H t with
    | some (.tup [.int i, .int j]) => (i, j)
    | _ => (0, 0)
  | _ => (0, 0)
theorem kH_at {H : Hp} {t : Addr} {p : Sp2} (h : H t = some (.tup [.int p.1, .int p.2])) : kH H (.ref t) = p := by
  unfold kH
  simp only [h]
theorem Ps.kH {H : Hp} : ∀ {us : List Addr} {S : List Sp2}, Ps H us S → (us.map V.ref).map (kH H) = S
  | _, _, .nil => rfl
  | _, _, .cons h t => by rw [List.map_cons, List.map_cons, kH_at h, Ps.kH t]
theorem eqv_pD (a b : Sp2) : PyData.eqv (pD a) (pD b) = decide (a = b) := by
  obtain ⟨a1, a2⟩ := a
  obtain ⟨b1, b2⟩ := b
  unfold pD
  simp only [PyData.eqv, PyData.eqvAll, Bool.and_true, Prod.mk.injEq]
  rw [Bool.eq_iff_iff]
  simp
theorem any_pD (S : List Sp2) (p : Sp2) : ((S.map pD).any fun z => PyData.eqv z (pD p)) = decide (p ∈ S) := by
  rw [Bool.eq_iff_iff, List.any_eq_true, decide_eq_true_eq]
  constructor
  · rintro ⟨z, hz, h⟩
    obtain ⟨q, hq, rfl⟩ := List.mem_map.mp hz
    rw [eqv_pD, decide_eq_true_eq] at h
    exact h ▸ hq
  · intro h
    exact ⟨pD p, List.mem_map.mpr ⟨p, h, rfl⟩, by rw [eqv_pD]; exact decide_eq_true rfl⟩
theorem shaped_pD (p : Sp2) : SeqAt.shaped (pD p) = true := by
  unfold SeqAt.shaped pD
  simp [PyData.canLay0, PyData.canLayAll0, PyData.depth, PyData.depthAll]
theorem lay_pD : ∀ S : List Sp2, PyData.canLayAll0 (S.map pD) = true
  | [] => by simp [PyData.canLayAll0]
  | p :: S => by
    rw [List.map_cons]
    unfold PyData.canLayAll0
    rw [lay_pD S]
    simp [pD, PyData.canLay0, PyData.canLayAll0]
def rInP (neg : Bool) : R2 := fun x y H Q => ∃ (t a : Addr) (p : Sp2) (us : List Addr) (S : List Sp2), x = .ref t ∧ y = .ref a ∧ H t = some (.tup [.int p.1, .int p.2]) ∧ H a = some (.tup (us.map V.ref)) ∧ Ps H us S ∧ Q (.bl (if neg then !decide (p ∈ S) else decide (p ∈ S))) H
section
variable {X : Cx}
theorem op_inP (hu : X.A.units + 65 < cLine) : OpR X (compareOp .In) (rInP false) := by
  intro pins s σ H x y v u Q I rx ry h
  obtain ⟨t, a, p, us, S, rfl, rfl, ht, ha, hp, q⟩ := h
  obtain ⟨as, r1⟩ := Dp.reads I (pD p) (.ref t) v (.tup (SqT.of ht) (.cons (.int _) (.cons (.int _) .nil))) rx
  obtain ⟨bs, r2⟩ := Dp.reads I (.tuple (S.map pD)) (.ref a) u (.tup (SqT.of ha) hp.dp) ry
  refine SeqAt.in_tuple_reads r2 r1 (lay_pD S) (SeqAt.canLay_of_shaped (shaped_pD p)) (room_in_shaped (shaped_pD p) hu) ⟨.bl _, H, I, rfl, ?_⟩
  rw [any_pD]
  exact q
theorem op_notInP (hu : X.A.units + 65 < cLine) : OpR X (compareOp .NotIn) (rInP true) := by
  intro pins s σ H x y v u Q I rx ry h
  obtain ⟨t, a, p, us, S, rfl, rfl, ht, ha, hp, q⟩ := h
  obtain ⟨as, r1⟩ := Dp.reads I (pD p) (.ref t) v (.tup (SqT.of ht) (.cons (.int _) (.cons (.int _) .nil))) rx
  obtain ⟨bs, r2⟩ := Dp.reads I (.tuple (S.map pD)) (.ref a) u (.tup (SqT.of ha) hp.dp) ry
  refine SeqAt.notIn_tuple_reads r2 r1 (lay_pD S) (SeqAt.canLay_of_shaped (shaped_pD p)) (room_in_shaped (shaped_pD p) hu) ⟨.bl _, H, I, rfl, ?_⟩
  rw [any_pD]
  exact q
end
theorem refs_ex : ∀ {l : List V}, (∀ v ∈ l, ∃ t, v = V.ref t) → ∃ us : List Addr, l = us.map V.ref
  | [], _ => ⟨[], rfl⟩
  | v :: l, h => by
    obtain ⟨t, rfl⟩ := h v List.mem_cons_self
    obtain ⟨us, rfl⟩ := refs_ex fun v hv => h v (List.mem_cons_of_mem _ hv)
    exact ⟨t :: us, rfl⟩
theorem ps_of {H : Hp} : ∀ {us : List Addr}, (∀ t ∈ us, ∃ p : Sp2, H t = some (.tup [.int p.1, .int p.2])) → Ps H us ((us.map V.ref).map (kH H))
  | [], _ => .nil
  | t :: us, h => by
    obtain ⟨p, hp⟩ := h t List.mem_cons_self
    refine .cons ?_ (ps_of fun u hu => h u (List.mem_cons_of_mem _ hu))
    rw [kH_at hp]
    exact hp
theorem Ps.mem {H : Hp} : ∀ {us : List Addr} {S : List Sp2}, Ps H us S → ∀ t ∈ us, ∃ p : Sp2, H t = some (.tup [.int p.1, .int p.2])
  | _, _, .nil, t, h => by simp at h
  | _, _, .cons (b := b) h r, t, ht => by
    rcases List.mem_cons.mp ht with rfl | ht
    · exact ⟨b, h⟩
    · exact Ps.mem r t ht
theorem lexB_lt2 {a b : Sp2} (h : SrtO.lexB a b = false) : lt2 a b = false := by
  have := SrtO.lexB_no.mp h
  unfold lt2
  rw [Bool.or_eq_false_iff, Bool.and_eq_false_iff, decide_eq_false_iff_not, decide_eq_false_iff_not, decide_eq_false_iff_not]
  omega
theorem sort_out {H : Hp} {us : List Addr} {S : List Sp2} {ys : List V} (hp : Ps H us S) (so : SrtO.Srtd (ltP (kH H)) ys) (st : SrtO.Stb (ltP (kH H)) ys (us.map V.ref)) :
    ∃ (us' : List Addr) (S' : List Sp2), ys = us'.map V.ref ∧ Ps H us' S' ∧ S'.Perm S ∧ S'.Pairwise (fun a b => lt2 b a = false) := by
  have pm := st.perm
  obtain ⟨us', rfl⟩ := refs_ex (l := ys) fun v hv => by
    obtain ⟨t, _, e⟩ := List.mem_map.mp (pm.mem_iff.mp hv)
    exact ⟨t, e.symm⟩
  refine ⟨us', (us'.map V.ref).map (kH H), rfl, ps_of fun t ht => ?_, ?_, ?_⟩
  · have := pm.mem_iff.mp (List.mem_map.mpr ⟨t, ht, rfl⟩)
    obtain ⟨t', ht', e⟩ := List.mem_map.mp this
    cases e
    exact hp.mem t ht'
  · rw [← hp.kH]
    exact pm.map _
  · refine List.pairwise_map.mpr (so.imp fun {a b} h => lexB_lt2 h)
def rSortPL : List V → Hp → VK → Prop := fun vs H Q => ∃ (a : Addr) (us : List Addr) (S : List Sp2), vs = [.ref a] ∧ (H a = some (.lst (us.map V.ref)) ∨ H a = some (.tup (us.map V.ref))) ∧ Ps H us S ∧
  ∀ (q : Addr) (us' : List Addr) (S' : List Sp2), H q = none → Ps H us' S' → S'.Perm S → S'.Pairwise (fun a b => lt2 b a = false) → Q (.ref q) (upd H q (.lst (us'.map V.ref)))
section
variable {X : Cx}
theorem cr_sortPL : CallR X (.builtin "sorted") rSortPL := by
  intro pins s σ H vs us0 Q I r h
  obtain ⟨a, us, S, rfl, ha | ha, hp, q⟩ := h
  · refine cr_sortedPO pins s σ H _ us0 Q I r ⟨a, us.map V.ref, kH H, rfl, SqL.of ha, fun x hx => ?_, fun ys p so st hn => ?_⟩
    · obtain ⟨t, ht, rfl⟩ := List.mem_map.mp hx
      obtain ⟨p, h⟩ := hp.mem t ht
      exact ⟨t, rfl, by rw [kH_at h]; exact h⟩
    · obtain ⟨us', S', rfl, h1, h2, h3⟩ := sort_out hp so st
      exact q p us' S' hn h1 h2 h3
  · obtain ⟨its, rv, hl, hz⟩ := I.tuple (SqT.of ha)
    obtain ⟨u, rfl, ru⟩ := vals1 r
    obtain rfl : u = Value.ref a := ru
    obtain ⟨e1, e2⟩ := refs_back rv fun x m => by
      obtain ⟨t, _, e⟩ := List.mem_map.mp m
      exact ⟨t, e.symm⟩
    refine SrtU.sorted_pairsT (k := fun u => kH H (backV u)) hl (by rw [← rv.length]; exact hz) (fun v hv => ?_) fun h' d out h1 h2 kp hd hn => ?_
    · obtain ⟨t, rfl⟩ := e2 v hv
      have hm : V.ref t ∈ us.map V.ref := by rw [e1]; exact List.mem_map.mpr ⟨_, hv, rfl⟩
      obtain ⟨t', ht', e⟩ := List.mem_map.mp hm
      cases e
      obtain ⟨p, hpt⟩ := hp.mem t ht'
      obtain ⟨_, its2, r2, o, ho, hc, n, hd⟩ := I.hok _ _ hpt
      obtain ⟨u1, u2, rfl, ri, rj⟩ := vals2 r2
      obtain ⟨t1, rfl⟩ := ri
      obtain ⟨t2, rfl⟩ := rj
      have e : kH H (backV (.ref t)) = p := kH_at hpt
      rw [e]
      exact ⟨t, o, t1, t2, n, rfl, ho, hc, hd⟩
    · have h3 : ∀ u ∈ out, ∃ a, u = Value.ref a := fun u hu => e2 u (h2.perm.mem_iff.mp hu)
      obtain ⟨n, hn⟩ := hn
      have hb : SrtO.Stb (ltP (kH H)) (out.map backV) (us.map V.ref) := by
        rw [e1]
        exact SrtO.Stb.map (ltP_swo (kH H)) backV h2
      obtain ⟨us', S', e, k1, k2, k3⟩ := sort_out hp (SrtO.srtd_map h1) hb
      have hq := q d us' S' (I.hok.fresh hd) k1 k2 k3
      rw [← e] at hq
      refine ⟨.ref d, upd H d (.lst (out.map backV)), I.laid (t' := s.toks) kp hd ⟨?_, out, n, vals_back h3, hn⟩, rfl, hq⟩
      rw [hb.len]
      exact hz
end
def minDef : List Int → Int → Int
  | [], d => d
  | n :: ns, _ => W.minOf n ns
theorem minOf_spec : ∀ (ns : List Int) (n : Int), W.minOf n ns ∈ n :: ns ∧ ∀ y ∈ n :: ns, W.minOf n ns ≤ y
  | [], n => ⟨List.mem_cons_self, fun y hy => by rw [List.mem_singleton.mp hy]; exact Int.le_refl _⟩
  | m :: ns, n => by
    have e : W.minOf n (m :: ns) = W.minOf (if m < n then m else n) ns := by
      unfold W.minOf
      rw [List.foldl_cons]
      have : (W.DatumOrd.lt m n = true) = (m < n) := by
        show (decide (m < n) = true) = _
        simp
      simp only [this]
    obtain ⟨h1, h2⟩ := minOf_spec ns (if m < n then m else n)
    rw [e]
    refine ⟨?_, fun y hy => ?_⟩
    · rcases List.mem_cons.mp h1 with h | h
      · rw [h]
        split
        · simp
        · simp
      · simp [h]
    · have h0 := h2 _ List.mem_cons_self
      rcases List.mem_cons.mp hy with e | hy
      · generalize W.minOf (if m < n then m else n) ns = z at h0
        split at h0 <;> omega
      rcases List.mem_cons.mp hy with e | hy
      · generalize W.minOf (if m < n then m else n) ns = z at h0
        split at h0 <;> omega
      · exact h2 y (List.mem_cons_of_mem _ hy)
theorem minDef_eq {ns : List Int} {d m : Int} (h : m ∈ ns) (hm : ∀ y ∈ ns, m ≤ y) : minDef ns d = m := by
  cases ns with
  | nil => simp at h
  | cons n ns =>
    obtain ⟨h1, h2⟩ := minOf_spec ns n
    show W.minOf n ns = m
    exact Int.le_antisymm (h2 m h) (hm _ h1)
def rMinDef (K : PySem.W.Frag) : List V → List V → Hp → VK → Prop := fun vs zs H Q => ∃ (a : Addr) (ns : List Int) (d : Int), vs = [.ref a] ∧ zs = [.int d] ∧ SqL K H a (ns.map V.int) ∧ Q (.int (minDef ns d)) H
theorem dp_ints {K : PySem.W.Frag} {H : Hp} : ∀ ns : List Int, DpAll K H (ns.map V.int) (ns.map PyData.int)
  | [] => .nil
  | n :: ns => .cons (.int _) (dp_ints ns)
theorem cr_minDef {X : Cx} (hc : X.calm = true) (hu : X.A.units + 66 < cLine) : CallRK X (.builtin "min") [Str.ofString "default"] (rMinDef X.K) := by
  intro pins s σ H xs zs us ws Q I r rz h
  obtain ⟨a, ns, d, rfl, rfl, ha, q⟩ := h
  obtain rfl := Vals.ref1 r
  obtain ⟨u, rfl, t, rfl⟩ := vals1 rz
  obtain ⟨its, rv, hl, hz⟩ := I.list ha
  obtain ⟨as, ra⟩ := Dp.readsAll I (ns.map PyData.int) _ its (dp_ints ns) rv
  show wpAny _ _ (call (.builtin "min") [.ref a] [(Str.ofString "default", .int d t)]) _ _ s
  refine W.min_list_datum_default (α := Int) (xs := ns) (I.ok.hd hc) hl.isList ⟨as, ra⟩ (by show X.A.units + 1 + 0 < cLine; omega) (fun e h' tk hk => ?_) fun y ys i v h' tk e hv hh hk => ?_
  · subst e
    exact ⟨.int d, H, I.kept (t' := tk) hk, ⟨t, rfl⟩, q⟩
  · subst e
    obtain ⟨bs, rb⟩ := hh
    have : ∃ t, v = Value.int (W.minOf y ys) t := by
      cases rb
      exact ⟨_, rfl⟩
    obtain ⟨t2, rfl⟩ := this
    exact ⟨.int _, H, I.kept (t' := tk) hk, ⟨t2, rfl⟩, q⟩
end R8
set_option Elab.async false
set_option linter.all false
set_option maxRecDepth 100000
set_option maxHeartbeats 4000000
namespace CP
open PySem PySem.Spec PyProof.Rows L2 KB KC KD LamX
def CloO (f : Addr) (q : Str) (params : Arguments) (body : Expr) (scope : Scope) (clo : List (Str × Addr)) (c' : Addr) : HO := .ext fun h => ∃ pm ctv, h.get? f = some (PySem.W.kla_obj "<lambda>" q params body scope clo pm c' ctv)
theorem cloO_ok {P : Program} {w : World} {H : Hp} {h : Heap} {f c' : Addr} {q : Str} {params : Arguments} {body : Expr} {scope : Scope} {clo : List (Str × Addr)} {pm ctv : Value} (e : h.get? f = some (PySem.W.kla_obj "<lambda>" q params body scope clo pm c' ctv)) :
    ObjOk P w H h f (CloO f q params body scope clo c') := ⟨⟨pm, ctv, e⟩, ⟨_, e⟩, fun h1 h2 ⟨a, b, z⟩ k => ⟨a, b, k _ z⟩⟩
def tClo (T : List (Addr × Str)) (q : Str) (params : Arguments) (body : Expr) (scope : Scope) (clo : List (Str × Addr)) : TE := fun _ H Q => Tabs T H ∧ ∀ f c' H1, ExtN H H1 → Tabs T H1 → H1 f = some (CloO f q params body scope clo c') → H1 c' = some (CodeO c' q) → H f = none → Q (.ref f) H1
section
variable {X : Cx}
theorem pe_cloV {T : List (Addr × Str)} {c P : Addr} {params : Arguments} {body : Expr} {scope : Scope} {pos : Pos} (TB : TabB X.base X.mg c P) (hcode : X.env.code = .ref c) (hm : (P, X.env.qual ++ "<lambda>") ∈ T) (hu : ∀ p ∈ T, p.1 = P → p.2 = X.env.qual ++ "<lambda>")
    (hdef : defaultsOf params X.env = ([], [])) (hfree : ∀ y ∈ scope.names, y.2 = .free → X.env.scope.names.lookup y.1 = some .cell ∨ X.env.scope.names.lookup y.1 = some .free) : PE X (.Lambda params body scope pos) (tClo T (X.env.qual ++ "<lambda>") params body scope (cloFrom X.env.cells scope.names [])) := by
  refine ⟨fun pins s σ H Q I h => ?_⟩
  obtain ⟨hT, h⟩ := h
  obtain ⟨ps, hP, ht, ha⟩ := hT _ hm
  refine PySem.W.kla_eval hdef ?_
  have bP : s.heap.BuiltinsAt X.mg P := TB.bm.keeps I.bk
  have hP' : s.heap.get? P = some { cls := .none, data := .fields ps } := I.hok P _ hP
  have hcl : closureFor scope X.env = pure (cloFrom X.env.cells scope.names []) := closure_ok fun y hy e => (hfree y hy e).elim (fun z => I.ok.has _ (.inl z)) fun z => I.ok.has _ (.inr z)
  have end_ : ∀ (c' : Addr) (ctv : Value) (H1 : Hp) (h' : Heap) (tk : Nat), Inv X pins σ H1 { s with heap := h', toks := tk } → s.heap.objs.size ≤ h'.objs.size → ExtN H H1 → Tabs T H1 → H1 h'.objs.size = none → H1 c' = some (CodeO c' (X.env.qual ++ "<lambda>")) →
      EP X pins σ Q (.ref h'.objs.size) { s with heap := h'.push (PySem.W.kla_obj "<lambda>" (X.env.qual ++ "<lambda>") params body scope (cloFrom X.env.cells scope.names []) ((X.mg "__name__").getD .none) c' ctv), toks := tk } := by
    intro c' ctv H1 h' tk I1 hz e1 t1 n1 co
    have J : Inv X pins σ (upd H1 h'.objs.size (CloO h'.objs.size (X.env.qual ++ "<lambda>") params body scope (cloFrom X.env.cells scope.names []) c')) { s with heap := h'.push (PySem.W.kla_obj "<lambda>" (X.env.qual ++ "<lambda>") params body scope (cloFrom X.env.cells scope.names []) ((X.mg "__name__").getD .none) c' ctv), toks := tk } :=
      I1.laid (t' := tk) (fun b u e => Heap.get?_push_of_some _ e) (Nat.le_refl _) (cloO_ok (Heap.get?_push_size _ rfl))
    exact ⟨.ref h'.objs.size, _, J, rfl, h h'.objs.size c' _ (e1.trans (extN_upd n1)) (tabs_upd t1 n1) upd_same (by rw [upd_ne (ne_of_none co n1)]; exact co) (I.hok.fresh hz)⟩
  cases hc : codeAmong pos ps.toList with
  | none =>
    refine PySem.W.kla_makeFunction (mg := X.mg) (c := c) (P := P) (ps := ps) hcl I.ok.glob (I.mod.glob.keeps I.bk) hcode (TB.code.keeps I.bk) hP' ht hc TB.gP bP fun c' ctv h' tk hx hge hlt hrec htb => ?_
    obtain ⟨c2, oc, vs, t, e2, hoc, hd, hv⟩ := hrec
    cases e2
    have nC : H c' = none := I.hok.fresh hge
    have nPc : P ≠ c' := ne_of_none hP nC
    have I1 := inv_table (t' := tk) (more := #[rawInt pos.line, rawInt pos.col, .ref c']) (h' := h') I hP hx htb hge ⟨oc, vs, t, hoc, hd, hv⟩
    have hE : ExtN H (upd (upd H P (.tbl (ps ++ #[rawInt pos.line, rawInt pos.col, .ref c']))) c' (CodeO c' (X.env.qual ++ "<lambda>"))) := fun b o e n => by
      rw [upd_ne (ne_of_none e nC), upd_ne (fun z => n ps (Option.some.inj (e.symm.trans (by rw [z]; exact hP))))]
      exact e
    have eL : (ps ++ #[rawInt pos.line, rawInt pos.col, .ref c']).toList = ps.toList ++ [rawInt pos.line, rawInt pos.col, .ref c'] := by simp
    refine end_ c' ctv _ h' tk I1 (Nat.le_trans hge (Nat.le_of_lt hlt)) hE (fun p hp => ?_) ?_ upd_same
    · by_cases hb : p.1 = P
      · rw [hu p hp hb, hb]
        refine ⟨_, by rw [upd_ne nPc, upd_same], by rw [eL]; exact PySem.TriplesOk_snoc _ _ _ _ ht, fun p' cv hcv => ?_⟩
        rw [eL] at hcv
        rcases among_app _ ht hcv with z | z
        · obtain ⟨c0, e1, e2⟩ := ha p' cv z
          exact ⟨c0, e1, hE _ _ e2 codeO_ne⟩
        · exact ⟨c', z, upd_same⟩
      · obtain ⟨ps', a1, a2, a3⟩ := hT p hp
        refine ⟨ps', by rw [upd_ne (ne_of_none a1 nC), upd_ne hb]; exact a1, a2, fun p' cv hcv => ?_⟩
        obtain ⟨c0, e1, e2⟩ := a3 p' cv hcv
        exact ⟨c0, e1, hE _ _ e2 codeO_ne⟩
    · have n1 : h'.objs.size ≠ c' := Nat.ne_of_gt hlt
      have n2 : h'.objs.size ≠ P := Nat.ne_of_gt (Nat.lt_of_lt_of_le (Heap.lt_size hP') (Nat.le_trans hge (Nat.le_of_lt hlt)))
      rw [upd_ne n1, upd_ne n2]
      exact I.hok.fresh (Nat.le_trans hge (Nat.le_of_lt hlt))
  | some cv =>
    obtain ⟨c', e, hco⟩ := ha pos cv hc
    subst e
    refine PySem.W.kla_makeFunctionHit (mg := X.mg) (c := c) (P := P) (ps := ps) hcl I.ok.glob (I.mod.glob.keeps I.bk) hcode (TB.code.keeps I.bk) hP' ht hc bP fun ctv h' tk hx hsz => ?_
    exact end_ c' ctv H h' tk (I.kept (t' := tk) hx) hsz (ExtN.refl H) hT (I.hok.fresh hsz) hco
end
structure LamP (sc scope : Scope) (pn y : Str) : Prop where
  kind : scope.kind = .function
  co : scope.isCoroutine = false
  gen : scope.isGenerator = false
  own : ∀ z ∈ scope.names, z.2 ≠ .cell
  par : scope.names.lookup pn = some .local
  fy : scope.names.lookup y = some .free
  ne : pn ≠ y
  free : ∀ z ∈ scope.names, z.2 = .free → sc.names.lookup z.1 = some .cell ∨ sc.names.lookup z.1 = some .free
def cxP (X : Cx) (A : Around) (s : Shared) (H : Hp) (E : XK) (scope : Scope) (f c' : Addr) (pn y : Str) : Cx := { lamCx X A X.stack s H E scope f c' with N := [pn, y] }
section
variable {X : Cx} {pins : List (Addr × Obj)} {σ : L2.St} {H : Hp} {s : Shared}
theorem clo_start {A : Around} {E : XK} {scope : Scope} {f c' : Addr} {h₁ : Heap} {tk j : Nat} {pn y : Str} {u : Value} {v vy : V} (I : Inv X pins σ H s) (L : LamP X.env.scope scope pn y) (e0 : Env0 X.prog X.w X.K X.mg X.base A X.stack s H) (hd : A.handled = none)
    (hns : h₁.Ns s.heap.objs.size fun z => ([(pn, u)] : List (Str × Value)).reverse.lookup z) (kp : ∀ b o, s.heap.get? b = some o → h₁.get? b = some o) (rv : RelV v u) (hy : X.N[j]? = some y) (hσ : σ[j]? = some (some vy)) :
    Inv (cxP X A s H E scope f c' pn y) [] [some v, some vy] H { s with heap := h₁, toks := tk } := by
  have down : ∀ {z c}, (cloFrom X.env.cells scope.names []).lookup z = some c → X.env.cells.lookup z = some c := fun {z c} e => by
    rcases cloFrom_mem (PySem.mem_of_lookup e) with hm | ⟨h1, h2⟩
    · cases hm
    · have hz : ∃ c1, X.env.cells.lookup z = some c1 := (L.free _ h1 rfl).elim (fun k => I.ok.has _ (.inl k)) fun k => I.ok.has _ (.inr k)
      obtain ⟨c1, hc⟩ := hz
      have e2 : c = c1 := by
        rw [h2, hc] <;> rfl
      rw [e2]
      exact hc
  have upw : ∀ {z}, scope.names.lookup z = some .free → ∃ c, (cloFrom X.env.cells scope.names []).lookup z = some c := fun {z} hl => by
    have hz : (z, NameKind.free) ∈ scope.names := PySem.mem_of_lookup hl
    exact mem_lookup (cloFrom_has (cells := X.env.cells) (acc := []) hz)
  have cellK : ∀ {c : Addr} {w' : Option Value}, s.heap.IsCell c w' → h₁.IsCell c w' := fun {c w'} ⟨o, ho, hd⟩ => ⟨o, kp _ _ ho, hd⟩
  have noA : ∀ b : Addr, b ∉ (cxP X A s H E scope f c' pn y).ex := fun b z => absurd (show b ∈ ([] : List Addr) from z) (by simp)
  have ok : (cxP X A s H E scope f c' pn y).Ok := ⟨e0.mod, L.kind, rfl, rfl, Nat.le_refl _, fun a b c e1 e2 => I.ok.inj a b c (down e1) (down e2), fun a ha => by
      have ha : scope.names.lookup a = some .cell ∨ scope.names.lookup a = some .free := ha
      rcases ha with ha | ha
      · exact absurd rfl (L.own _ (PySem.mem_of_lookup ha))
      · exact upw ha, fun a c z _ => (by
      have z : false = true := z
      cases z), fun _ => hd, Around.frames_deeper e0.frames, .inr ⟨rfl, rfl⟩, fun b z => absurd z (noA b), e0.bs, e0.bsz, fun b _ _ => noA b, fun b z => absurd z (noA b), e0.funs, e0.frf⟩
  refine ⟨ok, rfl, e0.bare, Un.kept kp, ⟨_, hns, fun i z v' e1 e2 e3 => ?_⟩, fun z c e => ?_, e0.hok.fresh (Nat.le_refl _), fun z c e => ?_, fun q hq => absurd (show q ∈ ([] : List (Addr × Obj)) ++ [] from hq) (by simp), e0.hok.kept kp, rfl⟩
  · match i, e1, e2 with
    | 0, e1, e2 =>
      cases e1
      cases e2
      exact ⟨u, rv, .inl ⟨L.par, by simp [List.lookup]⟩⟩
    | 1, e1, e2 =>
      cases e1
      cases e2
      obtain ⟨m, hn, hl⟩ := I.loc
      have hk := L.free _ (PySem.mem_of_lookup L.fy) rfl
      obtain ⟨w', r, q⟩ := hl j y vy hy hσ (hk.elim (fun k => .inr (.inl k)) fun k => .inr (.inr k))
      obtain ⟨c2, h2⟩ := upw L.fy
      refine ⟨w', r, .inr ⟨.inr L.fy, c2, h2, ?_⟩⟩
      have c1 := down h2
      rcases q with ⟨k', _⟩ | ⟨_, c3, e', z⟩
      · have k' : X.env.scope.names.lookup y = some .local := k'
        rcases hk with k2 | k2 <;> rw [show X.env.scope.names.lookup y = _ from k2] at k' <;> cases k'
      · rw [c1] at e'
        cases e'
        exact cellK z
    | i + 2, e1, e2 => cases e1
  · obtain ⟨w', z⟩ := I.cell z c (down e)
    exact ⟨w', cellK z⟩
  · exact I.freeC z c (down e)
theorem clo_run {A : Around} {E : XK} {k j : Nat} {f c' : Addr} {params : Arguments} {body : Expr} {scope : Scope} {pn y : Str} {u : Value} {v vy : V} {Q : VK} (I : Inv X pins σ H s) (L : LamP X.env.scope scope pn y) (hr : Room (k + 1) A) (e0 : Env0 X.prog X.w X.K X.mg X.base A X.stack s H)
    (hf : H f = some (CloO f (X.env.qual ++ "<lambda>") params body scope (cloFrom X.env.cells scope.names []) c')) (hc : H c' = some (CodeO c' (X.env.qual ++ "<lambda>")))
    (hb : ∀ pm ctv, BindsTo s (PySem.W.kla_fn "<lambda>" (X.env.qual ++ "<lambda>") params body scope (cloFrom X.env.cells scope.names []) pm (.ref c') ctv) ⟨[u], []⟩ [(pn, u)]) (rv : RelV v u) (hy : X.N[j]? = some y) (hσ : σ[j]? = some (some vy))
    (hbody : Room k (A.deeper (lamEnv X scope s.heap.objs.size f c')) → ∃ t, PE (cxP X A s H E scope f c' pn y) body t ∧ t [some v, some vy] H Q) :
    codeAny (model X.prog X.w) A (.call (.ref f) ⟨[u], []⟩) (CR (L2.CX X.prog X.w) X.stack X.prog X.w H s Q E) s := by
  obtain ⟨⟨pm, ctv, of1⟩, _, _⟩ := e0.hok f _ hf
  obtain ⟨⟨oc, vsc, t, hoc, hdc, hvc⟩, _, _⟩ := e0.hok c' _ hc
  refine PySem.W.kla_callFunE hr.depth of1 rfl L.co L.gen rfl ⟨c', oc, vsc, t, rfl, hoc, hdc, hvc⟩ ?_
  refine hb pm ctv _ _ _ _ ?_
  refine wpAny_newFunctionEnv (fun z hz => L.own z hz) (fun z hz => ?_) (fun h₁ hns hsb => ⟨I.nolimit.fresh _ hsb, ?_⟩) L.kind
  · rw [List.mem_singleton.mp hz]
    exact L.par
  · show codeAny _ _ (.expr body (lamEnv X scope s.heap.objs.size f c')) _ _
    have kp : ∀ b o, s.heap.get? b = some o → h₁.get? b = some o := fun b o e => hsb.extBut b o (Nat.ne_of_lt (Heap.lt_size e)) (Heap.get?_push_of_some _ e)
    have J : Inv (cxP X A s H E scope f c' pn y) [] [some v, some vy] H { s with heap := h₁, toks := s.toks + ([(pn, u)] : List (Str × Value)).length } := clo_start I L e0 hr.hd hns kp rv hy hσ
    obtain ⟨t, ht, hq⟩ := hbody (hr.deeper _)
    refine PySem.W.kla_codeExpr (wpAny_mono (ht.run [] _ _ H Q J hq) (fun v s' hq => ?_) fun e s' hq => hq)
    obtain ⟨w', H', J', rv, q⟩ := hq
    exact ⟨w', H', J'.os, J'.bare, J'.base, J'.hok, rv, q⟩
end
end CP
set_option Elab.async false
set_option linter.all false
set_option maxRecDepth 100000
set_option maxHeartbeats 4000000
namespace CP
open PySem PySem.Spec PyProof.Rows PySem.Calls L2 KB KC KD KS LamX PySem.SeqAt PySem.W
def KeyI (X : Cx) (σ : L2.St) (f : Addr) (H : Hp) (bs : List Str) (kf : Str → Int) : Prop :=
  ∀ x ∈ bs, ∀ (H1 : Hp), Ex H H1 → ∀ (pins : List (Addr × Obj)) (s1 : Shared) (v : Value) (R : Value → Shared → Prop), RelV (.str x) v → Inv X pins σ H1 s1 →
    (∀ t H2 s2, Inv X pins σ H2 s2 → Ex H1 H2 → Un (frs X.stack) [] H1 H2 s1.heap s2.heap → R (.int (kf x) t) s2) → wpAny (model X.prog X.w) X.A.in1.in1 (call (.ref f) [v]) R (fun _ _ => False) s1
theorem KeyI.ex {X : Cx} {σ : L2.St} {f : Addr} {H H1 : Hp} {bs : List Str} {kf : Str → Int} (k : KeyI X σ f H bs kf) (e : Ex H H1) : KeyI X σ f H1 bs kf := fun x hx H2 e2 => k x hx H2 (e.trans e2)
section
variable {X : Cx} {pins : List (Addr × Obj)} {σ : L2.St}
theorem each_vals {α : Type} {g : α → V} : ∀ {vs : List Value} {bs : List α}, Vals (bs.map g) vs → EachIs (fun v b => RelV (g b) v) vs bs
  | [], [], _ => .nil
  | v :: vs, b :: bs, .cons h r => .cons h (each_vals r)
  | [], _ :: _, r => by cases r
  | _ :: _, [], r => by cases r
theorem vals_each {α : Type} {g : α → V} : ∀ {vs : List Value} {bs : List α}, EachIs (fun v b => RelV (g b) v) vs bs → Vals (bs.map g) vs
  | _, _, .nil => .nil
  | _, _, .cons h r => .cons h (vals_each r)
theorem ints_each {h : Heap} {kf : Str → Int} : ∀ {vs : List Value} {bs : List Str}, EachIs (fun v b => RelV (V.int (kf b)) v) vs bs → EachIs (fun v b => ∃ as, Reads h v (PyData.int (kf b)) as) vs bs
  | _, _, .nil => .nil
  | _, _, .cons a r => by
    obtain ⟨t, rfl⟩ := a
    exact .cons ⟨[], .int _ t⟩ (ints_each r)
theorem sort_bodyI {f D : Addr} {H : Hp} {s : Shared} {h2 : Heap} {tk : Nat} {bs : List Str} {vs : List Value} {kf : Str → Int} {P : PySem.Fin → Shared → Prop} {E : Value → Shared → Prop}
    (I : Inv X pins σ H s) (hk : ∀ b o, s.heap.get? b = some o → h2.get? b = some o) (hD : h2.get? D = some (seqObj "list" vs.toArray 0)) (hsD : s.heap.objs.size ≤ D)
    (rv : Vals (bs.map V.str) vs) (hz : bs.length ≤ sizeLine) (hu : X.A.units + 66 < cLine) (hcall : KeyI X σ f H bs kf)
    (q : ∀ (H' : Hp) (s' : Shared), Inv X pins σ H' s' → Ex H H' → H D = none → H' D = some (.lst ((bs.mergeSort fun a b => decide (kf a ≤ kf b)).map V.str)) → P (.done (.ret .none)) s') :
    wpAny (model X.prog X.w) X.A.in1.in1 (ksk_tree D (.ref f) false) P E { s with heap := h2, toks := tk } := by
  have lv : vs.length = bs.length := by
    have := rv.length
    rw [List.length_map] at this
    exact this.symm
  have szl : vs.toArray.size = bs.length := by rw [List.size_toArray, lv]
  have nD : H D = none := I.hok.fresh hsD
  unfold ksk_tree
  refine wpAny_bind (listItems_at hD rfl ?_)
  refine wpAny_bind (listUpdate_at hD rfl ?_ (by rw [szl]; exact hz) (Nat.zero_le _))
  obtain ⟨e1, ho1⟩ : ∃ e1, (h2.update D (Obj.mapSeq fun _ => (#[] : Array Value))).get? D = some (seqObj "list" #[] e1) := ⟨_, get?_update_seq hD fun _ => #[]⟩
  refine wpAny_bind (seqEpoch_at ho1 rfl ?_)
  refine wpAny_bind (wpAny_newTuple ?_ (by show vs.length ≤ _; omega))
  refine wpAny_bind (wpAny_newList ?_ (Nat.zero_le _))
  refine wpAny_holding ?_
  generalize hh4 : (h2.update D (Obj.mapSeq fun _ => (#[] : Array Value))).push (seqObj "tuple" vs.toArray 0) = h4
  have z4 : h4.objs.size = h2.objs.size + 1 := by rw [← hh4, size_push', Heap.size_update]
  have keep4 : ∀ b o, b ≠ D → h2.get? b = some o → h4.get? b = some o := fun b o hb e => by
    rw [← hh4]
    exact Heap.get?_push_of_some _ ((Heap.get?_update_ne _ _ _ _ hb).trans e)
  have hD4 : h4.get? D = some (seqObj "list" #[] e1) := by rw [← hh4]; exact Heap.get?_push_of_some _ ho1
  have I1 : Inv X pins σ (upd H h4.objs.size (.lst [])) { s with heap := h4.push (seqObj "list" #[] 0), toks := tk } :=
    I.laid (t' := tk) (fun b o e => Heap.get?_push_of_some _ (keep4 b o (fun z => by rw [z] at e; exact absurd (Heap.lt_size e) (Nat.not_lt.mpr hsD)) (hk b o e))) (by rw [z4]; exact Nat.le_succ_of_le (Nat.le_trans hsD (Nat.le_of_lt (Heap.lt_size hD))))
      ⟨Nat.zero_le _, [], 0, .nil, Heap.get?_push_size _ rfl⟩
  have hkn : H h4.objs.size = none := I.hok.fresh (by rw [z4]; exact Nat.le_succ_of_le (Nat.le_trans hsD (Nat.le_of_lt (Heap.lt_size hD))))
  have hDk : D ≠ h4.objs.size := by rw [z4]; exact Nat.ne_of_lt (Nat.lt_succ_of_lt (Heap.lt_size hD))
  have hD2 : (upd H h4.objs.size (.lst [])) D = none := by rw [upd_ne hDk]; exact nD
  have fD : ∀ H', H' D = none → FpOk X pins H' D := fun H' n => I.fpOk hsD n
  have I3 : Inv X (pins ++ [(D, seqObj "list" #[] e1)]) σ (upd H h4.objs.size (.lst [])) { s with heap := h4.push (seqObj "list" #[] 0), toks := tk } := I1.pins_of fun p hp => by
    rcases List.mem_append.mp hp with hp | hp
    · exact I1.pin p (List.mem_append_right _ hp)
    · rw [List.mem_singleton.mp hp]
      obtain ⟨_, f1, f2, _⟩ := fD _ hD2
      exact ⟨Heap.get?_push_of_some _ hD4, hD2, f1, f2, fun v z => by cases z⟩
  unfold ksk_rest
  refine wpAny_bind (wpAny_rule ?_)
  first
    | rw [List.forIn_toArray]
    | (rw [← Array.forIn_toList]; simp only [List.toList_toArray])
  refine wpAny_bind (ksk_fold (fun i s' => ∃ (Hi : Hp), Inv X (pins ++ [(D, seqObj "list" #[] e1)]) σ Hi s' ∧ Ex H Hi ∧ Hi h4.objs.size = some (.lst ((bs.take i).map fun x => V.int (kf x)))) vs 0 _ ⟨_, I3, Ex.upd hkn, upd_same⟩ ?step ?done)
  case step =>
    rintro j v s' hv ⟨Hi, Ii, ei, hki⟩
    simp only [Nat.zero_add] at hki ⊢
    have jl : j < vs.length := (List.getElem?_eq_some_iff.mp hv).1
    obtain ⟨x, hx⟩ : ∃ x, bs[j]? = some x := ⟨_, List.getElem?_eq_getElem (by omega)⟩
    obtain ⟨v', hv', rx⟩ := rv.get (i := j) (x := .str x) (by rw [List.getElem?_map, hx]; rfl)
    obtain rfl : v' = v := Option.some.inj (hv'.symm.trans hv)
    have hxm : x ∈ bs := List.mem_of_getElem? hx
    refine wpAny_bind (wpAny_attempt (wpAny_mono (hcall x hxm Hi ei _ s' v' (fun u s'' => ∃ t H3, u = .int (kf x) t ∧ Inv X (pins ++ [(D, seqObj "list" #[] e1)]) σ H3 s'' ∧ Ex Hi H3) rx Ii fun t H3 s2 J e3 _ => ⟨t, H3, rfl, J, e3⟩) (fun u s'' he => ?_) fun _ _ hF => hF.elim))
    obtain ⟨t, H3, rfl, J, e3⟩ := he
    have hk3 := e3 _ _ hki
    obtain ⟨hzy, its, n, ri, hraw⟩ := lst_raw J hk3
    have il : its.length = j := by
      have := ri.length
      rw [List.length_map, List.length_take] at this
      omega
    try dsimp only
    refine wpAny_bind (listUpdate_at hraw rfl ?_ (by rw [List.size_toArray]; omega) (by rw [Array.size_push, List.size_toArray]; omega))
    have tk1 : (bs.take (j + 1)).map (fun x => V.int (kf x)) = (bs.take j).map (fun x => V.int (kf x)) ++ [V.int (kf x)] := by
      rw [List.take_add_one, hx, List.map_append]
      rfl
    refine wpAny_pure ⟨rfl, _, lst_write (tk := s''.toks) (zs := (bs.take (j + 1)).map fun x => V.int (kf x)) (vs := its ++ [.int (kf x) t]) J hk3 hraw (by rw [List.length_map, List.length_take]; omega) (by rw [tk1]; exact ri.append (.cons ⟨t, rfl⟩ .nil)) (·.push (.int (kf x) t)) (by simp), fun b o e => ?_, upd_same⟩
    rw [upd_ne (ne_of_none e hkn)]
    exact e3 _ _ (ei _ _ e)
  case done =>
    rintro s' ⟨Hi, Ii, ei, hki⟩
    rw [Nat.zero_add, List.take_of_length_le (by omega)] at hki
    obtain ⟨_, its, n, ri, hraw⟩ := lst_raw Ii hki
    have il : its.length = bs.length := by
      have := ri.length
      rw [List.length_map] at this
      exact this.symm
    try dsimp only
    refine wpAny_bind (listItems_at hraw rfl ?_)
    have hal : AllAlike (bs.map fun x => PyData.int (kf x)) := AllAlike.of fun _ _ => rfl
    have hsk : Sortable (bs.map fun x => PyData.int (kf x)) := Sortable.others fun _ => ⟨fun z => (nomatch z), fun _ z => (nomatch z)⟩
    have ek : EachIs (fun v d => ∃ as, Reads s'.heap v d as) its (bs.map fun x => PyData.int (kf x)) := each_map (R := fun v d => ∃ as, Reads s'.heap v d as) (fun x => PyData.int (kf x)) (ints_each (each_vals (g := fun x => V.int (kf x)) ri))
    have S : SortsAt X.prog X.w X.A.in1.in1 s' (dataKind s'.heap (bs.map fun x => PyData.int (kf x))) its := SortsAt.data (s := s') ek hal hsk fun d hd => by
      obtain ⟨x, _, rfl⟩ := List.mem_map.mp hd
      show X.A.units + 1 + 1 + (PyData.int (kf x)).depth < cLine
      have : (PyData.int (kf x)).depth = 0 := rfl
      omega
    obtain ⟨kd, hlt, hkd⟩ := S.kind
    have hK : PyProof.Rows.KeysOf (dataKind s'.heap (bs.map fun x => PyData.int (kf x))) (its.toArray.zip vs.toArray) := keysOf_zip (by rw [List.toList_toArray]; exact S.keys)
    have hss : (its.toArray.zip vs.toArray).size = vs.length := by rw [Array.size_zip, List.size_toArray, List.size_toArray]; omega
    have out_of : ∀ st' : SortSt, (arrOf st').Perm (its.toArray.zip vs.toArray) → SortedToK (dataKind s'.heap (bs.map fun x => PyData.int (kf x))) (arrOf st') (its.toArray.zip vs.toArray).size → Stable (dataKind s'.heap (bs.map fun x => PyData.int (kf x))) (arrOf st') (its.toArray.zip vs.toArray) →
        ((arrOf st').map (·.2)).toList = sortVals (dataKind s'.heap (bs.map fun x => PyData.int (kf x))) false its vs := fun st' hp hs ht => by
      have e := sort_out (rev := false) (keys := its.toArray) (items := vs.toArray) (xs := arrOf st') hK (by simpa using hp) (by simpa using hs) (by simpa using ht)
      simpa using e
    have eout : EachIs (fun v x => RelV (.str x) v) (sortVals (dataKind s'.heap (bs.map fun x => PyData.int (kf x))) false its vs) (bs.mergeSort fun a b => decide (kf a ≤ kf b)) := by
      have h := keyedOut_each (rev := false) (fun x => PyData.int (kf x)) ⟨s'.heap, its, hal, rfl, ek⟩ (each_vals (g := V.str) rv)
      rw [dataLe_int] at h
      exact h
    have vout : Vals ((bs.mergeSort fun a b => decide (kf a ≤ kf b)).map V.str) (sortVals (dataKind s'.heap (bs.map fun x => PyData.int (kf x))) false its vs) := vals_each (g := V.str) eout
    have lout : (bs.mergeSort fun a b => decide (kf a ≤ kf b)).length = bs.length := List.length_mergeSort ..
    have tail : ∀ st' : SortSt, ((arrOf st').map (·.2)).toList = sortVals (dataKind s'.heap (bs.map fun x => PyData.int (kf x))) false its vs → failedOf st' = none →
        wpAny (model X.prog X.w) X.A.in1.in1 (ksk_tail D false e1 (.ref h4.objs.size) st') P E s' := by
      intro st' ho hf
      have osz : ((arrOf st').map (·.2)).size = bs.length := by
        rw [← Array.length_toList, ho, ← vout.length, List.length_map, lout]
      have J1 := lst_write (tk := s'.toks) (zs := []) (vs := []) Ii hki hraw (Nat.zero_le _) .nil (fun _ => (#[] : Array Value)) rfl
      obtain ⟨pD, nD5, _⟩ := J1.pin (D, seqObj "list" #[] e1) (List.mem_append_right _ (List.mem_append_right _ (List.mem_singleton.mpr rfl)))
      unfold ksk_tail
      try dsimp only
      refine wpAny_bind (listUpdate_at hraw rfl ?_ (by rw [List.size_toArray]; omega) (Nat.zero_le _))
      refine wpAny_bind (wpAny_letGo ?_)
      refine wpAny_bind (seqEpoch_at pD rfl ?_)
      refine wpAny_bind (listUpdate_at pD rfl ?_ (Nat.zero_le _) (by simp only [Bool.false_eq_true, if_false]; rw [osz]; omega))
      rw [hf]
      simp only [bne_self_eq_false, Bool.false_eq_true, if_false]
      refine wpAny_pure ?_
      have J2 := J1.pins_of (pins' := pins) fun p hp => J1.pin p (List.mem_append_right _ (List.mem_append_left _ hp))
      have eD := get?_update_seq pD fun _ => (arrOf st').map (·.2)
      have J3 := J2.take (t' := s'.toks) (o := .lst ((bs.mergeSort fun a b => decide (kf a ≤ kf b)).map V.str)) (h' := (s'.heap.update h4.objs.size (Obj.mapSeq fun _ => (#[] : Array Value))).update D (Obj.mapSeq fun _ => (arrOf st').map (·.2))) (fun b u hb e => (Heap.get?_update_ne _ _ _ _ hb).trans e) (fD _ nD5)
        ⟨by rw [List.length_map, lout]; exact hz, _, _, vout, by rw [← ho, Array.toArray_toList]; exact eD⟩
      refine q _ _ J3 (fun b o e => ?_) nD upd_same
      rw [upd_ne (ne_of_none e nD), upd_ne (ne_of_none e hkn)]
      exact ei b o e
    unfold ksk_end
    simp only [Bool.false_eq_true, if_false]
    by_cases h2s : vs.toArray.size < 2
    · rw [if_pos h2s, if_pos h2s]
      refine wpAny_bind (wpAny_pure ?_)
      rw [StateT.run_pure]
      refine wpAny_bind (wpAny_pure ?_)
      try dsimp only
      refine tail (SortSt.mk' general' (its.toArray.zip vs.toArray) #[] 7 none) (out_of _ (Array.Perm.refl _) (fun i j hij hj => ?_) (Stable.refl _)) rfl
      rw [hss] at hj
      rw [List.size_toArray] at h2s
      have : i = j := by omega
      subst this
      exact KeyOrd.kle_refl _
    · rw [if_neg h2s, if_neg h2s]
      rw [List.size_toArray] at h2s
      refine wpAny_bind (hkd (by omega) _ ?_)
      refine wpAny_bind (wpAny_mono (PyProof.Rows.H.wpS_sortRunsSt (kd := kd) (a₀ := its.toArray.zip vs.toArray) (st := SortSt.mk' kd (its.toArray.zip vs.toArray) #[] 7 none)
        (Q := fun _ st' => failedOf st' = none ∧ ((arrOf st').map (·.2)).toList = sortVals (dataKind s'.heap (bs.map fun x => PyData.int (kf x))) false its vs)
        hlt hK ⟨Array.Perm.refl _, rfl, rfl⟩ rfl (Stable.refl _) (by rw [hss]; omega) fun st' a1 a2 a3 a4 => ⟨a2, out_of st' a1 a3 a4⟩) ?_ fun _ _ e => e)
      rintro ⟨⟨⟩, st'⟩ s'' ⟨rfl, hf, ho⟩
      try dsimp only at ho ⊢
      exact tail st' ho hf
end
end CP
set_option Elab.async false
set_option linter.all false
set_option maxRecDepth 100000
set_option maxHeartbeats 4000000
namespace CP
open PySem PySem.Spec PyProof.Rows PySem.Calls L2 KB KC KD KS LamX PySem.SeqAt PySem.W
section
variable {prog : Program} {w : World} {A : Around} {E : Value → Shared → Prop} {s : Shared} {T : String} {r d : Addr} {n : Nat} {P : Nat → Value → Prop} {OK : Heap → Prop}
theorem collect_src {R : List Value → Shared → Prop} (K : KdlSrc prog w T r d n P OK) (hh : A.handled = none) (hok : OK s.heap) (hn : n ≤ sizeLine)
    (h : ∀ (h' : Heap) (tk : Nat) (acc : Array Value), (∀ b o, s.heap.get? b = some o → h'.get? b = some o) → s.heap.objs.size < h'.objs.size → ItemsOf P acc n → R acc.toList { s with heap := h', toks := tk }) :
    wpAny (model prog w) A (collect (.ref r)) R E s := by
  have hlt := K.there _ hok
  unfold collect
  refine wpAny_bind (wpAny_runValue (codeAny_builtin PyProof.Rows.entry_proto_collect' ?_))
  rw [Around.under_plainId PySem.F.plain_proto_collect _]
  show wpAny _ A.in1 (newList [] >>= fun l => again (.builtin "list.__iadd__" ⟨[l, .ref r], []⟩)) _ _ s
  refine wpAny_bind (wpAny_newObj_type ?_)
  refine wpAny_pure ⟨plainId_quiet PySem.F.plain_list_iadd _, codeAny_builtin PyProof.Rows.entry_list_iadd' ?_⟩
  rw [Around.under_plainId PySem.F.plain_list_iadd _]
  have hS₁ : (s.heap.push { cls := .type "list", data := .seq ([] : List Value).toArray }).get? s.heap.objs.size = some { cls := .type "list", data := .seq #[] } := Heap.get?_push_size _ rfl
  show wpAny _ A.in1 (Builtin.List.listExtendWith (.ref s.heap.objs.size) (.ref r) (.ref s.heap.objs.size)) _ _ _
  have key := kdl_extend (A := A) (s := { s with heap := s.heap.push { cls := .type "list", data := .seq ([] : List Value).toArray } })
    (R := fun (q : Result) (s' : Shared) => ∃ (h' : Heap) (tk : Nat) (acc' : Array Value) (c' : Nat), q = .ok (.ret (.ref s.heap.objs.size)) ∧ s' = { s with heap := h', toks := tk } ∧
      (∀ b o, s.heap.get? b = some o → h'.get? b = some o) ∧ h'.get? s.heap.objs.size = some { cls := .type "list", dict := none, data := .seq acc' c', slots := #[] } ∧ ItemsOf P acc' n)
    K hh (K.keep _ _ hok fun b _ o e => Heap.get?_push_of_some _ e) s.heap.objs.size (Nat.ne_of_gt hlt.1) (Nat.ne_of_gt hlt.2) (.ref s.heap.objs.size) 0 hS₁
    (fun h' tk acc' c' hk hS' hacc => ⟨h', tk, acc', c', rfl, rfl, fun b o e => hk b o (Nat.ne_of_lt (Heap.lt_size e)) (Heap.get?_push_of_some _ e), hS', hacc⟩) hn
  refine wpAny_mono key (fun fin s' x => ?_) fun e s' x => ?_
  · cases fin with
    | done f =>
      obtain ⟨h', tk, acc', c', e, rfl, hk, hS', hacc⟩ := x
      cases e
      show wpAny _ A (load s.heap.objs.size >>= _) _ _ _
      refine wpAny_bind (wpAny_load hS' ?_)
      refine wpAny_pure ?_
      exact h h' tk acc' hk (Heap.lt_size hS') hacc
    | again c₁ =>
      refine ⟨x.1, codeAny_mono x.2 fun q s₂ y => ?_⟩
      obtain ⟨h', tk, acc', c', rfl, rfl, hk, hS', hacc⟩ := y
      show wpAny _ A (load s.heap.objs.size >>= _) _ _ _
      refine wpAny_bind (wpAny_load hS' ?_)
      refine wpAny_pure ?_
      exact h h' tk acc' hk (Heap.lt_size hS') hacc
  · obtain ⟨_, _, _, _, e', _⟩ := x
    cases e'
end
theorem vals_keys {prog : Program} {w : World} {kvs : List (Key × V)} {vs : List (Key × Value)} (rk : kvs.map (·.1) = vs.map (·.1)) {acc : Array Value} (hacc : ItemsOf (fun i v => ∃ k x, vs[i]? = some (k, x) ∧ (mixKind prog w).is k v = true) acc vs.length) : Vals (kvs.map fun kv => kV kv.1) acc.toList := by
  have hl : kvs.length = vs.length := by
    have := congrArg List.length rk
    simpa using this
  have el : acc.toList.length = acc.size := by simp
  refine vals_of_at (by rw [List.length_map, el, hacc.1, hl]) fun j x u h1 h2 => ?_
  obtain ⟨k, y, hky, hi⟩ := hacc.2 j u (by rw [← Array.getElem?_toList]; exact h2)
  have e1 : (kvs.map (·.1))[j]? = some k := by
    rw [rk, List.getElem?_map, hky] <;> rfl
  have e2 : (kvs.map fun kv => kV kv.1)[j]? = some (kV k) := by
    have e3 : (kvs.map fun kv => kV kv.1) = (kvs.map (·.1)).map kV := by rw [List.map_map] <;> rfl
    rw [e3, List.getElem?_map, e1] <;> rfl
  rw [e2] at h1
  cases h1
  exact keyIs_rel hi
section
variable {X : Cx} {pins : List (Addr × Obj)} {σ : L2.St}
theorem collect_dK {A : Around} {s : Shared} {H : Hp} {p : Addr} {kvs : List (Key × V)} {R : List Value → Shared → Prop} {E : Value → Shared → Prop} (I : Inv X pins σ H s) (hh : A.handled = none) (hp : H p = some (.dK kvs))
    (h : ∀ (h' : Heap) (tk : Nat) (us : List Value), (∀ b o, s.heap.get? b = some o → h'.get? b = some o) → s.heap.objs.size < h'.objs.size → Vals (kvs.map fun kv => kV kv.1) us → kvs.length ≤ sizeLine → R us { s with heap := h', toks := tk }) :
    wpAny (model X.prog X.w) A (collect (.ref p)) R E s := by
  obtain ⟨z, lo, vs, rk, hd⟩ := (show ObjOk X.prog X.w H s.heap p (.dK kvs) from I.hok p _ hp)
  obtain ⟨ep, hat⟩ := hd.dictAt
  have hl : kvs.length = vs.length := Paired.length rk
  exact collect_src (kdl_dict (knd := mixKind X.prog X.w) (kvs := vs) (ep := ep) lo) hh hat (by rw [← hl]; exact z) fun h' tk acc hk hlt hacc => h h' tk acc.toList hk hlt (vals_keys (KV.keys rk) hacc) z
def rSortDS : List V → Hp → VK → Prop := fun xs H Q => ∃ (p : Addr) (kvs : List (Key × V)) (bs : List Str), xs = [.ref p] ∧ H p = some (.dK kvs) ∧ kvs.map (fun kv => kV kv.1) = bs.map V.str ∧ ∀ D, H D = none → Q (.ref D) (upd H D (.lst ((bs.mergeSort fun a b => decide (a.cps.toList ≤ b.cps.toList)).map V.str)))
def rSortDI : List V → Hp → VK → Prop := fun xs H Q => ∃ (p : Addr) (kvs : List (Key × V)) (bs : List Int), xs = [.ref p] ∧ H p = some (.dK kvs) ∧ kvs.map (fun kv => kV kv.1) = bs.map V.int ∧ ∀ D, H D = none → Q (.ref D) (upd H D (.lst ((bs.mergeSort fun a b => decide (a ≤ b)).map V.int)))
theorem sorted_flat {α : Type} {enc : α → PyData} {g : α → V} {bs : List α} {le : α → α → Bool} {s : Shared} {H : Hp} {p : Addr} {kvs : List (Key × V)} {Q : VK} (hc : X.calm = true) (hu : X.A.units + 66 < cLine) (I : Inv X pins σ H s) (hp : H p = some (.dK kvs)) (hb : kvs.map (fun kv => kV kv.1) = bs.map g)
    (hal : ∀ b b', alike (enc b) (enc b') = true) (hk : ∀ b, enc b ≠ .none ∧ ∀ xs, enc b ≠ .tuple xs) (hd : ∀ b, (enc b).depth ≤ 1) (hle : dataLe false enc = le) (rd : ∀ (h : Heap) (b : α) (v : Value), RelV (g b) v → Reads h v (enc b) [])
    (q : ∀ D, H D = none → Q (.ref D) (upd H D (.lst ((bs.mergeSort le).map g)))) : wpAny (model X.prog X.w) X.A (call (.builtin "sorted") [.ref p]) (EP X pins σ Q) X.xe s := by
  refine call_function_entry kind_sorted plain_sorted entry_sorted (args_sorted1 _) ?_
  unfold Builtin.«sorted»
  refine wpAny_bind (m := checkCount "sorted" 1 1 _) (wpAny_pure ?_)
  refine wpAny_bind (collect_dK (A := X.A.in1) I (I.ok.hd hc) hp fun h' tk us hkp hlt rv hz => ?_)
  rw [hb] at rv
  have lu : bs.length = us.length := by
    have := rv.length
    rw [List.length_map] at this
    exact this
  have lz : bs.length ≤ sizeLine := by
    have := congrArg List.length hb
    rw [List.length_map, List.length_map] at this
    omega
  refine wpAny_bind (wpAny_newList ?_ (by show us.length ≤ _; omega))
  have hoL : (h'.push (seqObj "list" us.toArray 0)).get? h'.objs.size = some (seqObj "list" us.toArray 0) := Heap.get?_push_size _ rfl
  have er : EachIs (fun v b => ∃ as, Reads (h'.push (seqObj "list" us.toArray 0)) v (enc b) as ∧ h'.objs.size ∉ as) us bs := by
    have := each_vals (g := g) rv
    clear hoL rv lu
    exact go this
  refine wpAny_bind (wpAny_holding ?_)
  refine list_sort_data (A := X.A.in1) (s := { s with heap := h'.push (seqObj "list" us.toArray 0), toks := tk }) (a := h'.objs.size) (n := 0) (enc := enc) (R := fun v b => RelV (g b) v) hoL (each_vals (g := g) rv) er (AllAlike.of hal) (Sortable.others hk) lz (fun b _ => by
    have := hd b
    show X.A.units + 1 + 1 + (enc b).depth < cLine
    omega) fun out hol eo => ?_
  rw [hle] at eo
  have vo := vals_each (g := g) eo
  refine wpAny_pure ⟨_, rfl, ?_⟩
  obtain ⟨e, he⟩ := sortedHeap_at (out := (List.toArray out)) (vs := us) hoL
  have J := I.laid (t' := tk) (a := h'.objs.size) (o := .lst ((bs.mergeSort le).map g)) (h' := sortedHeap (h'.push (seqObj "list" us.toArray 0)) h'.objs.size us (List.toArray out)) (fun b u e1 => by
      have e2 := hkp b u e1
      have l2 := Heap.lt_size e2
      rw [sortedHeap_old (Nat.ne_of_lt l2) (by rw [Heap.size_push]; exact Nat.lt_succ_of_lt l2)]
      exact Heap.get?_push_of_some _ e2) (Nat.le_of_lt hlt) ⟨by rw [List.length_map, List.length_mergeSort]; exact lz, out, e, vo, he⟩
  exact ⟨.ref h'.objs.size, _, J, rfl, q _ (I.hok.fresh (Nat.le_of_lt hlt))⟩
where
  go {h' : Heap} {us : List Value} : ∀ {vs : List Value} {cs : List α}, EachIs (fun v b => RelV (g b) v) vs cs → EachIs (fun v b => ∃ as, Reads (h'.push (seqObj "list" us.toArray 0)) v (enc b) as ∧ h'.objs.size ∉ as) vs cs
    | _, _, .nil => .nil
    | _, _, .cons a r => .cons ⟨[], rd _ _ _ a, by simp⟩ (go r)
theorem cr_sortDS (hc : X.calm = true) (hu : X.A.units + 66 < cLine) : CallR X (.builtin "sorted") rSortDS := by
  intro pins s σ H xs us Q I r h
  obtain ⟨p, kvs, bs, rfl, hp, hb, q⟩ := h
  rw [Vals.ref1 r]
  exact sorted_flat (enc := fun x : Str => PyData.str x) hc hu I hp hb (fun _ _ => rfl) (fun _ => ⟨fun z => (nomatch z), fun _ z => (nomatch z)⟩) (fun _ => by simp [PyData.depth]) (dataLe_str fun x => x) (fun h b v ⟨t, e⟩ => by rw [e]; exact .str b t) q
theorem cr_sortDI (hc : X.calm = true) (hu : X.A.units + 66 < cLine) : CallR X (.builtin "sorted") rSortDI := by
  intro pins s σ H xs us Q I r h
  obtain ⟨p, kvs, bs, rfl, hp, hb, q⟩ := h
  rw [Vals.ref1 r]
  exact sorted_flat (enc := fun x : Int => PyData.int x) hc hu I hp hb (fun _ _ => rfl) (fun _ => ⟨fun z => (nomatch z), fun _ z => (nomatch z)⟩) (fun _ => by simp [PyData.depth]) (dataLe_int fun x => x) (fun h b v ⟨t, e⟩ => by rw [e]; exact .int b t) q
end
end CP
set_option Elab.async false
set_option linter.all false
set_option maxRecDepth 100000
set_option maxHeartbeats 4000000
namespace CP
open PySem PySem.Spec PyProof.Rows PySem.Calls L2 KB KC KD KS LamX PySem.SeqAt PySem.W
def CallS (X : Cx) (f : Value) (ks : List Str) (r : L2.St → List V → List V → Hp → VK → Prop) : Prop :=
  ∀ (pins : List (Addr × Obj)) (s : Shared) (σ : L2.St) (H : Hp) (xs zs : List V) (us ws : List Value) (Q : VK), Inv X pins σ H s → Vals xs us → Vals zs ws → r σ xs zs H Q → wpAny (model X.prog X.w) X.A (call f us (ks.zip ws)) (EP X pins σ Q) X.xe s
section
variable {X : Cx}
theorem pe_callS {x : Str} {p pos : Pos} {e : Expr} {es : List Expr} {kws : List Keyword} {t tk : TA} {id : String} {ks : List Str} {r : L2.St → List V → List V → Hp → VK → Prop} (hc : CallS X (.builtin id) ks r) (hg : Gl X x) (hm : X.mg x = none) (hv : bootBuiltins x = some (.builtin id)) (ha : PA X (e :: es) t) (hk : PK X kws tk) (hn : x ≠ "__name__" := by decide) (hdb : (x == ("__debug__" : Str)) = false := by decide)
    (h1 : backTo pos (starEach (e :: es) X.env) = (false, eval e X.env) :: backTo pos (starEach es X.env) := by rfl) (h2 : (backTo pos (starEach (e :: es) X.env)).any (·.1) = false := by rfl)
    (h3 : (backToKw pos (keywordEach kws X.env)).all (·.1.isSome) = true := by rfl) (h4 : (backToKw pos (keywordEach kws X.env)).any (·.1.isNone) = false := by rfl) (h5 : (backToKw pos (keywordEach kws X.env)).filterMap (·.1) = ks := by rfl) :
    PE X (.Call (.Name x p) (e :: es) kws pos) (fun σ H Q => t σ H fun vs H1 => tk σ H1 fun zs H2 => r σ vs zs H2 Q) := by
  refine ⟨fun pins s σ H Q I h => wpAny_Call_Name_kw (ld_blt I hg hm hv ?_ hn hdb)⟩
  refine PyProof.Rows.callWith_kw (thn (ha.run pos pins s σ H _ I h) fun us sA ⟨vs, HA, IA, rA, qA⟩ => thn (hk.run pos pins sA σ HA _ IA qA) fun ws sB ⟨zs, HB, IB, rB, qB⟩ => ?_) h1 h2 h3 h4
  rw [h5]
  exact hc pins sB σ HB vs zs us ws Q IB rA rB qB
def rSortKC (X : Cx) : L2.St → List V → List V → Hp → VK → Prop := fun σ xs zs H Q => ∃ (p f : Addr) (kvs : List (Key × V)) (bs : List Str) (kf : Str → Int), xs = [.ref p] ∧ zs = [.ref f] ∧ H p = some (.dK kvs) ∧ kvs.map (fun kv => kV kv.1) = bs.map V.str ∧ KeyI X σ f H bs kf ∧
  ∀ H' D, Ex H H' → H D = none → H' D = some (.lst ((bs.mergeSort fun a b => decide (kf a ≤ kf b)).map V.str)) → Q (.ref D) H'
theorem cs_sortKC (hc : X.calm = true) (hu : X.A.units + 66 < cLine) : CallS X (.builtin "sorted") [Str.ofString "key"] (rSortKC X) := by
  intro pins s σ H xs zs us ws Q I r rz h
  obtain ⟨p, f, kvs, bs, kf, rfl, rfl, hp, hb, hcall, q⟩ := h
  obtain rfl := Vals.ref1 r
  obtain rfl := Vals.ref1 rz
  show wpAny _ _ (call (.builtin "sorted") [.ref p] [(Str.ofString "key", .ref f)]) _ _ s
  refine call_function_entry_kw kind_sorted plain_sorted entry_sorted (ksk_s1 _ _) ?_
  unfold Builtin.«sorted»
  refine wpAny_bind (m := checkCount "sorted" 1 1 _) (wpAny_pure ?_)
  refine wpAny_bind (collect_dK (A := X.A.in1) I (I.ok.hd hc) hp fun h' tk us hkp hlt rv hz => ?_)
  rw [hb] at rv
  have lu : bs.length = us.length := by
    have := rv.length
    rw [List.length_map] at this
    exact this
  have lz : bs.length ≤ sizeLine := by
    have := congrArg List.length hb
    rw [List.length_map, List.length_map] at this
    omega
  refine wpAny_bind (wpAny_newList ?_ (by show us.length ≤ _; omega))
  have hoL : (h'.push (seqObj "list" us.toArray 0)).get? h'.objs.size = some (seqObj "list" us.toArray 0) := Heap.get?_push_size _ rfl
  refine wpAny_bind (wpAny_holding (wpAny_call_entry_kw slot_list_sort ⟨_, hoL, rfl⟩ entry_list_sort ?body (ksk_l1 _ _)))
  case body =>
    show wpAny (model X.prog X.w) X.A.in1.in1 (Builtin.«list.sort» ⟨[.ref h'.objs.size], [(Str.ofString "key", .ref f)]⟩) _ _ _
    rw [ksk_t1]
    refine sort_bodyI (s := s) (h2 := h'.push (seqObj "list" us.toArray 0)) (tk := tk) I (fun b u e => Heap.get?_push_of_some _ (hkp b u e)) hoL (Nat.le_of_lt hlt) rv lz hu hcall fun H' s' J e1 e2 e3 => ⟨_, rfl, ?_⟩
    exact wpAny_pure ⟨_, rfl, .ref h'.objs.size, H', J, rfl, q H' h'.objs.size e1 e2 e3⟩
def leastF (kf : Str → Int) (x : Str) (xs : List Str) : Str := xs.foldl (fun a y => if decide (kf y < kf a) = true then y else a) x
def rMinKC (X : Cx) : L2.St → List V → List V → Hp → VK → Prop := fun σ xs zs H Q => ∃ (p f : Addr) (x : Str) (bs : List Str) (kf : Str → Int), xs = [.ref p] ∧ zs = [.ref f] ∧ H p = some (.lst ((x :: bs).map V.str)) ∧ KeyI X σ f H (x :: bs) kf ∧ ∀ H', Ex H H' → Q (.str (leastF kf x bs)) H'
theorem walksV {prog : Program} {w : World} {A : Around} (hh : A.handled = none) (I l : Addr) (hne : l ≠ I) (ys : List V) :
    Walks prog w A I [I, l] [I] ys.length (fun i v => ∃ x, ys[i]? = some x ∧ RelV x v) (fun i h => h.IsListIter I l i ∧ ∃ its : List Value, Vals ys its ∧ h.IsList l its.toArray) where
  sub := fun b hb => by simp at hb; simp [hb]
  frame := fun i h h' st hk => by
    obtain ⟨h1, its, rv, h2⟩ := st
    exact ⟨h1.at fun o e => hk I (by simp) o e, its, rv, h2.at fun o e => hk l (by simp) o e⟩
  item := fun i s Q E hi st hQ => by
    obtain ⟨h1, its, rv, h2⟩ := st
    refine (Walks.list hh I l hne its.toArray).item i s Q E (by rw [List.size_toArray, ← rv.length]; exact hi) ⟨h1, h2⟩ fun v h' tk hv st' hk => ?_
    obtain ⟨x, hx⟩ : ∃ x, ys[i]? = some x := ⟨_, List.getElem?_eq_getElem hi⟩
    obtain ⟨u, hu, ru⟩ := rv.get hx
    have e : u = v := Option.some.inj (hu.symm.trans (by simpa using hv))
    rw [e] at ru
    exact hQ v h' tk ⟨x, hx, ru⟩ ⟨st'.1, its, rv, st'.2⟩ hk
  done := fun s Q E st hQ => by
    obtain ⟨h1, its, rv, h2⟩ := st
    refine (Walks.list hh I l hne its.toArray).done s Q E ⟨?_, h2⟩ hQ
    rw [List.size_toArray, ← rv.length]
    exact h1
  self := fun i s Q E st hQ => wpAny_pyIter_listiter st.1 hQ
theorem cs_minKC (hc : X.calm = true) : CallS X (.builtin "min") [Str.ofString "key"] (rMinKC X) := by
  intro pins s σ H xs zs us ws Q I r rz h
  obtain ⟨p, f, x, bs, kf, rfl, rfl, hp, hcall, q⟩ := h
  obtain rfl := Vals.ref1 r
  obtain rfl := Vals.ref1 rz
  obtain ⟨hz, its0, n0, rv0, hraw0⟩ := lst_raw I hp
  have hisl : s.heap.IsList p its0.toArray := ⟨_, hraw0, rfl, n0, rfl⟩
  have hplt : p < s.heap.objs.size := Heap.lt_size hraw0
  show wpAny _ _ (call (.builtin "min") [.ref p] [(Str.ofString "key", .ref f)]) _ _ s
  refine call_min_walkK (wpAny_pyIter_list hisl ?_)
  generalize hoI : ({ cls := .type "list_iterator", data := .fields #[.ref p, .int 0 0] } : Obj) = oI
  have sz2 : (s.heap.push oI).objs.size = s.heap.objs.size + 1 := Heap.size_push _ _
  have I2 : Inv X pins σ H { s with heap := s.heap.push oI } := I.kept (t' := s.toks) fun b o e => Heap.get?_push_of_some _ e
  have nIt : H s.heap.objs.size = none := I.hok.fresh (Nat.le_refl _)
  have nS : H (s.heap.push oI).objs.size = none := by rw [sz2]; exact I.hok.fresh (Nat.le_succ _)
  have fpI : ∀ H', H' s.heap.objs.size = none → FpOk X pins H' s.heap.objs.size := fun H' n => I.fpOk (Nat.le_refl _) n
  have fpS : ∀ H', H' (s.heap.push oI).objs.size = none → FpOk X pins H' (s.heap.push oI).objs.size := fun H' n => I.fpOk (by rw [sz2]; exact Nat.le_succ _) n
  have nfr : ∀ b, s.heap.objs.size ≤ b → b ∉ frs X.stack := fun b hb z => by
    rcases List.mem_cons.mp (I.stkSub _ z) with e | e
    · have h1 := I.lt
      rw [← e] at h1
      exact Nat.lt_irrefl _ (Nat.lt_of_lt_of_le h1 hb)
    · exact I.nofs hb e
  have gd : ∀ {i : Nat} {v : Value}, (∃ y, ((x :: bs).map V.str)[i]? = some y ∧ RelV y v) → ∃ b, (x :: bs)[i]? = some b ∧ (x :: bs).getD i x = b ∧ RelV (.str b) v := fun {i v} ⟨y, hy, ry⟩ => by
    rw [List.getElem?_map] at hy
    obtain ⟨b, hb, rfl⟩ := Option.map_eq_some_iff.mp hy
    exact ⟨b, hb, by rw [List.getD_eq_getElem?_getD, hb]; rfl, ry⟩
  refine ⟨s.heap.objs.size, [s.heap.objs.size, p], [s.heap.objs.size], (fun a b => b = a), ((x :: bs).map V.str).length, (fun i v => ∃ y, ((x :: bs).map V.str)[i]? = some y ∧ RelV y v), (fun i s' => s'.heap.IsListIter s.heap.objs.size p i ∧ ∃ its : List Value, Vals ((x :: bs).map V.str) its ∧ s'.heap.IsList p its.toArray),
    (fun s' => ∃ Hi, Inv X pins σ Hi s' ∧ Ex H Hi ∧ Hi s.heap.objs.size = none ∧ Hi (s.heap.push oI).objs.size = none), (fun i k _ => ∃ t, k = .int (kf ((x :: bs).getD i x)) t), (fun i j => decide (kf ((x :: bs).getD i x) < kf ((x :: bs).getD j x))),
    rfl, (walksV (A := X.A.in1) (I.ok.hd hc) s.heap.objs.size p (Nat.ne_of_lt hplt) ((x :: bs).map V.str)).toS, ⟨⟨oI, Heap.get?_push_size _ (by rw [← hoI]; rfl), by rw [← hoI], by rw [← hoI]; rfl⟩, its0, rv0, hisl.at fun o e => Heap.get?_push_of_some _ e⟩, fun b hb => ?_, by simp, ?_, ⟨H, I2, Ex.refl H, nIt, nS⟩, fun v s' hP hJ => ?_⟩
  · show b < (s.heap.push oI).objs.size
    rw [sz2]
    rcases List.mem_cons.mp hb with e | hb
    · rw [e]
      exact Nat.lt_succ_self _
    · rw [List.mem_singleton.mp hb]
      exact Nat.lt_succ_of_lt hplt
  · refine ⟨fun s1 s' hJ hm => ?_, fun _ _ _ _ h _ => h, fun i v s1 o Q' E' hi hP hJ hst hS hQ => ?_, fun i j ki kj s1 Q' E' _ hi hj hQ => ?_⟩
    · obtain ⟨Hi, J, e, n1, n2⟩ := hJ
      obtain ⟨h1, g1, d1, t1, o1⟩ := s'
      have eg : g1 = s1.gens := hm.gens
      have ed : d1 = s1.drawn := hm.drawn
      have eo : o1 = s1.os := hm.os
      subst eg
      subst ed
      subst eo
      refine ⟨Hi, J.turnedL (t' := t1) (ch := [(s.heap.push oI).objs.size, s.heap.objs.size]) (fun b o hb e => hm.heap b o hb e) (fun b hb => ?_), e, n1, n2⟩
      rcases List.mem_cons.mp hb with z | hb
      · rw [z]
        exact fpS Hi n2
      · rw [List.mem_singleton.mp hb]
        exact fpI Hi n1
    · obtain ⟨Hi, J, e, n1, n2⟩ := hJ
      obtain ⟨b, hb, hbd, rb⟩ := gd hP
      have hS : s1.heap.get? (s.heap.push oI).objs.size = some o := hS
      refine wpAny_of_in1 (wpAny_mono (hcall b (List.mem_of_getElem? hb) Hi e pins s1 v (fun u s2 => Q' u s2) rb J fun t H2 s2 J2 e2 un => ?_) (fun _ _ h => h) fun _ _ (h : False) => h.elim)
      obtain ⟨hit, its, rvi, hli⟩ := hst
      obtain ⟨oi, hoi, hci, hdi⟩ := hit
      have k1 := un.keep _ _ hoi n1 (nfr _ (Nat.le_refl _)) (by simp)
      have k2 := un.keep _ _ hS n2 (nfr _ (by rw [sz2]; exact Nat.le_succ _)) (by simp)
      have f1 := un.free _ _ hoi n1 (by simp)
      have f2 := un.free _ _ hS n2 (by simp)
      obtain ⟨_, its2, n2', rv2, hraw2⟩ := lst_raw J2 (e2 _ _ (e _ _ hp))
      exact hQ (.int (kf b) t) s2 ⟨H2, J2, e.trans e2, f1, f2⟩ ⟨⟨oi, k1, hci, hdi⟩, its2, rv2, ⟨_, hraw2, rfl, n2', rfl⟩⟩ k2 ⟨t, by rw [hbd]⟩ fun _ _ h => h
    · obtain ⟨t, rfl⟩ := hi
      obtain ⟨u, rfl⟩ := hj
      exact CmpOf.ints_lt (prog := X.prog) (w := X.w) (A := X.A.in1) (P := fun i v => ∃ t, v = .int (kf ((x :: bs).getD i x)) t) (fun i => kf ((x :: bs).getD i x)) (fun i v h => h) i j _ _ _ _ _ ⟨t, rfl⟩ ⟨u, rfl⟩ hQ
  · obtain ⟨Hi, J, e, n1, n2⟩ := hJ
    obtain ⟨b, hb, hbd, rb⟩ := gd hP
    have hf := (argBest_fold (fun a y => decide (kf a < kf y)) x x bs bs.length (Nat.le_refl _)).2
    rw [List.take_length] at hf
    have hn : ((x :: bs).map V.str).length - 1 = bs.length := by simp
    rw [hn] at hbd
    have eb : leastF kf x bs = b := by
      rw [← hbd]
      exact hf.symm
    rw [← eb] at rb
    exact ⟨.str (leastF kf x bs), Hi, J, rb, q Hi e⟩
theorem keyI_clo {σ : L2.St} {k j : Nat} {f c' : Addr} {params : Arguments} {body : Expr} {scope : Scope} {pn y : Str} {H : Hp} {bs : List Str} {kf : Str → Int} {vy : V} (L : LamP X.env.scope scope pn y) (hr : Room (k + 3) X.A)
    (hf : H f = some (CloO f (X.env.qual ++ "<lambda>") params body scope (cloFrom X.env.cells scope.names []) c')) (hc : H c' = some (CodeO c' (X.env.qual ++ "<lambda>")))
    (hb : ∀ (s : Shared) (clo : List (Str × Addr)) (pm ctv u : Value), BindsTo s (PySem.W.kla_fn "<lambda>" (X.env.qual ++ "<lambda>") params body scope clo pm (.ref c') ctv) ⟨[u], []⟩ [(pn, u)]) (hy : X.N[j]? = some y) (hσ : σ[j]? = some (some vy))
    (hbody : ∀ (A : Around) (s : Shared) (H1 : Hp) (E : XK), Room k (A.deeper (lamEnv X scope s.heap.objs.size f c')) → ∀ x ∈ bs, Ex H H1 → ∃ tt, PE (cxP X A s H1 E scope f c' pn y) body tt ∧ ∀ Q : VK, (∀ H2, Ex H1 H2 → Q (.int (kf x)) H2) → tt [some (.str x), some vy] H1 Q) : KeyI X σ f H bs kf := by
  intro x hx H1 e1 pins s1 v R rv I hR
  have hr2 : Room (k + 1) X.A.in1.in1 := (show Room (k + 2) X.A.in1 from Room.in1 hr).in1
  have rc := clo_run (Q := fun y H2 => ∃ H', H' = H2 ∧ y = .int (kf x) ∧ Ex H1 H') (E := fun _ _ _ => False) (u := v) (v := .str x) (vy := vy) I L hr2 I.env0.in1.in1 (e1 _ _ hf) (e1 _ _ hc) (fun pm ctv => hb s1 _ pm ctv _) rv hy hσ
    (fun hr' => let ⟨tt, h1, h2⟩ := hbody _ s1 H1 (fun _ _ _ => False) hr' x hx e1; ⟨tt, h1, h2 _ fun H2 e2 => ⟨H2, rfl, rfl, e2⟩⟩)
  refine wpAny_call (codeAny_mono rc fun r s2 hq => ?_)
  cases r with
  | error e =>
    exact (no_err hq).elim
  | ok fl =>
    cases fl with
    | ret u =>
      obtain ⟨w', H2, os, bare, un, hok, rw', H', rfl, rfl, e2⟩ := hq
      obtain ⟨t, rfl⟩ := rw'
      have J := I.call' (s' := s2) os un hok bare (fun b z => absurd z (by simp))
      exact hR t H' s2 J e2 un
    | next => exact False.elim hq
    | brk => exact False.elim hq
    | cont => exact False.elim hq
where
  no_err {H1 : Hp} {s1 s2 : Shared} {e : Value} (h : L2.CX X.prog X.w X.stack H1 s1 (fun _ _ _ => False) e s2) : False := by
    obtain ⟨_, _, _, _, _, _, _, _, _, _, _, _, z⟩ := h
    exact z
end
end CP
set_option Elab.async false
set_option linter.all false
set_option maxRecDepth 100000
set_option maxHeartbeats 4000000
namespace Q7
section
variable {α : Type} [DecidableEq α]
def set {β : Type} (f : α → β) (a : α) (b : β) : α → β := fun x => if x = a then b else f x
theorem set_same {β : Type} {f : α → β} {a : α} {b : β} : set f a b a = b := if_pos rfl
theorem set_ne {β : Type} {f : α → β} {a x : α} {b : β} (h : x ≠ a) : set f a b x = f x := if_neg h
def sortI (l : List Int) : List Int := l.mergeSort fun a b => decide (a ≤ b)
def uniq (l : List Int) : List Int := l.foldl (fun acc p => if p ∈ acc then acc else acc ++ [p]) []
def pb (m : Nat) (ps : List Int) : List Int := sortI (uniq (ps.filter fun p => decide (p < (m : Int))))
def leastF (kf : α → Int) (x : α) (xs : List α) : α := xs.foldl (fun a y => if decide (kf y < kf a) = true then y else a) x
def ranked (B : α → List Int) (names : List α) : List α := names.mergeSort fun a b => decide (-((B a).length : Int) ≤ -((B b).length : Int))
def mostF (m : Nat) (B : α → List Int) (names : List α) (n : α) : Nat := if (ranked B names).idxOf n < m % names.length then m / names.length + 1 else m / names.length
def loop1 (B : α → List Int) (M : α → Nat) : List α → List Int → (α → List Int) → List Int × (α → List Int)
  | [], T, F => (T, F)
  | n :: r, T, F => loop1 B M r (T ++ ((B n).filter fun p => decide (p ∉ T)).take (M n)) (set F n (((B n).filter fun p => decide (p ∉ T)).take (M n)))
def loop2 (x : α) (xs : List α) (T : List Int) : List Int → (α → List Int) → (α → List Int)
  | [], F => F
  | p :: r, F => if p ∈ T then loop2 x xs T r F else loop2 x xs T r (set F (leastF (fun n => ((F n).length : Int)) x xs) (F (leastF (fun n => ((F n).length : Int)) x xs) ++ [p]))
def rng (m : Nat) : List Int := (List.range m).map fun (k : Nat) => (k : Int)
def sharesF (m : Nat) (had : α → List Int) (names : List α) : α → List Int := match names with
  | [] => fun _ => []
  | x :: xs => let B := fun n => pb m (had n)
    let p := loop1 B (mostF m B (x :: xs)) (x :: xs) [] fun _ => []
    fun n => sortI (loop2 x xs p.1 (rng m) p.2 n)
end
theorem sortI_perm (l : List Int) : (sortI l).Perm l := List.mergeSort_perm ..
theorem sortI_sorted (l : List Int) : (sortI l).Pairwise (· ≤ ·) := by
  have h := List.pairwise_mergeSort (le := fun a b : Int => decide (a ≤ b)) (fun a b c h1 h2 => by
    have h1 := of_decide_eq_true h1
    have h2 := of_decide_eq_true h2
    exact decide_eq_true (Int.le_trans h1 h2)) (fun a b => by
    rcases Int.le_total a b with h | h
    · simp [h]
    · simp [h]) l
  exact h.imp fun h => of_decide_eq_true h
theorem sorted_eq : ∀ {a b : List Int}, a.Perm b → a.Pairwise (· ≤ ·) → b.Pairwise (· ≤ ·) → a = b
  | [], b, p, _, _ => (List.Perm.nil_eq p)
  | x :: a, [], p, _, _ => by simpa using p.length_eq
  | x :: a, y :: b, p, ha, hb => by
    rw [List.pairwise_cons] at ha hb
    have h1 : x ≤ y := by
      rcases List.mem_cons.mp (p.mem_iff.mpr List.mem_cons_self) with e | e
      · rw [e]; exact Int.le_refl _
      · exact ha.1 y e
    have h2 : y ≤ x := by
      rcases List.mem_cons.mp (p.mem_iff.mp List.mem_cons_self) with e | e
      · rw [e]; exact Int.le_refl _
      · exact hb.1 x e
    have e : x = y := Int.le_antisymm h1 h2
    subst e
    rw [sorted_eq (List.Perm.cons_inv p) ha.2 hb.2]
theorem sortI_self {l : List Int} (h : l.Pairwise (· ≤ ·)) : sortI l = l := sorted_eq (sortI_perm l) (sortI_sorted l) h
theorem uniq_go : ∀ (l acc : List Int), acc.Nodup → ((l.foldl (fun acc p => if p ∈ acc then acc else acc ++ [p]) acc).Nodup ∧ ∀ p, p ∈ l.foldl (fun acc p => if p ∈ acc then acc else acc ++ [p]) acc ↔ p ∈ acc ∨ p ∈ l)
  | [], acc, h => ⟨h, fun p => by simp⟩
  | x :: l, acc, h => by
    rw [List.foldl_cons]
    by_cases c : x ∈ acc
    · rw [if_pos c]
      obtain ⟨h1, h2⟩ := uniq_go l acc h
      refine ⟨h1, fun p => (h2 p).trans ?_⟩
      rw [List.mem_cons]
      constructor
      · rintro (z | z)
        · exact .inl z
        · exact .inr (.inr z)
      · rintro (z | z | z)
        · exact .inl z
        · rw [z]; exact .inl c
        · exact .inr z
    · rw [if_neg c]
      obtain ⟨h1, h2⟩ := uniq_go l (acc ++ [x]) (by
        rw [List.nodup_append]
        exact ⟨h, by simp, fun a ha b hb => by rw [List.mem_singleton.mp hb]; exact fun z => c (z ▸ ha)⟩)
      refine ⟨h1, fun p => (h2 p).trans ?_⟩
      rw [List.mem_append, List.mem_singleton, List.mem_cons]
      constructor
      · rintro ((z | z) | z)
        · exact .inl z
        · exact .inr (.inl z)
        · exact .inr (.inr z)
      · rintro (z | z | z)
        · exact .inl (.inl z)
        · exact .inl (.inr z)
        · exact .inr z
theorem uniq_nodup (l : List Int) : (uniq l).Nodup := (uniq_go l [] List.nodup_nil).1
theorem uniq_mem (l : List Int) (p : Int) : p ∈ uniq l ↔ p ∈ l := by
  have := (uniq_go l [] List.nodup_nil).2 p
  unfold uniq
  rw [this]
  simp
theorem uniq_self_go : ∀ (l acc : List Int), (acc ++ l).Nodup → l.foldl (fun acc p => if p ∈ acc then acc else acc ++ [p]) acc = acc ++ l
  | [], acc, _ => by simp
  | x :: l, acc, h => by
    rw [List.foldl_cons, if_neg, uniq_self_go l (acc ++ [x])]
    · simp
    · simpa using h
    · intro c
      rw [List.nodup_append] at h
      exact h.2.2 x c x List.mem_cons_self rfl
theorem uniq_self {l : List Int} (h : l.Nodup) : uniq l = l := uniq_self_go l [] (by simpa using h)
theorem pb_nodup (m : Nat) (ps : List Int) : (pb m ps).Nodup := (sortI_perm _).nodup_iff.mpr (uniq_nodup _)
theorem pb_mem (m : Nat) (ps : List Int) (p : Int) : p ∈ pb m ps ↔ p ∈ ps ∧ p < (m : Int) := by
  unfold pb
  rw [(sortI_perm _).mem_iff, uniq_mem, List.mem_filter, decide_eq_true_eq]
theorem pb_self {m : Nat} {ps : List Int} (h1 : ps.Pairwise (· ≤ ·)) (h2 : ps.Nodup) (h3 : ∀ p ∈ ps, p < (m : Int)) : pb m ps = ps := by
  unfold pb
  rw [List.filter_eq_self.mpr fun p hp => decide_eq_true (h3 p hp), uniq_self h2, sortI_self h1]
theorem rng_nodup (m : Nat) : (rng m).Nodup := by
  unfold rng
  rw [List.nodup_iff_pairwise_ne, List.pairwise_map]
  exact List.nodup_range.imp fun h => by omega
theorem rng_mem (m : Nat) (p : Int) : p ∈ rng m ↔ 0 ≤ p ∧ p < (m : Int) := by
  unfold rng
  rw [List.mem_map]
  constructor
  · rintro ⟨k, hk, rfl⟩
    have := List.mem_range.mp hk
    omega
  · rintro ⟨h0, h1⟩
    exact ⟨p.toNat, List.mem_range.mpr (by omega), by omega⟩
theorem rng_sorted (m : Nat) : (rng m).Pairwise (· ≤ ·) := by
  unfold rng
  rw [List.pairwise_map]
  exact List.pairwise_lt_range.imp fun h => by omega
theorem rng_len (m : Nat) : (rng m).length = m := by unfold rng; simp
section
variable {α : Type} [DecidableEq α]
theorem leastF_go (kf : α → Int) : ∀ (xs : List α) (x : α), (leastF kf x xs = x ∨ leastF kf x xs ∈ xs) ∧ kf (leastF kf x xs) ≤ kf x ∧ ∀ y ∈ xs, kf (leastF kf x xs) ≤ kf y
  | [], x => ⟨.inl rfl, Int.le_refl _, fun y hy => by cases hy⟩
  | y :: xs, x => by
    have e : leastF kf x (y :: xs) = leastF kf (if decide (kf y < kf x) = true then y else x) xs := rfl
    rw [e]
    obtain ⟨h1, h2, h3⟩ := leastF_go kf xs (if decide (kf y < kf x) = true then y else x)
    by_cases c : kf y < kf x
    · simp only [c, decide_true, if_true] at h1 h2 h3 ⊢
      refine ⟨?_, by omega, fun z hz => ?_⟩
      · rcases h1 with h | h
        · rw [h]; exact .inr List.mem_cons_self
        · exact .inr (List.mem_cons_of_mem _ h)
      · rcases List.mem_cons.mp hz with rfl | hz
        · exact h2
        · exact h3 z hz
    · simp only [c, decide_false, Bool.false_eq_true, if_false] at h1 h2 h3 ⊢
      refine ⟨?_, h2, fun z hz => ?_⟩
      · rcases h1 with h | h
        · exact .inl h
        · exact .inr (List.mem_cons_of_mem _ h)
      · rcases List.mem_cons.mp hz with rfl | hz
        · omega
        · exact h3 z hz
theorem leastF_mem (kf : α → Int) (x : α) (xs : List α) : leastF kf x xs ∈ x :: xs := by
  rcases (leastF_go kf xs x).1 with h | h
  · rw [h]; exact List.mem_cons_self
  · exact List.mem_cons_of_mem _ h
theorem leastF_le (kf : α → Int) (x : α) (xs : List α) : ∀ y ∈ x :: xs, kf (leastF kf x xs) ≤ kf y := fun y hy => by
  rcases List.mem_cons.mp hy with rfl | hy
  · exact (leastF_go kf xs _).2.1
  · exact (leastF_go kf xs x).2.2 y hy
def flat (F : α → List Int) (names : List α) : List Int := (names.map F).flatten
theorem flat_congr {F G : α → List Int} {names : List α} (h : ∀ n ∈ names, F n = G n) : flat F names = flat G names := by
  unfold flat
  rw [List.map_congr_left h]
theorem loop1_keeps (B : α → List Int) (M : α → Nat) : ∀ (names : List α) (T : List Int) (F : α → List Int) (n : α), n ∉ names → (loop1 B M names T F).2 n = F n
  | [], _, _, _, _ => rfl
  | x :: r, T, F, n, h => by
    unfold loop1
    rw [loop1_keeps B M r _ _ n fun z => h (List.mem_cons_of_mem _ z), set_ne fun z => h (by rw [z]; exact List.mem_cons_self)]
theorem loop1_spec (B : α → List Int) (M : α → Nat) (hB : ∀ n, (B n).Nodup) : ∀ (names : List α) (T : List Int) (F : α → List Int), names.Nodup → T.Nodup →
    (loop1 B M names T F).1 = T ++ flat (loop1 B M names T F).2 names ∧ (loop1 B M names T F).1.Nodup ∧ (∀ n ∈ names, ((loop1 B M names T F).2 n).length ≤ M n ∧ ∀ p ∈ (loop1 B M names T F).2 n, p ∈ B n)
  | [], T, F, _, hT => ⟨by simp [loop1, flat], hT, fun n hn => by cases hn⟩
  | x :: r, T, F, hn, hT => by
    rw [List.nodup_cons] at hn
    have hk : (((B x).filter fun p => decide (p ∉ T)).take (M x)).Nodup := ((hB x).filter _).sublist (List.take_sublist _ _)
    have hT' : (T ++ ((B x).filter fun p => decide (p ∉ T)).take (M x)).Nodup := by
      rw [List.nodup_append]
      refine ⟨hT, hk, fun a ha b hb z => ?_⟩
      have := List.mem_filter.mp (List.mem_of_mem_take hb)
      exact (of_decide_eq_true this.2) (z ▸ ha)
    obtain ⟨h1, h2, h3⟩ := loop1_spec B M hB r _ (set F x (((B x).filter fun p => decide (p ∉ T)).take (M x))) hn.2 hT'
    unfold loop1
    have ex : (loop1 B M r (T ++ ((B x).filter fun p => decide (p ∉ T)).take (M x)) (set F x (((B x).filter fun p => decide (p ∉ T)).take (M x)))).2 x = ((B x).filter fun p => decide (p ∉ T)).take (M x) := by
      rw [loop1_keeps B M r _ _ x hn.1, set_same]
    refine ⟨?_, h2, fun n hn' => ?_⟩
    · rw [h1]
      unfold flat
      rw [List.map_cons, List.flatten_cons, ex, List.append_assoc]
    · rcases List.mem_cons.mp hn' with rfl | hn'
      · rw [ex]
        refine ⟨List.length_take_le _ _, fun p hp => ?_⟩
        exact (List.mem_filter.mp (List.mem_of_mem_take hp)).1
      · exact h3 n hn'
def tot (f : α → Nat) (names : List α) : Nat := (names.map f).sum
theorem tot_cons (f : α → Nat) (x : α) (r : List α) : tot f (x :: r) = f x + tot f r := by unfold tot; rw [List.map_cons, List.sum_cons]
theorem tot_le {f g : α → Nat} : ∀ {names : List α}, (∀ n ∈ names, f n ≤ g n) → tot f names ≤ tot g names
  | [], _ => Nat.le_refl _
  | x :: r, h => by
    rw [tot_cons, tot_cons]
    have := h x List.mem_cons_self
    have := tot_le (names := r) fun n hn => h n (List.mem_cons_of_mem _ hn)
    omega
theorem tot_const (c : Nat) : ∀ names : List α, tot (fun _ => c) names = names.length * c
  | [] => by simp [tot]
  | x :: r => by rw [tot_cons, tot_const c r, List.length_cons, Nat.succ_mul]; omega
theorem tot_congr {f g : α → Nat} {names : List α} (h : ∀ n ∈ names, f n = g n) : tot f names = tot g names := by
  unfold tot
  rw [List.map_congr_left h]
theorem tot_add (f g : α → Nat) : ∀ names : List α, tot (fun n => f n + g n) names = tot f names + tot g names
  | [] => by simp [tot]
  | x :: r => by rw [tot_cons, tot_cons, tot_cons, tot_add f g r]; omega
theorem tot_flat (F : α → List Int) : ∀ names : List α, (flat F names).length = tot (fun n => (F n).length) names
  | [] => by simp [flat, tot]
  | x :: r => by
    rw [tot_cons, ← tot_flat F r]
    unfold flat
    rw [List.map_cons, List.flatten_cons, List.length_append]
theorem tot_set {f : α → Nat} {a : α} {v : Nat} : ∀ {names : List α}, names.Nodup → a ∈ names → tot (set f a v) names + f a = tot f names + v
  | x :: r, hn, ha => by
    rw [List.nodup_cons] at hn
    rw [tot_cons, tot_cons]
    rcases List.mem_cons.mp ha with rfl | ha
    · rw [set_same, tot_congr (f := set f a v) (g := f) (names := r) fun n hm => set_ne fun z => hn.1 (z ▸ hm)]
      omega
    · have ne : x ≠ a := fun z => hn.1 (z ▸ ha)
      rw [set_ne ne]
      have := tot_set (f := f) (v := v) hn.2 ha
      omega
theorem tot_mem {f : α → Nat} {a : α} : ∀ {names : List α}, a ∈ names → f a ≤ tot f names
  | x :: r, ha => by
    rw [tot_cons]
    rcases List.mem_cons.mp ha with rfl | ha
    · omega
    · have := tot_mem (f := f) ha
      omega
end
end Q7
set_option Elab.async false
set_option linter.all false
set_option maxRecDepth 100000
set_option maxHeartbeats 4000000
namespace Q7
section
variable {α : Type} [DecidableEq α]
theorem flat_set {F : α → List Int} {b : α} {p : Int} : ∀ {names : List α}, names.Nodup → b ∈ names → (flat (set F b (F b ++ [p])) names).Perm (flat F names ++ [p])
  | x :: r, hn, hb => by
    rw [List.nodup_cons] at hn
    have ex : flat (set F b (F b ++ [p])) (x :: r) = set F b (F b ++ [p]) x ++ flat (set F b (F b ++ [p])) r := by unfold flat; rw [List.map_cons, List.flatten_cons]
    have ex2 : flat F (x :: r) = F x ++ flat F r := by unfold flat; rw [List.map_cons, List.flatten_cons]
    rw [ex, ex2]
    rcases List.mem_cons.mp hb with rfl | hb
    · rw [set_same, flat_congr (F := set F b (F b ++ [p])) (G := F) (names := r) fun n hm => set_ne fun z => hn.1 (z ▸ hm)]
      rw [List.append_assoc, List.append_assoc]
      exact (List.perm_append_comm).append_left _
    · have ne : x ≠ b := fun z => hn.1 (z ▸ hb)
      rw [set_ne ne, List.append_assoc]
      exact (flat_set hn.2 hb).append_left _
theorem filt_len (T : List Int) : ∀ l : List Int, (l.filter fun p => decide (p ∈ T)).length + (l.filter fun p => decide (p ∉ T)).length = l.length
  | [] => rfl
  | x :: l => by
    have ih := filt_len T l
    by_cases c : x ∈ T
    · simp only [List.filter_cons, c, decide_true, not_true_eq_false, decide_false, if_true, Bool.false_eq_true, if_false, List.length_cons]
      omega
    · simp only [List.filter_cons, c, decide_true, not_false_eq_true, decide_false, if_true, Bool.false_eq_true, if_false, List.length_cons]
      omega
theorem T_perm {m : Nat} {T : List Int} (hT : T.Nodup) (hs : ∀ p ∈ T, p ∈ rng m) : T.Perm ((rng m).filter fun p => decide (p ∈ T)) :=
  (List.perm_ext_iff_of_nodup hT ((rng_nodup m).filter _)).mpr fun p => by
    rw [List.mem_filter, decide_eq_true_eq]
    exact ⟨fun h => ⟨hs p h, h⟩, fun h => h.2⟩
structure L2I (m : Nat) (names : List α) (T done : List Int) (F : α → List Int) : Prop where
  perm : (flat F names).Perm (T ++ done.filter fun p => decide (p ∉ T))
  top : tot (fun n => (F n).length - m / names.length) names ≤ m % names.length
  le : ∀ n ∈ names, (F n).length ≤ m / names.length + 1
theorem loop2_spec {m : Nat} {x : α} {xs : List α} {T : List Int} (hn : (x :: xs).Nodup) (hT : T.Nodup) (hs : ∀ p ∈ T, p ∈ rng m) : ∀ (ps done : List Int) (F : α → List Int), rng m = done ++ ps → L2I m (x :: xs) T done F →
    L2I m (x :: xs) T (rng m) (loop2 x xs T ps F) ∧ ∀ n, F n <+: loop2 x xs T ps F n
  | [], done, F, e, I => by
    rw [List.append_nil] at e
    rw [e]
    exact ⟨I, fun n => List.prefix_refl _⟩
  | p :: ps, done, F, e, I => by
    have e' : rng m = (done ++ [p]) ++ ps := by rw [e]; simp
    unfold loop2
    by_cases c : p ∈ T
    · rw [if_pos c]
      refine loop2_spec hn hT hs ps (done ++ [p]) F e' ⟨?_, I.top, I.le⟩
      rw [List.filter_append]
      have : ([p].filter fun q => decide (q ∉ T)) = [] := by simp [c]
      rw [this, List.append_nil]
      exact I.perm
    · rw [if_neg c]
      generalize hb : leastF (fun n => ((F n).length : Int)) x xs = b
      have hbm : b ∈ x :: xs := by rw [← hb]; exact leastF_mem _ x xs
      have hbl : ∀ n ∈ x :: xs, (F b).length ≤ (F n).length := fun n hn' => by
        have := leastF_le (fun n => ((F n).length : Int)) x xs n hn'
        rw [hb] at this
        omega
      have hlen : (flat F (x :: xs)).length = T.length + (done.filter fun p => decide (p ∉ T)).length := by rw [I.perm.length_eq, List.length_append]
      have hlt : (flat F (x :: xs)).length < m := by
        have h1 := filt_len T (rng m)
        rw [rng_len, ← (T_perm hT hs).length_eq, e', List.filter_append, List.filter_append] at h1
        have : ([p].filter fun q => decide (q ∉ T)) = [p] := by simp [c]
        rw [this] at h1
        simp only [List.length_append, List.length_cons, List.length_nil] at h1
        omega
      have hw : (x :: xs).length * (m / (x :: xs).length) + m % (x :: xs).length = m := Nat.div_add_mod m _
      have hl0 : m % (x :: xs).length < (x :: xs).length := Nat.mod_lt _ (by simp)
      have hset : ∀ n, (set F b (F b ++ [p]) n).length = set (fun n => (F n).length) b ((F b).length + 1) n := fun n => by
        unfold set
        by_cases z : n = b
        · rw [if_pos z, if_pos z]; simp
        · rw [if_neg z, if_neg z]
      have hset2 : ∀ n, (set F b (F b ++ [p]) n).length - m / (x :: xs).length = set (fun n => (F n).length - m / (x :: xs).length) b ((F b).length + 1 - m / (x :: xs).length) n := fun n => by
        rw [hset]
        unfold set
        by_cases z : n = b
        · rw [if_pos z, if_pos z]
        · rw [if_neg z, if_neg z]
      have ht := tot_set (f := fun n => (F n).length - m / (x :: xs).length) (v := (F b).length + 1 - m / (x :: xs).length) hn hbm
      have hw2 : (F b).length ≤ m / (x :: xs).length := by
        refine Nat.le_of_not_lt fun hgt => ?_
        have := tot_le (f := fun _ => 1) (g := fun n => (F n).length - m / (x :: xs).length) (names := x :: xs) fun n hn' => by
          have := hbl n hn'
          omega
        rw [tot_const] at this
        have := I.top
        omega
      have hi : L2I m (x :: xs) T (done ++ [p]) (set F b (F b ++ [p])) := by
        refine ⟨?_, ?_, fun n hn' => ?_⟩
        · rw [List.filter_append]
          have : ([p].filter fun q => decide (q ∉ T)) = [p] := by simp [c]
          rw [this, ← List.append_assoc]
          exact (flat_set hn hbm).trans (I.perm.append_right _)
        · rw [tot_congr (g := set (fun n => (F n).length - m / (x :: xs).length) b ((F b).length + 1 - m / (x :: xs).length)) fun n _ => hset2 n]
          have := I.top
          by_cases lw : (F b).length < m / (x :: xs).length
          · have z1 : (F b).length + 1 - m / (x :: xs).length = 0 := by omega
            have z2 : (F b).length - m / (x :: xs).length = 0 := by omega
            simp only [z1, z2] at ht ⊢
            omega
          · have all : tot (fun n => (F n).length) (x :: xs) = tot (fun n => (F n).length - m / (x :: xs).length) (x :: xs) + (x :: xs).length * (m / (x :: xs).length) := by
              rw [← tot_const (m / (x :: xs).length) (x :: xs), ← tot_add]
              refine tot_congr fun n hn' => ?_
              have := hbl n hn'
              omega
            rw [tot_flat] at hlt
            have z2 : (F b).length - m / (x :: xs).length = 0 := by omega
            have z1 : (F b).length + 1 - m / (x :: xs).length = 1 := by omega
            simp only [z1, z2] at ht ⊢
            omega
        · rw [hset]
          unfold set
          by_cases z : n = b
          · rw [if_pos z]; omega
          · rw [if_neg z]; exact I.le n hn'
      obtain ⟨r1, r2⟩ := loop2_spec hn hT hs ps (done ++ [p]) (set F b (F b ++ [p])) e' hi
      refine ⟨r1, fun n => (?_ : F n <+: set F b (F b ++ [p]) n).trans (r2 n)⟩
      by_cases z : n = b
      · rw [z, set_same]; exact List.prefix_append _ _
      · rw [set_ne z]; exact List.prefix_refl _
theorem ranked_perm (B : α → List Int) (names : List α) : (ranked B names).Perm names := List.mergeSort_perm ..
theorem ranked_sorted (B : α → List Int) (names : List α) : (ranked B names).Pairwise fun a b => (B b).length ≤ (B a).length := by
  have h := List.pairwise_mergeSort (le := fun a b : α => decide (-((B a).length : Int) ≤ -((B b).length : Int))) (fun a b c h1 h2 => by
    have h1 := of_decide_eq_true h1
    have h2 := of_decide_eq_true h2
    exact decide_eq_true (by omega)) (fun a b => by
    rcases Int.le_total (-((B a).length : Int)) (-((B b).length : Int)) with h | h
    · simp [h]
    · simp [h]) names
  exact h.imp fun h => by
    have := of_decide_eq_true h
    omega
theorem tot_perm {f : α → Nat} {a b : List α} (p : a.Perm b) : tot f a = tot f b := by
  induction p with
  | nil => rfl
  | cons x _ ih => rw [tot_cons, tot_cons, ih]
  | swap x y l => rw [tot_cons, tot_cons, tot_cons, tot_cons]; omega
  | trans _ _ h1 h2 => rw [h1, h2]
theorem idx_count : ∀ (R : List α) (k : Nat), R.Nodup → tot (fun n => if R.idxOf n < k then 1 else 0) R ≤ k
  | [], k, _ => by simp [tot]
  | x :: r, k, h => by
    rw [List.nodup_cons] at h
    rw [tot_cons, List.idxOf_cons_self]
    cases k with
    | zero =>
      have : tot (fun n => if (x :: r).idxOf n < 0 then 1 else 0) r = tot (fun _ => 0) r := tot_congr fun n _ => by simp
      rw [this, tot_const]
      simp
    | succ k =>
      have e : tot (fun n => if (x :: r).idxOf n < k + 1 then 1 else 0) r = tot (fun n => if r.idxOf n < k then 1 else 0) r := tot_congr fun n hn => by
        have ne : (x == n) = false := by
          rw [beq_eq_false_iff_ne]
          exact fun z => h.1 (z ▸ hn)
        rw [List.idxOf_cons, ne, cond_false]
        by_cases c : r.idxOf n < k
        · rw [if_pos c, if_pos (by omega)]
        · rw [if_neg c, if_neg (by omega)]
      have := idx_count r k h.2
      rw [e, if_pos (by omega)]
      omega
theorem tot_eq_le {f g : α → Nat} : ∀ {names : List α}, (∀ n ∈ names, f n ≤ g n) → tot g names ≤ tot f names → ∀ n ∈ names, f n = g n
  | x :: r, h, ht, n, hn => by
    rw [tot_cons, tot_cons] at ht
    have h1 := h x List.mem_cons_self
    have h2 := tot_le (names := r) fun n hn => h n (List.mem_cons_of_mem _ hn)
    rcases List.mem_cons.mp hn with rfl | hn
    · omega
    · exact tot_eq_le (fun n hn => h n (List.mem_cons_of_mem _ hn)) (by omega) n hn
structure Fair (m : Nat) (names : List α) (R : α → List Int) : Prop where
  perm : (flat R names).Perm (rng m)
  lo : ∀ n ∈ names, m / names.length ≤ (R n).length
  hi : ∀ n ∈ names, (R n).length ≤ m / names.length + 1
  top : tot (fun n => (R n).length - m / names.length) names = m % names.length
  so : ∀ n, (R n).Pairwise (· ≤ ·)
theorem loops_spec {m : Nat} {x : α} {xs : List α} {had : α → List Int} (hn : (x :: xs).Nodup) (h0 : ∀ n ∈ x :: xs, ∀ p ∈ had n, 0 ≤ p) :
    let B := fun n => pb m (had n)
    let p := loop1 B (mostF m B (x :: xs)) (x :: xs) [] fun _ => []
    p.1.Nodup ∧ (∀ q ∈ p.1, q ∈ rng m) ∧ L2I m (x :: xs) p.1 [] p.2 := by
  intro B p
  obtain ⟨h1, h2, h3⟩ := loop1_spec B (mostF m B (x :: xs)) (fun n => pb_nodup m _) (x :: xs) [] (fun _ => []) hn List.nodup_nil
  rw [List.nil_append] at h1
  refine ⟨h2, fun q hq => ?_, ?_, ?_, fun n hn' => ?_⟩
  · rw [show p.1 = _ from h1] at hq
    unfold flat at hq
    obtain ⟨l, hl, hq⟩ := List.mem_flatten.mp hq
    obtain ⟨n, hn', rfl⟩ := List.mem_map.mp hl
    obtain ⟨k1, k2⟩ := (pb_mem m (had n) q).mp ((h3 n hn').2 q hq)
    exact (rng_mem m q).mpr ⟨h0 n hn' q k1, k2⟩
  · rw [List.filter_nil, List.append_nil, show p.1 = _ from h1]
  · have e : tot (fun n => (p.2 n).length - m / (x :: xs).length) (x :: xs) ≤ tot (fun n => if (ranked B (x :: xs)).idxOf n < m % (x :: xs).length then 1 else 0) (x :: xs) := tot_le fun n hn' => by
      have := (h3 n hn').1
      unfold mostF at this
      by_cases c : (ranked B (x :: xs)).idxOf n < m % (x :: xs).length
      · rw [if_pos c] at this
        rw [if_pos c]
        show (p.2 n).length - _ ≤ 1
        have : (p.2 n).length ≤ m / (x :: xs).length + 1 := this
        omega
      · rw [if_neg c] at this
        rw [if_neg c]
        show (p.2 n).length - _ ≤ 0
        have : (p.2 n).length ≤ m / (x :: xs).length := this
        omega
    rw [← tot_perm (ranked_perm B (x :: xs))] at e
    have := idx_count (ranked B (x :: xs)) (m % (x :: xs).length) ((ranked_perm B (x :: xs)).nodup_iff.mpr hn)
    rw [tot_perm (ranked_perm B (x :: xs))] at e
    rw [tot_perm (ranked_perm B (x :: xs))] at this
    omega
  · have := (h3 n hn').1
    unfold mostF at this
    show (p.2 n).length ≤ _
    have : (p.2 n).length ≤ if (ranked B (x :: xs)).idxOf n < m % (x :: xs).length then m / (x :: xs).length + 1 else m / (x :: xs).length := this
    split at this <;> omega
theorem fair_shares {m : Nat} {names : List α} {had : α → List Int} (hn : names.Nodup) (hne : names ≠ []) (h0 : ∀ n ∈ names, ∀ p ∈ had n, 0 ≤ p) : Fair m names (sharesF m had names) := by
  match names, hne, hn, h0 with
  | x :: xs, _, hn, h0 =>
    obtain ⟨a1, a2, a3⟩ := loops_spec (m := m) hn h0
    obtain ⟨b1, b2⟩ := loop2_spec hn a1 a2 (rng m) [] _ rfl a3
    have eL : ∀ n, (sharesF m had (x :: xs) n).length = (loop2 x xs _ (rng m) _ n).length := fun n => (sortI_perm _).length_eq
    have pm : (flat (sharesF m had (x :: xs)) (x :: xs)).Perm (rng m) := by
      refine (?_ : (flat (sharesF m had (x :: xs)) (x :: xs)).Perm _).trans (b1.perm.trans ?_)
      · unfold flat
        exact go (x :: xs)
      · refine ((T_perm a1 a2).append_right _).trans ?_
        exact List.filter_append_perm (fun p => decide (p ∈ _)) (rng m) |> fun h => by simpa using h
    have tl : tot (fun n => (sharesF m had (x :: xs) n).length) (x :: xs) = m := by rw [← tot_flat, pm.length_eq, rng_len]
    have hw : (x :: xs).length * (m / (x :: xs).length) + m % (x :: xs).length = m := Nat.div_add_mod m _
    have top' : tot (fun n => (sharesF m had (x :: xs) n).length - m / (x :: xs).length) (x :: xs) ≤ m % (x :: xs).length := by
      rw [tot_congr (g := fun n => (loop2 x xs _ (rng m) _ n).length - m / (x :: xs).length) fun n _ => by rw [eL]]
      exact b1.top
    have split : tot (fun n => (sharesF m had (x :: xs) n).length) (x :: xs) = tot (fun n => min (sharesF m had (x :: xs) n).length (m / (x :: xs).length)) (x :: xs) + tot (fun n => (sharesF m had (x :: xs) n).length - m / (x :: xs).length) (x :: xs) := by
      rw [← tot_add]
      exact tot_congr fun n _ => by omega
    have mins := tot_eq_le (f := fun n => min (sharesF m had (x :: xs) n).length (m / (x :: xs).length)) (g := fun _ => m / (x :: xs).length) (names := x :: xs) (fun n _ => Nat.min_le_right _ _) (by rw [tot_const]; omega)
    have mt : tot (fun n => min (sharesF m had (x :: xs) n).length (m / (x :: xs).length)) (x :: xs) ≤ (x :: xs).length * (m / (x :: xs).length) := by
      rw [← tot_const]
      exact tot_le fun n _ => Nat.min_le_right _ _
    refine ⟨pm, fun n hn' => ?_, fun n hn' => ?_, by omega, fun n => sortI_sorted _⟩
    · have := mins n hn'
      omega
    · rw [eL]
      exact b1.le n hn'
where
  go {x : α} {xs : List α} {m : Nat} {had : α → List Int} : ∀ l : List α, ((l.map (sharesF m had (x :: xs))).flatten).Perm ((l.map (loop2 x xs (loop1 (fun n => pb m (had n)) (mostF m (fun n => pb m (had n)) (x :: xs)) (x :: xs) [] fun _ => []).1 (rng m) (loop1 (fun n => pb m (had n)) (mostF m (fun n => pb m (had n)) (x :: xs)) (x :: xs) [] fun _ => []).2)).flatten)
    | [] => List.Perm.refl _
    | a :: l => by
      rw [List.map_cons, List.flatten_cons, List.map_cons, List.flatten_cons]
      exact (sortI_perm _).append (go l)
end
end Q7
set_option Elab.async false
set_option linter.all false
set_option maxRecDepth 100000
set_option maxHeartbeats 4000000
namespace Q7
section
variable {α : Type} [DecidableEq α]
theorem loop2_out {x : α} {xs : List α} {T : List Int} : ∀ (ps : List Int) (F : α → List Int) (n : α), n ∉ x :: xs → loop2 x xs T ps F n = F n
  | [], _, _, _ => rfl
  | p :: ps, F, n, h => by
    unfold loop2
    split
    · exact loop2_out ps F n h
    · rw [loop2_out ps _ n h, set_ne fun z => h (by rw [z]; exact leastF_mem _ x xs)]
theorem sharesF_out {m : Nat} {had : α → List Int} {names : List α} {n : α} (h : n ∉ names) : sharesF m had names n = [] := by
  match names, h with
  | [], _ => rfl
  | x :: xs, h =>
    show sortI (loop2 x xs _ (rng m) _ n) = []
    rw [loop2_out _ _ n h, loop1_keeps _ _ _ _ _ n h]
    simp [sortI]
theorem loop2_skip {x : α} {xs : List α} {T : List Int} : ∀ (ps : List Int) (F : α → List Int), (∀ p ∈ ps, p ∈ T) → loop2 x xs T ps F = F
  | [], _, _ => rfl
  | p :: ps, F, h => by
    unfold loop2
    rw [if_pos (h p List.mem_cons_self)]
    exact loop2_skip ps F fun q hq => h q (List.mem_cons_of_mem _ hq)
theorem loop1_disj (B : α → List Int) (M : α → Nat) : ∀ (names : List α) (T : List Int) (F : α → List Int), names.Nodup → (∀ p ∈ T, ∀ n ∈ names, p ∉ B n) → (∀ a ∈ names, ∀ b ∈ names, a ≠ b → ∀ p ∈ B a, p ∉ B b) → ∀ n ∈ names, (loop1 B M names T F).2 n = (B n).take (M n)
  | [], _, _, _, _, _, n, hn => by cases hn
  | x :: r, T, F, nd, hT, hd, n, hn => by
    rw [List.nodup_cons] at nd
    unfold loop1
    have e : ((B x).filter fun p => decide (p ∉ T)) = B x := List.filter_eq_self.mpr fun p hp => decide_eq_true fun z => hT p z x List.mem_cons_self hp
    rw [e]
    rcases List.mem_cons.mp hn with rfl | hn'
    · rw [loop1_keeps B M r _ _ n nd.1, set_same]
    · refine loop1_disj B M r _ _ nd.2 (fun p hp k hk => ?_) (fun a ha b hb => hd a (List.mem_cons_of_mem _ ha) b (List.mem_cons_of_mem _ hb)) n hn'
      rcases List.mem_append.mp hp with z | z
      · exact hT p z k (List.mem_cons_of_mem _ hk)
      · exact hd x List.mem_cons_self k (List.mem_cons_of_mem _ hk) (fun e => nd.1 (e ▸ hk)) p (List.mem_of_mem_take z)
structure Good (m : Nat) (names : List α) (R : α → List Int) : Prop where
  so : ∀ n ∈ names, (R n).Pairwise (· ≤ ·)
  nd : ∀ n ∈ names, (R n).Nodup
  rg : ∀ n ∈ names, ∀ p ∈ R n, 0 ≤ p ∧ p < (m : Int)
  dj : ∀ a ∈ names, ∀ b ∈ names, a ≠ b → ∀ p ∈ R a, p ∉ R b
theorem flat_nodup {R : α → List Int} : ∀ {names : List α}, names.Nodup → (flat R names).Nodup → (∀ n ∈ names, (R n).Nodup) ∧ ∀ a ∈ names, ∀ b ∈ names, a ≠ b → ∀ p ∈ R a, p ∉ R b
  | [], _, _ => ⟨fun n hn => (nomatch hn), fun a ha => (nomatch ha)⟩
  | x :: r, hn, h => by
    rw [List.nodup_cons] at hn
    have ex : flat R (x :: r) = R x ++ flat R r := by unfold flat; rw [List.map_cons, List.flatten_cons]
    rw [ex, List.nodup_append] at h
    obtain ⟨i1, i2⟩ := flat_nodup hn.2 h.2.1
    have mf : ∀ {n p}, n ∈ r → p ∈ R n → p ∈ flat R r := fun {n p} hn hp => List.mem_flatten.mpr ⟨R n, List.mem_map.mpr ⟨n, hn, rfl⟩, hp⟩
    refine ⟨fun n hn' => ?_, fun a ha b hb ne p pa pb => ?_⟩
    · rcases List.mem_cons.mp hn' with rfl | hn'
      · exact h.1
      · exact i1 n hn'
    · rcases List.mem_cons.mp ha with ea | ha <;> rcases List.mem_cons.mp hb with eb | hb
      · exact ne (ea.trans eb.symm)
      · rw [ea] at pa
        exact h.2.2 p pa p (mf hb pb) rfl
      · rw [eb] at pb
        exact h.2.2 p pb p (mf ha pa) rfl
      · exact i2 a ha b hb ne p pa pb
theorem Fair.good {m : Nat} {names : List α} {R : α → List Int} (f : Fair m names R) (hn : names.Nodup) : Good m names R := by
  obtain ⟨i1, i2⟩ := flat_nodup hn (f.perm.nodup_iff.mpr (rng_nodup m))
  exact ⟨fun n _ => f.so n, i1, fun n hn' p hp => (rng_mem m p).mp (f.perm.mem_iff.mp (List.mem_flatten.mpr ⟨R n, List.mem_map.mpr ⟨n, hn', rfl⟩, hp⟩)), i2⟩
theorem stays {m : Nat} {names : List α} {had : α → List Int} (hn : names.Nodup) (g : Good m names had) {n : α} (hm : n ∈ names) : min (had n).length (m / names.length) ≤ ((had n).filter fun p => decide (p ∈ sharesF m had names n)).length := by
  match names, hn, g, hm with
  | x :: xs, hn, g, hm =>
    have eB : ∀ k ∈ x :: xs, pb m (had k) = had k := fun k hk => pb_self (g.so k hk) (g.nd k hk) fun p hp => (g.rg k hk p hp).2
    obtain ⟨a1, a2, a3⟩ := loops_spec (m := m) hn fun k hk p hp => (g.rg k hk p hp).1
    obtain ⟨b1, b2⟩ := loop2_spec hn a1 a2 (rng m) [] _ rfl a3
    have e1 := loop1_disj (fun n => pb m (had n)) (mostF m (fun n => pb m (had n)) (x :: xs)) (x :: xs) [] (fun _ => []) hn (fun p hp => by cases hp) (fun a ha b hb ne p hp => by
      rw [eB a ha] at hp
      rw [eB b hb]
      exact g.dj a ha b hb ne p hp) n hm
    rw [eB n hm] at e1
    have sub : ∀ p ∈ (had n).take (mostF m (fun n => pb m (had n)) (x :: xs) n), p ∈ sharesF m had (x :: xs) n := fun p hp => by
      rw [← e1] at hp
      show p ∈ sortI _
      rw [(sortI_perm _).mem_iff]
      exact (b2 n).mem hp
    have l1 : ((had n).take (mostF m (fun n => pb m (had n)) (x :: xs) n)).length ≤ ((had n).filter fun p => decide (p ∈ sharesF m had (x :: xs) n)).length := by
      have h1 : ((had n).take (mostF m (fun n => pb m (had n)) (x :: xs) n)).filter (fun p => decide (p ∈ sharesF m had (x :: xs) n)) = (had n).take (mostF m (fun n => pb m (had n)) (x :: xs) n) := List.filter_eq_self.mpr fun p hp => decide_eq_true (sub p hp)
      rw [← h1]
      exact ((List.take_sublist _ _).filter _).length_le
    have l2 : m / (x :: xs).length ≤ mostF m (fun n => pb m (had n)) (x :: xs) n := by
      unfold mostF
      split <;> omega
    rw [List.length_take] at l1
    omega
theorem idx_top {B : α → List Int} {w : Nat} {n : α} (hn : (B n).length = w + 1) : ∀ {R : List α}, R.Pairwise (fun a b => (B b).length ≤ (B a).length) → n ∈ R → R.idxOf n < tot (fun k => (B k).length - w) R
  | x :: r, hs, hm => by
    rw [List.pairwise_cons] at hs
    rw [tot_cons, List.idxOf_cons]
    by_cases c : x = n
    · subst c
      rw [beq_self_eq_true, cond_true]
      omega
    · have ne : (x == n) = false := by rw [beq_eq_false_iff_ne]; exact c
      rw [ne, cond_false]
      have hm' : n ∈ r := (List.mem_cons.mp hm).resolve_left fun z => c z.symm
      have := idx_top hn hs.2 hm'
      have := hs.1 n hm'
      omega
theorem idem {m : Nat} {names : List α} {R : α → List Int} (hn : names.Nodup) (f : Fair m names R) {n : α} (hm : n ∈ names) : sharesF m R names n = R n := by
  match names, hn, f, hm with
  | x :: xs, hn, f, hm =>
    have g := f.good hn
    have eB : ∀ k ∈ x :: xs, pb m (R k) = R k := fun k hk => pb_self (g.so k hk) (g.nd k hk) fun p hp => (g.rg k hk p hp).2
    have e1 := loop1_disj (fun n => pb m (R n)) (mostF m (fun n => pb m (R n)) (x :: xs)) (x :: xs) [] (fun _ => []) hn (fun p hp => by cases hp) (fun a ha b hb ne p hp => by
      rw [eB a ha] at hp
      rw [eB b hb]
      exact g.dj a ha b hb ne p hp)
    have eM : ∀ k ∈ x :: xs, (R k).length ≤ mostF m (fun n => pb m (R n)) (x :: xs) k := fun k hk => by
      have h1 := f.hi k hk
      unfold mostF
      by_cases c : (R k).length ≤ m / (x :: xs).length
      · split <;> omega
      · have e : ((fun n => pb m (R n)) k).length = m / (x :: xs).length + 1 := by
          show (pb m (R k)).length = _
          rw [eB k hk]
          omega
        have h2 := idx_top (B := fun n => pb m (R n)) (n := k) e (ranked_sorted (fun n => pb m (R n)) (x :: xs)) ((ranked_perm _ _).mem_iff.mpr hk)
        rw [tot_perm (ranked_perm _ _), tot_congr (g := fun k => (R k).length - m / (x :: xs).length) fun k hk => by rw [eB k hk], f.top] at h2
        rw [if_pos h2]
        omega
    have eF : ∀ k ∈ x :: xs, (loop1 (fun n => pb m (R n)) (mostF m (fun n => pb m (R n)) (x :: xs)) (x :: xs) [] fun _ => []).2 k = R k := fun k hk => by
      rw [e1 k hk, eB k hk, List.take_of_length_le (eM k hk)]
    have eT := (loop1_spec (fun n => pb m (R n)) (mostF m (fun n => pb m (R n)) (x :: xs)) (fun n => pb_nodup m _) (x :: xs) [] (fun _ => []) hn List.nodup_nil).1
    rw [List.nil_append, flat_congr eF] at eT
    show sortI (loop2 x xs _ (rng m) _ n) = R n
    rw [eT, loop2_skip (rng m) _ fun p hp => f.perm.mem_iff.mpr hp, eF n hm, sortI_self (f.so n)]
end
end Q7
set_option Elab.async false
set_option linter.all false
set_option maxRecDepth 100000
set_option maxHeartbeats 4000000
namespace K7
open PySem PySem.Spec PyProof.Rows L2 KB KC
def top (i : Nat) : Stmt := PySem.Challenge.pw_streamstack_k07_members_who_share.main.body.getD i (.Pass ⟨0, 0, 0, 0⟩)
abbrev sShares : Stmt := top 4
abbrev sPB : Stmt := top 5
abbrev sMost : Stmt := top 6
abbrev sGroup : Stmt := top 7
abbrev sDice : Stmt := top 9
abbrev sRoll : Stmt := top 10
abbrev sRounds : Stmt := top 11
abbrev sTold : Stmt := top 12
abbrev sFair : Stmt := top 13
abbrev sLaw : Stmt := top 14
abbrev sGM (j : Nat) : Stmt := inClass sGroup j
abbrev FnP (K : PySem.W.Frag) (x q : Str) (st : Stmt) (dvs : List V) (f : Addr) (fd : FuncData) : Prop := FunD K x q (defArgs st) (defBody st) (defScope st) dvs [] f fd
def rIxD : R2 := fun x y H Q => ∃ p xs i v, x = .ref p ∧ y = .int i ∧ H p = some (.lst xs) ∧ atI xs i = some v ∧ Q v H
theorem ix_listD {X : Cx} : IxR X rIxD := by
  intro value slice pins s σ H x y v u Q I rx ry h hs
  obtain ⟨p, xs, i, z, e1, e2, hq, he, q⟩ := h
  exact ix_list value slice pins s σ H x y v u Q I rx ry ⟨p, xs, i, z, e1, e2, SqL.of hq, he, q⟩ hs
theorem sc_int {a b : Int} : scal (.int a) (.int b) = true := rfl
theorem at3_0 {a b c : V} : atI [a, b, c] 0 = some a := rfl
theorem at3_1 {a b c : V} : atI [a, b, c] 1 = some b := rfl
theorem at3_2 {a b c : V} : atI [a, b, c] 2 = some c := rfl
theorem at2_0 {a b : V} : atI [a, b] 0 = some a := rfl
theorem at2_1 {a b : V} : atI [a, b] 1 = some b := rfl
theorem ix3_0 : ixN (0 + 1 + 1 + 1) 0 = some 0 := rfl
theorem ix3_1 : ixN (0 + 1 + 1 + 1) 1 = some 1 := rfl
theorem ix3_2 : ixN (0 + 1 + 1 + 1) 2 = some 2 := rfl
theorem upd2 {H : Hp} {a : Addr} {o o' : HO} : upd (upd H a o) a o' = upd H a o' := by
  funext b
  by_cases e : b = a
  · subst e; rw [upd_same, upd_same]
  · rw [upd_ne e, upd_ne e, upd_ne e]
structure TxtL (mg : Str → Option Value) : Prop where
  abs : mg "abs" = none
  int : mg "int" = none
  range : mg "range" = none
  dict : mg "dict" = none
  list : mg "list" = none
  tuple : mg "tuple" = none
  len : mg "len" = none
  sorted : mg "sorted" = none
  max : mg "max" = none
  min : mg "min" = none
  enum : mg "enumerate" = none
def IsDice (H : Hp) (d : Addr) : Prop := ∃ a b k : Int, H d = some (.lst [.int a, .int b, .int k])
def ExD (d : Addr) (H H' : Hp) : Prop := ∀ b o, b ≠ d → H b = some o → H' b = some o
def spDice : Sp := fun vs H Q _ => ∃ c : Int, vs = [.int c] ∧ ∀ p a b k, H p = none → Q (.ref p) (upd H p (.lst [.int a, .int b, .int k]))
@[irreducible] def spRoll : Sp := fun vs H Q _ => ∃ (d : Addr) (m : Int), vs = [.ref d, .int m] ∧ IsDice H d ∧ 0 < m ∧ m ≤ 100000000 ∧
  ∀ (r : Int) a b k, 0 ≤ r → r < m → Q (.int r) (upd H d (.lst [.int a, .int b, .int k]))
section
variable {P : Program} {w : World} {K : PySem.W.Frag} {mg : Str → Option Value} {base : Heap} {f : Addr} {fd : FuncData}
theorem scDice : FnScope ["cell"] ["cell"] (defScope sDice) := ⟨rfl, rfl, rfl, by decide +kernel, rfl, by decide +kernel, by decide +kernel⟩
theorem ok_dice (F : FnP K "_law_dice" "_law_dice" sDice [] f fd) (T : TxtL mg) : FnOk P w K mg base CX0 1 f fd ["cell"] spDice := by
  refine F.ok scDice (fun vs H Q E h => ?_) (fun cdv A outer s H vs Q E hr h => ?_)
  · obtain ⟨c, rfl, _⟩ := h; rfl
  · obtain ⟨c, rfl, k⟩ := h
    refine ⟨_, PSs.nox <| pss_cons (ps_if (pt_chain op_lt op_lt (pe_op op_sub pe_int pe_int) (pv 0) pe_int)
        (pss_one (ps_ret (pe_lst (pa_cons (pe_callB call_abs (by rfl) T.abs (by decide +kernel) (pa_cons (pv 0) pa_nil)) (pa_cons pe_int (pa_cons pe_int pa_nil)))))) pss_nil)
      (pss_one (ps_ret (pe_lst (pa_cons (pv 0) (pa_cons (pe_op op_add pe_int (pe_op op_mod (pe_callTy call_int1 (by rfl) T.int (by decide +kernel) (pa_cons (pv 0) pa_nil)) pe_int))
        (pa_cons (pe_callTy call_int1 (by rfl) T.int (by decide +kernel) (pa_cons (pe_cmpR op_ge (pv 0) (pe_op op_pow pe_int pe_int) (nomark _)) pa_nil)) pa_nil)))))), ?_⟩
    simp only [tSeq, tIfS, tIf, tTest, tChain, tOp, tC, tVar, tRet, tLst, tTup, tCons, tCB, tNil, tAsg, gName, tCall, tDrop, tOr, tAnd, tNot, gSub, rI0, rI, tNext, L2.start, List.set_cons_zero, List.set_cons_succ, List.map, List.replicate, List.length, List.append_nil, List.getElem?_cons_zero, List.getElem?_cons_succ, List.cons_append, List.nil_append, Option.some.injEq, exists_eq_left', exists_eq_left, exists_and_left, V.int.injEq, V.ref.injEq, List.cons.injEq, and_true, true_and, V.bl.injEq, reduceCtorEq, false_and, and_false, exists_false, or_false, false_or, HO.lst.injEq]
    have hs : 0 + 1 + 1 + 1 ≤ sizeLine := by decide
    have hp : CPow 10 18 := by unfold CPow; decide
    have h9 : (0 : Int) < 1009 := by decide
    split
    · split
      · exact ⟨hs, fun p e => k p _ _ _ e⟩
      · exact ⟨h9, hp, hs, fun p e => k p _ _ _ e⟩
    · rw [if_neg (fun z => z)]
      exact ⟨h9, hp, hs, fun p e => k p _ _ _ e⟩
theorem scRoll : FnScope ["dice", "many", "found"] ["dice", "many"] (defScope sRoll) := ⟨rfl, rfl, rfl, by decide +kernel, rfl, by decide +kernel, by decide +kernel⟩
theorem ok_roll (F : FnP K "_law_roll" "_law_roll" sRoll [] f fd) (T : TxtL mg) : FnOk P w K mg base CX0 1 f fd ["dice", "many"] spRoll := by
  refine F.ok scRoll (fun vs H Q E h => ?_) (fun cdv A outer s H vs Q E hr h => ?_)
  · unfold spRoll at h
    obtain ⟨d, m, rfl, _⟩ := h; rfl
  · unfold spRoll at h
    obtain ⟨d, m, rfl, ⟨a, b, k, hd⟩, h0, h1, q⟩ := h
    refine ⟨_, PSs.nox <| pss_cons (ps_if (PW.pt (pw_or (pt_cmpR op_eq (pe_ix ix_listD (pv 0) pe_int (fun _ _ => rfl)) pe_int (nomark _)) (pw_or1 (PW.pt (pw_and (pt_cmpR op_eq (pe_ix ix_listD (pv 0) pe_int (fun _ _ => rfl)) pe_int (nomark _)) (pw_and1 (pt_cmpR op_gt (pe_ix ix_listD (pv 0) pe_int (fun _ _ => rfl)) pe_int (nomark _))))))))
        (pss_cons (ps_set (i := 2) scRoll.nd rfl (Or.inl rfl) (pe_op op_mod (pe_callTy call_int1 (by rfl) T.int (by decide +kernel) (pa_cons (pe_ix ix_listD (pv 0) pe_int (fun _ _ => rfl)) pa_nil)) (pv 1)))
          (pss_cons (ps_asg (pe_op op_fdiv (pe_ix ix_listD (pv 0) pe_int (fun _ _ => rfl)) (pv 1)) (pg_sub (pv 0) pe_int set_list)) (pss_one (ps_ret (pv 2))))) pss_nil)
      (pss_cons (ps_asg pe_int (pg_sub (pv 0) pe_int set_list))
      (pss_cons (ps_if (pt_cmpR op_gt (pv 1) pe_int (nomark _)) pss_never pss_nil)
      (pss_cons (ps_asg (pe_op op_mod (pe_callTy call_int1 (by rfl) T.int (by decide +kernel) (pa_cons (pe_op op_add (pe_op op_add (pe_op op_mul (pe_ix ix_listD (pv 0) pe_int (fun _ _ => rfl)) pe_int) (pe_op op_mul (pe_ix ix_listD (pv 0) pe_int (fun _ _ => rfl)) pe_int)) pe_int) pa_nil)) pe_int) (pg_sub (pv 0) pe_int set_list))
      (pss_cons (ps_asg (pe_op op_add (pe_ix ix_listD (pv 0) pe_int (fun _ _ => rfl)) pe_int) (pg_sub (pv 0) pe_int set_list))
      (pss_one (ps_ret (pe_op op_mod (pe_callTy call_int1 (by rfl) T.int (by decide +kernel) (pa_cons (pe_op op_fdiv (pe_ix ix_listD (pv 0) pe_int (fun _ _ => rfl)) pe_int) pa_nil)) (pv 1)))))))), ?_⟩
    have hm : decide ((100000000 : Int) < m) = false := decide_eq_false (by omega)
    simp only [tSeq, tIfS, tIf, tTest, tChain, tOp, tC, tVar, tRet, tLst, tTup, tCons, tCB, tNil, tAsg, gName, tCall, tDrop, tOr, tAnd, tNot, gSub, rI0, rI, tNext, L2.start, List.set_cons_zero, List.set_cons_succ, List.map, List.replicate, List.length, List.append_nil, List.getElem?_cons_zero, List.getElem?_cons_succ, List.cons_append, List.nil_append, Option.some.injEq, exists_eq_left', exists_eq_left, exists_and_left, V.int.injEq, V.ref.injEq, List.cons.injEq, and_true, true_and, V.bl.injEq, reduceCtorEq, false_and, and_false, exists_false, or_false, false_or, HO.lst.injEq, rIxD, rSetL, rEq, sc_int, hd, upd_same, upd2, at3_0, at3_1, at3_2, ix3_0, ix3_1, ix3_2, hm, if_true, if_false, Bool.false_eq_true]
    have g0 : (0 : Int) < 2147483647 := by decide
    have gm : ∀ x : Int, CMul x 48271 := fun x => .inr ⟨by decide, by decide⟩
    have gn : ∀ x : Int, CMul x 69621 := fun x => .inr ⟨by decide, by decide⟩
    have gd : ∀ x : Int, CDiv x 7 := fun x => ⟨by decide, by decide⟩
    have gq : ∀ x : Int, CDiv x m := fun x => ⟨h0, by omega⟩
    have lo : ∀ x : Int, 0 ≤ x % m := fun x => Int.emod_nonneg _ (by omega)
    have hi : ∀ x : Int, x % m < m := fun x => Int.emod_lt_of_pos _ h0
    split
    · exact ⟨h0, gq _, q _ _ _ _ (lo _) (hi _)⟩
    · split
      · split
        · exact ⟨h0, gq _, q _ _ _ _ (lo _) (hi _)⟩
        · exact ⟨gm _, gn _, g0, gd _, h0, q _ _ _ _ (lo _) (hi _)⟩
      · exact ⟨gm _, gn _, g0, gd _, h0, q _ _ _ _ (lo _) (hi _)⟩
end
end K7
set_option Elab.async false
set_option linter.all false
set_option maxRecDepth 100000
set_option maxHeartbeats 4000000
namespace K7
open PySem PySem.Spec PyProof.Rows L2 KB KC KS
@[irreducible] def spRounds (K : PySem.W.Frag) : Sp := fun vs H Q _ => ∃ (s : Addr) (ns : List Int), vs = [.ref s, .int 1] ∧ SqL K H s (ns.map V.int) ∧ ∀ H' p d, Ex H H' → H' p = some (.lst [.ref d]) → IsDice H' d → Q (.ref p) H'
theorem IsDice.upd_ne {H : Hp} {d a : Addr} {o : HO} (h : IsDice H d) (n : H a = none) : IsDice (upd H a o) d := by
  obtain ⟨x, y, z, e⟩ := h
  exact ⟨x, y, z, by rw [L2.upd_ne (ne_of_none e n)]; exact e⟩
theorem Ex.on {H H1 : Hp} {a : Addr} {o : HO} (e : Ex H H1) (n : H a = none) : Ex H (upd H1 a o) := fun b u h => by rw [L2.upd_ne (ne_of_none h n)]; exact e b u h
section
variable {P : Program} {w : World} {K : PySem.W.Frag} {mg : Str → Option Value} {base : Heap} {f fD : Addr} {fd fdD : FuncData}
theorem scRounds : FnScope ["script", "most", "cells", "cell"] ["script", "most"] (defScope sRounds) := ⟨rfl, rfl, rfl, by decide +kernel, rfl, by decide +kernel, by decide +kernel⟩
theorem ok_rounds (F : FnP K "_law_rounds" "_law_rounds" sRounds [] f fd) (T : TxtL mg) (FD : FnP K "_law_dice" "_law_dice" sDice [] fD fdD) (gD : mg "_law_dice" = some (.ref fD)) :
    FnOk P w K mg base CX0 2 f fd ["script", "most"] (spRounds K) := by
  have GD : FnOk P w K mg base CX0 1 fD fdD ["cell"] spDice := ok_dice FD T
  have bD : Binds K fdD ["cell"] [] := FD.bindsN fun _ _ _ _ _ _ us hl => match us, hl with | [_], _ => rfl
  refine F.ok scRounds (fun vs H Q E h => ?_) (fun cdv A outer s H vs Q E hr h => ?_)
  · unfold spRounds at h
    obtain ⟨c, d, rfl, _⟩ := h; rfl
  · unfold spRounds at h
    obtain ⟨a, ns, rfl, hS, q⟩ := h
    refine ⟨_, PSs.nox <| pss_cons (ps_set (i := 2) scRounds.nd rfl (Or.inl rfl) (pe_slice sl_list (pv 0) po_none (po_some (pv 1))))
      (pss_cons (ps_if (pt_cmpR (op_eqD hr.units) (pv 2) (pe_lst pa_nil) (nomark _)) (pss_one (ps_set (i := 2) scRounds.nd rfl (Or.inl rfl) (pe_lst (pa_cons pe_int pa_nil)))) pss_nil)
      (pss_one (ps_ret (pe_lc (own := [("cell", 3)]) (g := gName 3) (tt := tYes) rfl scRounds.nd (pi_list (pv 2)) (blkOk_by (N := ["script", "most", "cells", "cell"]) (sc := defScope sRounds) (by decide +kernel))
        (fun _ _ _ _ _ => pg_name (i := 3) scRounds.nd rfl (Or.inl rfl)) (fun _ _ _ _ _ => pts_nil)
        (fun _ _ _ _ _ => pe_call GD hr rfl gD FD.kp bD .nil pass0 (pa_cons (pv 3) pa_nil)))))), ?_⟩
    have fin : ∀ (c : Addr) (n : Int) (H1 : Hp), Ex H H1 → H1 c = some (.lst [.int n]) →
        (tRet (tLc (iList K (tVar 2)) (gName 3) tYes (tCall spDice [] E0 (tCons (tVar 3) tNil)) [3])) { nx := fun _ H' => Q .non H', rt := Q } [some (.ref a), some (.int 1), some (.ref c), none] H1 := by
      intro c n H1 e1 hc
      refine ⟨_, rfl, c, rfl, ⟨_, SqL.of hc⟩, fun D hD => lc_list (xs := [V.int n])
        (fun i H2 => Ex H1 H2 ∧ ((i = 0 ∧ H2 D = some (.lst [])) ∨ (i = 1 ∧ ∃ d, H2 D = some (.lst [.ref d]) ∧ IsDice H2 d))) ?_ ?_ ?_ ?_⟩
      · exact ⟨Ex.upd hD, .inl ⟨rfl, upd_same⟩⟩
      · rintro i H2 _ ⟨e2, _⟩
        exact SqL.of (e2 c _ hc)
      · rintro i x H2 hx ⟨e2, h2⟩
        rcases h2 with ⟨rfl, h2⟩ | ⟨rfl, _⟩
        · cases hx
          refine ⟨rfl, ?_⟩
          refine ⟨_, rfl, n, rfl, fun p x y z hp => ⟨[], ?_, (by decide), ?_⟩⟩
          · rw [L2.upd_ne (ne_of_none h2 hp)]; exact h2
          · refine ⟨Ex.on (e2.trans (Ex.upd hp)) hD, .inr ⟨rfl, p, upd_same, x, y, z, ?_⟩⟩
            rw [L2.upd_ne (fun e => by rw [e, h2] at hp; cases hp), upd_same]
        · cases hx
      · rintro H2 ⟨e2, h2⟩
        rcases h2 with ⟨h, _⟩ | ⟨_, d, h2, h3⟩
        · cases h
        · exact q H2 D d (e1.trans e2) h2 h3
    refine ⟨_, rfl, _, rfl, 1, rfl, a, _, rfl, hS, fun p hp => ?_⟩
    cases ns with
    | nil =>
      refine ⟨_, rfl, (by decide), fun p2 hp2 => ⟨.list [], .list [], .lst (.inl (.inl ?_)) .nil, .lst (.inl (.inl upd_same)) .nil, rfl, rfl, true, rfl, ?_⟩⟩
      · rw [L2.upd_ne (ne_of_none upd_same hp2)]; exact upd_same
      · refine ⟨(by decide), fun p3 hp3 => fin p3 0 _ ?_ upd_same⟩
        exact ((Ex.upd hp).trans (Ex.upd hp2)).trans (Ex.upd hp3)
    | cons n r =>
      have e : cutV ((n :: r).map V.int) none (some 1) = [V.int n] := by
        unfold cutV HT.sIx
        simp
      rw [e] at *
      refine ⟨_, rfl, (by decide), fun p2 hp2 => ⟨.list [.int n], .list [], .lst (.inl (.inl ?_)) (.cons (.int _) .nil), .lst (.inl (.inl upd_same)) .nil, rfl, rfl, false, rfl, ?_⟩⟩
      · rw [L2.upd_ne (ne_of_none upd_same hp2)]; exact upd_same
      · refine fin p n _ ((Ex.upd hp).trans (Ex.upd hp2)) ?_
        rw [L2.upd_ne (ne_of_none upd_same hp2)]; exact upd_same
end
end K7
set_option Elab.async false
set_option linter.all false
set_option maxRecDepth 100000
set_option maxHeartbeats 4000000
namespace K7
open PySem PySem.Spec PyProof.Rows L2 KB KC KS LamX R8 Q7
theorem ifT {c A B : Prop} [Decidable c] (h : c) (a : A) : if c then A else B := by rw [if_pos h]; exact a
theorem ifF {c A B : Prop} [Decidable c] (h : ¬ c) (b : B) : if c then A else B := by rw [if_neg h]; exact b
theorem paired_snoc' {α β : Type} {R : α → β → Prop} {l : List α} {m : List β} {a : α} {b : β} (p : Paired R l m) (h : R a b) : Paired R (l ++ [a]) (m ++ [b]) := paired_app p (.cons h .nil)
theorem paired_len {α β : Type} {R : α → β → Prop} : ∀ {l : List α} {m : List β}, Paired R l m → l.length = m.length
  | _, _, .nil => rfl
  | _, _, .cons _ t => by rw [List.length_cons, List.length_cons, paired_len t]
def KT' (H H' : Hp) : Prop := ∀ b xs, H b = some (.tup xs) → H' b = some (.tup xs)
theorem lcG {J : It} {n : Nat} {G : Hp → Prop} {Y : Nat → Hp → V → Hp → Prop} (w : Walk J n G Y) {α : Type} (R : Hp → V → α → Prop) (out : Nat → Option α) (stab : ∀ H H' v a, KT' H H' → R H v a → R H' v a)
    {g : TG} {tt : TT} {te : TE} {vs : List Nat} {σ : L2.St} {HL : Hp} {D : Addr} {Qd : Hp → Prop} (hD : HL D = none) (hz : n ≤ 1000000) (hG : ∀ H, Ex HL H → G H) (hY : ∀ i H x H1, i < n → Ex HL H → Y i H x H1 → Ex H H1)
    (turn : ∀ (i : Nat) (x : V) (H H1 : Hp) (R0 : V → Hp → Prop) (N0 : Hp → Prop), i < n → Ex HL H → Y i H x H1 → (out i = none → ∀ H2, Ex H1 H2 → N0 H2) → (∀ a, out i = some a → ∀ H2 y, Ex H1 H2 → R H2 y a → R0 y H2) →
      g x (wipe σ vs) H1 fun σ2 H2 => wipe σ2 vs = wipe σ vs ∧ tt σ2 H2 fun b H3 => if b = true then te σ2 H3 R0 else N0 H3)
    (fin : ∀ H xs, Ex HL H → H D = some (.lst xs) → Paired (R H) xs ((List.range n).filterMap out) → Qd H) :
    ∃ W : Nat → Nat → Hp → Prop, (∃ m, W 0 m (upd HL D (.lst []))) ∧ ∀ i m H, W i m H →
      (J.stop i H ∧ Qd H) ∨ (J.go i H ∧ ∃ Nx : Hp → Prop, (∀ H', Nx H' → ∃ m', m' < m ∧ W (i + 1) m' H') ∧ ∀ x H', J.yld i H x H' → g x (wipe σ vs) H' fun σ2 H2 => wipe σ2 vs = wipe σ vs ∧ tt σ2 H2 fun b H3 =>
        if b = true then te σ2 H3 fun y H4 => ∃ acc, H4 D = some (.lst acc) ∧ acc.length < sizeLine ∧ Nx (upd H4 D (.lst (acc ++ [y]))) else Nx H3) := by
  refine lc_it w (fun i H => Ex HL H ∧ ∃ xs, H D = some (.lst xs) ∧ Paired (R H) xs ((List.range i).filterMap out)) ⟨Ex.upd hD, [], upd_same, .nil⟩ (fun i H _ h => hG H h.1) ?_ fun H ⟨e, xs, hx, hp⟩ => fin H xs e hx hp
  rintro i x H H1 hi ⟨e, xs, hx, hp⟩ hy
  have e1 := hY i H x H1 hi e hy
  have hs : (List.range (i + 1)).filterMap out = (List.range i).filterMap out ++ (out i).toList := by
    rw [List.range_succ, List.filterMap_append]
    cases h : out i <;> simp [h]
  refine turn i x H H1 _ _ hi e hy (fun hn H2 e2 => ?_) fun a ha H2 y e2 hr => ?_
  · refine ⟨(e.trans e1).trans e2, xs, e2 _ _ (e1 _ _ hx), ?_⟩
    rw [hs, hn]
    simpa using paired_mono (fun v b h => stab _ _ v b (fun b' xs' h' => e2 _ _ (e1 _ _ h')) h) hp
  · have hx2 := e2 _ _ (e1 _ _ hx)
    have kt : KT' H2 (upd H2 D (.lst (xs ++ [y]))) := fun b ys h => by
      rw [L2.upd_ne (fun z => by rw [z, hx2] at h; cases h)]; exact h
    refine ⟨xs, hx2, ?_, Ex.on ((e.trans e1).trans e2) hD, xs ++ [y], upd_same, ?_⟩
    · have l1 := paired_len hp
      have l2 := List.length_filterMap_le out (List.range i)
      rw [List.length_range] at l2
      have : sizeLine = 16777216 := rfl
      omega
    · rw [hs, ha]
      exact paired_snoc' (paired_mono (fun v b h => stab _ _ v b (fun b' xs' h' => kt _ _ (e2 _ _ (e1 _ _ h'))) h) hp) (stab _ _ _ _ kt hr)
def RInt : Hp → V → Int → Prop := fun _ v a => v = .int a
def RStr : Hp → V → Str → Prop := fun _ v a => v = .str a
theorem RInt.stab : ∀ H H' v a, KT' H H' → RInt H v a → RInt H' v a := fun _ _ _ _ _ h => h
theorem RStr.stab : ∀ H H' v a, KT' H H' → RStr H v a → RStr H' v a := fun _ _ _ _ _ h => h
theorem rint_map {H : Hp} : ∀ {xs : List V} {ns : List Int}, Paired (RInt H) xs ns → xs = ns.map V.int
  | _, _, .nil => rfl
  | _, _, .cons h t => by rw [List.map_cons, ← rint_map t]; rw [show _ = _ from h]
theorem rstr_map {H : Hp} : ∀ {xs : List V} {ns : List Str}, Paired (RStr H) xs ns → xs = ns.map V.str
  | _, _, .nil => rfl
  | _, _, .cons h t => by rw [List.map_cons, ← rstr_map t]; rw [show _ = _ from h]
theorem range_fm {α β : Type} (f : α → Option β) : ∀ xs : List α, (List.range xs.length).filterMap (fun i => xs[i]?.bind f) = xs.filterMap f := by
  intro xs
  induction xs with
  | nil => rfl
  | cons a xs ih =>
    rw [List.length_cons, List.range_succ_eq_map, List.filterMap_cons, List.filterMap_map]
    have e : ((fun i => ((a :: xs)[i]?).bind f) ∘ Nat.succ) = fun i => xs[i]?.bind f := by
      funext i
      simp
    rw [e, ih]
    simp [List.filterMap_cons]
theorem yat_ex {xs : List V} {i : Nat} {H H1 : Hp} {x : V} (h : YAt xs i H x H1) : Ex H H1 := by
  obtain ⟨rfl, _⟩ := h
  exact Ex.refl _
theorem yfn_ex {f : Nat → V} {i : Nat} {H H1 : Hp} {x : V} (h : YFn f i H x H1) : Ex H H1 := by
  obtain ⟨rfl, _⟩ := h
  exact Ex.refl _
theorem pf {X : Cx} (i : Nat) {f x : Str} {p1 p2 : Pos} (hN : X.N[i]? = some x := by rfl) (hv : Vis X.env.scope x := by first | exact .inl rfl | exact .inr (.inl rfl) | exact .inr (.inr rfl) | exact .inr rfl) (hd : (x == ("__debug__" : Str)) = false := by decide) (hcd : (x == ("__classdict__" : Str)) = false := by decide)
    (hb : attributeBase (.Name x p1) f X.env (eval (.Name x p1) X.env) = eval (.Name x p1) X.env := by rfl) : PE X (.Attribute (.Name x p1) f p2) (tFld X.K (tVar i) f) :=
  pe_fld (pe_var (i := i) hN hv hd hcd) hb
def veB : List Value := [.type "ValueError", .type "Exception", .type "BaseException", .type "object"]
structure TxtX (K : PySem.W.Frag) (mg : Str → Option Value) (CE : Addr) : Prop where
  g : mg "GroupError" = some (.ref CE)
  x : PySem.W.excIn K CE veB "ValueError.__new__" = true
  k : PySem.W.keepIn K (.ref CE) = true
  b : PySem.W.subIn K (.ref CE) (.type "BaseException") = some true
  t : PySem.W.typeIn K (.ref CE) = some (.type "type")
  e : PySem.W.exmOne K (.ref CE) (.ref CE) = some true
def rIxP : R2 := fun x y H Q => ∃ p xs i v, x = .ref p ∧ y = .int i ∧ H p = some (.tup xs) ∧ atI xs i = some v ∧ Q v H
theorem ix_tupD {X : Cx} : IxR X rIxP := by
  intro value slice pins s σ H x y v u Q I rx ry h hs
  obtain ⟨p, xs, i, z, e1, e2, hq, he, q⟩ := h
  exact ix_tup value slice pins s σ H x y v u Q I rx ry ⟨p, xs, i, z, e1, e2, SqT.of hq, he, q⟩ hs
theorem filt_fm {α : Type} (f : α → Bool) (xs : List α) : xs.filterMap (fun p => if f p = true then some p else none) = xs.filter f := by
  induction xs with
  | nil => rfl
  | cons a xs ih => cases h : f a <;> simp [h, ih]
theorem map_fm {α β : Type} (f : α → β) (xs : List α) : xs.filterMap (fun p => some (f p)) = xs.map f := by
  induction xs with
  | nil => rfl
  | cons a xs ih => simp
theorem at0 {a b : V} : atI [a, b] 0 = some a := rfl
theorem at1 {a b : V} : atI [a, b] 1 = some b := rfl
theorem wipe_set {σ : L2.St} {i : Nat} {x : Option V} : wipe ((wipe σ [i]).set i x) [i] = wipe σ [i] := by
  show ((σ.set i none).set i x).set i none = σ.set i none
  rw [List.set_set, List.set_set]
end K7
set_option Elab.async false
set_option linter.all false
set_option maxRecDepth 100000
set_option maxHeartbeats 4000000
namespace K7
open PySem PySem.Spec PyProof.Rows L2 KB KC KS LamX R8 Q7
def putA {α : Type} (es : List (Key × α)) (k : Key) (a : α) : List (Key × α) := if (es.any fun e => decide (e.1 = k)) = true then es.map (fun e => if e.1 = k then (e.1, a) else e) else es ++ [(k, a)]
def foldA {α : Type} (es : List (Key × α)) : List (Key × α) := es.foldl (fun acc e => putA acc e.1 e.2) []
abbrev KvR {α : Type} (R : Hp → V → α → Prop) (H : Hp) (kvs : List (Key × V)) (es : List (Key × α)) : Prop := Paired (fun (p : Key × V) (e : Key × α) => p.1 = e.1 ∧ R H p.2 e.2) kvs es
theorem any_eq {α : Type} {R : Hp → V → α → Prop} {H : Hp} {k : Key} : ∀ {kvs : List (Key × V)} {es : List (Key × α)}, KvR R H kvs es → (kvs.any fun e => decide (e.1 = k)) = es.any fun e => decide (e.1 = k)
  | _, _, .nil => rfl
  | _, _, .cons h t => by rw [List.any_cons, List.any_cons, h.1, any_eq t]
theorem kvR_put {α : Type} {R : Hp → V → α → Prop} {H : Hp} {k : Key} {z : V} {a : α} {kvs : List (Key × V)} {es : List (Key × α)} (r : KvR R H kvs es) (hr : R H z a) : KvR R H (putK kvs k z) (putA es k a) := by
  unfold putK putA
  rw [any_eq r]
  split
  · exact go r
  · exact paired_snoc' r ⟨rfl, hr⟩
where
  go : ∀ {kvs : List (Key × V)} {es : List (Key × α)}, KvR R H kvs es → KvR R H (kvs.map fun kv => if kv.1 = k then (kv.1, z) else kv) (es.map fun e => if e.1 = k then (e.1, a) else e)
    | _, _, .nil => .nil
    | _, _, .cons (a := p) (b := e) h t => by
      rw [List.map_cons, List.map_cons]
      refine .cons ?_ (go t)
      by_cases c : p.1 = k
      · rw [if_pos c, if_pos (h.1 ▸ c)]
        exact ⟨h.1, hr⟩
      · rw [if_neg c, if_neg (h.1 ▸ c)]
        exact h
theorem putA_len {α : Type} (es : List (Key × α)) (k : Key) (a : α) : (putA es k a).length ≤ es.length + 1 := by
  unfold putA
  split
  · rw [List.length_map]; omega
  · rw [List.length_append]; simp
theorem foldA_snoc {α : Type} (es : List (Key × α)) (k : Key) (a : α) : foldA (es ++ [(k, a)]) = putA (foldA es) k a := by
  unfold foldA
  rw [List.foldl_append]
  rfl
theorem foldA_len_go {α : Type} : ∀ (es acc : List (Key × α)), (es.foldl (fun acc e => putA acc e.1 e.2) acc).length ≤ acc.length + es.length
  | [], acc => by simp
  | e :: es, acc => by
    rw [List.foldl_cons]
    have := foldA_len_go es (putA acc e.1 e.2)
    have := putA_len acc e.1 e.2
    rw [List.length_cons]
    omega
theorem foldA_len {α : Type} (es : List (Key × α)) : (foldA es).length ≤ es.length := by
  have := foldA_len_go es []
  unfold foldA
  simpa using this
theorem foldA_self_go {α : Type} : ∀ (es acc : List (Key × α)), ((acc ++ es).map (·.1)).Nodup → es.foldl (fun acc e => putA acc e.1 e.2) acc = acc ++ es
  | [], acc, _ => by simp
  | e :: es, acc, h => by
    have ne : ¬ (acc.any fun x => decide (x.1 = e.1)) = true := by
      rw [List.any_eq_true]
      rintro ⟨x, hx, hk⟩
      have hk := of_decide_eq_true hk
      rw [List.map_append, List.nodup_append] at h
      exact h.2.2 x.1 (List.mem_map.mpr ⟨x, hx, rfl⟩) e.1 (by simp) hk
    have ep : putA acc e.1 e.2 = acc ++ [e] := by unfold putA; rw [if_neg ne]
    rw [List.foldl_cons, ep, foldA_self_go es (acc ++ [e])]
    · simp
    · simpa using h
theorem foldA_self {α : Type} {es : List (Key × α)} (h : (es.map (·.1)).Nodup) : foldA es = es := foldA_self_go es [] (by simpa using h)
def KT2 (H H' : Hp) : Prop := ∀ b o, (∀ ks, o ≠ .dK ks) → H b = some o → H' b = some o
theorem dcG {J : It} {n : Nat} {G : Hp → Prop} {Y : Nat → Hp → V → Hp → Prop} (w : Walk J n G Y) {α : Type} (R : Hp → V → α → Prop) (out : Nat → Option (Key × α)) (stab : ∀ H H' v a, KT2 H H' → R H v a → R H' v a)
    {g : TG} {tt : TT} {tk tv : TE} {vs : List Nat} {σ : L2.St} {HL : Hp} {D : Addr} {Qd : Hp → Prop} (hD : HL D = none) (hz : n ≤ 1000000) (hG : ∀ H, Ex HL H → G H) (hY : ∀ i H x H1, i < n → Ex HL H → Y i H x H1 → Ex H H1)
    (turn : ∀ (i : Nat) (x : V) (H H1 : Hp) (R0 : V → V → Hp → Prop) (N0 : Hp → Prop), i < n → Ex HL H → Y i H x H1 → (out i = none → ∀ H2, Ex H1 H2 → N0 H2) → (∀ k a, out i = some (k, a) → ∀ H2 z, Ex H1 H2 → R H2 z a → R0 (kV k) z H2) →
      g x (wipe σ vs) H1 fun σ2 H2 => wipe σ2 vs = wipe σ vs ∧ tt σ2 H2 fun b H3 => if b = true then tk σ2 H3 fun y H4 => tv σ2 H4 fun z H5 => R0 y z H5 else N0 H3)
    (fin : ∀ H kvs, Ex HL H → H D = some (.dK kvs) → KvR R H kvs (foldA ((List.range n).filterMap out)) → Qd H) :
    ∃ W : Nat → Nat → Hp → Prop, (∃ m, W 0 m (upd HL D (.dK []))) ∧ ∀ i m H, W i m H →
      (J.stop i H ∧ Qd H) ∨ (J.go i H ∧ ∃ Nx : Hp → Prop, (∀ H', Nx H' → ∃ m', m' < m ∧ W (i + 1) m' H') ∧ ∀ x H', J.yld i H x H' → g x (wipe σ vs) H' fun σ2 H2 => wipe σ2 vs = wipe σ vs ∧ tt σ2 H2 fun b H3 =>
        if b = true then tk σ2 H3 fun y H4 => tv σ2 H4 fun z H5 => ∃ kvs k, y = kV k ∧ H5 D = some (.dK kvs) ∧ kvs.length < sizeLine ∧ Nx (upd H5 D (.dK (putK kvs k z))) else Nx H3) := by
  refine ⟨fun i m H => m = n - i ∧ i ≤ n ∧ (Ex HL H ∧ ∃ kvs, H D = some (.dK kvs) ∧ KvR R H kvs (foldA ((List.range i).filterMap out))), ⟨n, by simp, Nat.zero_le _, Ex.upd hD, [], upd_same, .nil⟩, ?_⟩
  rintro i m H ⟨rfl, hi, e, kvs, hx, hp⟩
  have q := hG H e
  by_cases hlt : i < n
  · refine .inr ⟨w.goes i H hlt q, (fun H' => i + 1 ≤ n ∧ (Ex HL H' ∧ ∃ kvs, H' D = some (.dK kvs) ∧ KvR R H' kvs (foldA ((List.range (i + 1)).filterMap out)))), fun H' p' => ⟨n - (i + 1), by omega, rfl, p'⟩, fun x H1 y => ?_⟩
    have y := w.yields i H x H1 hlt q y
    have e1 := hY i H x H1 hlt e y
    have hs : (List.range (i + 1)).filterMap out = (List.range i).filterMap out ++ (out i).toList := by
      rw [List.range_succ, List.filterMap_append]
      cases h : out i <;> simp [h]
    refine turn i x H H1 (fun y z H5 => ∃ kvs k, y = kV k ∧ H5 D = some (.dK kvs) ∧ kvs.length < sizeLine ∧ (fun H' => i + 1 ≤ n ∧ (Ex HL H' ∧ ∃ kvs, H' D = some (.dK kvs) ∧ KvR R H' kvs (foldA ((List.range (i + 1)).filterMap out)))) (upd H5 D (.dK (putK kvs k z)))) _ hlt e y (fun hn H2 e2 => ?_) fun k a ha H2 z e2 hr => ?_
    · refine ⟨hlt, (e.trans e1).trans e2, kvs, e2 _ _ (e1 _ _ hx), ?_⟩
      rw [hs, hn]
      simpa using paired_mono (fun v b h => ⟨h.1, stab _ _ v.2 b.2 (fun b' o' _ h' => e2 _ _ (e1 _ _ h')) h.2⟩) hp
    · have hx2 := e2 _ _ (e1 _ _ hx)
      have kt : KT2 H2 (upd H2 D (.dK (putK kvs k z))) := fun b o ho h => by
        rw [L2.upd_ne (fun z => by rw [z, hx2] at h; exact ho _ (Option.some.inj h).symm)]; exact h
      refine ⟨kvs, k, rfl, hx2, ?_, hlt, Ex.on ((e.trans e1).trans e2) hD, putK kvs k z, upd_same, ?_⟩
      · have l1 := paired_len hp
        have l2 := foldA_len ((List.range i).filterMap out)
        have l3 := List.length_filterMap_le out (List.range i)
        rw [List.length_range] at l3
        have : sizeLine = 16777216 := rfl
        omega
      · rw [hs, ha]
        show KvR R _ _ (foldA (_ ++ [(k, a)]))
        rw [foldA_snoc]
        exact kvR_put (paired_mono (fun v b h => ⟨h.1, stab _ _ v.2 b.2 (fun b' o' n' h' => kt _ _ n' (e2 _ _ (e1 _ _ h'))) h.2⟩) hp) (stab _ _ _ _ kt hr)
  · have e' : i = n := by omega
    subst e'
    exact .inl ⟨w.stops H q, fin H kvs e hx hp⟩
def RTrue : Hp → V → Unit → Prop := fun _ v _ => v = .bl true
theorem RInt.stab2 : ∀ H H' v a, KT2 H H' → RInt H v a → RInt H' v a := fun _ _ _ _ _ h => h
theorem RTrue.stab : ∀ H H' v a, KT2 H H' → RTrue H v a → RTrue H' v a := fun _ _ _ _ _ h => h
theorem keys_uniq_go : ∀ (l acc : List Int), ((l.map fun p => ((Sum.inl p : Key), ())).foldl (fun acc e => putA acc e.1 e.2) (acc.map fun p => ((Sum.inl p : Key), ()))) = (l.foldl (fun acc p => if p ∈ acc then acc else acc ++ [p]) acc).map fun p => ((Sum.inl p : Key), ())
  | [], acc => rfl
  | x :: l, acc => by
    rw [List.map_cons, List.foldl_cons, List.foldl_cons]
    have e : putA (acc.map fun p => ((Sum.inl p : Key), ())) (Sum.inl x) () = (if x ∈ acc then acc else acc ++ [x]).map fun p => ((Sum.inl p : Key), ()) := by
      unfold putA
      by_cases c : x ∈ acc
      · rw [if_pos c, if_pos]
        · rw [List.map_map]
          refine List.map_congr_left fun y _ => ?_
          simp
        · rw [List.any_eq_true]
          exact ⟨(Sum.inl x, ()), List.mem_map.mpr ⟨x, c, rfl⟩, by simp⟩
      · rw [if_neg c, if_neg]
        · simp
        · rw [List.any_eq_true]
          rintro ⟨y, hy, h⟩
          obtain ⟨z, hz, rfl⟩ := List.mem_map.mp hy
          have h := of_decide_eq_true h
          exact c (by rw [← Sum.inl.inj h]; exact hz)
    rw [e, keys_uniq_go l]
theorem keys_uniq (l : List Int) : foldA (l.map fun p => ((Sum.inl p : Key), ())) = (uniq l).map fun p => ((Sum.inl p : Key), ()) := keys_uniq_go l []
theorem kvR_keys {α : Type} {R : Hp → V → α → Prop} {H : Hp} : ∀ {kvs : List (Key × V)} {es : List (Key × α)}, KvR R H kvs es → kvs.map (fun kv => kV kv.1) = es.map fun e => kV e.1
  | _, _, .nil => rfl
  | _, _, .cons h t => by rw [List.map_cons, List.map_cons, kvR_keys t, h.1]
end K7
set_option Elab.async false
set_option linter.all false
set_option maxRecDepth 100000
set_option maxHeartbeats 4000000
namespace K7
open PySem PySem.Spec PyProof.Rows L2 KB KC KS LamX R8 Q7
theorem none_of {H H' : Hp} (e : Ex H H') {b : Addr} (h : H' b = none) : H b = none := by
  cases z : H b with
  | none => rfl
  | some o => rw [e b o z] at h; cases h
theorem fm_congr {α β : Type} {f g : α → Option β} : ∀ {l : List α}, (∀ a ∈ l, f a = g a) → l.filterMap f = l.filterMap g
  | [], _ => rfl
  | a :: l, h => by rw [List.filterMap_cons, List.filterMap_cons, h a List.mem_cons_self, fm_congr fun b hb => h b (List.mem_cons_of_mem _ hb)]
@[irreducible] def spPB (K : PySem.W.Frag) : Sp := fun vs H Q _ => ∃ (a : Addr) (ps : List Int) (m : Nat), vs = [.ref a, .int m] ∧ SqT K H a (ps.map V.int) ∧ ps.length ≤ 1000 ∧ ∀ H' D, Ex H H' → H D = none → H' D = some (.lst ((pb m ps).map V.int)) → Q (.ref D) H'
section
variable {P : Program} {w : World} {K : PySem.W.Frag} {mg : Str → Option Value} {base : Heap} {f : Addr} {fd : FuncData}
theorem pb_step {a : Addr} {ps : List Int} {m : Nat} {H : Hp} {Q : VK} {E : XK} (h : SqT K H a (ps.map V.int)) (hl : ps.length ≤ 1000) (fin : ∀ H' D, Ex H H' → H D = none → H' D = some (.lst ((pb m ps).map V.int)) → Q (.ref D) H') : spPB K [.ref a, .int m] H Q E := by
  unfold spPB
  exact ⟨a, ps, m, rfl, h, hl, fin⟩
theorem sqT_ex {H H' : Hp} {a : Addr} {xs : List V} (h : SqT K H a xs) (e : Ex H H') : SqT K H' a xs := h.elim (fun h => .inl (e.rd h)) .inr
theorem u66 {k : Nat} {A : Around} (r : Room k A) : A.units + 66 < cLine := by have := r.un; omega
abbrev nPB : List Str := ["parts", "many", "part"]
theorem scPB : FnScope nPB ["parts", "many"] (defScope sPB) := ⟨rfl, rfl, rfl, by decide +kernel, rfl, by decide +kernel, by decide +kernel⟩
theorem ok_pb (F : FnP K "parts_before" "parts_before" sPB [] f fd) (T : TxtL mg) : FnOk P w K mg base CX0 1 f fd ["parts", "many"] (spPB K) := by
  refine F.ok scPB (fun vs H Q E h => ?_) (fun cdv A outer s H vs Q E hr h => ?_)
  · unfold spPB at h
    obtain ⟨_, _, _, rfl, _⟩ := h; rfl
  · unfold spPB at h
    obtain ⟨a, ps, m, rfl, hs, hl, fin⟩ := h
    have hu := hr.units
    refine ⟨_, PSs.nox <| pss_one (ps_ret (pe_callB (CP.cr_sortDI rfl (u66 hr)) (by rfl) T.sorted (by decide +kernel) (pa_cons (pe_dc (own := [("part", 2)]) (g := gName 2) (tt := tTest (tOp (rI0 fun i j => V.bl (decide (i < j))) (tVar 2) (tVar 1))) (tk := tVar 2) (tv := tC (.bl true)) rfl scPB.nd (pi_tup (pv 0)) (blkOk_by (N := nPB) (sc := defScope sPB) (by decide +kernel))
        (fun _ _ _ _ _ => pg_name (i := 2) scPB.nd rfl (Or.inl rfl)) (fun _ _ _ _ _ => pts_one (pt_cmpR op_lt (pv 2) (pv 1) (nomark _))) (fun _ _ _ _ _ => pv 2) (fun _ _ _ _ _ => pe_bl)) pa_nil))), ?_⟩
    refine ⟨_, rfl, a, rfl, ⟨_, hs⟩, fun D hD => ?_⟩
    refine dcG walk_tup RTrue (fun j => ps[j]?.bind fun p => if decide (p < (m : Int)) = true then some (Sum.inl p, ()) else none) RTrue.stab hD (by rw [List.length_map]; omega) (fun H5 e5 => sqT_ex hs e5) (fun i H5 x H6 _ _ h => yat_ex h) (fun j v H5 H6 R0 N0 hj e5 hy hno hsm => ?_) (fun H5 kvs e5 hx5 hps => ?_)
    · obtain ⟨rfl, hxi⟩ := hy
      rw [List.getElem?_map] at hxi
      obtain ⟨p, hp, rfl⟩ := Option.map_eq_some_iff.mp hxi
      refine ⟨rfl, _, rfl, _, rfl, _, _, rfl, rfl, _, rfl, ?_⟩
      by_cases c : p < (m : Int)
      · refine ifT (by simp [c]) ⟨_, rfl, ?_⟩
        exact hsm (Sum.inl p) () (by rw [hp]; show (if decide (p < (m : Int)) = true then _ else none) = _; rw [decide_eq_true c]; rfl) _ _ (Ex.refl _) rfl
      · exact ifF (by simp [c]) (hno (by rw [hp]; show (if decide (p < (m : Int)) = true then _ else none) = _; rw [decide_eq_false c]; rfl) _ (Ex.refl _))
    · have eo : (List.range ps.length).filterMap (fun j => ps[j]?.bind fun p => if decide (p < (m : Int)) = true then some ((Sum.inl p : Key), ()) else none) = (ps.filter fun p => decide (p < (m : Int))).map fun p => ((Sum.inl p : Key), ()) := by
        rw [range_fm, ← map_fm, ← filt_fm, List.filterMap_filterMap]
        refine fm_congr fun p _ => ?_
        by_cases c : p < (m : Int) <;> simp [c]
      rw [List.length_map, eo, keys_uniq] at hps
      have e5' : Ex H H5 := e5
      refine ⟨D, kvs, uniq (ps.filter fun p => decide (p < (m : Int))), rfl, hx5, ?_, fun D2 hD2 => ?_⟩
      · rw [kvR_keys hps, List.map_map]
        rfl
      · exact fin _ D2 (e5'.trans (Ex.upd hD2)) (none_of e5' hD2) upd_same
end
end K7
set_option Elab.async false
set_option linter.all false
set_option maxRecDepth 100000
set_option maxHeartbeats 4000000
namespace K7
open PySem PySem.Spec PyProof.Rows L2 KB KC KD KS LamX R8 Q7 CP
theorem okC {P : Program} {w : World} {K : PySem.W.Frag} {mg : Str → Option Value} {base : Heap} {x qual : Str} {st : Stmt} {dvs : List V} {f c : Addr} {fd : FuncData} {CX : CXT} {N ps : List Str} {k : Nat} {sp : Sp} (F : FnP K x qual st dvs f fd) (hc : fd.code = .ref c) (S : FnScope N ps (defScope st)) (len : ∀ vs H Q E, sp vs H Q E → vs.length = ps.length)
    (hbody : ∀ (A : Around) (outer : List Env) (s : Shared) (H : Hp) (vs : List V) (Q : VK) (E : XK), Room k (A.deeper (envOfC qual (defScope st) s.heap.objs.size f (.ref c))) → sp vs H Q E →
      ∃ t, PSs (cxOf CX P w K mg base N qual (defScope st) f (.ref c) A outer s H E) (defBody st) t ∧ t { nx := fun _ H' => Q .non H', rt := Q } (start N vs) H) : FnOk P w K mg base CX (k + 1) f fd ps sp := by
  obtain ⟨oc, od, dV, kV, doc, pm, an, cdv, ct, osl, rfl, lk, hcd, hD, hK⟩ := F.ex
  have e : cdv = .ref c := hc
  subst e
  exact fn_of lk hcd S len hbody
def freeB (sc scope : Scope) : Bool := scope.names.all fun y => !decide (y.2 = .free) || decide (sc.names.lookup y.1 = some .cell) || decide (sc.names.lookup y.1 = some .free)
theorem free_by {sc scope : Scope} (h : freeB sc scope = true) : ∀ y ∈ scope.names, y.2 = .free → sc.names.lookup y.1 = some .cell ∨ sc.names.lookup y.1 = some .free := fun y hy e => by
  have z := List.all_eq_true.mp h y hy
  simp only [Bool.or_eq_true, Bool.not_eq_true', decide_eq_true_eq, decide_eq_false_iff_not] at z
  rcases z with (z | z) | z
  · exact absurd e z
  · exact .inl z
  · exact .inr z
def lamPB (sc scope : Scope) (pn y : Str) : Bool := decide (scope.kind = .function) && !scope.isCoroutine && !scope.isGenerator && (scope.names.all fun z => !decide (z.2 = .cell)) && decide (scope.names.lookup pn = some .local) && decide (scope.names.lookup y = some .free) && !decide (pn = y) && freeB sc scope
theorem lamP_by {sc scope : Scope} {pn y : Str} (h : lamPB sc scope pn y = true) : LamP sc scope pn y := by
  unfold lamPB at h
  simp only [Bool.and_eq_true, Bool.not_eq_true', decide_eq_true_eq, decide_eq_false_iff_not, List.all_eq_true] at h
  obtain ⟨⟨⟨⟨⟨⟨⟨h1, h2⟩, h3⟩, h4⟩, h5⟩, h6⟩, h7⟩, h8⟩ := h
  exact ⟨h1, h2, h3, h4, h5, h6, h7, free_by h8⟩
abbrev qM : Str := "most_of.<locals>.<lambda>"
abbrev qS : Str := "shares_of.<locals>.<lambda>"
abbrev qL : Str := "law.<locals>.<lambda>"
abbrev TT (Pm Ps Pl : Addr) : List (Addr × Str) := [(Pm, qM), (Ps, qS), (Pl, qL)]
structure Apart (Pm Ps Pl : Addr) : Prop where
  ms : Pm ≠ Ps
  ml : Pm ≠ Pl
  sl : Ps ≠ Pl
structure TabL (H : Hp) (d : Addr) (names : List Str) (la : Str → Addr) (B : Str → List Int) : Prop where
  d : H d = some (.dK (names.map fun n => ((Sum.inr n : Key), V.ref (la n))))
  l : ∀ n ∈ names, H (la n) = some (.lst ((B n).map V.int))
theorem TabL.exN {H H' : Hp} {d : Addr} {names : List Str} {la : Str → Addr} {B : Str → List Int} (t : TabL H d names la B) (e : ExtN H H') : TabL H' d names la B := ⟨e _ _ t.d (fun _ z => nomatch z), fun n hn => e _ _ (t.l n hn) (fun _ z => nomatch z)⟩
theorem TabL.ex {H H' : Hp} {d : Addr} {names : List Str} {la : Str → Addr} {B : Str → List Int} (t : TabL H d names la B) (e : Ex H H') : TabL H' d names la B := t.exN (ExtN.of e)
theorem valV_map {f : Str → V} : ∀ {names : List Str} {n : Str}, n ∈ names → valV (names.map fun n => ((Sum.inr n : Key), f n)) (Sum.inr n) = some (f n)
  | x :: r, n, h => by
    rw [List.map_cons]
    by_cases c : x = n
    · subst c
      exact valV_pos rfl
    · have : valV (((Sum.inr x : Key), f x) :: r.map fun n => ((Sum.inr n : Key), f n)) (Sum.inr n) = valV (r.map fun n => ((Sum.inr n : Key), f n)) (Sum.inr n) := by
        simp [valV, List.find?_cons, c]
      rw [this]
      exact valV_map ((List.mem_cons.mp h).resolve_left fun z => c z.symm)
theorem valV_off {f : Str → V} : ∀ {names : List Str} {n : Str}, n ∉ names → valV (names.map fun n => ((Sum.inr n : Key), f n)) (Sum.inr n) = none
  | [], _, _ => rfl
  | x :: r, n, h => by
    rw [List.map_cons]
    have c : x ≠ n := fun z => h (by rw [z]; exact List.mem_cons_self)
    have : valV (((Sum.inr x : Key), f x) :: r.map fun n => ((Sum.inr n : Key), f n)) (Sum.inr n) = valV (r.map fun n => ((Sum.inr n : Key), f n)) (Sum.inr n) := by
      simp [valV, List.find?_cons, c]
    rw [this]
    exact valV_off fun z => h (List.mem_cons_of_mem _ z)
theorem TabL.get {H : Hp} {d : Addr} {names : List Str} {la : Str → Addr} {B : Str → List Int} (t : TabL H d names la B) {n : Str} (h : n ∈ names) : DGet H d (.str n) (some (.ref (la n))) := by
  have := DGet.k (k := Sum.inr n) t.d
  rw [valV_map (f := fun n => V.ref (la n)) h] at this
  exact this
theorem keys_map {f : Str → V} (names : List Str) : (names.map fun n => ((Sum.inr n : Key), f n)).map (fun kv => kV kv.1) = names.map V.str := by
  rw [List.map_map]
  rfl
theorem rI_to {C : Int → Int → Prop} {g : Int → Int → V} {i j : Int} {v : V} {H : Hp} {Q : VK} (hc : C i j) (e : g i j = v) (q : Q v H) : rI C g (.int i) (.int j) H Q := ⟨i, j, rfl, rfl, hc, e ▸ q⟩
theorem rI0_to {g : Int → Int → V} {i j : Int} {v : V} {H : Hp} {Q : VK} (e : g i j = v) (q : Q v H) : rI0 g (.int i) (.int j) H Q := ⟨i, j, rfl, rfl, e ▸ q⟩
theorem ypair_ex {xs ys : Nat → Option V} {i : Nat} {H H1 : Hp} {x : V} (h : YPair xs ys i H x H1) : Ex H H1 := by
  obtain ⟨T, a, b, _, hT, rfl, _⟩ := h
  exact Ex.upd hT
theorem nodup_inr {α : Type} {f : Str → α} {names : List Str} (h : names.Nodup) : (names.map ((fun e : Key × α => e.1) ∘ fun n => ((Sum.inr n : Key), f n))).Nodup := by
  rw [List.nodup_iff_pairwise_ne, List.pairwise_map]
  exact h.imp fun h z => h (Sum.inr.inj z)
theorem kvR_int {H : Hp} : ∀ {kvs : List (Key × V)} {es : List (Key × Int)}, KvR RInt H kvs es → kvs = es.map fun e => (e.1, V.int e.2)
  | _, _, .nil => rfl
  | _, _, .cons (a := a) h t => by
    obtain ⟨k, v⟩ := a
    rw [List.map_cons, ← kvR_int t, ← h.1, ← (show v = _ from h.2)]
def NewN (H : Hp) (b : Addr) : Prop := ∀ o, H b = some o → ∃ ps, o = .tbl ps
theorem newN_of {H H' : Hp} (e : ExtN H H') {b : Addr} (h : H' b = none) : NewN H b := fun o ho => by
  refine Classical.byContradiction fun z => ?_
  rw [e b o ho fun ps c => z ⟨ps, c⟩] at h
  cases h
theorem NewN.ne {H : Hp} {a b : Addr} {o : HO} (n : NewN H b) (h : H a = some o) (ho : ∀ ps, o ≠ .tbl ps) : a ≠ b := fun z => by
  rw [z] at h
  obtain ⟨ps, e⟩ := n o h
  exact ho ps e
theorem NewN.of {H : Hp} {b : Addr} (h : H b = none) : NewN H b := fun o ho => by rw [h] at ho; cases ho
theorem NewN.back {H H' : Hp} {b : Addr} (n : NewN H' b) (e : ExtN H H') : NewN H b := fun o ho => by
  refine Classical.byContradiction fun z => ?_
  obtain ⟨ps, c⟩ := n o (e b o ho fun ps c => z ⟨ps, c⟩)
  exact z ⟨ps, c⟩
@[irreducible] def spMost (Pm Ps Pl : Addr) : Sp := fun vs H Q _ => ∃ (d : Addr) (names : List Str) (la : Str → Addr) (B : Str → List Int) (m : Nat), vs = [.ref d, .int m] ∧ TabL H d names la B ∧ Tabs (TT Pm Ps Pl) H ∧ names ≠ [] ∧ names.Nodup ∧ names.length ≤ 1000 ∧ m ≤ 1000 ∧ (∀ n ∈ names, (B n).length ≤ 1000) ∧
  ∀ H' D, ExtN H H' → Tabs (TT Pm Ps Pl) H' → NewN H D → H' D = some (.dK ((ranked B names).map fun n => ((Sum.inr n : Key), V.int (mostF m B names n)))) → Q (.ref D) H'
section
variable {P : Program} {w : World} {K : PySem.W.Frag} {mg : Str → Option Value} {base : Heap} {Pm Ps Pl f c : Addr} {fd : FuncData}
abbrev nMo : List Str := ["before", "many", "whole", "left", "ranked", "place", "name"]
theorem scMo : FnScope nMo ["before", "many"] (defScope sMost) := ⟨rfl, rfl, rfl, by decide +kernel, rfl, by decide +kernel, by decide +kernel⟩
theorem qMost : (Str.ofString "most_of" ++ Str.ofString ".<locals>.") ++ Str.ofString "<lambda>" = qM := by decide +kernel
theorem tabMo : (Pm, (Str.ofString "most_of" ++ Str.ofString ".<locals>.") ++ Str.ofString "<lambda>") ∈ TT Pm Ps Pl := by rw [qMost]; exact List.mem_cons_self ..
theorem tabMu (ap : Apart Pm Ps Pl) : ∀ p ∈ TT Pm Ps Pl, p.1 = Pm → p.2 = (Str.ofString "most_of" ++ Str.ofString ".<locals>.") ++ Str.ofString "<lambda>" := by
  rw [qMost]
  intro p hp e
  rcases List.mem_cons.mp hp with z | hp
  · rw [z]
  rcases List.mem_cons.mp hp with z | hp
  · rw [z] at e
    exact absurd e.symm ap.ms
  rcases List.mem_cons.mp hp with z | hp
  · rw [z] at e
    exact absurd e.symm ap.ml
  cases hp
theorem ok_most (F : FnP K "most_of" "most_of" sMost [] f fd) (hc : fd.code = .ref c) (T : TxtL mg) (TB : LamX.TabB base mg c Pm) (ap : Apart Pm Ps Pl) : FnOk P w K mg base CX0 5 f fd ["before", "many"] (spMost Pm Ps Pl) := by
  refine okC F hc scMo (fun vs H Q E h => ?_) (fun A outer s H vs Q E hr h => ?_)
  · unfold spMost at h
    obtain ⟨_, _, _, _, _, rfl, _⟩ := h; rfl
  · unfold spMost at h
    obtain ⟨d, names, la, B, m, rfl, tl, tt, hne, hnd, hn9, hm9, hb9, fin⟩ := h
    have hu := hr.units
    have hu1 := Nat.lt_trans (Nat.add_lt_add_left (by decide : 1 < 64) _) hu
    refine ⟨_, PSs.nox <| pss_cons (ps_set (i := 2) scMo.nd rfl (Or.inr rfl) (pe_op op_fdiv (pv 1) (pe_callB call_lenD (by rfl) T.len PySem.boot_len (pa_cons (pv 0) pa_nil))))
      (pss_cons (ps_set (i := 3) scMo.nd rfl (Or.inr rfl) (pe_op op_sub (pv 1) (pe_op op_mul (pv 2) (pe_callB call_lenD (by rfl) T.len PySem.boot_len (pa_cons (pv 0) pa_nil)))))
      (pss_cons (ps_set (i := 4) scMo.nd rfl (Or.inl rfl) (pe_callS (cs_sortKC rfl (u66 hr)) (by rfl) T.sorted (by decide +kernel) (pa_cons (pv 0) pa_nil) (pk_cons (pe_cloV TB rfl tabMo (tabMu ap) rfl (free_by (by show freeB (defScope sMost) _ = true; decide +kernel))) pk_nil)))
      (pss_one (ps_ret (pe_dc (own := [("place", 5), ("name", 6)]) (g := gTup K 2 (gCons (gName 5) (gCons (gName 6) gNil))) (tt := tYes) (tk := tVar 6) (tv := tIf (tTest (tOp (rI0 fun i j => V.bl (decide (i < j))) (tVar 5) (tVar 3))) (tOp (rI0 fun i j => V.int (i + j)) (tVar 2) (tC (.int 1))) (tVar 2)) rfl scMo.nd (pi_enum (by rfl) T.enum (pa_cons (pv 4) pa_nil)) (blkOk_by (N := nMo) (sc := defScope sMost) (by decide +kernel))
        (fun _ _ _ _ _ => pg_tup rfl (pgs_cons (pg_name (i := 5) scMo.nd rfl (Or.inl rfl)) (pgs_cons (pg_name (i := 6) scMo.nd rfl (Or.inl rfl)) pgs_nil))) (fun _ _ _ _ _ => pts_nil) (fun _ _ _ _ _ => pv 6) (fun _ _ _ _ _ => pe_ifExp (pt_cmpR op_lt (pv 5) (pv 3) (nomark _)) (pe_op op_add (pv 2) pe_int) (pv 2))))))), ?_⟩
    have l0 : 0 < names.length := List.length_pos_iff.mpr hne
    have hnl : ((names.map fun n => ((Sum.inr n : Key), V.ref (la n))).length : Int) = (names.length : Int) := by rw [List.length_map]
    have hw : ((m : Int) / (names.length : Int)) = ((m / names.length : Nat) : Int) := by omega
    have hl : (m : Int) - ((m / names.length : Nat) : Int) * (names.length : Int) = ((m % names.length : Nat) : Int) := by
      have := Nat.div_add_mod m names.length
      have h2 : ((m / names.length : Nat) : Int) * (names.length : Int) = ((names.length * (m / names.length) : Nat) : Int) := by
        rw [Nat.mul_comm]
        simp
      rw [h2]
      omega
    refine ⟨_, rfl, _, rfl, d, _, rfl, tl.d, rI_to (v := .int ((m / names.length : Nat) : Int)) ⟨by omega, by omega⟩ (by rw [hnl, hw]) ?_⟩
    refine ⟨_, rfl, _, rfl, _, rfl, d, _, rfl, tl.d, rI_to (v := .int (((m / names.length : Nat) : Int) * (names.length : Int))) (.inl ⟨Int.lt_of_lt_of_le (by decide) (Int.natCast_nonneg _), Int.lt_of_le_of_lt (Int.ofNat_le.mpr (Nat.le_trans (Nat.div_le_self m _) hm9)) (by decide)⟩) (by rw [hnl]) (rI0_to (v := .int ((m % names.length : Nat) : Int)) (by rw [hl]) ?_)⟩
    refine ⟨_, rfl, tt, fun g c' H1 e1 t1 hg hcc ng => ?_⟩
    have tl1 := tl.exN e1
    have ki : KeyI (cxOf CX0 P w K mg base nMo "most_of" (defScope sMost) f (.ref c) A outer s H E).nox [some (.ref d), some (.int m), some (.int ((m / names.length : Nat) : Int)), some (.int ((m % names.length : Nat) : Int)), none, none, none] g H1 names (fun n => -((B n).length : Int)) := by
      refine keyI_clo (k := 1) (j := 0) (vy := .ref d) (pn := "name") (y := "before") (lamP_by (by show lamPB (defScope sMost) _ _ _ = true; decide +kernel)) hr hg hcc (fun s clo pm ctv u => .of_eq rfl) rfl rfl
        (fun A' s' H2 E' hr' n hn e2 => ⟨_, pe_un un_neg (pe_callB call_len_seq (by rfl) T.len PySem.boot_len (pa_cons (pe_dget (Nat.lt_trans (Nat.add_lt_add_left (by decide : 1 < 64) _) hr'.units) (pv 1) (pv 0) (fun _ _ => rfl)) pa_nil)), fun Q' hQ => ?_⟩)
      exact ⟨_, rfl, _, rfl, d, _, rfl, (tl1.ex e2).get hn, la n, _, rfl, .inl (SqL.of ((tl1.ex e2).l n hn)), _, rfl, by rw [List.length_map]; exact hQ H2 (Ex.refl _)⟩
    refine ⟨d, g, _, names, _, rfl, rfl, tl1.d, keys_map names, ki, fun H2 D e2 hD hD2 => ?_⟩
    have rk : (names.mergeSort fun a b => decide (-((B a).length : Int) ≤ -((B b).length : Int))) = ranked B names := rfl
    rw [rk] at hD2
    have rp := ranked_perm B names
    have rnd : (ranked B names).Nodup := rp.nodup_iff.mpr hnd
    have rl : (ranked B names).length = names.length := rp.length_eq
    refine ⟨_, rfl, D, _, rfl, SqL.of hD2, fun D3 hD3 => ?_⟩
    refine dcG walk_enum RInt (fun j => (ranked B names)[j]?.map fun n => ((Sum.inr n : Key), ((if j < m % names.length then m / names.length + 1 else m / names.length : Nat) : Int))) RInt.stab2 hD3 (by rw [List.length_map]; omega) (fun H5 e5 => SqL.of (e5 _ _ hD2)) (fun i H5 x H6 _ _ h => ypair_ex h) (fun j v H5 H6 R0 N0 hj e5 hy hno hsm => ?_) (fun H5 kvs e5 hx5 hps => ?_)
    · obtain ⟨T1, x1, y1, rfl, hT, rfl, hx, hy⟩ := hy
      obtain rfl := Option.some.inj hx
      have hy : ((ranked B names).map V.str)[j]? = some y1 := hy
      rw [List.getElem?_map] at hy
      obtain ⟨n, hn, rfl⟩ := Option.map_eq_some_iff.mp hy
      refine ⟨T1, _, rfl, SqT.of upd_same, rfl, _, _, rfl, _, _, rfl, rfl, rfl, _, rfl, _, rfl, _, rfl, _, _, rfl, rfl, _, rfl, ?_⟩
      by_cases c : j < m % names.length
      · refine ifT (decide_eq_true (by omega)) ⟨_, rfl, _, _, rfl, rfl, ?_⟩
        exact hsm (Sum.inr n) _ (by rw [hn, if_pos c]; rfl) _ _ (Ex.refl _) rfl
      · refine ifF (by simp; omega) ⟨_, rfl, ?_⟩
        exact hsm (Sum.inr n) _ (by rw [hn, if_neg c]; rfl) _ _ (Ex.refl _) rfl
    · have eo : (List.range ((ranked B names).map V.str).length).filterMap (fun j => (ranked B names)[j]?.map fun n => ((Sum.inr n : Key), ((if j < m % names.length then m / names.length + 1 else m / names.length : Nat) : Int))) = (ranked B names).map fun n => ((Sum.inr n : Key), ((mostF m B names n : Nat) : Int)) := by
        rw [List.length_map]
        refine Eq.trans ?_ ((range_fm (fun n => some ((Sum.inr n : Key), ((mostF m B names n : Nat) : Int))) (ranked B names)).trans (map_fm _ _))
        refine fm_congr fun j hj => ?_
        cases hg : (ranked B names)[j]? with
        | none => rfl
        | some n =>
          have hix : (ranked B names).idxOf n = j := by
            obtain ⟨h1, h2⟩ := List.getElem?_eq_some_iff.mp hg
            rw [← h2]
            exact List.Nodup.idxOf_getElem rnd j h1
          show some _ = some _
          unfold mostF
          rw [hix]
      rw [eo, foldA_self (by rw [List.map_map]; exact nodup_inr rnd)] at hps
      rw [kvR_int hps] at hx5
      refine fin H5 D3 ((e1.trans (ExtN.of e2)).trans (ExtN.of e5)) ((t1.ext e2).ext e5) ?_ ?_
      · exact newN_of e1 (none_of e2 hD3)
      · rw [hx5, List.map_map]
        rfl
end
end K7
set_option Elab.async false
set_option linter.all false
set_option maxRecDepth 100000
set_option maxHeartbeats 4000000
namespace K7
open PySem PySem.Spec PyProof.Rows L2 KB KC KD KS LamX R8 Q7 CP
abbrev nSh : List Str := ["members", "many", "old", "names", "had", "before", "most", "found", "taken", "name", "part"]
theorem scSh : FnScope nSh ["members", "many", "old"] (defScope sShares) := ⟨rfl, rfl, rfl, by decide +kernel, rfl, by decide +kernel, by decide +kernel⟩
abbrev pass0' : Stmt := .Pass ⟨0, 0, 0, 0⟩
abbrev xSh (P : Program) (w : World) (K : PySem.W.Frag) (mg : Str → Option Value) (base : Heap) (f c : Addr) (A : Around) (outer : List PySem.Env) (s : Shared) (H0 : Hp) (E0' : XK) : Cx := (cxOf CX0 P w K mg base nSh "shares_of" (defScope sShares) f (.ref c) A outer s H0 E0').nox
def Cal (P : Program) (w : World) (K : PySem.W.Frag) (mg : Str → Option Value) (base : Heap) (k : Nat) (x : Str) (ps : List Str) (sp : Sp) : Prop :=
  ∃ f fd, FnOk P w K mg base CX0 k f fd ps sp ∧ mg x = some (.ref f) ∧ PySem.W.keepIn K (.ref f) = true ∧ Binds K fd ps []
structure TabT (K : PySem.W.Frag) (H : Hp) (d : Addr) (names : List Str) (ta : Str → Addr) (R : Str → List Int) : Prop where
  d : H d = some (.dK (names.map fun n => ((Sum.inr n : Key), V.ref (ta n))))
  t : ∀ n ∈ names, H (ta n) = some (.tup ((R n).map V.int))
theorem TabT.exN {K : PySem.W.Frag} {H H' : Hp} {d : Addr} {names : List Str} {ta : Str → Addr} {R : Str → List Int} (t : TabT K H d names ta R) (e : ExtN H H') : TabT K H' d names ta R := ⟨e _ _ t.d (fun _ z => nomatch z), fun n hn => e _ _ (t.t n hn) (fun _ z => nomatch z)⟩
theorem TabT.get {K : PySem.W.Frag} {H : Hp} {d : Addr} {names : List Str} {ta : Str → Addr} {R : Str → List Int} (t : TabT K H d names ta R) {n : Str} (h : n ∈ names) : DGet H d (.str n) (some (.ref (ta n))) := by
  have := DGet.k (k := Sum.inr n) t.d
  rw [valV_map (f := fun n => V.ref (ta n)) h] at this
  exact this
theorem TabT.off {K : PySem.W.Frag} {H : Hp} {d : Addr} {names : List Str} {ta : Str → Addr} {R : Str → List Int} (t : TabT K H d names ta R) {n : Str} (h : n ∉ names) : DGet H d (.str n) none := by
  have := DGet.k (k := Sum.inr n) t.d
  rw [valV_off (f := fun n => V.ref (ta n)) h] at this
  exact this
theorem extN_updN {H0 H : Hp} {a : Addr} {o : HO} (e : ExtN H0 H) (n : NewN H0 a) : ExtN H0 (upd H a o) := fun b u h hn => by
  rw [L2.upd_ne (n.ne h hn)]
  exact e b u h hn
theorem newN_none {H0 H : Hp} {a : Addr} (e : ExtN H0 H) (h : H a = none) : NewN H0 a := newN_of e h
structure Sh (Pm Ps Pl : Addr) (H0 : Hp) (ks : List Str) (B : Str → List Int) (M : Str → Nat) (na bd mo fo ta : Addr) (lb la : Str → Addr) (done : List Str) (F : Str → List Int) (T : List Int) (H : Hp) : Prop where
  e : ExtN H0 H
  t : Tabs (TT Pm Ps Pl) H
  hna : H na = some (.lst (ks.map V.str))
  b : TabL H bd ks lb B
  hmo : H mo = some (.dK ((ranked B ks).map fun n => ((Sum.inr n : Key), V.int (M n : Nat))))
  f : TabL H fo done la F
  hta : H ta = some (.dK (T.map fun p => ((Sum.inl p : Key), V.bl true)))
  n1 : fo ≠ bd ∧ fo ≠ mo ∧ fo ≠ ta ∧ ta ≠ bd ∧ ta ≠ mo
  nf : NewN H0 fo ∧ NewN H0 ta
  nl : ∀ n ∈ done, NewN H0 (la n) ∧ la n ≠ na ∧ ∀ k ∈ ks, la n ≠ lb k
  inj : ∀ a ∈ done, ∀ b ∈ done, la a = la b → a = b
theorem Sh.ex {Pm Ps Pl : Addr} {H0 : Hp} {ks : List Str} {B : Str → List Int} {M : Str → Nat} {na bd mo fo ta : Addr} {lb la : Str → Addr} {done : List Str} {F : Str → List Int} {T : List Int} {H H' : Hp} (x : Sh Pm Ps Pl H0 ks B M na bd mo fo ta lb la done F T H) (e : Ex H H') : Sh Pm Ps Pl H0 ks B M na bd mo fo ta lb la done F T H' :=
  ⟨x.e.trans (ExtN.of e), x.t.ext e, e _ _ x.hna, x.b.ex e, e _ _ x.hmo, x.f.ex e, e _ _ x.hta, x.n1, x.nf, x.nl, x.inj⟩
theorem Sh.exN {Pm Ps Pl : Addr} {H0 : Hp} {ks : List Str} {B : Str → List Int} {M : Str → Nat} {na bd mo fo ta : Addr} {lb la : Str → Addr} {done : List Str} {F : Str → List Int} {T : List Int} {H H' : Hp} (x : Sh Pm Ps Pl H0 ks B M na bd mo fo ta lb la done F T H) (e : ExtN H H') (t : Tabs (TT Pm Ps Pl) H') : Sh Pm Ps Pl H0 ks B M na bd mo fo ta lb la done F T H' :=
  ⟨x.e.trans e, t, e _ _ x.hna (fun _ z => nomatch z), x.b.exN e, e _ _ x.hmo (fun _ z => nomatch z), x.f.exN e, e _ _ x.hta (fun _ z => nomatch z), x.n1, x.nf, x.nl, x.inj⟩
theorem tabs_lst {L : List (Addr × Str)} {H : Hp} {a : Addr} {xs : List V} {o : HO} (t : Tabs L H) (h : H a = some (.lst xs)) : Tabs L (upd H a o) := fun p hp => by
  obtain ⟨ps, h1, h2, h3⟩ := t p hp
  refine ⟨ps, by rw [L2.upd_ne (fun z => by rw [z, h] at h1; cases h1)]; exact h1, h2, fun pos cv hc => ?_⟩
  obtain ⟨c, e1, e2⟩ := h3 pos cv hc
  exact ⟨c, e1, by rw [L2.upd_ne (fun z => by rw [z, h] at e2; unfold LamX.CodeO at e2; cases e2)]; exact e2⟩
theorem tabs_dK {L : List (Addr × Str)} {H : Hp} {a : Addr} {xs : List (Key × V)} {o : HO} (t : Tabs L H) (h : H a = some (.dK xs)) : Tabs L (upd H a o) := fun p hp => by
  obtain ⟨ps, h1, h2, h3⟩ := t p hp
  refine ⟨ps, by rw [L2.upd_ne (fun z => by rw [z, h] at h1; cases h1)]; exact h1, h2, fun pos cv hc => ?_⟩
  obtain ⟨c, e1, e2⟩ := h3 pos cv hc
  exact ⟨c, e1, by rw [L2.upd_ne (fun z => by rw [z, h] at e2; unfold LamX.CodeO at e2; cases e2)]; exact e2⟩
theorem ne_ld {H : Hp} {a b : Addr} {xs : List V} {ks : List (Key × V)} (h : H a = some (.lst xs)) (h' : H b = some (.dK ks)) : a ≠ b := fun z => by rw [z, h'] at h; cases h
theorem putK_off {kvs : List (Key × V)} {k : Key} {v : V} (h : k ∉ kvs.map (·.1)) : putK kvs k v = kvs ++ [(k, v)] := by
  unfold putK
  rw [if_neg]
  rw [List.any_eq_true]
  rintro ⟨x, hx, e⟩
  exact h (List.mem_map.mpr ⟨x, hx, of_decide_eq_true e⟩)
theorem valV_int {f : Int → V} {T : List Int} {p : Int} : valV (T.map fun p => ((Sum.inl p : Key), f p)) (Sum.inl p) = if p ∈ T then some (f p) else none := by
  induction T with
  | nil => rfl
  | cons x r ih =>
    rw [List.map_cons]
    by_cases c : x = p
    · subst c
      rw [if_pos List.mem_cons_self]
      exact valV_pos rfl
    · have : valV (((Sum.inl x : Key), f x) :: r.map fun p => ((Sum.inl p : Key), f p)) (Sum.inl p) = valV (r.map fun p => ((Sum.inl p : Key), f p)) (Sum.inl p) := by
        simp [valV, List.find?_cons, c]
      rw [this, ih]
      by_cases d : p ∈ r
      · rw [if_pos d, if_pos (List.mem_cons_of_mem _ d)]
      · rw [if_neg d, if_neg fun z => (List.mem_cons.mp z).elim (fun z => c z.symm) d]
abbrev forBody : Stmt → List Stmt
  | .For _ _ body _ _ => body
  | _ => []
abbrev shB (k : Nat) : Stmt := (defBody sShares).getD k pass0'
theorem cutV_take (xs : List V) (k : Nat) : cutV xs none (some (k : Int)) = xs.take k := by
  unfold cutV
  rw [HT.sIx_none, HT.sIx_nat, List.drop_zero, Nat.sub_zero, Nat.min_comm, List.take_eq_take_iff]
  omega
section
variable {P : Program} {w : World} {K : PySem.W.Frag} {mg : Str → Option Value} {base : Heap} {Pm Ps Pl f c : Addr} {fd : FuncData} {A : Around} {outer : List PySem.Env} {s : Shared} {Hs : Hp} {E0' : XK}
theorem in_0 (T : TxtL mg) (hr : Room 8 (xSh P w K mg base f c A outer s Hs E0').A) :
    ∃ t, PS (xSh P w K mg base f c A outer s Hs E0') ((forBody (shB 7)).getD 0 pass0') t ∧ ∀ (D : Ends) (a0 a1 a2 a4 a10 : Option V) (H H0 : Hp) (ks : List Str) (B : Str → List Int) (M : Str → Nat) (na bd mo fo ta : Addr) (lb la : Str → Addr) (done : List Str) (F : Str → List Int) (T0 : List Int) (n : Str),
      Sh Pm Ps Pl H0 ks B M na bd mo fo ta lb la done F T0 H → n ∈ ks → n ∉ done → (∀ n ∈ ks, (B n).length ≤ 1000) → done.length ≤ 1000 →
      (∀ H' q, Sh Pm Ps Pl H0 ks B M na bd mo fo ta lb (Q7.set la n q) (done ++ [n]) (Q7.set F n (((B n).filter fun p => decide (p ∉ T0)).take (M n))) T0 H' → D.nx [a0, a1, a2, some (.ref na), a4, some (.ref bd), some (.ref mo), some (.ref fo), some (.ref ta), some (.str n), a10] H') →
      t D [a0, a1, a2, some (.ref na), a4, some (.ref bd), some (.ref mo), some (.ref fo), some (.ref ta), some (.str n), a10] H := by
  have hu := hr.units
  have hu1 := Nat.lt_trans (Nat.add_lt_add_left (by decide : 1 < 64) _) hu
  refine ⟨_, ps_dput hu1 (pv 7) (pv 9) (pe_slice sl_list (pe_lc (own := [("part", 10)]) (g := gName 10) (tt := tB (tDNotIn (tVar 10) (tVar 8))) (te := tVar 10) rfl scSh.nd (pi_list (pe_dget hu1 (pv 5) (pv 9) (fun _ _ => rfl))) (blkOk_by (N := nSh) (sc := defScope sShares) (by decide +kernel))
      (fun _ _ _ _ _ => pg_name (i := 10) scSh.nd rfl (Or.inl rfl)) (fun _ _ _ _ _ => pts_one (pt_cmp (pc_dnotin hu1 (pv 10) (pv 8)))) (fun _ _ _ _ _ => pv 10)) po_none (po_some (pe_dget hu1 (pv 6) (pv 9) (fun _ _ => rfl)))) rfl, ?_⟩
  intro D a0 a1 a2 a4 a10 H H0 ks B M na bd mo fo ta lb la done F T0 n x hn hnd hb9 hd9 fin
  refine ⟨_, rfl, _, rfl, bd, _, rfl, x.b.get hn, lb n, rfl, ⟨_, SqL.of (x.b.l n hn)⟩, fun D1 hD1 => ?_⟩
  refine lcG walk_list RInt (fun j => (B n)[j]?.bind fun p => if decide (p ∉ T0) = true then some p else none) RInt.stab hD1 (by rw [List.length_map]; have := hb9 n hn; omega) (fun H5 e5 => SqL.of (e5 _ _ (x.b.l n hn))) (fun i H5 y H6 _ _ h => yat_ex h) (fun j v H5 H6 R0 N0 hj e5 hy hno hsm => ?_) (fun H5 xs e5 hx5 hps => ?_)
  · obtain ⟨rfl, hxi⟩ := hy
    rw [List.getElem?_map] at hxi
    obtain ⟨p, hp, rfl⟩ := Option.map_eq_some_iff.mp hxi
    have x5 := x.ex e5
    have hg : DGet H6 ta (.int p) (if p ∈ T0 then some (.bl true) else none) := by
      have := DGet.k (k := Sum.inl p) x5.hta
      rw [valV_int (f := fun _ => V.bl true)] at this
      exact this
    refine ⟨rfl, _, rfl, _, rfl, ta, _, rfl, hg, _, rfl, ?_⟩
    by_cases c : p ∈ T0
    · exact ifF (by simp [c]) (hno (by rw [hp]; show (if decide (p ∉ T0) = true then some p else none) = none; simp [c]) _ (Ex.refl _))
    · refine ifT (by simp [c]) ⟨_, rfl, ?_⟩
      exact hsm p (by rw [hp]; show (if decide (p ∉ T0) = true then some p else none) = some p; simp [c]) _ _ (Ex.refl _) rfl
  · rw [List.length_map, range_fm, filt_fm] at hps
    rw [rint_map hps] at hx5
    have x5 := x.ex e5
    have hm : DGet H5 mo (.str n) (some (.int (M n : Nat))) := by
      have := DGet.k (k := Sum.inr n) x5.hmo
      rw [valV_map (f := fun n => V.int (M n : Nat)) ((ranked_perm B ks).mem_iff.mpr hn)] at this
      exact this
    refine ⟨_, rfl, _, rfl, mo, _, rfl, hm, _, rfl, D1, _, rfl, SqL.of hx5, fun q hq => ?_⟩
    rw [cutV_take, ← List.map_take]
    have e6 : Ex H5 (upd H5 q (.lst ((((B n).filter fun p => decide (p ∉ T0)).take (M n)).map V.int))) := Ex.upd hq
    have h6 : (upd H5 q (.lst ((((B n).filter fun p => decide (p ∉ T0)).take (M n)).map V.int))) q = some (.lst ((((B n).filter fun p => decide (p ∉ T0)).take (M n)).map V.int)) := upd_same
    have x6 := x5.ex e6
    have nq : NewN H0 q := newN_none x5.e hq
    have oq : ∀ {b : Addr} {o : HO}, H5 b = some o → q ≠ b := fun h z => by rw [← z, hq] at h; cases h
    generalize upd H5 q (.lst ((((B n).filter fun p => decide (p ∉ T0)).take (M n)).map V.int)) = H6 at e6 h6 x6
    refine ⟨_, rfl, _, rfl, fo, _, rfl, DPut.k (k := Sum.inr n) x6.f.d (by rw [List.length_map]; have : sizeLine = 16777216 := rfl; omega), ?_⟩
    have hoff : (Sum.inr n : Key) ∉ (done.map fun n => ((Sum.inr n : Key), V.ref (la n))).map (·.1) := fun z => by
      rw [List.map_map] at z
      obtain ⟨k, hk, e⟩ := List.mem_map.mp z
      exact hnd (Sum.inr.inj e ▸ hk)
    rw [putK_off hoff]
    have nfl : ∀ {b : Addr} {zs : List V}, H6 b = some (.lst zs) → b ≠ fo := fun h => ne_ld h x6.f.d
    have eqL : ∀ {b : Addr} {zs : List V}, H6 b = some (.lst zs) → (upd H6 fo (.dK (done.map (fun n => ((Sum.inr n : Key), V.ref (la n))) ++ [(Sum.inr n, V.ref q)]))) b = some (.lst zs) := fun h => by rw [L2.upd_ne (nfl h)]; exact h
    refine fin _ q ⟨extN_updN x6.e x6.nf.1, tabs_dK x6.t x6.f.d, eqL x6.hna, ⟨by rw [L2.upd_ne x6.n1.1.symm]; exact x6.b.d, fun k hk => eqL (x6.b.l k hk)⟩, by rw [L2.upd_ne x6.n1.2.1.symm]; exact x6.hmo, ⟨?_, fun k hk => ?_⟩, by rw [L2.upd_ne x6.n1.2.2.1.symm]; exact x6.hta, x6.n1, x6.nf, fun k hk => ?_, fun a ha b hb e => ?_⟩
    · rw [upd_same, List.map_append]
      have : (done.map fun k => ((Sum.inr k : Key), V.ref (Q7.set la n q k))) = done.map fun k => ((Sum.inr k : Key), V.ref (la k)) := List.map_congr_left fun k hk => by rw [Q7.set_ne (show k ≠ n from fun z => hnd (z ▸ hk))]
      rw [this, List.map_cons, List.map_nil, Q7.set_same]
    · rcases List.mem_append.mp hk with hk | hk
      · have ne : k ≠ n := fun z => hnd (z ▸ hk)
        rw [Q7.set_ne ne, Q7.set_ne ne]
        exact eqL (x6.f.l k hk)
      · rw [List.mem_singleton.mp hk, Q7.set_same, Q7.set_same]
        exact eqL h6
    · rcases List.mem_append.mp hk with hk | hk
      · rw [Q7.set_ne (show k ≠ n from fun z => hnd (z ▸ hk))]
        exact x6.nl k hk
      · rw [List.mem_singleton.mp hk, Q7.set_same]
        exact ⟨nq, oq x5.hna, fun j hj => oq (x5.b.l j hj)⟩
    · rcases List.mem_append.mp ha with ha | ha <;> rcases List.mem_append.mp hb with hb | hb
      · rw [Q7.set_ne (show a ≠ n from fun z => hnd (z ▸ ha)), Q7.set_ne (show b ≠ n from fun z => hnd (z ▸ hb))] at e
        exact x6.inj a ha b hb e
      · rw [List.mem_singleton.mp hb, Q7.set_ne (show a ≠ n from fun z => hnd (z ▸ ha)), Q7.set_same] at e
        exact absurd e.symm (oq (x5.f.l a ha))
      · rw [List.mem_singleton.mp ha, Q7.set_ne (show b ≠ n from fun z => hnd (z ▸ hb)), Q7.set_same] at e
        exact absurd e (oq (x5.f.l b hb))
      · rw [List.mem_singleton.mp ha, List.mem_singleton.mp hb]
end
end K7
set_option Elab.async false
set_option linter.all false
set_option maxRecDepth 100000
set_option maxHeartbeats 4000000
namespace K7
open PySem PySem.Spec PyProof.Rows L2 KB KC KD KS LamX R8 Q7 CP
theorem qShr : (Str.ofString "shares_of" ++ Str.ofString ".<locals>.") ++ Str.ofString "<lambda>" = qS := by decide +kernel
theorem tabSo {Pm Ps Pl : Addr} : (Ps, (Str.ofString "shares_of" ++ Str.ofString ".<locals>.") ++ Str.ofString "<lambda>") ∈ TT Pm Ps Pl := by rw [qShr]; exact List.mem_cons_of_mem _ (List.mem_cons_self ..)
theorem tabSu {Pm Ps Pl : Addr} (ap : Apart Pm Ps Pl) : ∀ p ∈ TT Pm Ps Pl, p.1 = Ps → p.2 = (Str.ofString "shares_of" ++ Str.ofString ".<locals>.") ++ Str.ofString "<lambda>" := by
  rw [qShr]
  intro p hp e
  rcases List.mem_cons.mp hp with z | hp
  · rw [z] at e
    exact absurd e ap.ms
  rcases List.mem_cons.mp hp with z | hp
  · rw [z]
  rcases List.mem_cons.mp hp with z | hp
  · rw [z] at e
    exact absurd e.symm ap.sl
  cases hp
theorem keys_int_off {T : List Int} {p : Int} (h : p ∉ T) : (Sum.inl p : Key) ∉ (T.map fun p => ((Sum.inl p : Key), V.bl true)).map (·.1) := fun z => by
  rw [List.map_map] at z
  obtain ⟨k, hk, e⟩ := List.mem_map.mp z
  rw [← Sum.inl.inj e] at h
  exact h hk
section
variable {P : Program} {w : World} {K : PySem.W.Frag} {mg : Str → Option Value} {base : Heap} {Pm Ps Pl f c : Addr} {fd : FuncData} {A : Around} {outer : List PySem.Env} {s : Shared} {Hs : Hp} {E0' : XK}
theorem in_1 (T : TxtL mg) (hr : Room 8 (xSh P w K mg base f c A outer s Hs E0').A) :
    ∃ t, PS (xSh P w K mg base f c A outer s Hs E0') ((forBody (shB 7)).getD 1 pass0') t ∧ ∀ (D : Ends) (a0 a1 a2 a4 a10 : Option V) (H H0 : Hp) (ks : List Str) (B : Str → List Int) (M : Str → Nat) (na bd mo fo ta : Addr) (lb la : Str → Addr) (done : List Str) (F : Str → List Int) (T0 : List Int) (n : Str),
      Sh Pm Ps Pl H0 ks B M na bd mo fo ta lb la done F T0 H → n ∈ done → (T0 ++ F n).Nodup → (T0 ++ F n).length ≤ 1000000 →
      (∀ H' a10', Sh Pm Ps Pl H0 ks B M na bd mo fo ta lb la done F (T0 ++ F n) H' → D.nx [a0, a1, a2, some (.ref na), a4, some (.ref bd), some (.ref mo), some (.ref fo), some (.ref ta), some (.str n), a10'] H') →
      t D [a0, a1, a2, some (.ref na), a4, some (.ref bd), some (.ref mo), some (.ref fo), some (.ref ta), some (.str n), a10] H := by
  have hu := hr.units
  have hu1 := Nat.lt_trans (Nat.add_lt_add_left (by decide : 1 < 64) _) hu
  refine ⟨_, ps_for PassesOwn.never rfl (pi_list (pe_dget hu1 (pv 7) (pv 9) (fun _ _ => rfl))) (pg_name (i := 10) scSh.nd rfl (Or.inl rfl)) (pss_one (ps_dput hu1 (pv 8) (pv 10) pe_bl rfl)), ?_⟩
  intro D a0 a1 a2 a4 a10 H H0 ks B M na bd mo fo ta lb la done F T0 n x hn nd hl fin
  refine ⟨_, rfl, _, rfl, fo, _, rfl, x.f.get hn, la n, rfl, ⟨_, SqL.of (x.f.l n hn)⟩, for_list (xs := (F n).map V.int) (fun i σ H2 => ∃ a10, σ = [a0, a1, a2, some (.ref na), a4, some (.ref bd), some (.ref mo), some (.ref fo), some (.ref ta), some (.str n), a10] ∧ Sh Pm Ps Pl H0 ks B M na bd mo fo ta lb la done F (T0 ++ (F n).take i) H2)
    ⟨a10, rfl, by rw [List.take_zero, List.append_nil]; exact x⟩ (fun i σ H2 _ ⟨_, _, y⟩ => SqL.of (y.f.l n hn)) ?_ ?_⟩
  · rintro i v σ H2 hv ⟨a10, rfl, y⟩
    rw [List.getElem?_map] at hv
    obtain ⟨p, hp, rfl⟩ := Option.map_eq_some_iff.mp hv
    have tk : (F n).take (i + 1) = (F n).take i ++ [p] := by rw [List.take_succ, hp]; rfl
    have off : p ∉ T0 ++ (F n).take i := by
      have h1 : (T0 ++ (F n).take (i + 1)).Nodup := nd.sublist (List.Sublist.append_left (List.take_sublist _ _) _)
      rw [tk, ← List.append_assoc, List.nodup_append] at h1
      exact fun z => h1.2.2 p z p (List.mem_singleton.mpr rfl) rfl
    refine ⟨_, rfl, _, rfl, ta, _, rfl, DPut.k (k := Sum.inl p) y.hta (by
      rw [List.length_map, List.length_append, List.length_take]
      rw [List.length_append] at hl
      have : sizeLine = 16777216 := rfl
      omega), ?_⟩
    rw [putK_off (keys_int_off off)]
    have eqL : ∀ {b : Addr} {zs : List V}, H2 b = some (.lst zs) → (upd H2 ta (.dK ((T0 ++ (F n).take i).map (fun p => ((Sum.inl p : Key), V.bl true)) ++ [(Sum.inl p, V.bl true)]))) b = some (.lst zs) := fun h => by rw [L2.upd_ne (ne_ld h y.hta)]; exact h
    refine ⟨_, rfl, extN_updN y.e y.nf.2, tabs_dK y.t y.hta, eqL y.hna, ⟨by rw [L2.upd_ne y.n1.2.2.2.1.symm]; exact y.b.d, fun k hk => eqL (y.b.l k hk)⟩, by rw [L2.upd_ne y.n1.2.2.2.2.symm]; exact y.hmo, ⟨by rw [L2.upd_ne y.n1.2.2.1]; exact y.f.d, fun k hk => eqL (y.f.l k hk)⟩, ?_, y.n1, y.nf, y.nl, y.inj⟩
    rw [upd_same, tk, ← List.append_assoc, List.map_append (l₁ := T0 ++ (F n).take i)]
    rfl
  · rintro σ H2 ⟨a10, rfl, y⟩
    rw [List.length_map, List.take_length] at y
    exact fin H2 a10 y
theorem sh_7 (T : TxtL mg) (hr : Room 8 (xSh P w K mg base f c A outer s Hs E0').A) :
    ∃ t, PS (xSh P w K mg base f c A outer s Hs E0') (shB 7) t ∧ ∀ (D : Ends) (a0 a1 a2 a4 a9 a10 : Option V) (H H0 : Hp) (ks : List Str) (B : Str → List Int) (M : Str → Nat) (na bd mo fo ta : Addr) (lb la : Str → Addr),
      Sh Pm Ps Pl H0 ks B M na bd mo fo ta lb la [] (fun _ => []) [] H → ks.Nodup → (∀ n, (B n).Nodup) → (∀ n ∈ ks, (B n).length ≤ 1000) → ks.length ≤ 100 →
      (∀ H' la' a9' a10', Sh Pm Ps Pl H0 ks B M na bd mo fo ta lb la' ks (loop1 B M ks [] fun _ => []).2 (loop1 B M ks [] fun _ => []).1 H' → D.nx [a0, a1, a2, some (.ref na), a4, some (.ref bd), some (.ref mo), some (.ref fo), some (.ref ta), a9', a10'] H') →
      t D [a0, a1, a2, some (.ref na), a4, some (.ref bd), some (.ref mo), some (.ref fo), some (.ref ta), a9, a10] H := by
  obtain ⟨t0, d0, q0⟩ := in_0 (P := P) (w := w) (K := K) (base := base) (Pm := Pm) (Ps := Ps) (Pl := Pl) (f := f) (c := c) (A := A) (outer := outer) (s := s) (Hs := Hs) (E0' := E0') T hr
  obtain ⟨t1, d1, q1⟩ := in_1 (P := P) (w := w) (K := K) (base := base) (Pm := Pm) (Ps := Ps) (Pl := Pl) (f := f) (c := c) (A := A) (outer := outer) (s := s) (Hs := Hs) (E0' := E0') T hr
  have dB : PSs (xSh P w K mg base f c A outer s Hs E0') (forBody (shB 7)) _ := pss_cons d0 (pss_one d1)
  refine ⟨_, ps_for PassesOwn.never rfl (pi_list (pv 3)) (pg_name (i := 9) scSh.nd rfl (Or.inl rfl)) dB, ?_⟩
  intro D a0 a1 a2 a4 a9 a10 H H0 ks B M na bd mo fo ta lb la x nd hB hb9 hk9 fin
  refine ⟨_, rfl, na, rfl, ⟨_, SqL.of x.hna⟩, for_list (xs := ks.map V.str) (fun i σ H2 => ∃ la a9 a10 F T0, σ = [a0, a1, a2, some (.ref na), a4, some (.ref bd), some (.ref mo), some (.ref fo), some (.ref ta), a9, a10] ∧ Sh Pm Ps Pl H0 ks B M na bd mo fo ta lb la (ks.take i) F T0 H2 ∧ T0.Nodup ∧ T0.length ≤ 1000 * i ∧ loop1 B M ks [] (fun _ => []) = loop1 B M (ks.drop i) T0 F)
    ⟨la, a9, a10, _, [], rfl, by rw [List.take_zero]; exact x, List.nodup_nil, by simp, by rw [List.drop_zero]⟩ (fun i σ H2 _ ⟨_, _, _, _, _, _, y, _⟩ => SqL.of y.hna) ?_ ?_⟩
  · rintro i v σ H2 hv ⟨la, a9, a10, F, T0, rfl, y, tn, tl, el⟩
    rw [List.getElem?_map] at hv
    obtain ⟨n, hn, rfl⟩ := Option.map_eq_some_iff.mp hv
    have hnm := List.mem_of_getElem? hn
    have hi := (List.getElem?_eq_some_iff.mp hn).1
    have tk : ks.take (i + 1) = ks.take i ++ [n] := by rw [List.take_succ, hn]; rfl
    have hoff : n ∉ ks.take i := by
      have h1 : (ks.take (i + 1)).Nodup := nd.sublist (List.take_sublist _ _)
      rw [tk, List.nodup_append] at h1
      exact fun z => h1.2.2 n z n (List.mem_singleton.mpr rfl) rfl
    have kn : (((B n).filter fun p => decide (p ∉ T0)).take (M n)).Nodup := ((hB n).filter _).sublist (List.take_sublist _ _)
    have kl : (((B n).filter fun p => decide (p ∉ T0)).take (M n)).length ≤ 1000 := Nat.le_trans (List.length_take_le' _ _) (Nat.le_trans (List.length_filter_le _ _) (hb9 n hnm))
    have nd2 : (T0 ++ ((B n).filter fun p => decide (p ∉ T0)).take (M n)).Nodup := by
      rw [List.nodup_append]
      refine ⟨tn, kn, fun a ha b hb z => ?_⟩
      have := (List.mem_filter.mp (List.mem_of_mem_take hb)).2
      exact (of_decide_eq_true this) (z ▸ ha)
    refine q0 _ _ _ _ _ _ H2 H0 ks B M na bd mo fo ta lb la (ks.take i) F T0 n y hnm hoff hb9 (by rw [List.length_take]; omega) fun H3 q y3 => ?_
    have ef : Q7.set F n (((B n).filter fun p => decide (p ∉ T0)).take (M n)) n = ((B n).filter fun p => decide (p ∉ T0)).take (M n) := Q7.set_same
    refine q1 _ _ _ _ _ _ H3 H0 ks B M na bd mo fo ta lb _ _ _ T0 n y3 (List.mem_append_right _ (List.mem_singleton.mpr rfl)) (by rw [ef]; exact nd2) (by rw [ef, List.length_append]; omega) fun H4 a10' y4 => ?_
    rw [ef] at y4
    refine ⟨_, _, a10', _, _, rfl, by rw [tk]; exact y4, nd2, by rw [List.length_append]; omega, ?_⟩
    have dr : ks.drop i = n :: ks.drop (i + 1) := by
      rw [List.drop_eq_getElem_cons hi]
      obtain ⟨_, e⟩ := List.getElem?_eq_some_iff.mp hn
      rw [e]
    rw [el, dr]
    rfl
  · rintro σ H2 ⟨la, a9, a10, F, T0, rfl, y, tn, tl, el⟩
    rw [List.length_map, List.take_length] at y
    rw [List.length_map, List.drop_length] at el
    have e1 : (loop1 B M ks [] fun _ => []).1 = T0 := by rw [el]; rfl
    have e2 : (loop1 B M ks [] fun _ => []).2 = F := by rw [el]; rfl
    refine fin H2 la a9 a10 ?_
    rw [e1, e2]
    exact y
end
end K7
set_option Elab.async false
set_option linter.all false
set_option maxRecDepth 100000
set_option maxHeartbeats 4000000
namespace K7
open PySem PySem.Spec PyProof.Rows L2 KB KC KD KS LamX R8 Q7 CP
theorem rng_get {m i : Nat} (h : i < m) : (rng m)[i]? = some (i : Int) := by
  unfold rng
  rw [List.getElem?_map, List.getElem?_range h]
  rfl
theorem set_map {β : Type} {f : Str → β} {n : Str} {b : β} {g : β → V} {names : List Str} (h : ∀ k ∈ names, k ≠ n → True) : True := trivial
def RTup (K : PySem.W.Frag) : Hp → V → List Int → Prop := fun H v l => ∃ t, v = .ref t ∧ H t = some (.tup (l.map V.int))
theorem RTup.stab (K : PySem.W.Frag) : ∀ H H' v a, KT2 H H' → RTup K H v a → RTup K H' v a := fun _ _ _ _ k ⟨t, e, h⟩ => ⟨t, e, k _ _ (fun _ z => nomatch z) h⟩
theorem kvR_tup {K : PySem.W.Frag} {H : Hp} {R : Str → List Int} : ∀ {names : List Str} {kvs : List (Key × V)}, names.Nodup → KvR (RTup K) H kvs (names.map fun n => ((Sum.inr n : Key), R n)) → ∃ ta : Str → Addr, kvs = names.map (fun n => ((Sum.inr n : Key), V.ref (ta n))) ∧ ∀ n ∈ names, H (ta n) = some (.tup ((R n).map V.int))
  | [], _, _, .nil => ⟨fun _ => 0, rfl, fun n hn => (nomatch hn)⟩
  | x :: r, _, nd, .cons (a := a) h t => by
    rw [List.nodup_cons] at nd
    obtain ⟨ta, e1, e2⟩ := kvR_tup nd.2 t
    obtain ⟨k, v⟩ := a
    obtain ⟨h1, q, h2, h3⟩ := h
    refine ⟨Q7.set ta x q, ?_, fun n hn => ?_⟩
    · rw [List.map_cons, Q7.set_same, e1]
      have e3 : (r.map fun n => ((Sum.inr n : Key), V.ref (Q7.set ta x q n))) = r.map fun n => ((Sum.inr n : Key), V.ref (ta n)) := List.map_congr_left fun n hn => by rw [Q7.set_ne (show n ≠ x from fun z => nd.1 (z ▸ hn))]
      rw [e3]
      have e4 : k = Sum.inr x := h1
      have e5 : v = .ref q := h2
      rw [e4, e5]
    · rcases List.mem_cons.mp hn with rfl | hn
      · rw [Q7.set_same]
        exact h3
      · rw [Q7.set_ne (show n ≠ x from fun z => nd.1 (z ▸ hn))]
        exact e2 n hn
section
variable {P : Program} {w : World} {K : PySem.W.Frag} {mg : Str → Option Value} {base : Heap} {Pm Ps Pl f c : Addr} {fd : FuncData} {A : Around} {outer : List PySem.Env} {s : Shared} {Hs : Hp} {E0' : XK}
theorem sh_8 (T : TxtL mg) (TB : LamX.TabB base mg c Ps) (ap : Apart Pm Ps Pl) (hr : Room 8 (xSh P w K mg base f c A outer s Hs E0').A) :
    ∃ t, PS (xSh P w K mg base f c A outer s Hs E0') (shB 8) t ∧ ∀ (D : Ends) (a0 a2 a4 a9 a10 : Option V) (H H0 : Hp) (x : Str) (xs : List Str) (m : Nat) (B : Str → List Int) (M : Str → Nat) (na bd mo fo ta : Addr) (lb la : Str → Addr) (F : Str → List Int) (T0 : List Int),
      Sh Pm Ps Pl H0 (x :: xs) B M na bd mo fo ta lb la (x :: xs) F T0 H → m ≤ 1000 → (∀ n ∈ x :: xs, (F n).length ≤ 1000) →
      (∀ H' a10', Sh Pm Ps Pl H0 (x :: xs) B M na bd mo fo ta lb la (x :: xs) (loop2 x xs T0 (rng m) F) T0 H' → (∀ n ∈ x :: xs, (loop2 x xs T0 (rng m) F n).length ≤ 2000) → D.nx [a0, some (.int m), a2, some (.ref na), a4, some (.ref bd), some (.ref mo), some (.ref fo), some (.ref ta), a9, a10'] H') →
      t D [a0, some (.int m), a2, some (.ref na), a4, some (.ref bd), some (.ref mo), some (.ref fo), some (.ref ta), a9, a10] H := by
  have hu := hr.units
  have hu1 := Nat.lt_trans (Nat.add_lt_add_left (by decide : 1 < 64) _) hu
  refine ⟨_, ps_for PassesOwn.never rfl (pi_range1 (by rfl) T.range (pa_cons (pv 1) pa_nil)) (pg_name (i := 10) scSh.nd rfl (Or.inl rfl))
    (pss_one (ps_if (pt_cmp (pc_dnotin hu1 (pv 10) (pv 8))) (pss_one (ps_expr (pe_bm PySem.F.plainAttrs_list PySem.F.slot_list_append PySem.F.type_list_append mt_append
      (pe_dget hu1 (pv 7) (pe_callS (cs_minKC rfl) (by rfl) T.min (by decide +kernel) (pa_cons (pv 3) pa_nil) (pk_cons (pe_cloV TB rfl tabSo (tabSu ap) rfl (free_by (by show freeB (defScope sShares) _ = true; decide +kernel))) pk_nil)) (fun _ _ => rfl)) (pa_cons (pv 10) pa_nil)))) pss_nil)), ?_⟩
  intro D a0 a2 a4 a9 a10 H H0 x xs m B M na bd mo fo ta lb la F T0 y hm hF fin
  refine ⟨_, rfl, m, rfl, by omega, by omega, ?_⟩
  refine for_range (n := ((m : Int)).toNat) (fun i σ H2 => ∃ a10 F2, σ = [a0, some (.int m), a2, some (.ref na), a4, some (.ref bd), some (.ref mo), some (.ref fo), some (.ref ta), a9, a10] ∧ Sh Pm Ps Pl H0 (x :: xs) B M na bd mo fo ta lb la (x :: xs) F2 T0 H2 ∧ (∀ n ∈ x :: xs, (F2 n).length ≤ 1000 + i) ∧ loop2 x xs T0 (rng m) F = loop2 x xs T0 ((rng m).drop i) F2)
    ⟨a10, F, rfl, y, hF, by rw [List.drop_zero]⟩ ?_ ?_
  · rintro i σ H2 hi ⟨a10, F2, rfl, z, hF2, el⟩
    have him : i < m := by omega
    have dr : (rng m).drop i = (i : Int) :: (rng m).drop (i + 1) := by
      rw [List.drop_eq_getElem_cons (by rw [rng_len]; exact him)]
      obtain ⟨_, e⟩ := List.getElem?_eq_some_iff.mp (rng_get him)
      rw [e]
    have hg : DGet H2 ta (.int ((0 : Int) + i)) (if ((0 : Int) + i) ∈ T0 then some (.bl true) else none) := by
      have := DGet.k (k := Sum.inl ((0 : Int) + i)) z.hta
      rw [valV_int (f := fun _ => V.bl true)] at this
      exact this
    refine ⟨_, rfl, _, rfl, ta, _, rfl, hg, _, rfl, ?_⟩
    rw [dr] at el
    have e0 : (0 : Int) + (i : Int) = (i : Int) := Int.zero_add _
    by_cases cT : (i : Int) ∈ T0
    · refine ifF (by rw [e0]; simp [cT]) ⟨_, F2, rfl, z, fun n hn => by have := hF2 n hn; omega, ?_⟩
      rw [el]
      show (if (i : Int) ∈ T0 then _ else _) = _
      rw [if_pos cT]
    · refine ifT (by rw [e0]; simp [cT]) ?_
      refine ⟨_, rfl, _, rfl, z.t, fun g c' H3 e3 t3 hgo hcc ng => ?_⟩
      have z3 := z.exN e3 t3
      have ki : KeyI (xSh P w K mg base f c A outer s Hs E0') [a0, some (.int m), a2, some (.ref na), a4, some (.ref bd), some (.ref mo), some (.ref fo), some (.ref ta), a9, some (.int ((0 : Int) + i))] g H3 (x :: xs) (fun n => ((F2 n).length : Int)) := by
        refine keyI_clo (k := 1) (j := 7) (vy := .ref fo) (pn := "name") (y := "found") (lamP_by (by show lamPB (defScope sShares) _ _ _ = true; decide +kernel)) (hr.mono (by decide)) hgo hcc (fun s clo pm ctv u => .of_eq rfl) rfl rfl
          (fun A' s' H4 E' hr' n hn e2 => ⟨_, pe_callB call_len_seq (by rfl) T.len PySem.boot_len (pa_cons (pe_dget (Nat.lt_trans (Nat.add_lt_add_left (by decide : 1 < 64) _) hr'.units) (pv 1) (pv 0) (fun _ _ => rfl)) pa_nil), fun Q' hQ => ?_⟩)
        exact ⟨_, rfl, _, rfl, fo, _, rfl, (z3.f.ex e2).get hn, la n, _, rfl, .inl (SqL.of ((z3.f.ex e2).l n hn)), by rw [List.length_map]; exact hQ H4 (Ex.refl _)⟩
      refine ⟨na, g, x, xs, _, rfl, rfl, z3.hna, ki, fun H4 e4 => ?_⟩
      have z4 := z3.ex e4
      have hle : CP.leastF (fun n => ((F2 n).length : Int)) x xs = Q7.leastF (fun n => ((F2 n).length : Int)) x xs := rfl
      have hb := Q7.leastF_mem (fun n => ((F2 n).length : Int)) x xs
      rw [← hle] at hb
      generalize CP.leastF (fun n => ((F2 n).length : Int)) x xs = b at hb hle
      have hlb := z4.f.l b hb
      refine ⟨fo, _, rfl, z4.f.get hb, .inl ⟨rfl, _, SqL.of hlb⟩, _, rfl, la b, _, _, rfl, rfl, hlb, by rw [List.length_map]; have := hF2 b hb; have : sizeLine = 16777216 := rfl; omega, ?_⟩
      have em : (F2 b).map V.int ++ [V.int ((0 : Int) + i)] = ((Q7.set F2 b (F2 b ++ [(i : Int)])) b).map V.int := by
        rw [Q7.set_same, List.map_append, e0]
        rfl
      rw [em]
      have eqD : ∀ {q : Addr} {zs : List (Key × V)}, H4 q = some (.dK zs) → (upd H4 (la b) (.lst (((Q7.set F2 b (F2 b ++ [(i : Int)])) b).map V.int))) q = some (.dK zs) := fun h => by rw [L2.upd_ne (ne_ld hlb h).symm]; exact h
      refine ⟨_, Q7.set F2 b (F2 b ++ [(i : Int)]), rfl, ⟨extN_updN z4.e (z4.nl b hb).1, tabs_lst z4.t hlb, by rw [L2.upd_ne (z4.nl b hb).2.1.symm]; exact z4.hna, ⟨eqD z4.b.d, fun k hk => by rw [L2.upd_ne ((z4.nl b hb).2.2 k hk).symm]; exact z4.b.l k hk⟩, eqD z4.hmo, ⟨eqD z4.f.d, fun k hk => ?_⟩, eqD z4.hta, z4.n1, z4.nf, z4.nl, z4.inj⟩, fun n hn => ?_, ?_⟩
      · by_cases kb : k = b
        · rw [kb, upd_same]
        · rw [L2.upd_ne fun zz => kb (z4.inj k hk b hb zz), Q7.set_ne kb]
          exact z4.f.l k hk
      · by_cases nb : n = b
        · rw [nb, Q7.set_same, List.length_append]
          have := hF2 b hb
          simp only [List.length_cons, List.length_nil]
          omega
        · rw [Q7.set_ne nb]
          have := hF2 n hn
          omega
      · rw [el]
        show (if (i : Int) ∈ T0 then _ else loop2 x xs T0 ((rng m).drop (i + 1)) (Q7.set F2 (Q7.leastF (fun n => ((F2 n).length : Int)) x xs) (F2 (Q7.leastF (fun n => ((F2 n).length : Int)) x xs) ++ [(i : Int)]))) = _
        rw [if_neg cT, ← hle]
  · rintro σ H2 ⟨a10, F2, rfl, z, hF2, el⟩
    have e1 : loop2 x xs T0 (rng m) F = F2 := by
      rw [el, List.drop_of_length_le (by rw [rng_len]; omega)]
      rfl
    refine fin H2 a10 ?_ fun n hn => ?_
    · rw [e1]
      exact z
    · rw [e1]
      have := hF2 n hn
      omega
end
end K7
set_option Elab.async false
set_option linter.all false
set_option maxRecDepth 100000
set_option maxHeartbeats 4000000
namespace K7
open PySem PySem.Spec PyProof.Rows PySem.Calls L2 KB KC KD KS LamX R8 Q7 CP
def E0T (K : PySem.W.Frag) (a : Addr) : Prop := ∃ (n : Nat) (sl : Array (Option Value)), K.lookup a = some ⟨.type "tuple", none, .seq #[] n, sl⟩
theorem E0T.sq {K : PySem.W.Frag} {a : Addr} (h : E0T K a) (H : Hp) : SqT K H a [] := by
  obtain ⟨n, sl, e⟩ := h
  exact .inr ⟨_, #[], n, e, rfl, rfl, by show 0 ≤ sizeLine; decide, .nil⟩
theorem cr_dict00 {X : Cx} (hc : X.calm = true) (hu : X.A.units + 4 < cLine) : CallR X (.type "dict") (fun xs H Q => ∃ a, xs = [.ref a] ∧ E0T X.K a ∧ ∀ p, H p = none → Q (.ref p) (upd H p (.dK []))) := by
  intro pins s σ H vs us Q I r h
  obtain ⟨a, rfl, ⟨n, sl, lk⟩, q⟩ := h
  obtain rfl := Vals.ref1 r
  have hraw := I.kIn _ _ lk
  have items : PairItems s.heap (#[] : Array Value) (fun j => 0) ([] : List (Value × Value)) := ⟨rfl, fun j k v hj => by simp at hj⟩
  have hc2 : PairsHaveH (tupleKind (mixKind X.prog X.w)) 0 (PairRel ([] : List (Value × Value))) ([] : List (List Key × Addr × Value)) := ⟨rfl, fun i key v hj => by
    have hj : ([] : List (Value × Value))[i]? = some (key, v) := hj
    simp at hj⟩
  have hroom : (tupleKind (mixKind X.prog X.w)).room X.A.in1.in1 := tupleKind_room_in1 (by show X.A.units + 1 + 1 < cLine; omega)
  have hm : (s.heap.objs.size == sysModules) = false := beq_eq_false_iff_ne.mpr (Nat.ne_of_gt I.big)
  refine call_dict_pairsH (knd := tupleKind (mixKind X.prog X.w)) (PairArg.tuple a _ _ _) (I.ok.hd hc) hroom ⟨⟨_, n, hraw, rfl, rfl, rfl⟩, items⟩ hc2 (fun h' hk x hx => by cases hx) (by show 0 ≤ sizeLine; decide) fun h' tk hd hk => ?_
  refine ⟨.ref s.heap.objs.size, upd H s.heap.objs.size (.dK []), I.laid (t' := tk) (fun b o e => hk b o (by simp) e) (Nat.le_refl _) ⟨Nat.zero_le _, hm, [], .nil, ?_⟩, rfl, q _ (I.hok.fresh (Nat.le_refl _))⟩
  obtain ⟨o, es, ep, d1, d2, d3, d4, _, _⟩ := hd
  have e0 : es = #[] := by
    rw [← Array.toArray_toList (xs := es), d4]
    rfl
  subst e0
  exact ⟨o, #[], ep, d1, d2, d3, (fun e h => by simp at h), .nil, List.nodup_nil⟩
end K7
set_option Elab.async false
set_option linter.all false
set_option maxRecDepth 100000
set_option maxHeartbeats 4000000
namespace K7
open PySem PySem.Spec PyProof.Rows L2 KB KC KD KS LamX R8 Q7 CP
theorem dp_strs {K : PySem.W.Frag} {H : Hp} : ∀ ns : List Str, DpAll K H (ns.map V.str) (ns.map PyData.str)
  | [] => .nil
  | n :: ns => .cons (.str _) (dp_strs ns)
theorem eqv_nil_strs (a : List Str) : PyData.eqv (.list (a.map PyData.str)) (.list []) = decide (a = []) := by
  cases a with
  | nil => rfl
  | cons x r => rfl
theorem lay_strs : ∀ ns : List Str, (∀ n ∈ ns, PyData.strOk n = true) → PyData.canLayAll0 (ns.map PyData.str) = true
  | [], _ => by simp [PyData.canLayAll0]
  | n :: ns, h => by
    rw [List.map_cons]
    unfold PyData.canLayAll0
    rw [lay_strs ns fun m hm => h m (List.mem_cons_of_mem _ hm)]
    simp [PyData.canLay0, h n List.mem_cons_self]
theorem depth_strs : ∀ ns : List Str, PyData.depthAll (ns.map PyData.str) ≤ 3
  | [] => by simp [PyData.depthAll]
  | p :: S => by
    have h := depth_strs S
    rw [List.map_cons]
    unfold PyData.depthAll
    have : (PyData.str p).depth ≤ 2 := by simp [PyData.depth]
    omega
theorem sh_strs {S : List Str} (hk : ∀ n ∈ S, PyData.strOk n = true) : SeqAt.shaped (.list (S.map PyData.str)) = true := by
  have h := depth_strs S
  unfold SeqAt.shaped
  rw [Bool.and_eq_true, decide_eq_true_eq]
  refine ⟨?_, ?_⟩
  · unfold PyData.canLay0
    exact lay_strs S hk
  · unfold PyData.depth
    omega
def OldT (K : PySem.W.Frag) (H : Hp) (old : V) (had : Str → List Int) : Prop :=
  (∃ (od : Addr) (oks : List Str) (ota : Str → Addr), old = .ref od ∧ TabT K H od oks ota had ∧ oks.length ≤ 1000 ∧ ∀ n, n ∉ oks → had n = []) ∨ ∃ a, old = .ref a ∧ E0T K a ∧ ∀ n, had n = []
theorem cr_dictO {X : Cx} (hc : X.calm = true) (hu : X.A.units + 4 < cLine) : CallR X (.type "dict") (fun xs H Q => (∃ (a : Addr) (kvs : List (Key × V)), xs = [.ref a] ∧ Rd H a (.dK kvs) ∧ ∀ p, H p = none → Q (.ref p) (upd H p (.dK kvs))) ∨ ∃ a, xs = [.ref a] ∧ E0T X.K a ∧ ∀ p, H p = none → Q (.ref p) (upd H p (.dK []))) := by
  intro pins s σ H xs us Q I r h
  rcases h with h | h
  · exact call_dictD pins s σ H xs us Q I r h
  · exact cr_dict00 hc hu pins s σ H xs us Q I r h
@[irreducible] def spShares (K : PySem.W.Frag) (Pm Ps Pl : Addr) : Sp := fun vs H Q _ => ∃ (a : Addr) (ms : List Str) (m : Nat) (old : V) (had : Str → List Int), vs = [.ref a, .int m, old] ∧ SqL K H a (ms.map V.str) ∧ ms.length < 64 ∧ (∀ n ∈ ms, PyData.strOk n = true) ∧ ms.Nodup ∧ m ≤ 60 ∧ OldT K H old had ∧ (∀ n, (had n).length ≤ 1000) ∧ (∀ n ∈ ms, ∀ p ∈ had n, 0 ≤ p) ∧ Tabs (TT Pm Ps Pl) H ∧
  ∀ ks, ks.Perm ms → sortedS ks = true → ∀ H' D ta, ExtN H H' → Tabs (TT Pm Ps Pl) H' → NewN H D → TabT K H' D ks ta (sharesF m had ks) → Q (.ref D) H'
theorem pb_len (m : Nat) (ps : List Int) : (pb m ps).length ≤ ps.length := by
  unfold pb
  rw [(sortI_perm _).length_eq]
  refine Nat.le_trans ?_ (List.length_filter_le (fun p => decide (p < (m : Int))) ps)
  generalize (ps.filter fun p => decide (p < (m : Int))) = l
  have go : ∀ (l acc : List Int), (l.foldl (fun acc p => if p ∈ acc then acc else acc ++ [p]) acc).length ≤ acc.length + l.length := by
    intro l
    induction l with
    | nil => intro acc; simp
    | cons x l ih =>
      intro acc
      rw [List.foldl_cons]
      split
      · have := ih acc
        rw [List.length_cons]
        omega
      · have := ih (acc ++ [x])
        rw [List.length_append] at this
        rw [List.length_cons]
        simp only [List.length_cons, List.length_nil] at this
        omega
  have := go l []
  unfold uniq
  simpa using this

theorem ps_setDc {X : Cx} {i : Nat} {y : Str} {py : Pos} {kx vx tg iter : Expr} {ifs : List Expr} {scope : Scope} {own : List (Str × Nat)} {pos spos : Pos} {wi : TI} {g : TG} {tt : L2.TT} {tk tv : TE} (hc : X.calm = true) (hN : X.N.Nodup) (hy : X.N[i]? = some y) (hyl : X.env.scope.names.lookup y = some .local)
    (hsw : swapsWith (.DictComp kx vx [⟨tg, iter, ifs, 0⟩] scope pos) (some (.Name y py)) spos.line X.env = pure true) (hi : PI X tg iter wi) (ok : BlkOk X.N X.env.scope scope own)
    (hg : ∀ (s : Shared) (H : Hp) (C : Addr) (cl : List (Str × Addr)) (fp : List Addr), PG (X.blk s H scope (compEnvC scope cl C X.env) fp) tg g) (ht : ∀ (s : Shared) (H : Hp) (C : Addr) (cl : List (Str × Addr)) (fp : List Addr), PTs (X.blk s H scope (compEnvC scope cl C X.env) fp) ifs tt)
    (hk : ∀ (s : Shared) (H : Hp) (C : Addr) (cl : List (Str × Addr)) (fp : List Addr), PE (X.blk s H scope (compEnvC scope cl C X.env) fp) kx tk)
    (he : ∀ (s : Shared) (H : Hp) (C : Addr) (cl : List (Str × Addr)) (fp : List Addr), PE (X.blk s H scope (compEnvC scope cl C X.env) fp) vx tv) (hs : ∀ x, foldedSetIterable iter X.env x = pure x := by intro _; rfl) :
    PS X (.Assign [.Name y py] (.DictComp kx vx [⟨tg, iter, ifs, 0⟩] scope pos) spos) (tAsg (tDc wi g tt tk tv (own.map (·.2))) (gName i)) := by
  refine ⟨fun pins s σ H D I h => ?_⟩
  rw [exec_Assign_Name_used _ _ _ _ hsw]
  refine wpAny_bind (wpAny_standAt (wpAny_bind ?_))
  show wpAny _ X.A (do let _ ← comprehension (.DictComp kx vx [⟨tg, iter, ifs, 0⟩] scope pos) scope X.env (firstIterPos [⟨tg, iter, ifs, 0⟩] pos) newDict false (eval iter X.env) (some (assign (.Name y py) X.env))) _ _ s
  have h : tDc wi g tt tk tv (own.map (·.2)) σ H (fun x H1 => gName i x σ H1 D.nx) := h
  refine wpAny_bind (thn (dc_core (Qf := fun _ s' => SP X pins D .next s') hc hN I hi ok hg ht hk he hs h fun L C s' m H' I' q hn f => ?_) fun _ s' hq => wpAny_pure (wpAny_pure hq))
  show wpAny _ _ (assign (.Name y py) X.env (.ref L)) _ _ _
  refine wpAny_assign_Name (store_ok2 (v := V.ref L) I' hN hy (.inl hyl) rfl (fun s2 I2 ⟨a, sb, ha⟩ => ?_) (.inr hyl))
  obtain ⟨f0, f1, f2, f3, f4, f5⟩ := f
  have haC : C ≠ a := by
    rcases ha with z | z
    · rw [z]; exact f1
    · exact fun e => f4 y a z e.symm
  refine ⟨m, hn.sameBut sb haC, fun h3 sb3 => ?_⟩
  exact ⟨_, H', I2.turned (t' := s2.toks) (fun b o hb e => (sb3.2 b hb).trans e) f0 f1 f3 f4 f5, q⟩
theorem sw_dict {kx vx : Expr} {gs : List Comprehension} {scope : Scope} {pos py : Pos} {y : Str} {l : Nat} {env : Env} (hk : env.scope.kind = .function) (hy : env.scope.names.lookup y = some .local) (hl : (py.line == pos.line) = true)
    (ha : (scope.names.any fun (n, k) => n == y && (k == .local || k == .cell)) = false) : swapsWith (.DictComp kx vx gs scope pos) (some (.Name y py)) l env = pure true := by
  have ky : env.kindOf y = some .local := hy
  have hb : env.blockKind = .function := by unfold Env.blockKind; rw [hk]; rfl
  unfold swapsWith
  simp only [hb, ky, ha, Expr.pos, hl]
  rfl
def RLst : Hp → V → List Int → Prop := fun H v l => ∃ t, v = .ref t ∧ H t = some (.lst (l.map V.int))
theorem RLst.stab : ∀ H H' v a, KT2 H H' → RLst H v a → RLst H' v a := fun _ _ _ _ k ⟨t, e, h⟩ => ⟨t, e, k _ _ (fun _ z => nomatch z) h⟩
theorem kvR_lst {H : Hp} {R : Str → List Int} : ∀ {names : List Str} {kvs : List (Key × V)}, names.Nodup → KvR RLst H kvs (names.map fun n => ((Sum.inr n : Key), R n)) → ∃ ta : Str → Addr, kvs = names.map (fun n => ((Sum.inr n : Key), V.ref (ta n))) ∧ ∀ n ∈ names, H (ta n) = some (.lst ((R n).map V.int))
  | [], _, _, .nil => ⟨fun _ => 0, rfl, fun n hn => (nomatch hn)⟩
  | x :: r, _, nd, .cons (a := a) h t => by
    rw [List.nodup_cons] at nd
    obtain ⟨ta, e1, e2⟩ := kvR_lst nd.2 t
    obtain ⟨k, v⟩ := a
    obtain ⟨h1, q, h2, h3⟩ := h
    refine ⟨Q7.set ta x q, ?_, fun n hn => ?_⟩
    · rw [List.map_cons, Q7.set_same, e1]
      have e3 : (r.map fun n => ((Sum.inr n : Key), V.ref (Q7.set ta x q n))) = r.map fun n => ((Sum.inr n : Key), V.ref (ta n)) := List.map_congr_left fun n hn => by rw [Q7.set_ne (show n ≠ x from fun z => nd.1 (z ▸ hn))]
      rw [e3]
      have e4 : k = Sum.inr x := h1
      have e5 : v = .ref q := h2
      rw [e4, e5]
    · rcases List.mem_cons.mp hn with rfl | hn
      · rw [Q7.set_same]
        exact h3
      · rw [Q7.set_ne (show n ≠ x from fun z => nd.1 (z ▸ hn))]
        exact e2 n hn
theorem TabT.ex {K : PySem.W.Frag} {H H' : Hp} {d : Addr} {names : List Str} {ta : Str → Addr} {R : Str → List Int} (t : TabT K H d names ta R) (e : Ex H H') : TabT K H' d names ta R := t.exN (ExtN.of e)
section
variable {P : Program} {w : World} {K : PySem.W.Frag} {mg : Str → Option Value} {base : Heap} {Pm Ps Pl f c : Addr} {fd : FuncData} {A : Around} {outer : List PySem.Env} {s : Shared} {Hs : Hp} {E0' : XK}
theorem sh_3 (T : TxtL mg) (hp : Cal P w K mg base 1 "parts_before" ["parts", "many"] (spPB K)) (hr : Room 8 (xSh P w K mg base f c A outer s Hs E0').A) :
    ∃ t, PS (xSh P w K mg base f c A outer s Hs E0') (shB 3) t ∧ ∀ (D : Ends) (a0 a2 a5 a6 a7 a8 a9 a10 : Option V) (H : Hp) (ks oks : List Str) (m : Nat) (na hd : Addr) (ota : Str → Addr) (had : Str → List Int),
      H na = some (.lst (ks.map V.str)) → TabT K H hd oks ota had → (∀ n, n ∉ oks → had n = []) → ks.Nodup → ks.length ≤ 100 → (∀ n, (had n).length ≤ 1000) →
      (∀ H' bd lb, Ex H H' → H bd = none → TabL H' bd ks lb (fun n => pb m (had n)) → D.nx [a0, some (.int m), a2, some (.ref na), some (.ref hd), some (.ref bd), a6, a7, a8, a9, a10] H') →
      t D [a0, some (.int m), a2, some (.ref na), some (.ref hd), a5, a6, a7, a8, a9, a10] H := by
  have hu := hr.units
  have hu1 := Nat.lt_trans (Nat.add_lt_add_left (by decide : 1 < 64) _) hu
  obtain ⟨f1, fd1, G1, g1, k1, b1⟩ := hp
  refine ⟨_, ps_setDc (i := 5) (own := [("name", 9)]) (g := gName 9) (tt := tYes) (tk := tVar 9) (tv := tCall (spPB K) [] E0 (tCons (tDGet2 (tVar 4) (tVar 9) (tTup tNil)) (tCons (tVar 1) tNil))) rfl scSh.nd rfl rfl (sw_dict rfl rfl rfl (by decide +kernel)) (pi_list (pv 3)) (blkOk_by (N := nSh) (sc := defScope sShares) (by decide +kernel))
      (fun _ _ _ _ _ => pg_name (i := 9) scSh.nd rfl (Or.inl rfl)) (fun _ _ _ _ _ => pts_nil) (fun _ _ _ _ _ => pv 9) (fun _ _ _ _ _ => pe_call G1 (hr.mono (by decide)) (by rfl) g1 k1 b1 .nil pass0 (pa_cons (pe_dget2 hu1 (pv 4) (pv 9) (pe_tup pa_nil) ⟨rfl, rfl, rfl, rfl⟩) (pa_cons (pv 1) pa_nil))), ?_⟩
  intro D a0 a2 a5 a6 a7 a8 a9 a10 H ks oks m na hd ota had hna tt hoff nd hk9 hb9 fin
  refine ⟨_, rfl, na, rfl, ⟨_, SqL.of hna⟩, fun D1 hD1 => ?_⟩
  refine dcG walk_list RLst (fun j => ks[j]?.bind fun n => some ((Sum.inr n : Key), pb m (had n))) RLst.stab hD1 (by rw [List.length_map]; omega) (fun H5 e5 => SqL.of (e5 _ _ hna)) (fun i H5 x H6 _ _ h => yat_ex h) (fun j v H5 H6 R0 N0 hj e5 hy hno hsm => ?_) (fun H5 kvs e5 hx5 hps => ?_)
  · obtain ⟨rfl, hxi⟩ := hy
    rw [List.getElem?_map] at hxi
    obtain ⟨n, hn, rfl⟩ := Option.map_eq_some_iff.mp hxi
    have t5 := tt.ex e5
    refine ⟨rfl, _, rfl, _, rfl, hd, rfl, .inl ⟨_, .inl t5.d⟩, _, rfl, Nat.zero_le _, fun p hp => ?_⟩
    have t6 := t5.ex (Ex.upd (o := .tup []) hp)
    by_cases c : n ∈ oks
    · refine ⟨_, t6.get c, _, rfl, pb_step (SqT.of (t6.t n c)) (hb9 n) fun H' D' e' hD' hl => ?_⟩
      exact hsm (Sum.inr n) _ (by rw [hn]; rfl) _ _ ((Ex.upd hp).trans e') ⟨D', rfl, hl⟩
    · refine ⟨_, t6.off c, _, rfl, pb_step (ps := []) (SqT.of upd_same) (Nat.zero_le _) fun H' D' e' hD' hl => ?_⟩
      refine hsm (Sum.inr n) _ (by rw [hn]; rfl) _ _ ((Ex.upd hp).trans e') ⟨D', rfl, ?_⟩
      rw [hoff n c]
      exact hl
  · rw [List.length_map, range_fm, map_fm, foldA_self (by rw [List.map_map]; exact nodup_inr nd)] at hps
    obtain ⟨ta, e1, e2⟩ := kvR_lst nd hps
    exact fin H5 D1 ta e5 hD1 ⟨by rw [hx5, e1], e2⟩
end
end K7
set_option Elab.async false
set_option linter.all false
set_option maxRecDepth 100000
set_option maxHeartbeats 4000000
namespace K7
open PySem PySem.Spec PyProof.Rows PySem.Calls L2 KB KC KD KS LamX R8 Q7 CP
section
variable {P : Program} {w : World} {K : PySem.W.Frag} {mg : Str → Option Value} {base : Heap} {Pm Ps Pl f c : Addr} {fd : FuncData} {A : Around} {outer : List PySem.Env} {s : Shared} {Hs : Hp} {E0' : XK}
theorem sh_0 (T : TxtL mg) (hr : Room 8 (xSh P w K mg base f c A outer s Hs E0').A) :
    ∃ t, PS (xSh P w K mg base f c A outer s Hs E0') (shB 0) t ∧ ∀ (D : Ends) (a1 a2 a3 a4 a5 a6 a7 a8 a9 a10 : Option V) (H : Hp) (ms : List Str) (a : Addr), SqL K H a (ms.map V.str) → ms.length < 64 →
      (∀ ks na, ks.Perm ms → sortedS ks = true → H na = none → D.nx [some (.ref a), a1, a2, some (.ref na), a4, a5, a6, a7, a8, a9, a10] (upd H na (.lst (ks.map V.str)))) →
      t D [some (.ref a), a1, a2, a3, a4, a5, a6, a7, a8, a9, a10] H := by
  refine ⟨_, ps_set (i := 3) scSh.nd rfl (Or.inl rfl) (pe_callB cr_sortedS (by rfl) T.sorted (by decide +kernel) (pa_cons (pv 0) pa_nil)), ?_⟩
  intro D a1 a2 a3 a4 a5 a6 a7 a8 a9 a10 H ms a hs hl fin
  exact ⟨_, rfl, a, ms, rfl, hs, hl, fun ys p pm so hp => fin ys p pm so hp⟩
theorem sh_1 (T : TxtL mg) (hr : Room 8 (xSh P w K mg base f c A outer s Hs E0').A) :
    ∃ t, PS (xSh P w K mg base f c A outer s Hs E0') (shB 1) t ∧ ∀ (D : Ends) (a0 a1 a2 a4 a5 a6 a7 a8 a9 a10 : Option V) (H : Hp) (ks : List Str) (na : Addr), H na = some (.lst (ks.map V.str)) → (∀ n ∈ ks, PyData.strOk n = true) →
      (ks = [] → ∀ H' d, Ex H H' → H d = none → H' d = some (.dK []) → D.rt (.ref d) H') →
      (ks ≠ [] → ∀ H', Ex H H' → D.nx [a0, a1, a2, some (.ref na), a4, a5, a6, a7, a8, a9, a10] H') →
      t D [a0, a1, a2, some (.ref na), a4, a5, a6, a7, a8, a9, a10] H := by
  refine ⟨_, ps_if (pt_cmpR (op_eqD hr.units) (pv 3) (pe_lst pa_nil) (nomark _)) (pss_one (ps_ret pe_dnewK)) pss_nil, ?_⟩
  intro D a0 a1 a2 a4 a5 a6 a7 a8 a9 a10 H ks na hna hk f1 f2
  refine ⟨_, rfl, Nat.zero_le _, fun p hp => ⟨.list (ks.map PyData.str), .list [], .lst (SqL.of (Ex.upd hp _ _ hna)) (dp_strs ks), .lst (SqL.of upd_same) .nil, sh_strs hk, rfl, _, rfl, ?_⟩⟩
  rw [eqv_nil_strs]
  by_cases c : ks = []
  · refine ifT (decide_eq_true c) (fun q hq => f1 c _ q ((Ex.upd hp).trans (Ex.upd hq)) (none_of (Ex.upd hp) hq) upd_same)
  · exact ifF (by simp [c]) (f2 c _ (Ex.upd hp))
theorem sh_2 (T : TxtL mg) (hr : Room 8 (xSh P w K mg base f c A outer s Hs E0').A) :
    ∃ t, PS (xSh P w K mg base f c A outer s Hs E0') (shB 2) t ∧ ∀ (D : Ends) (a0 a1 a3 a4 a5 a6 a7 a8 a9 a10 : Option V) (H : Hp) (old : V) (had : Str → List Int), OldT K H old had →
      (∀ H' hd oks ota, Ex H H' → H hd = none → TabT K H' hd oks ota had → (∀ n, n ∉ oks → had n = []) → D.nx [a0, a1, some old, a3, some (.ref hd), a5, a6, a7, a8, a9, a10] H') →
      t D [a0, a1, some old, a3, a4, a5, a6, a7, a8, a9, a10] H := by
  have hu := hr.units
  refine ⟨_, ps_set (i := 4) scSh.nd rfl (Or.inr rfl) (pe_callTy (cr_dictO rfl (Nat.lt_trans (Nat.add_lt_add_left (by decide : 4 < 64) _) hu)) (by rfl) T.dict (by decide +kernel) (pa_cons (pv 2) pa_nil)), ?_⟩
  intro D a0 a1 a3 a4 a5 a6 a7 a8 a9 a10 H old had ho fin
  refine ⟨_, rfl, ?_⟩
  rcases ho with ⟨od, oks, ota, rfl, tt, hl, hoff⟩ | ⟨a, rfl, h0, hoff⟩
  · refine .inl ⟨od, _, rfl, .inl tt.d, fun p hp => fin _ p oks ota (Ex.upd hp) hp ⟨upd_same, fun n hn => Ex.upd hp _ _ (tt.t n hn)⟩ hoff⟩
  · exact .inr ⟨a, rfl, h0, fun p hp => fin _ p [] (fun _ => 0) (Ex.upd hp) hp ⟨upd_same, fun n hn => (nomatch hn)⟩ fun n _ => hoff n⟩
theorem sh_4 (T : TxtL mg) (hp : Cal P w K mg base 5 "most_of" ["before", "many"] (spMost Pm Ps Pl)) (hr : Room 8 (xSh P w K mg base f c A outer s Hs E0').A) :
    ∃ t, PS (xSh P w K mg base f c A outer s Hs E0') (shB 4) t ∧ ∀ (D : Ends) (a0 a2 a3 a4 a6 a7 a8 a9 a10 : Option V) (H : Hp) (bd m : Nat) (ks : List Str) (lb : Str → Addr) (B : Str → List Int), TabL H bd ks lb B → Tabs (TT Pm Ps Pl) H → ks ≠ [] → ks.Nodup → ks.length ≤ 1000 → m ≤ 1000 → (∀ n ∈ ks, (B n).length ≤ 1000) →
      (∀ H' mo, ExtN H H' → Tabs (TT Pm Ps Pl) H' → NewN H mo → H' mo = some (.dK ((ranked B ks).map fun n => ((Sum.inr n : Key), V.int (mostF m B ks n : Nat)))) → D.nx [a0, some (.int m), a2, a3, a4, some (.ref bd), some (.ref mo), a7, a8, a9, a10] H') →
      t D [a0, some (.int m), a2, a3, a4, some (.ref bd), a6, a7, a8, a9, a10] H := by
  obtain ⟨f1, fd1, G1, g1, k1, b1⟩ := hp
  refine ⟨_, ps_set (i := 6) scSh.nd rfl (Or.inl rfl) (pe_call G1 (hr.mono (by decide)) (by rfl) g1 k1 b1 .nil pass0 (pa_cons (pv 5) (pa_cons (pv 1) pa_nil))), ?_⟩
  intro D a0 a2 a3 a4 a6 a7 a8 a9 a10 H bd m ks lb B tl tt hne nd h9 m9 b9 fin
  refine ⟨_, rfl, _, rfl, ?_⟩
  show spMost Pm Ps Pl _ _ _ _
  unfold spMost
  exact ⟨bd, ks, lb, B, m, rfl, tl, tt, hne, nd, h9, m9, b9, fun H' D' e' t' n' h' => fin H' D' e' t' n' h'⟩
theorem sh_9 (T : TxtL mg) (hr : Room 8 (xSh P w K mg base f c A outer s Hs E0').A) :
    ∃ t, PS (xSh P w K mg base f c A outer s Hs E0') (shB 9) t ∧ ∀ (D : Ends) (a0 a1 a2 a4 a5 a6 a8 a9 a10 : Option V) (H : Hp) (ks : List Str) (na fo : Addr) (la : Str → Addr) (F : Str → List Int), H na = some (.lst (ks.map V.str)) → TabL H fo ks la F → ks.Nodup → ks.length ≤ 1000 →
      (∀ H' d ta, Ex H H' → H d = none → TabT K H' d ks ta (fun n => sortI (F n)) → D.rt (.ref d) H') →
      t D [a0, a1, a2, some (.ref na), a4, a5, a6, some (.ref fo), a8, a9, a10] H := by
  have hu := hr.units
  have hu1 := Nat.lt_trans (Nat.add_lt_add_left (by decide : 1 < 64) _) hu
  refine ⟨_, ps_ret (pe_dc (own := [("name", 9)]) (g := gName 9) (tt := tYes) (tk := tVar 9) (tv := tCB (fun xs H Q => ∃ p ys, xs = [.ref p] ∧ ((SqL K H p ys ∧ ∀ l, H l = none → Q (.ref l) (upd H l (.tup ys))) ∨ (SqT K H p ys ∧ Q (.ref p) H))) (tCons (tCB (rSortedI K) (tCons (tDGet (tVar 7) (tVar 9)) tNil)) tNil)) rfl scSh.nd (pi_list (pv 3)) (blkOk_by (N := nSh) (sc := defScope sShares) (by decide +kernel))
      (fun _ _ _ _ _ => pg_name (i := 9) scSh.nd rfl (Or.inl rfl)) (fun _ _ _ _ _ => pts_nil) (fun _ _ _ _ _ => pv 9) (fun _ _ _ _ _ => pe_callTy call_tuple_of (by rfl) T.tuple (by decide +kernel) (pa_cons (pe_callB cr_sortedI (by rfl) T.sorted (by decide +kernel) (pa_cons (pe_dget hu1 (pv 7) (pv 9) (fun _ _ => rfl)) pa_nil)) pa_nil))), ?_⟩
  intro D a0 a1 a2 a4 a5 a6 a8 a9 a10 H ks na fo la F hna tl nd h9 fin
  refine ⟨_, rfl, na, rfl, ⟨_, SqL.of hna⟩, fun D1 hD1 => ?_⟩
  refine dcG walk_list (RTup K) (fun j => ks[j]?.bind fun n => some ((Sum.inr n : Key), sortI (F n))) (RTup.stab K) hD1 (by rw [List.length_map]; omega) (fun H5 e5 => SqL.of (e5 _ _ hna)) (fun i H5 x H6 _ _ h => yat_ex h) (fun j v H5 H6 R0 N0 hj e5 hy hno hsm => ?_) (fun H5 kvs e5 hx5 hps => ?_)
  · obtain ⟨rfl, hxi⟩ := hy
    rw [List.getElem?_map] at hxi
    obtain ⟨n, hn, rfl⟩ := Option.map_eq_some_iff.mp hxi
    have hm := List.mem_of_getElem? hn
    have t5 := tl.ex e5
    refine ⟨rfl, _, rfl, _, rfl, _, rfl, fo, _, rfl, t5.get hm, la n, F n, rfl, SqL.of (t5.l n hm), fun ns' p pm so hp => ?_⟩
    refine ⟨p, _, rfl, .inl ⟨SqL.of upd_same, fun l hl => ?_⟩⟩
    have es : ns' = sortI (F n) := sorted_eq (pm.trans (sortI_perm _).symm) so (sortI_sorted _)
    refine hsm (Sum.inr n) _ (by rw [hn]; rfl) _ _ ((Ex.upd hp).trans (Ex.upd hl)) ⟨l, rfl, ?_⟩
    rw [upd_same, es]
  · rw [List.length_map, range_fm, map_fm, foldA_self (by rw [List.map_map]; exact nodup_inr nd)] at hps
    obtain ⟨ta, e1, e2⟩ := kvR_tup nd hps
    exact fin H5 D1 ta e5 hD1 ⟨by rw [hx5, e1], e2⟩
end
end K7
set_option Elab.async false
set_option linter.all false
set_option maxRecDepth 100000
set_option maxHeartbeats 4000000
namespace K7
open PySem PySem.Spec PyProof.Rows PySem.Calls L2 KB KC KD KS LamX R8 Q7 CP
theorem sh_start {Pm Ps Pl : Addr} {H H1 H2 : Hp} {ks : List Str} {B : Str → List Int} {M : Str → Nat} {na bd mo fo ta : Addr} {lb la : Str → Addr} (t : Tabs (TT Pm Ps Pl) H) (hna : H na = some (.lst (ks.map V.str))) (b : TabL H bd ks lb B)
    (hmo : H mo = some (.dK ((ranked B ks).map fun n => ((Sum.inr n : Key), V.int (M n : Nat))))) (hfo : H fo = none) (h1 : H1 = upd H fo (.dK [])) (hta : H1 ta = none) (h2 : H2 = upd H1 ta (.dK [])) :
    Sh Pm Ps Pl H ks B M na bd mo fo ta lb la [] (fun _ => []) [] H2 := by
  subst h1 h2
  have e1 : Ex H (upd H fo (.dK [])) := Ex.upd hfo
  have e2 : Ex (upd H fo (.dK [])) (upd (upd H fo (.dK [])) ta (.dK [])) := Ex.upd hta
  have e := e1.trans e2
  have nta := none_of e1 hta
  have nf : ∀ {a : Addr} {o : HO}, H a = some o → fo ≠ a := fun h z => by rw [z, h] at hfo; cases hfo
  have nt : ∀ {a : Addr} {o : HO}, H a = some o → ta ≠ a := fun h z => by rw [z, h] at nta; cases nta
  have ft : fo ≠ ta := fun z => by rw [← z, upd_same] at hta; cases hta
  refine ⟨ExtN.of e, t.ext e, e _ _ hna, b.ex e, e _ _ hmo, ⟨?_, fun n hn => (nomatch hn)⟩, upd_same, ⟨nf b.d, nf hmo, ft, nt b.d, nt hmo⟩, ⟨NewN.of hfo, NewN.of nta⟩, fun n hn => (nomatch hn), fun a ha => (nomatch ha)⟩
  exact e2 _ _ upd_same
section
variable {P : Program} {w : World} {K : PySem.W.Frag} {mg : Str → Option Value} {base : Heap} {Pm Ps Pl f c : Addr} {fd : FuncData}
theorem shares_step {a : Addr} {ms : List Str} {m : Nat} {old : V} {had : Str → List Int} {H : Hp} {Q : VK} {E : XK} (hs : SqL K H a (ms.map V.str)) (hl : ms.length < 64) (hk : ∀ n ∈ ms, PyData.strOk n = true) (nd : ms.Nodup) (hm : m ≤ 60) (ho : OldT K H old had) (h9 : ∀ n, (had n).length ≤ 1000) (h0 : ∀ n ∈ ms, ∀ p ∈ had n, 0 ≤ p) (t : Tabs (TT Pm Ps Pl) H)
    (fin : ∀ ks, ks.Perm ms → sortedS ks = true → ∀ H' D ta, ExtN H H' → Tabs (TT Pm Ps Pl) H' → NewN H D → TabT K H' D ks ta (sharesF m had ks) → Q (.ref D) H') : spShares K Pm Ps Pl [.ref a, .int m, old] H Q E := by
  unfold spShares
  exact ⟨a, ms, m, old, had, rfl, hs, hl, hk, nd, hm, ho, h9, h0, t, fin⟩
theorem ok_shares {dvs : List V} (F : FnP K "shares_of" "shares_of" sShares dvs f fd) (hc : fd.code = .ref c) (T : TxtL mg) (TB : LamX.TabB base mg c Ps) (ap : Apart Pm Ps Pl) (hpb : Cal P w K mg base 1 "parts_before" ["parts", "many"] (spPB K)) (hmo : Cal P w K mg base 5 "most_of" ["before", "many"] (spMost Pm Ps Pl)) :
    FnOk P w K mg base CX0 9 f fd ["members", "many", "old"] (spShares K Pm Ps Pl) := by
  refine okC F hc scSh (fun vs H Q E h => ?_) (fun A outer s H vs Q E hr h => ?_)
  · unfold spShares at h
    obtain ⟨_, _, _, _, _, rfl, _⟩ := h; rfl
  · unfold spShares at h
    obtain ⟨a, ms, m, old, had, rfl, hs, hl, hk, nd, hm, ho, h9, h0, tb, fin⟩ := h
    have hr' : Room 8 (xSh P w K mg base f c A outer s H E).A := hr
    obtain ⟨t0, d0, q0⟩ := sh_0 (P := P) (w := w) (K := K) (base := base) (f := f) (c := c) (A := A) (outer := outer) (s := s) (Hs := H) (E0' := E) T hr'
    obtain ⟨t1, d1, q1⟩ := sh_1 (P := P) (w := w) (K := K) (base := base) (f := f) (c := c) (A := A) (outer := outer) (s := s) (Hs := H) (E0' := E) T hr'
    obtain ⟨t2, d2, q2⟩ := sh_2 (P := P) (w := w) (K := K) (base := base) (f := f) (c := c) (A := A) (outer := outer) (s := s) (Hs := H) (E0' := E) T hr'
    obtain ⟨t3, d3, q3⟩ := sh_3 (P := P) (w := w) (K := K) (base := base) (f := f) (c := c) (A := A) (outer := outer) (s := s) (Hs := H) (E0' := E) T hpb hr'
    obtain ⟨t4, d4, q4⟩ := sh_4 (P := P) (w := w) (K := K) (base := base) (f := f) (c := c) (A := A) (outer := outer) (s := s) (Hs := H) (E0' := E) T hmo hr'
    obtain ⟨t7, d7, q7⟩ := sh_7 (P := P) (w := w) (K := K) (base := base) (Pm := Pm) (Ps := Ps) (Pl := Pl) (f := f) (c := c) (A := A) (outer := outer) (s := s) (Hs := H) (E0' := E) T hr'
    obtain ⟨t8, d8, q8⟩ := sh_8 (P := P) (w := w) (K := K) (base := base) (Pm := Pm) (Ps := Ps) (Pl := Pl) (f := f) (c := c) (A := A) (outer := outer) (s := s) (Hs := H) (E0' := E) T TB ap hr'
    obtain ⟨t9, d9, q9⟩ := sh_9 (P := P) (w := w) (K := K) (base := base) (f := f) (c := c) (A := A) (outer := outer) (s := s) (Hs := H) (E0' := E) T hr'
    refine ⟨_, PSs.nox <| pss_cons d0 (pss_cons d1 (pss_cons d2 (pss_cons d3 (pss_cons d4 (pss_cons (ps_set (i := 7) scSh.nd rfl (Or.inr rfl) pe_dnewK) (pss_cons (ps_set (i := 8) scSh.nd rfl (Or.inr rfl) pe_dnewK) (pss_cons d7 (pss_cons d8 (pss_one d9))))))))), ?_⟩
    refine q0 _ _ _ _ _ _ _ _ _ _ _ H ms a hs hl fun ks na pm so hna => ?_
    have e0 : Ex H (upd H na (.lst (ks.map V.str))) := Ex.upd hna
    have ndk : ks.Nodup := pm.nodup_iff.mpr nd
    have lk : ks.length = ms.length := pm.length_eq
    refine q1 _ _ _ _ _ _ _ _ _ _ _ _ ks na upd_same (fun n hn => hk n (pm.mem_iff.mp hn)) (fun en H1 d e1 hd hdd => ?_) fun hne H1 e1 => ?_
    · subst en
      exact fin [] pm so H1 d (fun _ => 0) (ExtN.of (e0.trans e1)) (tb.ext (e0.trans e1)) (NewN.of (none_of e0 hd)) ⟨hdd, fun n hn => (nomatch hn)⟩
    · have e01 := e0.trans e1
      have ho1 : OldT K H1 old had := by
        rcases ho with ⟨od, oks, ota, e, tt, l, o⟩ | z
        · exact .inl ⟨od, oks, ota, e, tt.ex e01, l, o⟩
        · exact .inr z
      refine q2 _ _ _ _ _ _ _ _ _ _ _ H1 old had ho1 fun H2 hd oks ota e2 hhd tt hoff => ?_
      have hna2 : H2 na = some (.lst (ks.map V.str)) := e2 _ _ (e1 _ _ upd_same)
      refine q3 _ _ _ _ _ _ _ _ _ H2 ks oks m na hd ota had hna2 tt hoff ndk (by omega) h9 fun H3 bd lb e3 hbd tl => ?_
      have e03 := (e01.trans e2).trans e3
      have hB : ∀ n, (pb m (had n)).length ≤ 1000 := fun n => Nat.le_trans (pb_len m _) (h9 n)
      refine q4 _ _ _ _ _ _ _ _ _ _ H3 bd m ks lb _ tl (tb.ext e03) hne ndk (by omega) (by omega) (fun n _ => hB n) fun H4 mo e4 t4 n4 hmo4 => ?_
      refine fun fo hfo => fun ta hta => ?_
      have S := sh_start (la := fun _ => 0) t4 (e4 _ _ (e3 _ _ hna2) (fun _ z => nomatch z)) (tl.exN e4) hmo4 hfo rfl hta rfl
      refine q7 _ _ _ _ _ _ _ _ H4 ks _ _ na bd mo fo ta lb _ S ndk (fun n => pb_nodup m _) (fun n _ => hB n) (by omega) fun H5 la a9 a10 S5 => ?_
      obtain ⟨x, xs, rfl⟩ : ∃ x xs, ks = x :: xs := by
        cases ks with
        | nil => exact absurd rfl hne
        | cons x xs => exact ⟨x, xs, rfl⟩
      have ls := loop1_spec (fun n => pb m (had n)) (mostF m (fun n => pb m (had n)) (x :: xs)) (fun n => pb_nodup m _) (x :: xs) [] (fun _ => []) ndk List.nodup_nil
      refine q8 _ _ _ _ _ _ H5 H4 x xs m _ _ na bd mo fo ta lb la _ _ S5 (by omega) (fun n hn => ?_) fun H6 a10' S6 _ => ?_
      · refine Nat.le_trans (ls.2.2 n hn).1 ?_
        have := Nat.div_le_self m (x :: xs).length
        unfold mostF
        split <;> omega
      refine q9 _ _ _ _ _ _ _ _ _ _ H6 (x :: xs) na fo la _ S6.hna S6.f ndk (by omega) fun H7 d ta7 e7 hd tt7 => ?_
      have eN : ExtN H H7 := ((ExtN.of e03).trans e4).trans (S6.e.trans (ExtN.of e7))
      exact fin (x :: xs) pm so H7 d ta7 eN (S6.t.ext e7) (NewN.back (newN_of S6.e (none_of (Ex.refl _) hd)) ((ExtN.of e03).trans e4)) tt7
end
end K7
set_option Elab.async false
set_option linter.all false
set_option maxRecDepth 100000
set_option maxHeartbeats 4000000
namespace K7
open PySem PySem.Spec PyProof.Rows PySem.Calls L2 KB KC KD KS LamX R8 Q7 CP
section
variable {κ : Type} [DecidableEq κ]
def kvG (k : κ → Key) (l : List (κ × Int)) : List (Key × V) := l.map fun p => (k p.1, V.int p.2)
def look (l : List (κ × Int)) (n : κ) : Option Int := (l.find? fun p => decide (p.1 = n)).map (·.2)
def put (l : List (κ × Int)) (n : κ) (t : Int) : List (κ × Int) := if n ∈ l.map (·.1) then l.map (fun p => if p.1 = n then (p.1, t) else p) else l ++ [(n, t)]
def drop (l : List (κ × Int)) (n : κ) : List (κ × Int) := l.filter fun p => decide (p.1 ≠ n)
def SameK (k : κ → Key) : Prop := ∀ a b, k a = k b → a = b
theorem kvG_len (k : κ → Key) (l : List (κ × Int)) : (kvG k l).length = l.length := List.length_map _
theorem valV_kvG {k : κ → Key} (hk : SameK k) (l : List (κ × Int)) (n : κ) : valV (kvG k l) (k n) = (look l n).map V.int := by
  unfold valV kvG look
  rw [List.find?_map]
  have e : ((fun kv : Key × V => decide (kv.1 = k n)) ∘ fun p : κ × Int => (k p.1, V.int p.2)) = fun p => decide (p.1 = n) := by
    funext p
    show decide (k p.1 = k n) = _
    by_cases c : p.1 = n
    · simp [c]
    · rw [decide_eq_false c, decide_eq_false fun z => c (hk _ _ z)]
  rw [e]
  cases l.find? fun p => decide (p.1 = n) <;> rfl
theorem look_mem {l : List (κ × Int)} (nd : (l.map (·.1)).Nodup) {p : κ × Int} (h : p ∈ l) : look l p.1 = some p.2 := by
  induction l with
  | nil => simp at h
  | cons a l ih =>
    rw [List.map_cons, List.nodup_cons] at nd
    unfold look
    rw [List.find?_cons]
    rcases List.mem_cons.mp h with rfl | h
    · simp
    · have : ¬ a.1 = p.1 := fun e => nd.1 (e ▸ List.mem_map.mpr ⟨p, h, rfl⟩)
      simp only [this, decide_false]
      exact ih nd.2 h
theorem look_none {l : List (κ × Int)} {n : κ} : look l n = none ↔ n ∉ l.map (·.1) := by
  unfold look
  rw [Option.map_eq_none_iff, List.find?_eq_none]
  simp only [decide_eq_true_eq, List.mem_map, not_exists, not_and]
theorem look_some {l : List (κ × Int)} {n : κ} (h : n ∈ l.map (·.1)) : ∃ t, look l n = some t := by
  cases e : look l n with
  | none => exact absurd h (look_none.mp e)
  | some t => exact ⟨t, rfl⟩
theorem putK_kvG {k : κ → Key} (hk : SameK k) (l : List (κ × Int)) (n : κ) (t : Int) : putK (kvG k l) (k n) (.int t) = kvG k (put l n t) := by
  unfold putK put
  rw [valV_any, valV_kvG hk]
  by_cases c : n ∈ l.map (·.1)
  · obtain ⟨u, hu⟩ := look_some c
    rw [hu, if_pos c, if_pos (show (Option.map V.int (some u)).isSome = true from rfl)]
    unfold kvG
    rw [List.map_map, List.map_map]
    refine List.map_congr_left fun p hp => ?_
    show (if k p.1 = k n then (k p.1, V.int t) else (k p.1, V.int p.2)) = (k (if p.1 = n then (p.1, t) else p).1, V.int (if p.1 = n then (p.1, t) else p).2)
    by_cases e : p.1 = n
    · rw [if_pos e, if_pos (by rw [e])]
    · rw [if_neg e, if_neg (fun z => e (hk _ _ z))]
  · rw [look_none.mpr c, if_neg c, if_neg (by simp)]
    unfold kvG
    rw [List.map_append]
    rfl
theorem dropK_kvG {k : κ → Key} (hk : SameK k) (l : List (κ × Int)) (n : κ) : dropK (kvG k l) (k n) = kvG k (drop l n) := by
  unfold dropK kvG drop
  rw [List.filter_map]
  congr 1
  refine List.filter_congr fun x _ => ?_
  show decide (k x.1 ≠ k n) = decide (x.1 ≠ n)
  by_cases c : x.1 = n
  · simp [c]
  · rw [decide_eq_true (show x.1 ≠ n from c), decide_eq_true (show k x.1 ≠ k n from fun z => c (hk _ _ z))]
theorem put_in {l : List (κ × Int)} {n : κ} {t : Int} (h : n ∈ l.map (·.1)) : (put l n t).map (·.1) = l.map (·.1) := by
  unfold put
  rw [if_pos h, List.map_map]
  refine List.map_congr_left fun p _ => ?_
  show (if p.1 = n then (p.1, t) else p).1 = p.1
  split <;> rfl
theorem put_off {l : List (κ × Int)} {n : κ} {t : Int} (h : n ∉ l.map (·.1)) : put l n t = l ++ [(n, t)] := by
  unfold put
  rw [if_neg h]
theorem put_len {l : List (κ × Int)} {n : κ} {t : Int} : (put l n t).length ≤ l.length + 1 := by
  unfold put
  split
  · rw [List.length_map]; omega
  · rw [List.length_append]; simp
theorem put_nodup {l : List (κ × Int)} {n : κ} {t : Int} (h : (l.map (·.1)).Nodup) : ((put l n t).map (·.1)).Nodup := by
  by_cases c : n ∈ l.map (·.1)
  · rw [put_in c]; exact h
  · rw [put_off c, List.map_append, List.nodup_append]
    exact ⟨h, by simp, fun a ha b hb z => c (by rw [← (show b = n from List.mem_singleton.mp hb), ← z]; exact ha)⟩
theorem put_mem {l : List (κ × Int)} {n m : κ} {t : Int} : m ∈ (put l n t).map (·.1) ↔ m ∈ l.map (·.1) ∨ m = n := by
  by_cases c : n ∈ l.map (·.1)
  · rw [put_in c]
    exact ⟨.inl, fun h => h.elim id fun z => z ▸ c⟩
  · rw [put_off c, List.map_append, List.mem_append]
    exact or_congr Iff.rfl List.mem_singleton
theorem drop_names (l : List (κ × Int)) (n : κ) : (drop l n).map (·.1) = (l.map (·.1)).filter fun x => decide (x ≠ n) := by
  unfold drop
  rw [List.filter_map]
  rfl
end
def kS : Str → Key := Sum.inr
def kI : Int → Key := Sum.inl
theorem sameS : SameK kS := fun _ _ => Sum.inr.inj
theorem sameI : SameK kI := fun _ _ => Sum.inl.inj
theorem nodup_len {α : Type} [DecidableEq α] : ∀ {l m : List α}, l.Nodup → (∀ x ∈ l, x ∈ m) → l.length ≤ m.length
  | [], _, _, _ => Nat.zero_le _
  | x :: l, m, h, k => by
    rw [List.nodup_cons] at h
    have := nodup_len (m := m.erase x) h.2 fun y hy => (List.mem_erase_of_ne (fun z => h.1 (by rw [← z]; exact hy))).mpr (k y (List.mem_cons_of_mem _ hy))
    rw [List.length_erase, if_pos (k x List.mem_cons_self)] at this
    have : 0 < m.length := List.length_pos_of_mem (k x List.mem_cons_self)
    rw [List.length_cons]
    omega
abbrev sixS : List Str := ["a", "b", "c", "d", "e", "f"]
theorem six_ok : ∀ n ∈ sixS, n.length ≤ 1 ∧ PyData.strOk n = true := by decide +kernel
structure Gp where
  hd : List (Str × Int)
  sk : List Str
  sh : Str → List Int
  gen : Int
  pl : List (Int × Int)
def Gp.names (s : Gp) : List Str := s.hd.map (·.1)
structure GOk (m : Nat) (s : Gp) : Prop where
  m1 : 1 ≤ m
  m2 : m ≤ 60
  nd : s.names.Nodup
  six : ∀ n ∈ s.names, n ∈ sixS
  pm : s.sk.Perm s.names
  so : sortedS s.sk = true
  fair : s.sk ≠ [] → Fair m s.sk s.sh
  off : ∀ n, n ∉ s.sk → s.sh n = []
  pnd : (s.pl.map (·.1)).Nodup
  prg : ∀ p ∈ s.pl.map (·.1), p ∈ rng m
theorem GOk.ksnd {m : Nat} {s : Gp} (o : GOk m s) : s.sk.Nodup := o.pm.nodup_iff.mpr o.nd
theorem GOk.n6 {m : Nat} {s : Gp} (o : GOk m s) : s.hd.length ≤ 6 := by
  have := nodup_len o.nd o.six
  unfold Gp.names at this
  rw [List.length_map] at this
  exact this
theorem GOk.p60 {m : Nat} {s : Gp} (o : GOk m s) : s.pl.length ≤ 60 := by
  have := nodup_len o.pnd o.prg
  rw [List.length_map, rng_len] at this
  have := o.m2
  omega
theorem GOk.rg {m : Nat} {s : Gp} (o : GOk m s) (n : Str) : ∀ p ∈ s.sh n, 0 ≤ p ∧ p < (m : Int) := by
  by_cases c : n ∈ s.sk
  · exact ((o.fair (List.ne_nil_of_mem c)).good o.ksnd).rg n c
  · rw [o.off n c]
    exact fun p hp => by cases hp
theorem GOk.l9 {m : Nat} {s : Gp} (o : GOk m s) (n : Str) : (s.sh n).length ≤ 100 := by
  by_cases c : n ∈ s.sk
  · have := (o.fair (List.ne_nil_of_mem c)).hi n c
    have h2 := Nat.div_le_self m s.sk.length
    have := o.m2
    omega
  · rw [o.off n c]
    exact Nat.zero_le _
theorem GOk.good {m : Nat} {s : Gp} (o : GOk m s) (ks : List Str) : Good m ks s.sh := by
  have z : ∀ n, n ∈ s.sk ∨ s.sh n = [] := fun n => by
    by_cases c : n ∈ s.sk
    · exact .inl c
    · exact .inr (o.off n c)
  refine ⟨fun n _ => ?_, fun n _ => ?_, fun n _ => o.rg n, fun a _ b _ ne p hp hq => ?_⟩
  · rcases z n with c | c
    · exact (o.fair (List.ne_nil_of_mem c)).so n
    · rw [c]; exact List.Pairwise.nil
  · rcases z n with c | c
    · exact ((o.fair (List.ne_nil_of_mem c)).good o.ksnd).nd n c
    · rw [c]; exact List.nodup_nil
  · rcases z a with c | c
    · rcases z b with d | d
      · exact ((o.fair (List.ne_nil_of_mem c)).good o.ksnd).dj a c b d ne p hp hq
      · rw [d] at hq; cases hq
    · rw [c] at hp; cases hp
def shareS (m : Nat) (s : Gp) (hd : List (Str × Int)) (ks : List Str) : Gp := { s with hd := hd, sk := ks, sh := sharesF m s.sh ks, gen := s.gen + 1 }
theorem GOk.share {m : Nat} {s : Gp} (o : GOk m s) {hd : List (Str × Int)} {ks : List Str} (nd : (hd.map (·.1)).Nodup) (six : ∀ n ∈ hd.map (·.1), n ∈ sixS) (pm : ks.Perm (hd.map (·.1))) (so : sortedS ks = true) : GOk m (shareS m s hd ks) :=
  ⟨o.m1, o.m2, nd, six, pm, so, fun hne => fair_shares (pm.nodup_iff.mpr nd) hne fun n _ p hp => (o.rg n p hp).1, fun n hn => sharesF_out hn, o.pnd, o.prg⟩
abbrev gF (m : Nat) (len : Int) (ha sd pa : Addr) (gen : Int) : List (Str × V) := [("many", .int m), ("heard", .ref ha), ("length", .int len), ("shares", .ref sd), ("generation", .int gen), ("places", .ref pa)]
theorem gF_m {m : Nat} {len gen : Int} {ha sd pa : Addr} {x : Str} (h1 : (x == ("many" : Str)) = false) (h2 : (x == ("heard" : Str)) = false) (h3 : (x == ("length" : Str)) = false) (h4 : (x == ("shares" : Str)) = false) (h5 : (x == ("generation" : Str)) = false) (h6 : (x == ("places" : Str)) = false) : (gF m len ha sd pa gen).lookup x = none := by
  simp only [List.lookup, h1, h2, h3, h4, h5, h6]
structure TxtG (K : PySem.W.Frag) (mg : Str → Option Value) (CG : Addr) : Prop where
  cl : Cls K CG
  nM : NoAttr K CG "many"
  nH : NoAttr K CG "heard"
  nL : NoAttr K CG "length"
  nS : NoAttr K CG "shares"
  nG : NoAttr K CG "generation"
  nP : NoAttr K CG "places"
  gC : mg "Group" = some (.ref CG)
structure GAt (K : PySem.W.Frag) (CG : Addr) (m : Nat) (len : Int) (g ha sd pa : Addr) (ta : Str → Addr) (s : Gp) (H : Hp) : Prop where
  o : ∃ dx, H g = some (.ins CG dx (gF m len ha sd pa s.gen))
  h : H ha = some (.dK (kvG kS s.hd))
  t : TabT K H sd s.sk ta s.sh
  p : H pa = some (.dK (kvG kI s.pl))
  n1 : ha ≠ pa
  n2 : ha ≠ sd
  n3 : pa ≠ sd
structure Mv (g ha pa ha' : Addr) (H H' : Hp) : Prop where
  k : ∀ b o, H b = some o → (∀ ps, o ≠ .tbl ps) → b ≠ g → b ≠ ha → b ≠ pa → H' b = some o
  n : ∀ b, NewN H' b → NewN H b
  h : ha' = ha ∨ NewN H ha'
theorem NewN.refl_back {H H' : Hp} (e : ExtN H H') : ∀ b, NewN H' b → NewN H b := fun b n => n.back e
theorem Mv.of {g ha pa : Addr} {H H' : Hp} (e : ExtN H H') : Mv g ha pa ha H H' := ⟨fun b o h n _ _ _ => e b o h n, NewN.refl_back e, .inl rfl⟩
theorem Mv.trans {g ha pa ha1 ha2 : Addr} {H H1 H2 : Hp} (a : Mv g ha pa ha1 H H1) (b : Mv g ha1 pa ha2 H1 H2) : Mv g ha pa ha2 H H2 := by
  refine ⟨fun x o h n n1 n2 n3 => b.k x o (a.k x o h n n1 n2 n3) n n1 (fun z => ?_) n3, fun x h => a.n x (b.n x h), ?_⟩
  · rcases a.h with e | e
    · exact n2 (z.trans e)
    · exact e.ne h n z
  · rcases b.h with e | e
    · rw [e]; exact a.h
    · exact .inr (a.n _ e)
theorem Mv.upd {g ha pa a : Addr} {H : Hp} {o o' : HO} (h : H a = some o') (ho : ∀ ps, o' ≠ .tbl ps) (hn : ∀ ps, o ≠ .tbl ps) (w : a = g ∨ a = ha ∨ a = pa) : Mv g ha pa ha H (upd H a o) := by
  refine ⟨fun b q hb _ n1 n2 n3 => ?_, fun b n => ?_, .inl rfl⟩
  · rw [L2.upd_ne (fun z => by rcases w with e | e | e; exact n1 (z.trans e); exact n2 (z.trans e); exact n3 (z.trans e))]
    exact hb
  · by_cases e : b = a
    · subst e
      obtain ⟨ps, z⟩ := n o upd_same
      exact absurd z (hn ps)
    · intro q hq
      exact n q (by rw [L2.upd_ne e]; exact hq)
end K7
set_option Elab.async false
set_option linter.all false
set_option maxRecDepth 100000
set_option maxHeartbeats 4000000
namespace K7
open PySem PySem.Spec PyProof.Rows PySem.Calls L2 KB KC KD KS LamX R8 Q7 CP
theorem GAt.exN {K : PySem.W.Frag} {CG : Addr} {m : Nat} {len : Int} {g ha sd pa : Addr} {ta : Str → Addr} {s : Gp} {H H' : Hp} (x : GAt K CG m len g ha sd pa ta s H) (e : ExtN H H') : GAt K CG m len g ha sd pa ta s H' :=
  ⟨let ⟨dx, h⟩ := x.o; ⟨dx, e _ _ h (fun _ z => nomatch z)⟩, e _ _ x.h (fun _ z => nomatch z), x.t.exN e, e _ _ x.p (fun _ z => nomatch z), x.n1, x.n2, x.n3⟩
theorem GAt.ex {K : PySem.W.Frag} {CG : Addr} {m : Nat} {len : Int} {g ha sd pa : Addr} {ta : Str → Addr} {s : Gp} {H H' : Hp} (x : GAt K CG m len g ha sd pa ta s H) (e : Ex H H') : GAt K CG m len g ha sd pa ta s H' := x.exN (ExtN.of e)
theorem ne_id {H : Hp} {a b C dx : Addr} {fs : List (Str × V)} {ks : List (Key × V)} (h : H a = some (.ins C dx fs)) (h' : H b = some (.dK ks)) : b ≠ a := fun z => by rw [z, h] at h'; cases h'
theorem ne_it {H : Hp} {a b C dx : Addr} {fs : List (Str × V)} {xs : List V} (h : H a = some (.ins C dx fs)) (h' : H b = some (.tup xs)) : b ≠ a := fun z => by rw [z, h] at h'; cases h'
theorem tabs_ins {L : List (Addr × Str)} {H : Hp} {a C dx : Addr} {fs : List (Str × V)} {o : HO} (t : Tabs L H) (h : H a = some (.ins C dx fs)) : Tabs L (upd H a o) := fun p hp => by
  obtain ⟨ps, h1, h2, h3⟩ := t p hp
  refine ⟨ps, by rw [L2.upd_ne (fun z => by rw [z, h] at h1; cases h1)]; exact h1, h2, fun pos cv hc => ?_⟩
  obtain ⟨c, e1, e2⟩ := h3 pos cv hc
  exact ⟨c, e1, by rw [L2.upd_ne (fun z => by rw [z, h] at e2; unfold LamX.CodeO at e2; cases e2)]; exact e2⟩
theorem TabT.updI {K : PySem.W.Frag} {H : Hp} {d g C dx : Addr} {fs : List (Str × V)} {names : List Str} {ta : Str → Addr} {R : Str → List Int} {o : HO} (t : TabT K H d names ta R) (h : H g = some (.ins C dx fs)) : TabT K (upd H g o) d names ta R :=
  ⟨by rw [L2.upd_ne (ne_id h t.d)]; exact t.d, fun n hn => by rw [L2.upd_ne (ne_it h (t.t n hn))]; exact t.t n hn⟩
theorem TabT.updD {K : PySem.W.Frag} {H : Hp} {d a : Addr} {ks : List (Key × V)} {names : List Str} {ta : Str → Addr} {R : Str → List Int} {o : HO} (t : TabT K H d names ta R) (h : H a = some (.dK ks)) (n : a ≠ d) : TabT K (upd H a o) d names ta R :=
  ⟨by rw [L2.upd_ne n.symm]; exact t.d, fun x hx => by
    have := t.t x hx
    rw [L2.upd_ne (fun z => by rw [z, h] at this; cases this)]
    exact this⟩
@[irreducible] def spShareG (K : PySem.W.Frag) (CG Pm Ps Pl : Addr) : Sp := fun vs H Q _ => ∃ (m : Nat) (len : Int) (g ha sd pa : Addr) (ta : Str → Addr) (s : Gp) (hd : List (Str × Int)), vs = [.ref g] ∧ GAt K CG m len g ha sd pa ta { s with hd := hd } H ∧ GOk m s ∧ (hd.map (·.1)).Nodup ∧ (∀ n ∈ hd.map (·.1), n ∈ sixS) ∧ Tabs (TT Pm Ps Pl) H ∧
  ∀ ks, ks.Perm (hd.map (·.1)) → sortedS ks = true → ∀ H' sd' ta', Mv g ha pa ha H H' → GAt K CG m len g ha sd' pa ta' (shareS m s hd ks) H' → Tabs (TT Pm Ps Pl) H' → Q .non H'
section
variable {P : Program} {w : World} {K : PySem.W.Frag} {mg : Str → Option Value} {base : Heap} {CG Pm Ps Pl f : Addr} {fd : FuncData}
theorem shareG_step {m : Nat} {len : Int} {g ha sd pa : Addr} {ta : Str → Addr} {s : Gp} {hd : List (Str × Int)} {H : Hp} {Q : VK} {E : XK} (x : GAt K CG m len g ha sd pa ta { s with hd := hd } H) (ok : GOk m s) (nd : (hd.map (·.1)).Nodup) (six : ∀ n ∈ hd.map (·.1), n ∈ sixS) (tb : Tabs (TT Pm Ps Pl) H)
    (fin : ∀ ks, ks.Perm (hd.map (·.1)) → sortedS ks = true → ∀ H' sd' ta', Mv g ha pa ha H H' → GAt K CG m len g ha sd' pa ta' (shareS m s hd ks) H' → Tabs (TT Pm Ps Pl) H' → Q .non H') : spShareG K CG Pm Ps Pl [.ref g] H Q E := by
  unfold spShareG
  exact ⟨m, len, g, ha, sd, pa, ta, s, hd, rfl, x, ok, nd, six, tb, fin⟩
theorem scGS : FnScope ["self"] ["self"] (defScope (sGM 3)) := ⟨rfl, rfl, rfl, by decide +kernel, rfl, by decide +kernel, by decide +kernel⟩
theorem ok_share (F : FnP K "share" "Group.share" (sGM 3) [] f fd) (B : TxtG K mg CG) (T : TxtL mg) (hsh : Cal P w K mg base 9 "shares_of" ["members", "many", "old"] (spShares K Pm Ps Pl)) : FnOk P w K mg base CX0 10 f fd ["self"] (spShareG K CG Pm Ps Pl) := by
  obtain ⟨f1, fd1, G1, g1, k1, b1⟩ := hsh
  refine F.ok scGS (fun vs H Q E h => ?_) (fun cdv A outer s H vs Q E hr h => ?_)
  · unfold spShareG at h
    obtain ⟨_, _, _, _, _, _, _, _, _, rfl, _⟩ := h; rfl
  · unfold spShareG at h
    obtain ⟨m, len, g, ha, sd, pa, ta, st, hd, rfl, x, ok, nd, six, tb, fin⟩ := h
    obtain ⟨dx, ho⟩ := x.o
    refine ⟨_, PSs.nox <| pss_cons (ps_fld (pv 0) (pe_call G1 hr (by rfl) g1 k1 b1 .nil pass0 (pa_cons (pe_callTy (call_list_dK rfl) (by rfl) T.list (by decide +kernel) (pa_cons (pf 0) pa_nil)) (pa_cons (pf 0) (pa_cons (pf 0) pa_nil)))) rfl)
      (pss_one (ps_fldaug (pv 0) pe_int in_add)), ?_⟩
    refine ⟨_, rfl, g, CG, dx, _, _, rfl, ho, B.cl, B.nH, rfl, ha, _, rfl, x.h, fun q hq => ?_⟩
    have e1 : Ex H (upd H q (.lst ((kvG kS hd).map fun kv => kV kv.1))) := Ex.upd hq
    have hq1 : (upd H q (.lst ((kvG kS hd).map fun kv => kV kv.1))) q = some (.lst ((hd.map (·.1)).map V.str)) := by
      rw [upd_same]
      unfold kvG
      rw [List.map_map, List.map_map]
      rfl
    generalize upd H q (.lst ((kvG kS hd).map fun kv => kV kv.1)) = H1 at e1 hq1
    have x1 := x.ex e1
    have ho1 := e1 _ _ ho
    refine ⟨_, rfl, g, CG, dx, _, _, rfl, ho1, B.cl, B.nM, rfl, _, rfl, g, CG, dx, _, _, rfl, ho1, B.cl, B.nS, rfl, ?_⟩
    have l6 : (hd.map (·.1)).length ≤ 6 := nodup_len nd six
    refine shares_step (SqL.of hq1) (by omega) (fun n hn => (six_ok n (six n hn)).2) nd ok.m2 (.inl ⟨sd, st.sk, ta, rfl, x1.t, ?_, ok.off⟩) (fun n => Nat.le_trans (ok.l9 n) (by decide)) (fun n _ p hp => (ok.rg n p hp).1) (tb.ext e1) fun ks pm so H2 D ta2 e2 t2 nD tt2 => ?_
    · have := ok.pm.length_eq
      have := ok.n6
      unfold Gp.names at *
      rw [List.length_map] at *
      omega
    have x2 := x1.exN e2
    have ho2 := e2 _ _ ho1 (fun _ z => nomatch z)
    refine ⟨_, rfl, g, CG, dx, _, rfl, ho2, B.cl, B.nS, (by show 6 < 1000; decide), ?_⟩
    refine ⟨_, rfl, g, CG, dx, _, _, rfl, upd_same, B.cl, B.nG, rfl, _, _, rfl, rfl, _, _, upd_same, (by show 6 < 1000; decide), ?_⟩
    rw [upd2]
    show Q .non (upd H2 g (.ins CG dx (gF m len ha D pa (st.gen + 1))))
    have nDh : ha ≠ D := (nD.back (ExtN.of e1)).ne x.h (fun _ z => nomatch z)
    have nDp : pa ≠ D := (nD.back (ExtN.of e1)).ne x.p (fun _ z => nomatch z)
    refine fin ks pm so _ D ta2 ((Mv.of ((ExtN.of e1).trans e2)).trans (Mv.upd ho2 (fun _ z => nomatch z) (fun _ z => nomatch z) (.inl rfl))) ⟨⟨dx, upd_same⟩, ?_, tt2.updI ho2, ?_, x.n1, nDh, nDp⟩ (tabs_ins t2 ho2)
    · rw [L2.upd_ne (ne_id ho2 x2.h)]; exact x2.h
    · rw [L2.upd_ne (ne_id ho2 x2.p)]; exact x2.p
end
end K7
set_option Elab.async false
set_option linter.all false
set_option maxRecDepth 100000
set_option maxHeartbeats 4000000
namespace K7
open PySem PySem.Spec PyProof.Rows PySem.Calls L2 KB KC KD KS LamX R8 Q7 CP
def live (len t : Int) (l : List (Str × Int)) : List (Str × Int) := l.filter fun e => decide (t - e.2 < len)
theorem live_names {len t : Int} {l : List (Str × Int)} : ∀ n ∈ (live len t l).map (·.1), n ∈ l.map (·.1) := fun n hn => by
  obtain ⟨e, he, rfl⟩ := List.mem_map.mp hn
  exact List.mem_map.mpr ⟨e, (List.mem_filter.mp he).1, rfl⟩
theorem live_nodup {len t : Int} {l : List (Str × Int)} (h : (l.map (·.1)).Nodup) : ((live len t l).map (·.1)).Nodup := h.sublist (List.filter_sublist.map _)
def LookR (m : Nat) (len t : Int) (s s' : Gp) : Prop :=
  if (live len t s.hd).length < s.hd.length then ∃ ks, ks.Perm ((live len t s.hd).map (·.1)) ∧ sortedS ks = true ∧ s' = shareS m s (live len t s.hd) ks else s' = s
@[irreducible] def spLookG (K : PySem.W.Frag) (CG Pm Ps Pl : Addr) : Sp := fun vs H Q _ => ∃ (m : Nat) (len : Int) (g ha sd pa : Addr) (ta : Str → Addr) (s : Gp) (t : Int), vs = [.ref g, .int t] ∧ GAt K CG m len g ha sd pa ta s H ∧ GOk m s ∧ Tabs (TT Pm Ps Pl) H ∧
  ∀ s' H' ha' sd' ta', LookR m len t s s' → Mv g ha pa ha' H H' → GAt K CG m len g ha' sd' pa ta' s' H' → GOk m s' → Tabs (TT Pm Ps Pl) H' → Q .non H'
section
variable {P : Program} {w : World} {K : PySem.W.Frag} {mg : Str → Option Value} {base : Heap} {CG Pm Ps Pl f : Addr} {fd : FuncData}
theorem lookG_step {m : Nat} {len t : Int} {g ha sd pa : Addr} {ta : Str → Addr} {s : Gp} {H : Hp} {Q : VK} {E : XK} (x : GAt K CG m len g ha sd pa ta s H) (ok : GOk m s) (tb : Tabs (TT Pm Ps Pl) H)
    (fin : ∀ s' H' ha' sd' ta', LookR m len t s s' → Mv g ha pa ha' H H' → GAt K CG m len g ha' sd' pa ta' s' H' → GOk m s' → Tabs (TT Pm Ps Pl) H' → Q .non H') : spLookG K CG Pm Ps Pl [.ref g, .int t] H Q E := by
  unfold spLookG
  exact ⟨m, len, g, ha, sd, pa, ta, s, t, rfl, x, ok, tb, fin⟩
abbrev nLk : List Str := ["self", "time", "left", "name", "heard"]
theorem scLk : FnScope nLk ["self", "time"] (defScope (sGM 6)) := ⟨rfl, rfl, rfl, by decide +kernel, rfl, by decide +kernel, by decide +kernel⟩
theorem ok_look {fS : Addr} {fdS : FuncData} (F : FnP K "look" "Group.look" (sGM 6) [] f fd) (B : TxtG K mg CG) (T : TxtL mg) (FS : FnP K "share" "Group.share" (sGM 3) [] fS fdS) (mS : Meth K CG "share" fS) (GS : FnOk P w K mg base CX0 10 fS fdS ["self"] (spShareG K CG Pm Ps Pl)) : FnOk P w K mg base CX0 11 f fd ["self", "time"] (spLookG K CG Pm Ps Pl) := by
  have bS : Binds K fdS ["self"] [] := FS.bindsN fun _ _ _ _ _ _ us hl => match us, hl with | [_], _ => rfl
  refine F.ok scLk (fun vs H Q E h => ?_) (fun cdv A outer s H vs Q E hr h => ?_)
  · unfold spLookG at h
    obtain ⟨_, _, _, _, _, _, _, _, _, rfl, _⟩ := h; rfl
  · unfold spLookG at h
    obtain ⟨m, len, g, ha, sd, pa, ta, st, t, rfl, x, ok, tb, fin⟩ := h
    obtain ⟨dx, ho⟩ := x.o
    refine ⟨_, PSs.nox <| pss_cons (ps_lock (ps_setDc (i := 2) (own := [("name", 3), ("heard", 4)]) (g := gTup K 2 (gCons (gName 3) (gCons (gName 4) gNil))) (tt := tTest (tOp (rI0 fun i j => V.bl (decide (i < j))) (tOp (rI0 fun i j => V.int (i - j)) (tVar 1) (tVar 4)) (tFld K (tVar 0) "length"))) (tk := tVar 3) (tv := tVar 4) rfl scLk.nd rfl rfl (sw_dict rfl rfl rfl (by decide +kernel))
        (pi_items (pf 0)) (blkOk_by (N := nLk) (sc := defScope (sGM 6)) (by decide +kernel))
        (fun _ _ _ _ _ => pg_tup rfl (pgs_cons (pg_name (i := 3) scLk.nd rfl (Or.inl rfl)) (pgs_cons (pg_name (i := 4) scLk.nd rfl (Or.inl rfl)) pgs_nil)))
        (fun _ _ _ _ _ => pts_one (pt_cmpR op_lt (pe_op op_sub (pv 1) (pv 4)) (pf 0) (nomark _))) (fun _ _ _ _ _ => pv 3) (fun _ _ _ _ _ => pv 4)))
      (pss_one (ps_if (pt_cmpR op_lt (pe_callB call_lenD (by rfl) T.len PySem.boot_len (pa_cons (pv 2) pa_nil)) (pe_callB call_lenD (by rfl) T.len PySem.boot_len (pa_cons (pf 0) pa_nil)) (nomark _))
        (pss_cons (ps_fld (pv 0) (pv 2) rfl) (pss_one (ps_expr (pe_meth0 (pv 0) B.cl mS GS hr bS .nil pass0)))) pss_nil)), ?_⟩
    refine ⟨ha, .dK (kvG kS st.hd), x.h, trivial, fun od => ?_⟩
    have ngh : g ≠ ha := (ne_id ho x.h).symm
    have ho1 : (upd H ha (.frz od (.dK (kvG kS st.hd)))) g = some (.ins CG dx (gF m len ha sd pa st.gen)) := by rw [L2.upd_ne ngh]; exact ho
    refine ⟨_, rfl, g, CG, dx, _, _, rfl, ho1, B.cl, B.nH, rfl, ha, od, _, rfl, upd_same, fun D hD => ?_⟩
    refine dcG walk_items RInt (fun j => st.hd[j]?.bind fun e => if decide (t - e.2 < len) = true then some (kS e.1, e.2) else none) RInt.stab2 hD (by rw [kvG_len]; have := ok.n6; omega) (fun H5 e5 => e5 _ _ upd_same) (fun i H5 x H6 _ _ hy => ypair_ex hy) (fun j v H5 H6 R0 N0 hj e5 hy hno hsm => ?_) (fun H5 kvs e5 hx5 hps => ?_)
    · obtain ⟨T', x', y', rfl, hT, rfl, hx1, hy1⟩ := hy
      obtain ⟨p, hp⟩ : ∃ p, st.hd[j]? = some p := by
        rw [kvG_len] at hj
        exact ⟨_, List.getElem?_eq_getElem hj⟩
      have hk : (kvG kS st.hd)[j]? = some (kS p.1, V.int p.2) := by unfold kvG; rw [List.getElem?_map, hp]; rfl
      simp only [hk, Option.map_some, Option.some.injEq] at hx1 hy1
      subst hx1
      subst hy1
      have e6 : Ex H5 (upd H5 T' (.tup [kV (kS p.1), .int p.2])) := Ex.upd hT
      refine ⟨T', _, rfl, SqT.of upd_same, rfl, _, _, rfl, _, _, rfl, rfl, rfl, ?_⟩
      refine ⟨_, rfl, _, rfl, _, _, rfl, rfl, _, rfl, g, CG, dx, _, _, rfl, e6 _ _ (e5 _ _ ho1), B.cl, B.nL, rfl, _, _, rfl, rfl, _, rfl, ?_⟩
      by_cases c : t - p.2 < len
      · refine ifT (decide_eq_true c) ⟨_, rfl, _, rfl, ?_⟩
        exact hsm (kS p.1) p.2 (by rw [hp]; show (if decide (t - p.2 < len) = true then _ else none) = _; rw [decide_eq_true c]; rfl) _ _ (Ex.refl _) rfl
      · exact ifF (by simp [c]) (hno (by rw [hp]; show (if decide (t - p.2 < len) = true then _ else none) = _; rw [decide_eq_false c]; rfl) _ (Ex.refl _))
    · have eo : st.hd.filterMap (fun e => if decide (t - e.2 < len) = true then some (kS e.1, e.2) else none) = (live len t st.hd).map fun e => (kS e.1, e.2) := by
        unfold live
        rw [← map_fm, ← filt_fm, List.filterMap_filterMap]
        refine fm_congr fun p _ => ?_
        by_cases c : t - p.2 < len <;> simp [c]
      have ndl := live_nodup (len := len) (t := t) ok.nd
      rw [kvG_len, range_fm, eo, foldA_self (by
        rw [List.map_map]
        have : ((fun e : Key × Int => e.1) ∘ fun e : Str × Int => (kS e.1, e.2)) = kS ∘ (fun e : Str × Int => e.1) := rfl
        rw [this, ← List.map_map]
        rw [List.nodup_iff_pairwise_ne, List.pairwise_map]
        exact ndl.imp fun h z => h (sameS _ _ z))] at hps
      have hkv := kvR_int hps
      rw [List.map_map] at hkv
      have hkv : kvs = kvG kS (live len t st.hd) := hkv
      rw [hkv] at hx5
      refine ⟨e5 _ _ upd_same, ?_⟩
      have nD : D ≠ ha := fun z => by rw [z, upd_same] at hD; cases hD
      have e6 : Ex H (upd H5 ha (.dK (kvG kS st.hd))) := fun b o h => by
        by_cases z : b = ha
        · subst z
          rw [x.h] at h
          rw [upd_same]
          exact h
        · rw [L2.upd_ne z]
          refine e5 _ _ ?_
          rw [L2.upd_ne z]
          exact h
      have hx6 : (upd H5 ha (.dK (kvG kS st.hd))) D = some (.dK (kvG kS (live len t st.hd))) := by rw [L2.upd_ne nD]; exact hx5
      have nDn : H D = none := by rw [L2.upd_ne nD] at hD; exact hD
      generalize upd H5 ha (.dK (kvG kS st.hd)) = H6 at e6 hx6
      have x6 := x.ex e6
      obtain ⟨dx6, ho6⟩ := x6.o
      refine ⟨_, rfl, D, _, rfl, hx6, _, rfl, g, CG, dx6, _, _, rfl, ho6, B.cl, B.nH, rfl, ha, _, rfl, x6.h, _, _, rfl, rfl, _, rfl, ?_⟩
      rw [kvG_len, kvG_len]
      by_cases c : (live len t st.hd).length < st.hd.length
      · refine ifT (decide_eq_true (Int.ofNat_lt.mpr c)) ?_
        refine ⟨_, rfl, _, rfl, g, CG, dx6, _, rfl, ho6, B.cl, B.nH, (by show 6 < 1000; decide), ?_⟩
        show tSeq _ _ _ _ (upd H6 g (.ins CG dx6 (gF m len D sd pa st.gen)))
        have hx7 : (upd H6 g (.ins CG dx6 (gF m len D sd pa st.gen))) D = some (.dK (kvG kS (live len t st.hd))) := by rw [L2.upd_ne (ne_id ho6 hx6)]; exact hx6
        have x7 : GAt K CG m len g D sd pa ta { st with hd := live len t st.hd } (upd H6 g (.ins CG dx6 (gF m len D sd pa st.gen))) := ⟨⟨dx6, upd_same⟩, hx7, x6.t.updI ho6, by rw [L2.upd_ne (ne_id ho6 x6.p)]; exact x6.p, (fun z => by rw [z, x.p] at nDn; cases nDn), (fun z => by rw [z, x.t.d] at nDn; cases nDn), x.n3⟩
        have t7 := tabs_ins (o := .ins CG dx6 (gF m len D sd pa st.gen)) (tb.ext e6) ho6
        have m7 : Mv g ha pa D H (upd H6 g (.ins CG dx6 (gF m len D sd pa st.gen))) := by
          have a := (Mv.of (g := g) (ha := ha) (pa := pa) (ExtN.of e6)).trans (Mv.upd (o := .ins CG dx6 (gF m len D sd pa st.gen)) ho6 (fun _ z => nomatch z) (fun _ z => nomatch z) (.inl rfl))
          exact ⟨a.k, a.n, .inr (NewN.of nDn)⟩
        generalize upd H6 g (.ins CG dx6 (gF m len D sd pa st.gen)) = H7 at x7 t7 m7
        obtain ⟨dx7, ho7⟩ := x7.o
        refine ⟨_, rfl, g, dx7, _, rfl, ho7, gF_m (by decide +kernel) (by decide +kernel) (by decide +kernel) (by decide +kernel) (by decide +kernel) (by decide +kernel), shareG_step x7 ok ndl (fun n hn => ok.six n (live_names n hn)) t7 fun ks pm so H8 sd8 ta8 m8 x8 t8 => ?_⟩
        refine fin _ H8 D sd8 ta8 ?_ (m7.trans m8) x8 (ok.share ndl (fun n hn => ok.six n (live_names n hn)) pm so) t8
        unfold LookR
        rw [if_pos c]
        exact ⟨ks, pm, so, rfl⟩
      · refine ifF (by simp; omega) ?_
        refine fin st H6 ha sd ta ?_ (Mv.of (ExtN.of e6)) x6 ok (tb.ext e6)
        unfold LookR
        rw [if_neg c]
end
end K7
set_option Elab.async false
set_option linter.all false
set_option maxRecDepth 100000
set_option maxHeartbeats 4000000
namespace K7
open PySem PySem.Spec PyProof.Rows PySem.Calls L2 KB KC KD KS LamX R8 Q7 CP
theorem str_len (a b : Str) : (a ++ b).length = a.length + b.length := by
  show (a.cps ++ b.cps).size = _
  rw [Array.size_append]
  rfl
theorem js_name {i : Nat} {txt n : Str} {σ : L2.St} {H : Hp} {R : Str → Hp → Prop} (hs : σ[i]? = some (some (.str n))) (hn : n.length ≤ 900) (ht : txt.length ≤ 100) (r : ∀ out, R out H) : tJs [tFmt (tVar i), tC (V.str txt)] Str.empty σ H R := by
  have hsl : sizeLine = 16777216 := rfl
  have e0 : Str.empty.length = 0 := rfl
  refine ⟨_, hs, .inl ⟨n, rfl, by omega, n, rfl, by rw [str_len, e0]; omega, _, rfl, by rw [str_len, str_len, e0]; omega, r _⟩⟩
structure Aft (K : PySem.W.Frag) (CG Pm Ps Pl : Addr) (m : Nat) (len : Int) (g ha pa : Addr) (H : Hp) (s' : Gp) (ha' sd' : Addr) (ta' : Str → Addr) (H' : Hp) : Prop where
  mv : Mv g ha pa ha' H H'
  x : GAt K CG m len g ha' sd' pa ta' s' H'
  ok : GOk m s'
  tb : Tabs (TT Pm Ps Pl) H'
theorem Aft.refl {K : PySem.W.Frag} {CG Pm Ps Pl : Addr} {m : Nat} {len : Int} {g ha sd pa : Addr} {ta : Str → Addr} {s : Gp} {H : Hp} (x : GAt K CG m len g ha sd pa ta s H) (ok : GOk m s) (tb : Tabs (TT Pm Ps Pl) H) : Aft K CG Pm Ps Pl m len g ha pa H s ha sd ta H := ⟨Mv.of (ExtN.of (Ex.refl _)), x, ok, tb⟩
theorem Aft.trans {K : PySem.W.Frag} {CG Pm Ps Pl : Addr} {m : Nat} {len : Int} {g ha pa ha1 sd1 ha2 sd2 : Addr} {ta1 ta2 : Str → Addr} {s1 s2 : Gp} {H H1 H2 : Hp} (a : Aft K CG Pm Ps Pl m len g ha pa H s1 ha1 sd1 ta1 H1) (b : Aft K CG Pm Ps Pl m len g ha1 pa H1 s2 ha2 sd2 ta2 H2) : Aft K CG Pm Ps Pl m len g ha pa H s2 ha2 sd2 ta2 H2 := ⟨a.mv.trans b.mv, b.x, b.ok, b.tb⟩
theorem Aft.ex {K : PySem.W.Frag} {CG Pm Ps Pl : Addr} {m : Nat} {len : Int} {g ha pa ha1 sd1 : Addr} {ta1 : Str → Addr} {s1 : Gp} {H H1 H2 : Hp} (a : Aft K CG Pm Ps Pl m len g ha pa H s1 ha1 sd1 ta1 H1) (e : Ex H1 H2) : Aft K CG Pm Ps Pl m len g ha pa H s1 ha1 sd1 ta1 H2 := ⟨a.mv.trans (Mv.of (ExtN.of e)), a.x.ex e, a.ok, a.tb.ext e⟩
@[irreducible] def spNeedG (K : PySem.W.Frag) (CG CE Pm Ps Pl : Addr) : Sp := fun vs H Q E => ∃ (m : Nat) (len : Int) (g ha sd pa : Addr) (ta : Str → Addr) (s : Gp) (n : Str) (t : Int), vs = [.ref g, .str n, .int t] ∧ GAt K CG m len g ha sd pa ta s H ∧ GOk m s ∧ Tabs (TT Pm Ps Pl) H ∧ n.length ≤ 900 ∧
  ∀ s' H' ha' sd' ta', LookR m len t s s' → Aft K CG Pm Ps Pl m len g ha pa H s' ha' sd' ta' H' → (n ∉ s'.names → E (.ref CE) none H') ∧ (n ∈ s'.names → Q .non H')
@[irreducible] def spJoinG (K : PySem.W.Frag) (CG CE Pm Ps Pl : Addr) : Sp := fun vs H Q E => ∃ (m : Nat) (len : Int) (g ha sd pa : Addr) (ta : Str → Addr) (s : Gp) (n : Str) (t : Int), vs = [.ref g, .str n, .int t] ∧ GAt K CG m len g ha sd pa ta s H ∧ GOk m s ∧ Tabs (TT Pm Ps Pl) H ∧ n ∈ sixS ∧
  ∀ s' H' ha' sd' ta', LookR m len t s s' → Aft K CG Pm Ps Pl m len g ha pa H s' ha' sd' ta' H' → (n ∈ s'.names → E (.ref CE) none H') ∧
    (n ∉ s'.names → ∀ ks, ks.Perm ((put s'.hd n t).map (·.1)) → sortedS ks = true → ∀ H2 sd2 ta2, Aft K CG Pm Ps Pl m len g ha pa H (shareS m s' (put s'.hd n t) ks) ha' sd2 ta2 H2 → Q (.int (s'.gen + 1)) H2)
@[irreducible] def spLeaveG (K : PySem.W.Frag) (CG CE Pm Ps Pl : Addr) : Sp := fun vs H Q E => ∃ (m : Nat) (len : Int) (g ha sd pa : Addr) (ta : Str → Addr) (s : Gp) (n : Str) (t : Int), vs = [.ref g, .str n, .int t] ∧ GAt K CG m len g ha sd pa ta s H ∧ GOk m s ∧ Tabs (TT Pm Ps Pl) H ∧ n.length ≤ 900 ∧
  ∀ s' H' ha' sd' ta', LookR m len t s s' → Aft K CG Pm Ps Pl m len g ha pa H s' ha' sd' ta' H' → (n ∉ s'.names → E (.ref CE) none H') ∧
    (n ∈ s'.names → ∀ ks, ks.Perm ((drop s'.hd n).map (·.1)) → sortedS ks = true → ∀ H2 sd2 ta2, Aft K CG Pm Ps Pl m len g ha pa H (shareS m s' (drop s'.hd n) ks) ha' sd2 ta2 H2 → Q .non H2)
@[irreducible] def spBeatG (K : PySem.W.Frag) (CG CE Pm Ps Pl : Addr) : Sp := fun vs H Q E => ∃ (m : Nat) (len : Int) (g ha sd pa : Addr) (ta : Str → Addr) (s : Gp) (n : Str) (t : Int), vs = [.ref g, .str n, .int t] ∧ GAt K CG m len g ha sd pa ta s H ∧ GOk m s ∧ Tabs (TT Pm Ps Pl) H ∧ n.length ≤ 900 ∧
  ∀ s' H' ha' sd' ta', LookR m len t s s' → Aft K CG Pm Ps Pl m len g ha pa H s' ha' sd' ta' H' → (n ∉ s'.names → E (.ref CE) none H') ∧
    (n ∈ s'.names → ∀ H2 q, Aft K CG Pm Ps Pl m len g ha pa H { s' with hd := put s'.hd n t } ha' sd' ta' H2 → H2 q = some (.tup [.int s'.gen, .ref (ta' n)]) → Q (.ref q) H2)
def noteOk (s : Gp) (n : Str) (gen part place : Int) : Prop := n ∈ s.names ∧ gen = s.gen ∧ part ∈ s.sh n ∧ (look s.pl part).getD 0 ≤ place
@[irreducible] def spNoteG (K : PySem.W.Frag) (CG CE Pm Ps Pl : Addr) : Sp := fun vs H Q E => ∃ (m : Nat) (len : Int) (g ha sd pa : Addr) (ta : Str → Addr) (s : Gp) (n : Str) (gen part place t : Int), vs = [.ref g, .str n, .int gen, .int part, .int place, .int t] ∧ GAt K CG m len g ha sd pa ta s H ∧ GOk m s ∧ Tabs (TT Pm Ps Pl) H ∧ n.length ≤ 900 ∧
  ∀ s' H' ha' sd' ta', LookR m len t s s' → Aft K CG Pm Ps Pl m len g ha pa H s' ha' sd' ta' H' → (¬ noteOk s' n gen part place → E (.ref CE) none H') ∧
    (noteOk s' n gen part place → ∀ H2, Aft K CG Pm Ps Pl m len g ha pa H { s' with pl := put s'.pl part place } ha' sd' ta' H2 → Q .non H2)
section
variable {P : Program} {w : World} {K : PySem.W.Frag} {mg : Str → Option Value} {base : Heap} {CG CE Pm Ps Pl f : Addr} {fd : FuncData}
theorem needG_step {m : Nat} {len t : Int} {n : Str} {g ha sd pa : Addr} {ta : Str → Addr} {s : Gp} {H : Hp} {Q : VK} {E : XK} (x : GAt K CG m len g ha sd pa ta s H) (ok : GOk m s) (tb : Tabs (TT Pm Ps Pl) H) (hn : n.length ≤ 900)
    (fin : ∀ s' H' ha' sd' ta', LookR m len t s s' → Aft K CG Pm Ps Pl m len g ha pa H s' ha' sd' ta' H' → (n ∉ s'.names → E (.ref CE) none H') ∧ (n ∈ s'.names → Q .non H')) : spNeedG K CG CE Pm Ps Pl [.ref g, .str n, .int t] H Q E := by
  unfold spNeedG
  exact ⟨m, len, g, ha, sd, pa, ta, s, n, t, rfl, x, ok, tb, hn, fin⟩
theorem GAt.in_ {m : Nat} {len : Int} {g ha sd pa : Addr} {ta : Str → Addr} {s : Gp} {H : Hp} (x : GAt K CG m len g ha sd pa ta s H) (n : Str) : DGet H ha (.str n) ((look s.hd n).map V.int) := by
  have := DGet.k (k := kS n) x.h
  rw [valV_kvG sameS] at this
  exact this
theorem isS_names {s : Gp} (n : Str) : ((look s.hd n).map V.int).isSome = decide (n ∈ s.names) := by
  by_cases c : n ∈ s.names
  · obtain ⟨t, ht⟩ := look_some (l := s.hd) c
    rw [ht, decide_eq_true c]
    rfl
  · rw [look_none.mpr c, decide_eq_false c]
    rfl
abbrev nNd : List Str := ["self", "name", "time"]
theorem scNd : FnScope nNd ["self", "name", "time"] (defScope (sGM 4)) := ⟨rfl, rfl, rfl, by decide +kernel, rfl, by decide +kernel, by decide +kernel⟩
theorem ok_need {fL : Addr} {fdL : FuncData} (F : FnP K "need" "Group.need" (sGM 4) [] f fd) (B : TxtG K mg CG) (J : TxtX K mg CE) (FL : FnP K "look" "Group.look" (sGM 6) [] fL fdL) (mL : Meth K CG "look" fL) (GL : FnOk P w K mg base CX0 11 fL fdL ["self", "time"] (spLookG K CG Pm Ps Pl)) :
    FnOk P w K mg base (L2.CX P w) 12 f fd ["self", "name", "time"] (spNeedG K CG CE Pm Ps Pl) := by
  have bL : Binds K fdL ["self", "time"] [] := FL.bindsN fun _ _ _ _ _ _ us hl => match us, hl with | [_, _], _ => rfl
  refine F.ok scNd (fun vs H Q E h => ?_) (fun cdv A outer s H vs Q E hr h => ?_)
  · unfold spNeedG at h
    obtain ⟨_, _, _, _, _, _, _, _, _, _, rfl, _⟩ := h; rfl
  · unfold spNeedG at h
    obtain ⟨m, len, g, ha, sd, pa, ta, st, n, t, rfl, x, ok, tb, hn9, fin⟩ := h
    have hu := hr.units
    have hu1 := Nat.lt_trans (Nat.add_lt_add_left (by decide : 1 < 64) _) hu
    obtain ⟨dx, ho⟩ := x.o
    refine ⟨_, pss_cons (ps_expr (pe_meth (pv 0) B.cl mL GL hr bL .nil pass0 (pa_cons (pv 2) pa_nil)))
      (pss_one (ps_if (pt_cmp (pc_dnotin hu1 (pv 1) (pf 0)))
        (pss_one (ps_raise rfl (takes_of rfl rfl rfl rfl) (SkE.pmk_own1 PySem.F.excBase_ValueError J.x J.g J.k (raises_own J.b J.t) rfl (pe_joined (.cons (pe_fmt (pv 1)) (.cons pe_str .nil)))))) pss_nil)), ?_⟩
    refine ⟨_, rfl, g, dx, _, rfl, ho, gF_m (by decide +kernel) (by decide +kernel) (by decide +kernel) (by decide +kernel) (by decide +kernel) (by decide +kernel), _, rfl, lookG_step x ok tb fun s' H' ha' sd' ta' lr mv x' ok' tb' => ?_⟩
    obtain ⟨bad, good⟩ := fin s' H' ha' sd' ta' lr ⟨mv, x', ok', tb'⟩
    obtain ⟨dx', ho'⟩ := x'.o
    refine ⟨_, rfl, _, rfl, g, CG, dx', _, _, rfl, ho', B.cl, B.nH, rfl, ha', _, rfl, x'.in_ n, _, rfl, ?_⟩
    rw [isS_names]
    by_cases c : n ∈ s'.names
    · exact ifF (by simp [c]) (good c)
    · refine ifT (by simp [c]) ?_
      exact js_name rfl hn9 (by decide +kernel) fun _ => bad c
abbrev nJn : List Str := ["self", "name", "time"]
theorem scJn : FnScope nJn ["self", "name", "time"] (defScope (sGM 1)) := ⟨rfl, rfl, rfl, by decide +kernel, rfl, by decide +kernel, by decide +kernel⟩
theorem ok_join {fL fS : Addr} {fdL fdS : FuncData} (F : FnP K "join" "Group.join" (sGM 1) [] f fd) (B : TxtG K mg CG) (J : TxtX K mg CE) (FL : FnP K "look" "Group.look" (sGM 6) [] fL fdL) (mL : Meth K CG "look" fL) (GL : FnOk P w K mg base CX0 11 fL fdL ["self", "time"] (spLookG K CG Pm Ps Pl))
    (FS : FnP K "share" "Group.share" (sGM 3) [] fS fdS) (mS : Meth K CG "share" fS) (GS : FnOk P w K mg base CX0 10 fS fdS ["self"] (spShareG K CG Pm Ps Pl)) :
    FnOk P w K mg base (L2.CX P w) 12 f fd ["self", "name", "time"] (spJoinG K CG CE Pm Ps Pl) := by
  have bL : Binds K fdL ["self", "time"] [] := FL.bindsN fun _ _ _ _ _ _ us hl => match us, hl with | [_, _], _ => rfl
  have bS : Binds K fdS ["self"] [] := FS.bindsN fun _ _ _ _ _ _ us hl => match us, hl with | [_], _ => rfl
  refine F.ok scJn (fun vs H Q E h => ?_) (fun cdv A outer s H vs Q E hr h => ?_)
  · unfold spJoinG at h
    obtain ⟨_, _, _, _, _, _, _, _, _, _, rfl, _⟩ := h; rfl
  · unfold spJoinG at h
    obtain ⟨m, len, g, ha, sd, pa, ta, st, n, t, rfl, x, ok, tb, n6, fin⟩ := h
    have hn9 : n.length ≤ 900 := Nat.le_trans (six_ok n n6).1 (by decide)
    have hu := hr.units
    have hu1 := Nat.lt_trans (Nat.add_lt_add_left (by decide : 1 < 64) _) hu
    obtain ⟨dx, ho⟩ := x.o
    refine ⟨_, pss_cons (ps_expr (pe_meth (pv 0) B.cl mL GL hr bL .nil pass0 (pa_cons (pv 2) pa_nil)))
      (pss_cons (ps_if (pt_cmp (pc_din hu1 (pv 1) (pf 0)))
        (pss_one (ps_raise rfl (takes_of rfl rfl rfl rfl) (SkE.pmk_own1 PySem.F.excBase_ValueError J.x J.g J.k (raises_own J.b J.t) rfl (pe_joined (.cons (pe_fmt (pv 1)) (.cons pe_str .nil)))))) pss_nil)
      (PSs.nox <| pss_cons (ps_dput hu1 (pf 0) (pv 1) (pv 2) rfl) (pss_cons (ps_expr (pe_meth0 (pv 0) B.cl mS GS (hr.mono (by decide)) bS .nil pass0)) (pss_one (ps_ret (pf 0)))))), ?_⟩
    refine ⟨_, rfl, g, dx, _, rfl, ho, gF_m (by decide +kernel) (by decide +kernel) (by decide +kernel) (by decide +kernel) (by decide +kernel) (by decide +kernel), _, rfl, lookG_step x ok tb fun s' H' ha' sd' ta' lr mv x' ok' tb' => ?_⟩
    obtain ⟨bad, good⟩ := fin s' H' ha' sd' ta' lr ⟨mv, x', ok', tb'⟩
    obtain ⟨dx', ho'⟩ := x'.o
    refine ⟨_, rfl, _, rfl, g, CG, dx', _, _, rfl, ho', B.cl, B.nH, rfl, ha', _, rfl, x'.in_ n, _, rfl, ?_⟩
    rw [isS_names]
    by_cases c : n ∈ s'.names
    · refine ifT (by simp [c]) ?_
      exact js_name rfl hn9 (by decide +kernel) fun _ => bad c
    · refine ifF (by simp [c]) ?_
      refine ⟨_, rfl, _, rfl, g, CG, dx', _, _, rfl, ho', B.cl, B.nH, rfl, _, rfl, ha', _, rfl, DPut.k (k := kS n) x'.h (by
        rw [kvG_len]
        have := ok'.n6
        have : sizeLine = 16777216 := rfl
        omega), ?_⟩
      rw [putK_kvG sameS]
      have x2 : GAt K CG m len g ha' sd' pa ta' { s' with hd := put s'.hd n t } (upd H' ha' (.dK (kvG kS (put s'.hd n t)))) := ⟨⟨dx', by rw [L2.upd_ne (ne_id ho' x'.h).symm]; exact ho'⟩, upd_same, x'.t.updD x'.h x'.n2, by rw [L2.upd_ne x'.n1.symm]; exact x'.p, x'.n1, x'.n2, x'.n3⟩
      have t2 := tabs_dK (o := .dK (kvG kS (put s'.hd n t))) tb' x'.h
      have m2 := mv.trans (Mv.upd (o := .dK (kvG kS (put s'.hd n t))) (g := g) (ha := ha') (pa := pa) x'.h (fun _ z => nomatch z) (fun _ z => nomatch z) (.inr (.inl rfl)))
      generalize upd H' ha' (.dK (kvG kS (put s'.hd n t))) = H2 at x2 t2 m2
      obtain ⟨dx2, ho2⟩ := x2.o
      have nd2 := put_nodup (n := n) (t := t) ok'.nd
      have six2 : ∀ k ∈ (put s'.hd n t).map (·.1), k ∈ sixS := fun k hk => (put_mem.mp hk).elim (ok'.six k) fun z => z ▸ n6
      refine ⟨_, rfl, g, dx2, _, rfl, ho2, gF_m (by decide +kernel) (by decide +kernel) (by decide +kernel) (by decide +kernel) (by decide +kernel) (by decide +kernel), shareG_step x2 ok' nd2 six2 t2 fun ks pm so H3 sd3 ta3 m3 x3 t3 => ?_⟩
      obtain ⟨dx3, ho3⟩ := x3.o
      exact ⟨_, rfl, g, CG, dx3, _, _, rfl, ho3, B.cl, B.nG, rfl, good c ks pm so H3 sd3 ta3 ⟨m2.trans m3, x3, ok'.share nd2 six2 pm so, t3⟩⟩
end
end K7
set_option Elab.async false
set_option linter.all false
set_option maxRecDepth 100000
set_option maxHeartbeats 4000000
namespace K7
open PySem PySem.Spec PyProof.Rows PySem.Calls L2 KB KC KD KS LamX R8 Q7 CP
theorem flat_intsV (l : List Int) : (l.map V.int).all flatV = true := by
  rw [List.all_map, List.all_eq_true]
  intro x _
  rfl
section
variable {P : Program} {w : World} {K : PySem.W.Frag} {mg : Str → Option Value} {base : Heap} {CG CE Pm Ps Pl f : Addr} {fd : FuncData}
theorem Aft.put {m : Nat} {len : Int} {g ha pa ha1 sd1 : Addr} {ta1 : Str → Addr} {s1 : Gp} {H H1 : Hp} (a : Aft K CG Pm Ps Pl m len g ha pa H s1 ha1 sd1 ta1 H1) (hd : List (Str × Int)) :
    Mv g ha pa ha1 H (upd H1 ha1 (.dK (kvG kS hd))) ∧ GAt K CG m len g ha1 sd1 pa ta1 { s1 with hd := hd } (upd H1 ha1 (.dK (kvG kS hd))) ∧ Tabs (TT Pm Ps Pl) (upd H1 ha1 (.dK (kvG kS hd))) := by
  obtain ⟨mv, x, ok, tb⟩ := a
  obtain ⟨dx, ho⟩ := x.o
  exact ⟨mv.trans (Mv.upd (g := g) (ha := ha1) (pa := pa) x.h (fun _ z => nomatch z) (fun _ z => nomatch z) (.inr (.inl rfl))), ⟨⟨dx, by rw [L2.upd_ne (ne_id ho x.h).symm]; exact ho⟩, upd_same, x.t.updD x.h x.n2, by rw [L2.upd_ne x.n1.symm]; exact x.p, x.n1, x.n2, x.n3⟩, tabs_dK tb x.h⟩
theorem drop_nodup {l : List (Str × Int)} {n : Str} (h : (l.map (·.1)).Nodup) : ((drop l n).map (·.1)).Nodup := by
  rw [drop_names]
  exact h.filter _
abbrev nLv : List Str := ["self", "name", "time"]
theorem scLv : FnScope nLv ["self", "name", "time"] (defScope (sGM 2)) := ⟨rfl, rfl, rfl, by decide +kernel, rfl, by decide +kernel, by decide +kernel⟩
theorem ok_leave {fN fS : Addr} {fdN fdS : FuncData} (F : FnP K "leave" "Group.leave" (sGM 2) [] f fd) (B : TxtG K mg CG) (FN : FnP K "need" "Group.need" (sGM 4) [] fN fdN) (mN : Meth K CG "need" fN) (GN : FnOk P w K mg base (L2.CX P w) 12 fN fdN ["self", "name", "time"] (spNeedG K CG CE Pm Ps Pl))
    (FS : FnP K "share" "Group.share" (sGM 3) [] fS fdS) (mS : Meth K CG "share" fS) (GS : FnOk P w K mg base CX0 10 fS fdS ["self"] (spShareG K CG Pm Ps Pl)) :
    FnOk P w K mg base (L2.CX P w) 13 f fd ["self", "name", "time"] (spLeaveG K CG CE Pm Ps Pl) := by
  have bN : Binds K fdN ["self", "name", "time"] [] := FN.bindsN fun _ _ _ _ _ _ us hl => match us, hl with | [_, _, _], _ => rfl
  have bS : Binds K fdS ["self"] [] := FS.bindsN fun _ _ _ _ _ _ us hl => match us, hl with | [_], _ => rfl
  refine F.ok scLv (fun vs H Q E h => ?_) (fun cdv A outer s H vs Q E hr h => ?_)
  · unfold spLeaveG at h
    obtain ⟨_, _, _, _, _, _, _, _, _, _, rfl, _⟩ := h; rfl
  · unfold spLeaveG at h
    obtain ⟨m, len, g, ha, sd, pa, ta, st, n, t, rfl, x, ok, tb, hn9, fin⟩ := h
    have hu := hr.units
    have hu1 := Nat.lt_trans (Nat.add_lt_add_left (by decide : 1 < 64) _) hu
    obtain ⟨dx, ho⟩ := x.o
    refine ⟨_, pss_cons (ps_expr (pe_meth (pv 0) B.cl mN GN hr bN .nil (passes_call (takes_of rfl rfl rfl rfl) (fun _ _ _ _ h => h)) (pa_cons (pv 1) (pa_cons (pv 2) pa_nil))))
      (PSs.nox <| pss_cons (ps_ddel (pf 0) (pv 1)) (pss_one (ps_expr (pe_meth0 (pv 0) B.cl mS GS (hr.mono (by decide)) bS .nil pass0)))), ?_⟩
    refine ⟨_, rfl, g, dx, _, rfl, ho, gF_m (by decide +kernel) (by decide +kernel) (by decide +kernel) (by decide +kernel) (by decide +kernel) (by decide +kernel), _, rfl, _, rfl, needG_step x ok tb hn9 fun s' H' ha' sd' ta' lr af => ?_⟩
    obtain ⟨bad, good⟩ := fin s' H' ha' sd' ta' lr af
    refine ⟨bad, fun c => ?_⟩
    obtain ⟨dx', ho'⟩ := af.x.o
    refine ⟨_, rfl, g, CG, dx', _, _, rfl, ho', B.cl, B.nH, rfl, _, rfl, ha', _, kS n, rfl, af.x.h, rfl, by rw [valV_kvG sameS, isS_names]; exact decide_eq_true c, ?_⟩
    rw [dropK_kvG sameS]
    obtain ⟨m2, x2, t2⟩ := af.put (drop s'.hd n)
    generalize upd H' ha' (.dK (kvG kS (drop s'.hd n))) = H2 at x2 t2 m2
    obtain ⟨dx2, ho2⟩ := x2.o
    have nd2 := drop_nodup (n := n) af.ok.nd
    have six2 : ∀ k ∈ (drop s'.hd n).map (·.1), k ∈ sixS := fun k hk => by
      rw [drop_names] at hk
      exact af.ok.six k (List.mem_filter.mp hk).1
    exact ⟨_, rfl, g, dx2, _, rfl, ho2, gF_m (by decide +kernel) (by decide +kernel) (by decide +kernel) (by decide +kernel) (by decide +kernel) (by decide +kernel), shareG_step x2 af.ok nd2 six2 t2 fun ks pm so H3 sd3 ta3 m3 x3 t3 => good c ks pm so H3 sd3 ta3 ⟨m2.trans m3, x3, af.ok.share nd2 six2 pm so, t3⟩⟩
abbrev nBt : List Str := ["self", "name", "time"]
theorem scBt : FnScope nBt ["self", "name", "time"] (defScope (sGM 5)) := ⟨rfl, rfl, rfl, by decide +kernel, rfl, by decide +kernel, by decide +kernel⟩
theorem GOk.beat {m : Nat} {s : Gp} (o : GOk m s) {n : Str} (h : n ∈ s.names) (t : Int) : GOk m { s with hd := put s.hd n t } := by
  have e : Gp.names { s with hd := put s.hd n t } = s.names := put_in h
  refine ⟨o.m1, o.m2, ?_, ?_, ?_, o.so, o.fair, o.off, o.pnd, o.prg⟩
  · rw [e]; exact o.nd
  · rw [e]; exact o.six
  · rw [e]; exact o.pm
theorem ok_beat {fN : Addr} {fdN : FuncData} (F : FnP K "beat" "Group.beat" (sGM 5) [] f fd) (B : TxtG K mg CG) (FN : FnP K "need" "Group.need" (sGM 4) [] fN fdN) (mN : Meth K CG "need" fN) (GN : FnOk P w K mg base (L2.CX P w) 12 fN fdN ["self", "name", "time"] (spNeedG K CG CE Pm Ps Pl)) :
    FnOk P w K mg base (L2.CX P w) 13 f fd ["self", "name", "time"] (spBeatG K CG CE Pm Ps Pl) := by
  have bN : Binds K fdN ["self", "name", "time"] [] := FN.bindsN fun _ _ _ _ _ _ us hl => match us, hl with | [_, _, _], _ => rfl
  refine F.ok scBt (fun vs H Q E h => ?_) (fun cdv A outer s H vs Q E hr h => ?_)
  · unfold spBeatG at h
    obtain ⟨_, _, _, _, _, _, _, _, _, _, rfl, _⟩ := h; rfl
  · unfold spBeatG at h
    obtain ⟨m, len, g, ha, sd, pa, ta, st, n, t, rfl, x, ok, tb, hn9, fin⟩ := h
    have hu := hr.units
    have hu1 := Nat.lt_trans (Nat.add_lt_add_left (by decide : 1 < 64) _) hu
    obtain ⟨dx, ho⟩ := x.o
    refine ⟨_, pss_cons (ps_expr (pe_meth (pv 0) B.cl mN GN hr bN .nil (passes_call (takes_of rfl rfl rfl rfl) (fun _ _ _ _ h => h)) (pa_cons (pv 1) (pa_cons (pv 2) pa_nil))))
      (PSs.nox <| pss_cons (ps_dput hu1 (pf 0) (pv 1) (pv 2) rfl) (pss_one (ps_ret (pe_tup (pa_cons (pf 0) (pa_cons (pe_dget hu1 (pf 0) (pv 1) (fun _ _ => rfl)) pa_nil)))))), ?_⟩
    refine ⟨_, rfl, g, dx, _, rfl, ho, gF_m (by decide +kernel) (by decide +kernel) (by decide +kernel) (by decide +kernel) (by decide +kernel) (by decide +kernel), _, rfl, _, rfl, needG_step x ok tb hn9 fun s' H' ha' sd' ta' lr af => ?_⟩
    obtain ⟨bad, good⟩ := fin s' H' ha' sd' ta' lr af
    refine ⟨bad, fun c => ?_⟩
    obtain ⟨dx', ho'⟩ := af.x.o
    refine ⟨_, rfl, _, rfl, g, CG, dx', _, _, rfl, ho', B.cl, B.nH, rfl, _, rfl, ha', _, rfl, DPut.k (k := kS n) af.x.h (by
        rw [kvG_len]
        have := af.ok.n6
        have : sizeLine = 16777216 := rfl
        omega), ?_⟩
    rw [putK_kvG sameS]
    obtain ⟨m2, x2, t2⟩ := af.put (put s'.hd n t)
    generalize upd H' ha' (.dK (kvG kS (put s'.hd n t))) = H2 at x2 t2 m2
    obtain ⟨dx2, ho2⟩ := x2.o
    have nk : n ∈ s'.sk := af.ok.pm.mem_iff.mpr c
    refine ⟨_, rfl, g, CG, dx2, _, _, rfl, ho2, B.cl, B.nG, rfl, _, rfl, g, CG, dx2, _, _, rfl, ho2, B.cl, B.nS, rfl, _, rfl, sd', _, rfl, x2.t.get nk, (by show 2 ≤ sizeLine; decide), fun q hq => ?_⟩
    exact good c _ q (Aft.ex ⟨m2, x2, af.ok.beat c t, t2⟩ (Ex.upd hq)) upd_same
end
end K7
set_option Elab.async false
set_option linter.all false
set_option maxRecDepth 100000
set_option maxHeartbeats 4000000
namespace K7
open PySem PySem.Spec PyProof.Rows PySem.Calls L2 KB KC KD KS LamX R8 Q7 CP
theorem inV_ints (p : Int) (l : List Int) : inV (.int p) (l.map V.int) = decide (p ∈ l) := by
  unfold inV
  rw [List.any_map, Bool.eq_iff_iff, List.any_eq_true, decide_eq_true_eq]
  constructor
  · rintro ⟨x, hx, h⟩
    have h : (p == x) = true ∨ (x == p) = true := by first | exact .inl h | exact .inr h
    rcases h with h | h
    · rw [of_decide_eq_true h]; exact hx
    · rw [← of_decide_eq_true h]; exact hx
  · intro h
    exact ⟨p, h, by show (p == p) = true; exact beq_self_eq_true p⟩
section
variable {P : Program} {w : World} {K : PySem.W.Frag} {mg : Str → Option Value} {base : Heap} {CG CE Pm Ps Pl f : Addr} {fd : FuncData}
theorem GAt.place {m : Nat} {len : Int} {g ha sd pa : Addr} {ta : Str → Addr} {s : Gp} {H : Hp} (x : GAt K CG m len g ha sd pa ta s H) (n : Int) : DGet H pa (.int n) ((look s.pl n).map V.int) := by
  have := DGet.k (k := kI n) x.p
  rw [valV_kvG sameI] at this
  exact this
abbrev nNt : List Str := ["self", "name", "generation", "part", "place", "time"]
theorem scNt : FnScope nNt ["self", "name", "generation", "part", "place", "time"] (defScope (sGM 7)) := ⟨rfl, rfl, rfl, by decide +kernel, rfl, by decide +kernel, by decide +kernel⟩
theorem GOk.note {m : Nat} {s : Gp} (o : GOk m s) {p : Int} (h : p ∈ rng m) (t : Int) : GOk m { s with pl := put s.pl p t } :=
  ⟨o.m1, o.m2, o.nd, o.six, o.pm, o.so, o.fair, o.off, put_nodup o.pnd, fun q hq => (put_mem.mp hq).elim (o.prg q) fun z => z ▸ h⟩
theorem ok_note {fN : Addr} {fdN : FuncData} (F : FnP K "note" "Group.note" (sGM 7) [] f fd) (B : TxtG K mg CG) (J : TxtX K mg CE) (FN : FnP K "need" "Group.need" (sGM 4) [] fN fdN) (mN : Meth K CG "need" fN) (GN : FnOk P w K mg base (L2.CX P w) 12 fN fdN ["self", "name", "time"] (spNeedG K CG CE Pm Ps Pl)) :
    FnOk P w K mg base (L2.CX P w) 13 f fd ["self", "name", "generation", "part", "place", "time"] (spNoteG K CG CE Pm Ps Pl) := by
  have bN : Binds K fdN ["self", "name", "time"] [] := FN.bindsN fun _ _ _ _ _ _ us hl => match us, hl with | [_, _, _], _ => rfl
  refine F.ok scNt (fun vs H Q E h => ?_) (fun cdv A outer s H vs Q E hr h => ?_)
  · unfold spNoteG at h
    obtain ⟨_, _, _, _, _, _, _, _, _, _, _, _, _, rfl, _⟩ := h; rfl
  · unfold spNoteG at h
    obtain ⟨m, len, g, ha, sd, pa, ta, st, n, gen, part, place, t, rfl, x, ok, tb, hn9, fin⟩ := h
    have hu := hr.units
    have hu1 := Nat.lt_trans (Nat.add_lt_add_left (by decide : 1 < 64) _) hu
    obtain ⟨dx, ho⟩ := x.o
    refine ⟨_, pss_cons (ps_expr (pe_meth (pv 0) B.cl mN GN hr bN .nil (passes_call (takes_of rfl rfl rfl rfl) (fun _ _ _ _ h => h)) (pa_cons (pv 1) (pa_cons (pv 5) pa_nil))))
      (pss_cons (ps_if (PW.pt (pw_or (pt_cmpR op_ne (pv 2) (pf 0) (nomark _)) (pw_or1 (pt_cmpR op_notIn_seq (pv 3) (pe_dget hu1 (pf 0) (pv 1) (fun _ _ => rfl)) (by rfl)))))
        (pss_one (ps_raise rfl (takes_of rfl rfl rfl rfl) (pmk_own PySem.F.excBase_ValueError J.x J.g J.k (raises_own J.b J.t) rfl))) pss_nil)
      (pss_cons (ps_if (pt_cmpR op_lt (pv 4) (pe_dget2 hu1 (pf 0) (pv 3) pe_int ⟨rfl, rfl, rfl, rfl⟩) (nomark _))
        (pss_one (ps_raise rfl (takes_of rfl rfl rfl rfl) (pmk_own PySem.F.excBase_ValueError J.x J.g J.k (raises_own J.b J.t) rfl))) pss_nil)
      (PSs.nox <| pss_one (ps_dput hu1 (pf 0) (pv 3) (pv 4) rfl)))), ?_⟩
    refine ⟨_, rfl, g, dx, _, rfl, ho, gF_m (by decide +kernel) (by decide +kernel) (by decide +kernel) (by decide +kernel) (by decide +kernel) (by decide +kernel), _, rfl, _, rfl, needG_step x ok tb hn9 fun s' H' ha' sd' ta' lr af => ?_⟩
    obtain ⟨bad, good⟩ := fin s' H' ha' sd' ta' lr af
    refine ⟨fun c => bad fun z => c z.1, fun c => ?_⟩
    obtain ⟨dx', ho'⟩ := af.x.o
    have nk : n ∈ s'.sk := af.ok.pm.mem_iff.mpr c
    refine ⟨_, rfl, _, rfl, g, CG, dx', _, _, rfl, ho', B.cl, B.nG, rfl, rfl, _, rfl, ?_⟩
    by_cases c1 : gen = s'.gen
    · refine ifF (by simp [c1]) ?_
      refine ⟨_, rfl, _, rfl, g, CG, dx', _, _, rfl, ho', B.cl, B.nS, rfl, _, rfl, sd', _, rfl, af.x.t.get nk, ta' n, _, rfl, .inr (SqT.of (af.x.t.t n nk)), rfl, flat_intsV _, _, rfl, ?_⟩
      rw [if_pos rfl, inV_ints]
      by_cases c2 : part ∈ s'.sh n
      · refine ifF (by simp [c2]) ?_
        refine ⟨_, rfl, _, rfl, g, CG, dx', _, _, rfl, ho', B.cl, B.nP, rfl, pa, rfl, .inl ⟨_, .inl af.x.p⟩, _, rfl, _, af.x.place part, ?_⟩
        have eo : ((look s'.pl part).map V.int).getD (V.int 0) = V.int ((look s'.pl part).getD 0) := by cases look s'.pl part <;> rfl
        rw [eo]
        refine ⟨_, _, rfl, rfl, _, rfl, ?_⟩
        by_cases c3 : place < (look s'.pl part).getD 0
        · exact ifT (decide_eq_true c3) (bad fun z => by have := z.2.2.2; omega)
        · refine ifF (by simp [c3]) ?_
          refine ⟨_, rfl, _, rfl, g, CG, dx', _, _, rfl, ho', B.cl, B.nP, rfl, _, rfl, pa, _, rfl, DPut.k (k := kI part) af.x.p (by
            rw [kvG_len]
            have := af.ok.p60
            have : sizeLine = 16777216 := rfl
            omega), ?_⟩
          rw [putK_kvG sameI]
          have hp := af.ok.rg n part c2
          refine good ⟨c, c1, c2, by omega⟩ _ ⟨af.mv.trans (Mv.upd (g := g) (ha := ha') (pa := pa) af.x.p (fun _ z => nomatch z) (fun _ z => nomatch z) (.inr (.inr rfl))), ⟨⟨dx', by rw [L2.upd_ne (ne_id ho' af.x.p).symm]; exact ho'⟩, ?_, af.x.t.updD af.x.p af.x.n3, upd_same, af.x.n1, af.x.n2, af.x.n3⟩, af.ok.note ((rng_mem m part).mpr hp) place, tabs_dK af.tb af.x.p⟩
          rw [L2.upd_ne af.x.n1]
          exact af.x.h
      · exact ifT (by simp [c2]) (bad fun z => c2 z.2.2.1)
    · exact ifT (by simp [c1]) (ifT rfl (bad fun z => c1 z.2.1))
@[irreducible] def spGInit (K : PySem.W.Frag) (CG CE : Addr) : Sp := fun vs H Q E => ∃ (p dx : Addr) (m len : Int), vs = [.ref p, .int m, .int len] ∧ H p = some (.ins CG dx []) ∧ (m < 1 ∨ len < 1 → E (.ref CE) none H) ∧
  (1 ≤ m → 1 ≤ len → ∀ H' ha sd pa, (∀ b o, b ≠ p → H b = some o → H' b = some o) → H ha = none → H sd = none → H pa = none → GAt K CG m.toNat len p ha sd pa (fun _ => 0) ⟨[], [], fun _ => [], 0, []⟩ H' → Q .non H')
abbrev nGI : List Str := ["self", "many", "length"]
theorem scGI : FnScope nGI ["self", "many", "length"] (defScope (sGM 0)) := ⟨rfl, rfl, rfl, by decide +kernel, rfl, by decide +kernel, by decide +kernel⟩
theorem ok_ginit (F : FnP K "__init__" "Group.__init__" (sGM 0) [] f fd) (B : TxtG K mg CG) (J : TxtX K mg CE) : FnOk P w K mg base (L2.CX P w) 1 f fd ["self", "many", "length"] (spGInit K CG CE) := by
  refine F.ok scGI (fun vs H Q E h => ?_) (fun cdv A outer s H vs Q E hr h => ?_)
  · unfold spGInit at h
    obtain ⟨_, _, _, _, rfl, _⟩ := h; rfl
  · unfold spGInit at h
    obtain ⟨p, dx, m, len, rfl, hp, bad, good⟩ := h
    refine ⟨_, pss_cons (ps_if (PW.pt (pw_or (pt_cmpR op_lt (pv 1) pe_int (nomark _)) (pw_or1 (pt_cmpR op_lt (pv 2) pe_int (nomark _)))))
        (pss_one (ps_raise rfl (takes_of rfl rfl rfl rfl) (pmk_own PySem.F.excBase_ValueError J.x J.g J.k (raises_own J.b J.t) rfl))) pss_nil)
      (PSs.nox <| pss_cons (ps_fld (pv 0) (pv 1) rfl) (pss_cons (ps_fld (pv 0) pe_dnewK rfl) (pss_cons (ps_fld (pv 0) (pv 2) rfl) (pss_cons (ps_fld (pv 0) pe_dnewK rfl) (pss_cons (ps_fld (pv 0) pe_int rfl) (pss_one (ps_fld (pv 0) pe_dnewK rfl))))))), ?_⟩
    refine ⟨_, rfl, _, _, rfl, rfl, _, rfl, ?_⟩
    by_cases c1 : m < 1
    · exact ifT (decide_eq_true c1) (ifT rfl (bad (.inl c1)))
    · refine ifF (by simp [c1]) ⟨_, rfl, _, _, rfl, rfl, _, rfl, ?_⟩
      by_cases c2 : len < 1
      · exact ifT (decide_eq_true c2) (bad (.inr c2))
      · refine ifF (by simp [c2]) ?_
        refine ⟨_, rfl, _, rfl, p, CG, dx, _, rfl, hp, B.cl, B.nM, (by show 0 < 1000; decide), ?_⟩
        refine fun ha hha => ?_
        have n1 : ha ≠ p := fun z => by rw [z, upd_same] at hha; cases hha
        have hha0 : H ha = none := by rw [L2.upd_ne n1] at hha; exact hha
        refine ⟨_, rfl, p, CG, dx, _, rfl, by rw [L2.upd_ne n1.symm]; exact upd_same, B.cl, B.nH, (by show 1 < 1000; decide), ?_⟩
        refine ⟨_, rfl, _, rfl, p, CG, dx, _, rfl, upd_same, B.cl, B.nL, (by show 2 < 1000; decide), ?_⟩
        rw [upd2]
        refine fun sd hsd => ?_
        have n2 : sd ≠ p := fun z => by rw [z, upd_same] at hsd; cases hsd
        rw [L2.upd_ne n2] at hsd
        have n3 : sd ≠ ha := fun z => by rw [z, upd_same] at hsd; cases hsd
        rw [L2.upd_ne n3, L2.upd_ne n2] at hsd
        refine ⟨_, rfl, p, CG, dx, _, rfl, by rw [L2.upd_ne n2.symm]; exact upd_same, B.cl, B.nS, (by show 3 < 1000; decide), ?_⟩
        refine ⟨_, rfl, p, CG, dx, _, rfl, upd_same, B.cl, B.nG, (by show 4 < 1000; decide), ?_⟩
        rw [upd2]
        refine fun pa hpa => ?_
        have n4 : pa ≠ p := fun z => by rw [z, upd_same] at hpa; cases hpa
        rw [L2.upd_ne n4] at hpa
        have n5 : pa ≠ sd := fun z => by rw [z, upd_same] at hpa; cases hpa
        rw [L2.upd_ne n5, L2.upd_ne n4] at hpa
        have n6 : pa ≠ ha := fun z => by rw [z, upd_same] at hpa; cases hpa
        rw [L2.upd_ne n6, L2.upd_ne n4] at hpa
        refine ⟨_, rfl, p, CG, dx, _, rfl, by rw [L2.upd_ne n4.symm]; exact upd_same, B.cl, B.nP, (by show 5 < 1000; decide), ?_⟩
        have em : ((m.toNat : Nat) : Int) = m := Int.toNat_of_nonneg (by omega)
        refine good (by omega) (by omega) _ ha sd pa (fun b o n h => ?_) hha0 hsd hpa ⟨⟨dx, ?_⟩, ?_, ⟨?_, fun n hn => (nomatch hn)⟩, ?_, n6.symm, n3.symm, n5⟩
        · rw [L2.upd_ne n, L2.upd_ne (fun z => by rw [z, hpa] at h; cases h), L2.upd_ne n, L2.upd_ne (fun z => by rw [z, hsd] at h; cases h), L2.upd_ne n, L2.upd_ne (fun z => by rw [z, hha0] at h; cases h), L2.upd_ne n]
          exact h
        · rw [upd_same]
          skip
          rw [← em]
          rfl
        · rw [L2.upd_ne n1, L2.upd_ne n6.symm, L2.upd_ne n1, L2.upd_ne n3.symm, L2.upd_ne n1, upd_same]; rfl
        · rw [L2.upd_ne n2, L2.upd_ne n5.symm, L2.upd_ne n2, upd_same]; rfl
        · rw [L2.upd_ne n4, upd_same]; rfl
end
end K7
set_option Elab.async false
set_option linter.all false
set_option maxRecDepth 100000
set_option maxHeartbeats 4000000
namespace K7
open PySem PySem.Spec PyProof.Rows PySem.Calls L2 KB KC KD KS LamX R8 Q7 CP
def leS (a b : Str) : Prop := a.cps.toList ≤ b.cps.toList
theorem leS_trans {a b c : Str} (h : leS a b) (k : leS b c) : leS a c := List.le_trans h k
theorem leS_anti {a b : Str} (h : leS a b) (k : leS b a) : a = b := by
  have e := List.le_antisymm h k
  rw [Array.toList_inj] at e
  cases a; cases b
  simp only at e
  rw [e]
theorem leS_of {a b : Str} (h : (!ltCps b.cps.toList a.cps.toList) = true) : leS a b := by
  rw [ltCps_eq] at h
  have : ¬ b.cps.toList < a.cps.toList := by simpa using h
  exact List.not_lt.mp this
theorem rising_pw : ∀ (l : List Str) (p : Str), risingS p l = true → (p :: l).Pairwise leS
  | [], p, _ => List.pairwise_singleton _ _
  | x :: r, p, h => by
    have h2 : (!ltCps x.cps.toList p.cps.toList && risingS x r) = true := h
    rw [Bool.and_eq_true] at h2
    have ih := rising_pw r x h2.2
    have px := leS_of h2.1
    refine List.Pairwise.cons (fun y hy => ?_) ih
    rcases List.mem_cons.mp hy with z | z
    · rw [z]; exact px
    · exact leS_trans px (List.rel_of_pairwise_cons ih z)
theorem sorted_pw {l : List Str} (h : sortedS l = true) : l.Pairwise leS := by
  cases l with
  | nil => exact .nil
  | cons x r => exact rising_pw r x h
theorem sorted_un {a b : List Str} (p : a.Perm b) (ha : sortedS a = true) (hb : sortedS b = true) : a = b :=
  p.eq_of_pairwise (fun _ _ _ _ h k => leS_anti h k) (sorted_pw ha) (sorted_pw hb)
theorem sorted_of_pw {l : List Str} (h : l.Pairwise leS) : sortedS l = true := by
  refine sortedS_of_pairwise l (h.imp fun {a b} k => ?_)
  rw [ltCps_eq]
  exact decide_eq_false (List.not_lt.mpr k)
theorem ms_sorted {l ks : List Str} (pm : ks.Perm l) (so : sortedS ks = true) : (l.mergeSort fun a b => decide (a.cps.toList ≤ b.cps.toList)) = ks := by
  have p2 : (l.mergeSort fun a b => decide (a.cps.toList ≤ b.cps.toList)).Perm l := List.mergeSort_perm ..
  refine sorted_un (p2.trans pm.symm) (sorted_of_pw ?_) so
  have h := List.pairwise_mergeSort (le := fun a b : Str => decide (a.cps.toList ≤ b.cps.toList)) (fun a b c h k => decide_eq_true (List.le_trans (of_decide_eq_true h) (of_decide_eq_true k))) (fun a b => by
    rw [Bool.or_eq_true, decide_eq_true_eq, decide_eq_true_eq]
    exact List.le_total _ _) l
  exact h.imp fun {a b} k => of_decide_eq_true k
theorem eqv_strs (a b : List Str) : PyData.eqv (.list (a.map PyData.str)) (.list (b.map PyData.str)) = decide (a = b) := by
  show PyData.eqvAll _ _ = _
  induction a generalizing b with
  | nil => cases b <;> simp [PyData.eqvAll]
  | cons x r ih =>
    cases b with
    | nil => simp [PyData.eqvAll]
    | cons y q =>
      rw [List.map_cons, List.map_cons]
      unfold PyData.eqvAll
      rw [ih q]
      have e1 : PyData.eqv (.str x) (.str y) = decide (x = y) := by
        show (x == y) = _
        rw [Bool.eq_iff_iff, decide_eq_true_eq, beq_iff_eq]
      rw [e1, Bool.eq_iff_iff]
      simp
theorem eqv_intsL (a b : List Int) : PyData.eqv (.list (a.map PyData.int)) (.list (b.map PyData.int)) = decide (a = b) := by
  show PyData.eqvAll _ _ = _
  induction a generalizing b with
  | nil => cases b <;> simp [PyData.eqvAll]
  | cons x r ih =>
    cases b with
    | nil => simp [PyData.eqvAll]
    | cons y q =>
      rw [List.map_cons, List.map_cons]
      unfold PyData.eqvAll
      rw [ih q]
      have e1 : PyData.eqv (.int x) (.int y) = decide (x = y) := by
        show (x == y) = _
        rw [Bool.eq_iff_iff, decide_eq_true_eq, beq_iff_eq]
      rw [e1, Bool.eq_iff_iff]
      simp
theorem dp_intsL {K : PySem.W.Frag} {H : Hp} : ∀ ns : List Int, DpAll K H (ns.map V.int) (ns.map PyData.int)
  | [] => .nil
  | n :: ns => .cons (.int _) (dp_intsL ns)
theorem lay_intsL : ∀ ns : List Int, PyData.canLayAll0 (ns.map PyData.int) = true
  | [] => by simp [PyData.canLayAll0]
  | n :: ns => by
    rw [List.map_cons]
    unfold PyData.canLayAll0
    rw [lay_intsL ns]
    simp [PyData.canLay0]
theorem depth_intsL : ∀ ns : List Int, PyData.depthAll (ns.map PyData.int) ≤ 3
  | [] => by simp [PyData.depthAll]
  | p :: S => by
    have h := depth_intsL S
    rw [List.map_cons]
    unfold PyData.depthAll
    have : (PyData.int p).depth ≤ 2 := by simp [PyData.depth]
    omega
theorem sh_intsL (S : List Int) : SeqAt.shaped (.list (S.map PyData.int)) = true := by
  have h := depth_intsL S
  unfold SeqAt.shaped
  rw [Bool.and_eq_true, decide_eq_true_eq]
  refine ⟨?_, ?_⟩
  · unfold PyData.canLay0
    exact lay_intsL S
  · unfold PyData.depth
    omega
def rSortedTI (K : PySem.W.Frag) : List V → Hp → VK → Prop := fun vs H Q => ∃ (a : Addr) (ns : List Int), vs = [V.ref a] ∧ SqT K H a (ns.map V.int) ∧
  ∀ (ns' : List Int) (p : Addr), ns'.Perm ns → ns'.Pairwise (· ≤ ·) → H p = none → Q (.ref p) (upd H p (.lst (ns'.map V.int)))
theorem cr_sortedTI {X : Cx} : CallR X (.builtin "sorted") (rSortedTI X.K) := by
  intro pins s σ H vs us Q I r h
  obtain ⟨a, ns, rfl, hs, q⟩ := h
  obtain ⟨its, rv, hl, hz⟩ := I.tuple hs
  rw [Vals.ref1 r]
  have hi := rv.ints
  refine SrtU.sorted_ordT SrtO.swo_int hl (by rw [← rv.length]; exact hz) (fun h2 h₁ a' _ _ => SrtO.ints_sortable hi h2) fun out h1 h2 => ?_
  obtain ⟨k1, k2, k3⟩ := SrtO.ints_out hi h1 h2
  obtain ⟨ep, he'⟩ := PyProof.Rows.sortedAll_at s.heap its out.toArray
  have hlen : ((out.map SrtO.iv).map V.int).length ≤ sizeLine := by
    rw [List.length_map, k2.length_eq]
    rw [List.length_map] at hz
    exact hz
  exact ⟨.ref _, upd H (s.heap.objs.size + 1) (.lst ((out.map SrtO.iv).map V.int)), I.laid (t' := s.toks) (fun _ _ => PyProof.Rows.sortedAll_old) (Nat.le_succ _) ⟨hlen, out, ep, vals_of_ints k1, he'⟩, rfl, q _ _ k2 k3 (I.hok.fresh (Nat.le_succ _))⟩
end K7
set_option Elab.async false
set_option linter.all false
set_option maxRecDepth 100000
set_option maxHeartbeats 4000000
namespace K7
open PySem PySem.Spec PyProof.Rows PySem.Calls L2 KB KC KD KS LamX R8 Q7 CP
abbrev nFa : List Str := ["members", "many", "old", "found", "names", "given", "name", "sizes", "before", "stays", "part"]
theorem scFa : FnScope nFa ["members", "many", "old", "found"] (defScope sFair) := ⟨rfl, rfl, rfl, by decide +kernel, rfl, by decide +kernel, by decide +kernel⟩
structure FairP (m : Nat) (ks oks : List Str) (had R : Str → List Int) : Prop where
  nd : ks.Nodup
  so : sortedS ks = true
  l6 : ks.length ≤ 6
  ok : ∀ n ∈ ks, PyData.strOk n = true
  m60 : m ≤ 60
  fair : ks ≠ [] → Fair m ks R
  stay : ∀ n ∈ ks, min (had n).length (m / ks.length) ≤ ((had n).filter fun p => decide (p ∈ R n)).length
  rg : ∀ n ∈ ks, ∀ p ∈ had n, 0 ≤ p ∧ p < (m : Int)
  off : ∀ n, n ∉ oks → had n = []
  l9 : ∀ n, (had n).length ≤ 1000
theorem FairP.r9 {m : Nat} {ks oks : List Str} {had R : Str → List Int} (a : FairP m ks oks had R) : ∀ n ∈ ks, (R n).length ≤ 100 := fun n hn => by
  have := (a.fair (List.ne_nil_of_mem hn)).hi n hn
  have := Nat.div_le_self m ks.length
  have := a.m60
  omega
structure Fa (K : PySem.W.Frag) (na fo od : Addr) (ks oks : List Str) (fta ota : Str → Addr) (had R : Str → List Int) (H : Hp) : Prop where
  hna : H na = some (.lst (ks.map V.str))
  f : TabT K H fo ks fta R
  o : TabT K H od oks ota had
theorem Fa.ex {K : PySem.W.Frag} {na fo od : Addr} {ks oks : List Str} {fta ota : Str → Addr} {had R : Str → List Int} {H H' : Hp} (a : Fa K na fo od ks oks fta ota had R H) (e : Ex H H') : Fa K na fo od ks oks fta ota had R H' := ⟨e _ _ a.hna, a.f.ex e, a.o.ex e⟩
abbrev xFa (P : Program) (w : World) (K : PySem.W.Frag) (mg : Str → Option Value) (base : Heap) (f : Addr) (cdv : Value) (A : Around) (outer : List PySem.Env) (s : Shared) (H0 : Hp) (E0' : XK) : Cx := (cxOf CX0 P w K mg base nFa "_law_fair" (defScope sFair) f cdv A outer s H0 E0').nox
abbrev faB (k : Nat) : Stmt := (defBody sFair).getD k pass0'
theorem flat_nil {R : Str → List Int} : Q7.flat R [] = [] := rfl
theorem flat_snoc {R : Str → List Int} (l : List Str) (n : Str) : Q7.flat R (l ++ [n]) = Q7.flat R l ++ R n := by
  unfold Q7.flat
  rw [List.map_append, List.flatten_append]
  simp
theorem rg_rng (m : Nat) : rgV 0 (m : Int) = (rng m).map V.int := by
  unfold rgV rng
  rw [List.map_map, show ((m : Int) - 0).toNat = m by omega]
  refine List.map_congr_left fun i _ => ?_
  show V.int (0 + (i : Int)) = V.int (i : Int)
  rw [Int.zero_add]
section
variable {P : Program} {w : World} {K : PySem.W.Frag} {mg : Str → Option Value} {base : Heap} {f : Addr} {cdv : Value} {A : Around} {outer : List PySem.Env} {s : Shared} {Hs : Hp} {E0' : XK}
theorem fa_0 (T : TxtL mg) (hr : Room 2 (xFa P w K mg base f cdv A outer s Hs E0').A) :
    ∃ t, PS (xFa P w K mg base f cdv A outer s Hs E0') (faB 0) t ∧ ∀ (D : Ends) (a1 a2 a3 a4 a5 a6 a7 a8 a9 a10 : Option V) (H : Hp) (ml : Addr) (ms : List Str), SqL K H ml (ms.map V.str) → ms.length < 64 →
      (∀ H' ks na gv, ks.Perm ms → sortedS ks = true → Ex H H' → H' na = some (.lst (ks.map V.str)) → H' gv = some (.lst []) → D.nx [some (.ref ml), a1, a2, a3, some (.ref na), some (.ref gv), a6, a7, a8, a9, a10] H') →
      t D [some (.ref ml), a1, a2, a3, a4, a5, a6, a7, a8, a9, a10] H := by
  refine ⟨_, ps_par (i := 4) (j := 5) rfl scFa.nd rfl rfl (by decide) rfl rfl (pa_cons (pe_callB cr_sortedS (by rfl) T.sorted (by decide +kernel) (pa_cons (pv 0) pa_nil)) (pa_cons (pe_lst pa_nil) pa_nil)) rfl, ?_⟩
  intro D a1 a2 a3 a4 a5 a6 a7 a8 a9 a10 H ml ms hs h64 fin
  refine ⟨_, rfl, ml, ms, rfl, hs, h64, fun ks na pm so hna => ⟨(by show 0 ≤ sizeLine; decide), fun gv hgv => ⟨_, _, rfl, ?_⟩⟩⟩
  exact fin _ ks na gv pm so ((Ex.upd hna).trans (Ex.upd hgv)) (Ex.upd hgv _ _ upd_same) upd_same
theorem fa_1 (T : TxtL mg) (hr : Room 2 (xFa P w K mg base f cdv A outer s Hs E0').A) :
    ∃ t, PS (xFa P w K mg base f cdv A outer s Hs E0') (faB 1) t ∧ ∀ (D : Ends) (a0 a1 a2 a5 a6 a7 a8 a9 a10 : Option V) (H : Hp) (m : Nat) (na fo od : Addr) (ks oks : List Str) (fta ota : Str → Addr) (had R : Str → List Int), Fa K na fo od ks oks fta ota had R H → FairP m ks oks had R →
      (∀ H', Ex H H' → D.nx [a0, a1, a2, some (.ref fo), some (.ref na), a5, a6, a7, a8, a9, a10] H') →
      t D [a0, a1, a2, some (.ref fo), some (.ref na), a5, a6, a7, a8, a9, a10] H := by
  refine ⟨_, ps_if (pt_cmpR (op_neD hr.units) (pe_callB (CP.cr_sortDS rfl (u66 hr)) (by rfl) T.sorted (by decide +kernel) (pa_cons (pv 3) pa_nil)) (pv 4) (nomark _)) (pss_one (ps_ret pe_bl)) pss_nil, ?_⟩
  intro D a0 a1 a2 a5 a6 a7 a8 a9 a10 H m na fo od ks oks fta ota had R x fp fin
  refine ⟨_, rfl, fo, _, ks, rfl, x.f.d, keys_map ks, fun D1 hD1 => ?_⟩
  rw [ms_sorted (List.Perm.refl ks) fp.so]
  refine ⟨_, rfl, .list (ks.map PyData.str), .list (ks.map PyData.str), .lst (SqL.of upd_same) (dp_strs ks), .lst (SqL.of (Ex.upd hD1 _ _ x.hna)) (dp_strs ks), sh_strs fp.ok, sh_strs fp.ok, _, rfl, ?_⟩
  rw [eqv_strs]
  exact ifF (by simp) (fin _ (Ex.upd hD1))
theorem fa_2 (T : TxtL mg) (hr : Room 2 (xFa P w K mg base f cdv A outer s Hs E0').A) :
    ∃ t, PS (xFa P w K mg base f cdv A outer s Hs E0') (faB 2) t ∧ ∀ (D : Ends) (a0 a1 a2 a6 a7 a8 a9 a10 : Option V) (H : Hp) (m : Nat) (na fo od gv : Addr) (ks oks : List Str) (fta ota : Str → Addr) (had R : Str → List Int), Fa K na fo od ks oks fta ota had R H → FairP m ks oks had R → H gv = some (.lst []) →
      (∀ H' gv' a6', Ex H H' → H' gv' = some (.lst ((Q7.flat R ks).map V.int)) → D.nx [a0, a1, a2, some (.ref fo), some (.ref na), some (.ref gv'), a6', a7, a8, a9, a10] H') →
      t D [a0, a1, a2, some (.ref fo), some (.ref na), some (.ref gv), a6, a7, a8, a9, a10] H := by
  have hu := hr.units
  have hu1 := Nat.lt_trans (Nat.add_lt_add_left (by decide : 1 < 64) _) hu
  refine ⟨_, ps_for PassesOwn.never rfl (pi_list (pv 4)) (pg_name (i := 6) scFa.nd rfl (Or.inr rfl)) (pss_one (ps_set (i := 5) scFa.nd rfl (Or.inl rfl) (pe_op op_cat (pv 5) (pe_callTy call_list_of (by rfl) T.list (by decide +kernel) (pa_cons (pe_dget hu1 (pv 3) (pv 6) (fun _ _ => rfl)) pa_nil))))), ?_⟩
  intro D a0 a1 a2 a6 a7 a8 a9 a10 H m na fo od gv ks oks fta ota had R x fp hgv fin
  refine ⟨_, rfl, na, rfl, ⟨_, SqL.of x.hna⟩, for_list (xs := ks.map V.str) (fun i σ H2 => ∃ gv a6, σ = [a0, a1, a2, some (.ref fo), some (.ref na), some (.ref gv), a6, a7, a8, a9, a10] ∧ Ex H H2 ∧ H2 gv = some (.lst ((Q7.flat R (ks.take i)).map V.int)) ∧ (Q7.flat R (ks.take i)).length ≤ 100 * i)
    ⟨gv, a6, rfl, Ex.refl _, by rw [List.take_zero]; exact hgv, by rw [List.take_zero]; exact Nat.zero_le _⟩ (fun i σ H2 _ ⟨_, _, _, e, _⟩ => SqL.of (e _ _ x.hna)) ?_ ?_⟩
  · rintro i v σ H2 hv ⟨gv, a6, rfl, e2, hg2, hl2⟩
    rw [List.getElem?_map] at hv
    obtain ⟨n, hn, rfl⟩ := Option.map_eq_some_iff.mp hv
    have hnm := List.mem_of_getElem? hn
    have hi := (List.getElem?_eq_some_iff.mp hn).1
    have tk : ks.take (i + 1) = ks.take i ++ [n] := by rw [List.take_succ, hn]; rfl
    have x2 := x.ex e2
    have r9 := fp.r9 n hnm
    have l6 := fp.l6
    refine ⟨_, rfl, _, rfl, _, rfl, fo, _, rfl, x2.f.get hnm, fta n, _, rfl, .inr (SqT.of (x2.f.t n hnm)), fun l hl => ?_⟩
    refine ⟨gv, l, _, _, rfl, rfl, Ex.upd hl _ _ hg2, upd_same, ?_, fun q hq => ?_⟩
    · rw [List.length_map, List.length_map]
      have : sizeLine = 16777216 := rfl
      omega
    · refine ⟨_, _, rfl, (e2.trans (Ex.upd hl)).trans (Ex.upd hq), ?_, ?_⟩
      · rw [upd_same, tk, flat_snoc, List.map_append]
      · rw [tk, flat_snoc, List.length_append]
        omega
  · rintro σ H2 ⟨gv, a6, rfl, e2, hg2, _⟩
    rw [List.length_map, List.take_length] at hg2
    exact fin H2 gv a6 e2 hg2
theorem fa_3 (T : TxtL mg) (hr : Room 2 (xFa P w K mg base f cdv A outer s Hs E0').A) :
    ∃ t, PS (xFa P w K mg base f cdv A outer s Hs E0') (faB 3) t ∧ ∀ (D : Ends) (a0 a1 a2 a5 a6 a7 a8 a9 a10 : Option V) (H : Hp) (m : Nat) (na fo od : Addr) (ks oks : List Str) (fta ota : Str → Addr) (had R : Str → List Int), Fa K na fo od ks oks fta ota had R H → FairP m ks oks had R →
      (∀ H' sv, Ex H H' → H' sv = some (.lst ((ks.map fun n => ((R n).length : Int)).map V.int)) → D.nx [a0, a1, a2, some (.ref fo), some (.ref na), a5, a6, some (.ref sv), a8, a9, a10] H') →
      t D [a0, a1, a2, some (.ref fo), some (.ref na), a5, a6, a7, a8, a9, a10] H := by
  have hu := hr.units
  have hu1 := Nat.lt_trans (Nat.add_lt_add_left (by decide : 1 < 64) _) hu
  refine ⟨_, ps_setLc (i := 7) (own := [("name", 6)]) (g := gName 6) (tt := tYes) (te := tCB (fun xs H Q => ∃ p ys, xs = [.ref p] ∧ (SqL K H p ys ∨ SqT K H p ys) ∧ Q (.int ys.length) H) (tCons (tDGet (tVar 3) (tVar 6)) tNil)) rfl scFa.nd rfl rfl (sw_true rfl rfl rfl (by decide +kernel)) (pi_list (pv 4)) (blkOk_by (N := nFa) (sc := defScope sFair) (by decide +kernel))
      (fun _ _ _ _ _ => pg_name (i := 6) scFa.nd rfl (Or.inl rfl)) (fun _ _ _ _ _ => pts_nil) (fun _ _ _ _ _ => pe_callB call_len_seq (by rfl) T.len PySem.boot_len (pa_cons (pe_dget hu1 (pv 3) (pv 6) (fun _ _ => rfl)) pa_nil)), ?_⟩
  intro D a0 a1 a2 a5 a6 a7 a8 a9 a10 H m na fo od ks oks fta ota had R x fp fin
  have l6 := fp.l6
  refine ⟨_, rfl, na, rfl, ⟨_, SqL.of x.hna⟩, fun D1 hD1 => ?_⟩
  refine lcG walk_list RInt (fun j => ks[j]?.bind fun n => some ((R n).length : Int)) RInt.stab hD1 (by rw [List.length_map]; omega) (fun H5 e5 => SqL.of (e5 _ _ x.hna)) (fun i H5 x H6 _ _ h => yat_ex h) (fun j v H5 H6 R0 N0 hj e5 hy hno hsm => ?_) (fun H5 xs e5 hx5 hps => ?_)
  · obtain ⟨rfl, hxi⟩ := hy
    rw [List.getElem?_map] at hxi
    obtain ⟨n, hn, rfl⟩ := Option.map_eq_some_iff.mp hxi
    have hnm := List.mem_of_getElem? hn
    have x5 := x.ex e5
    refine ⟨rfl, _, rfl, _, rfl, fo, _, rfl, x5.f.get hnm, fta n, _, rfl, .inr (SqT.of (x5.f.t n hnm)), ?_⟩
    rw [List.length_map]
    exact hsm _ (by rw [hn]; rfl) _ _ (Ex.refl _) rfl
  · rw [List.length_map, range_fm, map_fm] at hps
    rw [rint_map hps] at hx5
    exact fin H5 D1 e5 hx5
theorem fa_4 (T : TxtL mg) (hr : Room 2 (xFa P w K mg base f cdv A outer s Hs E0').A) :
    ∃ t, PS (xFa P w K mg base f cdv A outer s Hs E0') (faB 4) t ∧ ∀ (D : Ends) (a0 a1 a2 a3 a5 a6 a7 a8 a9 a10 : Option V) (H : Hp) (ks : List Str) (na : Addr), H na = some (.lst (ks.map V.str)) → (∀ n ∈ ks, PyData.strOk n = true) →
      (∀ H', Ex H H' → D.rt (.bl true) H') →
      (ks ≠ [] → ∀ H', Ex H H' → D.nx [a0, a1, a2, a3, some (.ref na), a5, a6, a7, a8, a9, a10] H') →
      t D [a0, a1, a2, a3, some (.ref na), a5, a6, a7, a8, a9, a10] H := by
  refine ⟨_, ps_if (pt_cmpR (op_eqD hr.units) (pv 4) (pe_lst pa_nil) (nomark _)) (pss_one (ps_ret pe_bl)) pss_nil, ?_⟩
  intro D a0 a1 a2 a3 a5 a6 a7 a8 a9 a10 H ks na hna hk f1 f2
  refine ⟨_, rfl, Nat.zero_le _, fun p hp => ⟨.list (ks.map PyData.str), .list [], .lst (SqL.of (Ex.upd hp _ _ hna)) (dp_strs ks), .lst (SqL.of upd_same) .nil, sh_strs hk, rfl, _, rfl, ?_⟩⟩
  rw [eqv_nil_strs]
  by_cases c : ks = []
  · exact ifT (decide_eq_true c) (f1 _ (Ex.upd hp))
  · exact ifF (by simp [c]) (f2 c _ (Ex.upd hp))
theorem fa_5 (T : TxtL mg) (hr : Room 2 (xFa P w K mg base f cdv A outer s Hs E0').A) :
    ∃ t, PS (xFa P w K mg base f cdv A outer s Hs E0') (faB 5) t ∧ ∀ (D : Ends) (a0 a2 a3 a4 a6 a8 a9 a10 : Option V) (H : Hp) (m : Nat) (gv sv : Addr) (ks oks : List Str) (had R : Str → List Int), FairP m ks oks had R → ks ≠ [] → H gv = some (.lst ((Q7.flat R ks).map V.int)) → H sv = some (.lst ((ks.map fun n => ((R n).length : Int)).map V.int)) →
      (∀ H', Ex H H' → D.nx [a0, some (.int m), a2, a3, a4, some (.ref gv), a6, some (.ref sv), a8, a9, a10] H') →
      t D [a0, some (.int m), a2, a3, a4, some (.ref gv), a6, some (.ref sv), a8, a9, a10] H := by
  have hu := hr.units
  refine ⟨_, ps_if (PW.pt (pw_or (pt_cmpR (op_neD hu) (pe_callB cr_sortedI (by rfl) T.sorted (by decide +kernel) (pa_cons (pv 5) pa_nil)) (pe_listRg rfl (by rfl) T.list (prg_1 (by rfl) T.range (pv 1))) (nomark _))
      (pw_or1 (pt_cmpR op_gt (pe_op op_sub (pe_callB (cr_max rfl) (by rfl) T.max (by decide +kernel) (pa_cons (pv 7) pa_nil)) (pe_callB (cr_min rfl) (by rfl) T.min (by decide +kernel) (pa_cons (pv 7) pa_nil))) pe_int (nomark _))))) (pss_one (ps_ret pe_bl)) pss_nil, ?_⟩
  intro D a0 a2 a3 a4 a6 a8 a9 a10 H m gv sv ks oks had R fp hne hgv hsv fin
  have fr := fp.fair hne
  have m60 := fp.m60
  refine ⟨_, rfl, gv, _, rfl, SqL.of hgv, fun ns' p pm so hp => ?_⟩
  have es : ns' = rng m := sorted_eq (pm.trans fr.perm) so (rng_sorted m)
  subst es
  refine ⟨_, rfl, _, rfl, RgOk.of_le (by omega) (by omega) (by omega) (by omega), fun q hq => ?_⟩
  rw [rg_rng]
  have e2 : Ex H (upd (upd H p (.lst ((rng m).map V.int))) q (.lst ((rng m).map V.int))) := (Ex.upd hp).trans (Ex.upd hq)
  refine ⟨.list ((rng m).map PyData.int), .list ((rng m).map PyData.int), .lst (SqL.of (Ex.upd hq _ _ upd_same)) (dp_intsL _), .lst (SqL.of upd_same) (dp_intsL _), sh_intsL _, sh_intsL _, _, rfl, ?_⟩
  rw [eqv_intsL]
  refine ifF (by simp) ?_
  have l0 : 0 < (ks.map fun n => ((R n).length : Int)).length := by rw [List.length_map]; exact List.length_pos_iff.mpr hne
  refine ⟨_, rfl, sv, _, rfl, SqL.of (e2 _ _ hsv), l0, fun mx h1 h2 => ⟨_, rfl, sv, _, rfl, SqL.of (e2 _ _ hsv), l0, fun mn h3 h4 => ⟨_, _, rfl, rfl, _, _, rfl, rfl, _, rfl, ?_⟩⟩⟩
  obtain ⟨n1, hn1, rfl⟩ := List.mem_map.mp h1
  obtain ⟨n2, hn2, rfl⟩ := List.mem_map.mp h3
  have := fr.hi n1 hn1
  have := fr.lo n2 hn2
  exact ifF (by simp; omega) (fin _ e2)
end
end K7
set_option Elab.async false
set_option linter.all false
set_option maxRecDepth 100000
set_option maxHeartbeats 4000000
namespace K7
open PySem PySem.Spec PyProof.Rows PySem.Calls L2 KB KC KD KS LamX R8 Q7 CP
@[irreducible] def spLFair (K : PySem.W.Frag) : Sp := fun vs H Q _ => ∃ (ml od fo : Addr) (m : Nat) (ms ks oks : List Str) (fta ota : Str → Addr) (had R : Str → List Int), vs = [.ref ml, .int m, .ref od, .ref fo] ∧ SqL K H ml (ms.map V.str) ∧ ks.Perm ms ∧ TabT K H fo ks fta R ∧ TabT K H od oks ota had ∧ FairP m ks oks had R ∧ ∀ H', Ex H H' → Q (.bl true) H'
section
variable {P : Program} {w : World} {K : PySem.W.Frag} {mg : Str → Option Value} {base : Heap} {f : Addr} {fd : FuncData} {cdv : Value} {A : Around} {outer : List PySem.Env} {s : Shared} {Hs : Hp} {E0' : XK}
abbrev fb (k : Nat) : Stmt := (forBody (faB 6)).getD k pass0'
theorem fb_0 (T : TxtL mg) (hr : Room 2 (xFa P w K mg base f cdv A outer s Hs E0').A) :
    ∃ t, PS (xFa P w K mg base f cdv A outer s Hs E0') (fb 0) t ∧ ∀ (D : Ends) (a0 a3 a4 a5 a7 a8 a9 a10 : Option V) (H : Hp) (m : Nat) (na fo od : Addr) (ks oks : List Str) (fta ota : Str → Addr) (had R : Str → List Int) (n : Str), Fa K na fo od ks oks fta ota had R H → FairP m ks oks had R → n ∈ ks →
      (∀ H' bv, Ex H H' → H' bv = some (.lst ((had n).map V.int)) → D.nx [a0, some (.int m), some (.ref od), a3, a4, a5, some (.str n), a7, some (.ref bv), a9, a10] H') →
      t D [a0, some (.int m), some (.ref od), a3, a4, a5, some (.str n), a7, a8, a9, a10] H := by
  have hu := hr.units
  have hu1 := Nat.lt_trans (Nat.add_lt_add_left (by decide : 1 < 64) _) hu
  refine ⟨_, ps_setLc (i := 8) (own := [("part", 10)]) (g := gName 10) (tt := tTest (tChain (rI0 fun i j => V.bl (decide (i ≤ j))) (rI0 fun i j => V.bl (decide (i < j))) (tC (.int 0)) (tVar 10) (tVar 1))) (te := tVar 10) rfl scFa.nd rfl rfl (sw_true rfl rfl rfl (by decide +kernel)) (pi_tup (pe_dget2 hu1 (pv 2) (pv 6) (pe_tup pa_nil) ⟨rfl, rfl, rfl, rfl⟩)) (blkOk_by (N := nFa) (sc := defScope sFair) (by decide +kernel))
      (fun _ _ _ _ _ => pg_name (i := 10) scFa.nd rfl (Or.inl rfl)) (fun _ _ _ _ _ => pts_one (pt_chain op_le op_lt pe_int (pv 10) (pv 1))) (fun _ _ _ _ _ => pv 10), ?_⟩
  intro D a0 a3 a4 a5 a7 a8 a9 a10 H m na fo od ks oks fta ota had R n x fp hn fin
  have l9 := fp.l9 n
  refine ⟨_, rfl, od, rfl, .inl ⟨_, .inl x.o.d⟩, _, rfl, Nat.zero_le _, fun p hp => ?_⟩
  have x1 := x.ex (Ex.upd (o := .tup []) hp)
  obtain ⟨o, u, hd, hu, hs⟩ : ∃ (o : Option V) (u : Addr), DGet (upd H p (.tup [])) od (.str n) o ∧ o.getD (.ref p) = .ref u ∧ SqT K (upd H p (.tup [])) u ((had n).map V.int) := by
    by_cases c : n ∈ oks
    · exact ⟨_, ota n, x1.o.get c, rfl, SqT.of (x1.o.t n c)⟩
    · refine ⟨_, p, x1.o.off c, rfl, ?_⟩
      rw [fp.off n c]
      exact SqT.of upd_same
  refine ⟨o, hd, u, hu, ⟨_, hs⟩, fun D1 hD1 => ?_⟩
  refine lcG walk_tup RInt (fun j => (had n)[j]?.bind fun p => some p) RInt.stab hD1 (by rw [List.length_map]; omega) (fun H5 e5 => sqT_ex hs e5) (fun i H5 x H6 _ _ h => yat_ex h) (fun j v H5 H6 R0 N0 hj e5 hy hno hsm => ?_) (fun H5 xs e5 hx5 hps => ?_)
  · obtain ⟨rfl, hxi⟩ := hy
    rw [List.getElem?_map] at hxi
    obtain ⟨q, hq, rfl⟩ := Option.map_eq_some_iff.mp hxi
    have hrg := fp.rg n hn q (List.mem_of_getElem? hq)
    refine ⟨rfl, _, rfl, _, _, rfl, rfl, _, rfl, ?_⟩
    refine ifT (decide_eq_true hrg.1) ⟨_, rfl, _, _, rfl, rfl, _, rfl, ?_⟩
    refine ifT (decide_eq_true hrg.2) ⟨_, rfl, ?_⟩
    exact hsm q (by rw [hq]; rfl) _ _ (Ex.refl _) rfl
  · rw [List.length_map, range_fm, map_fm] at hps
    rw [rint_map hps, List.map_id'] at hx5
    exact fin H5 D1 ((Ex.upd hp).trans e5) hx5
theorem fb_1 (T : TxtL mg) (hr : Room 2 (xFa P w K mg base f cdv A outer s Hs E0').A) :
    ∃ t, PS (xFa P w K mg base f cdv A outer s Hs E0') (fb 1) t ∧ ∀ (D : Ends) (a0 a1 a2 a4 a5 a7 a9 a10 : Option V) (H : Hp) (m : Nat) (na fo od bv : Addr) (ks oks : List Str) (fta ota : Str → Addr) (had R : Str → List Int) (n : Str), Fa K na fo od ks oks fta ota had R H → FairP m ks oks had R → n ∈ ks → H bv = some (.lst ((had n).map V.int)) →
      (∀ H' tv, Ex H H' → H' tv = some (.lst (((had n).filter fun p => decide (p ∈ R n)).map V.int)) → D.nx [a0, a1, a2, some (.ref fo), a4, a5, some (.str n), a7, some (.ref bv), some (.ref tv), a10] H') →
      t D [a0, a1, a2, some (.ref fo), a4, a5, some (.str n), a7, some (.ref bv), a9, a10] H := by
  have hu := hr.units
  have hu1 := Nat.lt_trans (Nat.add_lt_add_left (by decide : 1 < 64) _) hu
  refine ⟨_, ps_setLc (i := 9) (own := [("part", 10)]) (g := gName 10) (tt := tTest (tOp (rIn K false) (tVar 10) (tDGet (tVar 3) (tVar 6)))) (te := tVar 10) rfl scFa.nd rfl rfl (sw_true rfl rfl rfl (by decide +kernel)) (pi_list (pv 8)) (blkOk_by (N := nFa) (sc := defScope sFair) (by decide +kernel))
      (fun _ _ _ _ _ => pg_name (i := 10) scFa.nd rfl (Or.inl rfl)) (fun _ _ _ _ _ => pts_one (pt_cmpR op_in_seq (pv 10) (pe_dget hu1 (pv 3) (pv 6) (fun _ _ => rfl)) (by rfl))) (fun _ _ _ _ _ => pv 10), ?_⟩
  intro D a0 a1 a2 a4 a5 a7 a9 a10 H m na fo od bv ks oks fta ota had R n x fp hn hbv fin
  have l9 := fp.l9 n
  refine ⟨_, rfl, bv, rfl, ⟨_, SqL.of hbv⟩, fun D1 hD1 => ?_⟩
  refine lcG walk_list RInt (fun j => (had n)[j]?.bind fun p => if decide (p ∈ R n) = true then some p else none) RInt.stab hD1 (by rw [List.length_map]; omega) (fun H5 e5 => SqL.of (e5 _ _ hbv)) (fun i H5 x H6 _ _ h => yat_ex h) (fun j v H5 H6 R0 N0 hj e5 hy hno hsm => ?_) (fun H5 xs e5 hx5 hps => ?_)
  · obtain ⟨rfl, hxi⟩ := hy
    rw [List.getElem?_map] at hxi
    obtain ⟨q, hq, rfl⟩ := Option.map_eq_some_iff.mp hxi
    have x5 := x.ex e5
    refine ⟨rfl, _, rfl, _, rfl, _, rfl, fo, _, rfl, x5.f.get hn, fta n, _, rfl, .inr (SqT.of (x5.f.t n hn)), rfl, flat_intsV _, _, rfl, ?_⟩
    rw [if_neg (by decide), inV_ints]
    by_cases c : q ∈ R n
    · refine ifT (by simp [c]) ⟨_, rfl, ?_⟩
      exact hsm q (by rw [hq]; show (if decide (q ∈ R n) = true then some q else none) = some q; simp [c]) _ _ (Ex.refl _) rfl
    · exact ifF (by simp [c]) (hno (by rw [hq]; show (if decide (q ∈ R n) = true then some q else none) = none; simp [c]) _ (Ex.refl _))
  · rw [List.length_map, range_fm, filt_fm] at hps
    rw [rint_map hps] at hx5
    exact fin H5 D1 e5 hx5
theorem fb_2 (T : TxtL mg) (hr : Room 2 (xFa P w K mg base f cdv A outer s Hs E0').A) :
    ∃ t, PS (xFa P w K mg base f cdv A outer s Hs E0') (fb 2) t ∧ ∀ (D : Ends) (a0 a2 a5 a7 a10 : Option V) (H : Hp) (m : Nat) (na fo od bv tv : Addr) (ks oks : List Str) (fta ota : Str → Addr) (had R : Str → List Int) (n : Str), Fa K na fo od ks oks fta ota had R H → FairP m ks oks had R → n ∈ ks → H bv = some (.lst ((had n).map V.int)) → H tv = some (.lst (((had n).filter fun p => decide (p ∈ R n)).map V.int)) →
      (∀ H', Ex H H' → D.nx [a0, some (.int m), a2, some (.ref fo), some (.ref na), a5, some (.str n), a7, some (.ref bv), some (.ref tv), a10] H') →
      t D [a0, some (.int m), a2, some (.ref fo), some (.ref na), a5, some (.str n), a7, some (.ref bv), some (.ref tv), a10] H := by
  have hu := hr.units
  have hu1 := Nat.lt_trans (Nat.add_lt_add_left (by decide : 1 < 64) _) hu
  refine ⟨_, ps_if (PW.pt (pw_or (pt_cmpR (op_neD hu) (pe_callTy call_list_of (by rfl) T.list (by decide +kernel) (pa_cons (pe_dget hu1 (pv 3) (pv 6) (fun _ _ => rfl)) pa_nil)) (pe_callB cr_sortedTI (by rfl) T.sorted (by decide +kernel) (pa_cons (pe_dget hu1 (pv 3) (pv 6) (fun _ _ => rfl)) pa_nil)) (nomark _))
      (pw_or1 (pt_cmpR op_lt (pe_callB call_len_seq (by rfl) T.len PySem.boot_len (pa_cons (pv 9) pa_nil)) (pe_callB (call_min2 rfl) (by rfl) T.min (by decide +kernel) (pa_cons (pe_callB call_len_seq (by rfl) T.len PySem.boot_len (pa_cons (pv 8) pa_nil)) (pa_cons (pe_op op_fdiv (pv 1) (pe_callB call_len_seq (by rfl) T.len PySem.boot_len (pa_cons (pv 4) pa_nil))) pa_nil))) (nomark _))))) (pss_one (ps_ret pe_bl)) pss_nil, ?_⟩
  intro D a0 a2 a5 a7 a10 H m na fo od bv tv ks oks fta ota had R n x fp hn hbv htv fin
  have hne := List.ne_nil_of_mem hn
  have fr := fp.fair hne
  have st := fp.stay n hn
  have m60 := fp.m60
  have l6 := fp.l6
  have l0 : 0 < ks.length := List.length_pos_iff.mpr hne
  refine ⟨_, rfl, _, rfl, fo, _, rfl, x.f.get hn, fta n, _, rfl, .inr (SqT.of (x.f.t n hn)), fun l hl => ?_⟩
  have x1 := x.ex (Ex.upd (o := .lst ((R n).map V.int)) hl)
  refine ⟨_, rfl, _, rfl, fo, _, rfl, x1.f.get hn, fta n, R n, rfl, SqT.of (x1.f.t n hn), fun ns' p pm so hp => ?_⟩
  have es : ns' = R n := sorted_eq pm so (fr.so n)
  subst es
  have e2 : Ex H (upd (upd H l (.lst ((R n).map V.int))) p (.lst ((R n).map V.int))) := (Ex.upd hl).trans (Ex.upd hp)
  refine ⟨.list ((R n).map PyData.int), .list ((R n).map PyData.int), .lst (SqL.of (Ex.upd hp _ _ upd_same)) (dp_intsL _), .lst (SqL.of upd_same) (dp_intsL _), sh_intsL _, sh_intsL _, _, rfl, ?_⟩
  rw [eqv_intsL]
  refine ifF (by simp) ?_
  refine ⟨_, rfl, tv, _, rfl, .inl (SqL.of (e2 _ _ htv)), _, rfl, bv, _, rfl, .inl (SqL.of (e2 _ _ hbv)), _, rfl, _, rfl, na, _, rfl, .inl (SqL.of (e2 _ _ x.hna)), rI_to (v := .int ((m / ks.length : Nat) : Int)) ⟨by rw [List.length_map]; omega, by rw [List.length_map]; omega⟩ (by rw [List.length_map]; simp) ?_⟩
  refine ⟨_, _, rfl, _, _, rfl, rfl, _, rfl, ?_⟩
  rw [List.length_map, List.length_map]
  refine ifF ?_ (fin _ e2)
  rw [decide_eq_true_eq]
  split <;> omega
end
end K7
set_option Elab.async false
set_option linter.all false
set_option maxRecDepth 100000
set_option maxHeartbeats 4000000
namespace K7
open PySem PySem.Spec PyProof.Rows PySem.Calls L2 KB KC KD KS LamX R8 Q7 CP
section
variable {P : Program} {w : World} {K : PySem.W.Frag} {mg : Str → Option Value} {base : Heap} {f : Addr} {fd : FuncData} {cdv : Value} {A : Around} {outer : List PySem.Env} {s : Shared} {Hs : Hp} {E0' : XK}
theorem fa_6 (T : TxtL mg) (hr : Room 2 (xFa P w K mg base f cdv A outer s Hs E0').A) :
    ∃ t, PS (xFa P w K mg base f cdv A outer s Hs E0') (faB 6) t ∧ ∀ (D : Ends) (a0 a5 a6 a7 a8 a9 a10 : Option V) (H : Hp) (m : Nat) (na fo od : Addr) (ks oks : List Str) (fta ota : Str → Addr) (had R : Str → List Int), Fa K na fo od ks oks fta ota had R H → FairP m ks oks had R →
      (∀ H' σ, Ex H H' → D.nx σ H') →
      t D [a0, some (.int m), some (.ref od), some (.ref fo), some (.ref na), a5, a6, a7, a8, a9, a10] H := by
  obtain ⟨t0, d0, q0⟩ := fb_0 (P := P) (w := w) (K := K) (base := base) (f := f) (cdv := cdv) (A := A) (outer := outer) (s := s) (Hs := Hs) (E0' := E0') T hr
  obtain ⟨t1, d1, q1⟩ := fb_1 (P := P) (w := w) (K := K) (base := base) (f := f) (cdv := cdv) (A := A) (outer := outer) (s := s) (Hs := Hs) (E0' := E0') T hr
  obtain ⟨t2, d2, q2⟩ := fb_2 (P := P) (w := w) (K := K) (base := base) (f := f) (cdv := cdv) (A := A) (outer := outer) (s := s) (Hs := Hs) (E0' := E0') T hr
  have dB : PSs (xFa P w K mg base f cdv A outer s Hs E0') (forBody (faB 6)) _ := pss_cons d0 (pss_cons d1 (pss_one d2))
  refine ⟨_, ps_for PassesOwn.never rfl (pi_list (pv 4)) (pg_name (i := 6) scFa.nd rfl (Or.inr rfl)) dB, ?_⟩
  intro D a0 a5 a6 a7 a8 a9 a10 H m na fo od ks oks fta ota had R x fp fin
  refine ⟨_, rfl, na, rfl, ⟨_, SqL.of x.hna⟩, for_list (xs := ks.map V.str) (fun i σ H2 => ∃ a6 a8 a9 a10, σ = [a0, some (.int m), some (.ref od), some (.ref fo), some (.ref na), a5, a6, a7, a8, a9, a10] ∧ Ex H H2)
    ⟨a6, a8, a9, a10, rfl, Ex.refl _⟩ (fun i σ H2 _ ⟨_, _, _, _, _, e⟩ => SqL.of (e _ _ x.hna)) ?_ ?_⟩
  · rintro i v σ H2 hv ⟨a6, a8, a9, a10, rfl, e2⟩
    rw [List.getElem?_map] at hv
    obtain ⟨n, hn, rfl⟩ := Option.map_eq_some_iff.mp hv
    have hnm := List.mem_of_getElem? hn
    refine q0 _ _ _ _ _ _ _ _ _ H2 m na fo od ks oks fta ota had R n (x.ex e2) fp hnm fun H3 bv e3 hb3 => ?_
    refine q1 _ _ _ _ _ _ _ _ _ H3 m na fo od bv ks oks fta ota had R n (x.ex (e2.trans e3)) fp hnm hb3 fun H4 tv e4 ht4 => ?_
    refine q2 _ _ _ _ _ _ H4 m na fo od bv tv ks oks fta ota had R n (x.ex ((e2.trans e3).trans e4)) fp hnm (e4 _ _ hb3) ht4 fun H5 e5 => ?_
    exact ⟨_, _, _, _, rfl, ((e2.trans e3).trans e4).trans e5⟩
  · rintro σ H2 ⟨a6, a8, a9, a10, rfl, e2⟩
    exact fin H2 _ e2
theorem fair_step {ml od fo : Addr} {m : Nat} {ms ks oks : List Str} {fta ota : Str → Addr} {had R : Str → List Int} {H : Hp} {Q : VK} {E : XK} (hs : SqL K H ml (ms.map V.str)) (pm : ks.Perm ms) (f : TabT K H fo ks fta R) (o : TabT K H od oks ota had) (fp : FairP m ks oks had R) (fin : ∀ H', Ex H H' → Q (.bl true) H') : spLFair K [.ref ml, .int m, .ref od, .ref fo] H Q E := by
  unfold spLFair
  exact ⟨ml, od, fo, m, ms, ks, oks, fta, ota, had, R, rfl, hs, pm, f, o, fp, fin⟩
theorem ok_fair (F : FnP K "_law_fair" "_law_fair" sFair [] f fd) (T : TxtL mg) : FnOk P w K mg base CX0 3 f fd ["members", "many", "old", "found"] (spLFair K) := by
  refine F.ok scFa (fun vs H Q E h => ?_) (fun cdv A outer s H vs Q E hr h => ?_)
  · unfold spLFair at h
    obtain ⟨_, _, _, _, _, _, _, _, _, _, _, rfl, _⟩ := h; rfl
  · unfold spLFair at h
    obtain ⟨ml, od, fo, m, ms, ks0, oks, fta, ota, had, R, rfl, hs, pm0, xf, xo, fp, fin⟩ := h
    have hr' : Room 2 (xFa P w K mg base f cdv A outer s H E).A := hr
    obtain ⟨t0, d0, q0⟩ := fa_0 (P := P) (w := w) (K := K) (base := base) (f := f) (cdv := cdv) (A := A) (outer := outer) (s := s) (Hs := H) (E0' := E) T hr'
    obtain ⟨t1, d1, q1⟩ := fa_1 (P := P) (w := w) (K := K) (base := base) (f := f) (cdv := cdv) (A := A) (outer := outer) (s := s) (Hs := H) (E0' := E) T hr'
    obtain ⟨t2, d2, q2⟩ := fa_2 (P := P) (w := w) (K := K) (base := base) (f := f) (cdv := cdv) (A := A) (outer := outer) (s := s) (Hs := H) (E0' := E) T hr'
    obtain ⟨t3, d3, q3⟩ := fa_3 (P := P) (w := w) (K := K) (base := base) (f := f) (cdv := cdv) (A := A) (outer := outer) (s := s) (Hs := H) (E0' := E) T hr'
    obtain ⟨t4, d4, q4⟩ := fa_4 (P := P) (w := w) (K := K) (base := base) (f := f) (cdv := cdv) (A := A) (outer := outer) (s := s) (Hs := H) (E0' := E) T hr'
    obtain ⟨t5, d5, q5⟩ := fa_5 (P := P) (w := w) (K := K) (base := base) (f := f) (cdv := cdv) (A := A) (outer := outer) (s := s) (Hs := H) (E0' := E) T hr'
    obtain ⟨t6, d6, q6⟩ := fa_6 (P := P) (w := w) (K := K) (base := base) (f := f) (cdv := cdv) (A := A) (outer := outer) (s := s) (Hs := H) (E0' := E) T hr'
    refine ⟨_, PSs.nox <| pss_cons d0 (pss_cons d1 (pss_cons d2 (pss_cons d3 (pss_cons d4 (pss_cons d5 (pss_cons d6 (pss_one (ps_ret pe_bl)))))))), ?_⟩
    have l6 : ms.length ≤ 6 := by have := fp.l6; rw [pm0.length_eq] at this; exact this
    refine q0 _ _ _ _ _ _ _ _ _ _ _ H ml ms hs (by omega) fun H1 ks na gv pm so e1 hna hgv => ?_
    obtain rfl : ks = ks0 := sorted_un (pm.trans pm0.symm) so fp.so
    have x1 : Fa K na fo od ks oks fta ota had R H1 := ⟨hna, xf.ex e1, xo.ex e1⟩
    refine q1 _ _ _ _ _ _ _ _ _ _ H1 m na fo od ks oks fta ota had R x1 fp fun H2 e2 => ?_
    refine q2 _ _ _ _ _ _ _ _ _ H2 m na fo od gv ks oks fta ota had R (x1.ex e2) fp (e2 _ _ hgv) fun H3 gv3 a6 e3 hg3 => ?_
    have x3 := (x1.ex e2).ex e3
    refine q3 _ _ _ _ _ _ _ _ _ _ H3 m na fo od ks oks fta ota had R x3 fp fun H4 sv e4 hs4 => ?_
    have x4 := x3.ex e4
    refine q4 _ _ _ _ _ _ _ _ _ _ _ H4 ks na x4.hna fp.ok (fun H5 e5 => fin _ ((((e1.trans e2).trans e3).trans e4).trans e5)) fun hne H5 e5 => ?_
    refine q5 _ _ _ _ _ _ _ _ _ H5 m gv3 sv ks oks had R fp hne (e5 _ _ (e4 _ _ hg3)) (e5 _ _ hs4) fun H6 e6 => ?_
    refine q6 _ _ _ _ _ _ _ _ H6 m na fo od ks oks fta ota had R ((x4.ex e5).ex e6) fp fun H7 σ e7 => ?_
    exact fin _ ((((((e1.trans e2).trans e3).trans e4).trans e5).trans e6).trans e7)
end
end K7
set_option Elab.async false
set_option linter.all false
set_option maxRecDepth 100000
set_option maxHeartbeats 4000000
namespace K7
open PySem PySem.Spec PyProof.Rows PySem.Calls L2 KB KC KD KS LamX R8 Q7 CP
def SameD (K : PySem.W.Frag) (H : Hp) (ks ls : List (Key × V)) : Prop := ks.length = ls.length ∧ ∀ p ∈ ks, ∃ u d, valV ls p.1 = some u ∧ Dp K H p.2 d ∧ Dp K H u d ∧ SeqAt.shaped d = true ∧ PyData.eqv d d = true
def rNeDD (K : PySem.W.Frag) : R2 := fun x y H Q => ∃ a b ks ls, x = .ref a ∧ y = .ref b ∧ H a = some (.dK ks) ∧ H b = some (.dK ls) ∧ SameD K H ks ls ∧ Q (.bl false) H
theorem hits_data {X : Cx} {pins : List (Addr × Obj)} {σ : L2.St} {H : Hp} {A : Around} {s : Shared} (I : Inv X pins σ H s) (hu : A.units + 64 < cLine) {kvs : List (Key × V)} {vb : List (Key × Value)} (rb : KV kvs vb) {ks : List (Key × V)} {va : List (Key × Value)} (ra : KV ks va) :
    (∀ p ∈ ks, ∃ u d, valV kvs p.1 = some u ∧ Dp X.K H p.2 d ∧ Dp X.K H u d ∧ SeqAt.shaped d = true ∧ PyData.eqv d d = true) → PySem.W.KeqHits A s vb va true := by
  unfold KV at ra
  induction ra with
  | nil => intro _; exact .nil
  | @cons p q ps qs h t ih =>
    intro hp
    obtain ⟨h1, h2⟩ := h
    obtain ⟨u, d, e, f1, f2, f3, f4⟩ := hp p List.mem_cons_self
    have rr : RelO (some u) (valueAt vb p.1) := by rw [← e]; exact rb.val p.1
    obtain ⟨y, hy, ry⟩ := rr.some_of
    obtain ⟨k, v⟩ := q
    have h1' : p.1 = k := h1
    rw [h1'] at hy
    obtain ⟨as, r1⟩ := Dp.reads I d p.2 v f1 h2
    obtain ⟨bs, r2⟩ := Dp.reads I d u y f2 ry
    show PySem.W.KeqHits A s vb ((k, v) :: qs) (true && true)
    refine .hit hy ?_ (ih fun p' hm => hp p' (List.mem_cons_of_mem _ hm))
    have sd := f3
    unfold SeqAt.shaped at sd
    rw [Bool.and_eq_true, decide_eq_true_eq] at sd
    have := SeqAt.eqAt_reads d d A s v y as bs r1 r2 sd.1 sd.1 (by omega)
    rw [f4] at this
    exact this
theorem op_neDD {X : Cx} (hu : X.A.units + 66 < cLine) : OpR X (compareOp .NotEq) (rNeDD X.K) := by
  intro pins s σ H x y v u Q I rx ry h
  obtain ⟨a, b, ks, ls, rfl, rfl, ea, eb, ⟨hlen, hp⟩, q⟩ := h
  obtain rfl : v = Value.ref a := rx
  obtain rfl : u = Value.ref b := ry
  obtain ⟨_, ya, va, ra, da⟩ := (show ObjOk X.prog X.w H s.heap a (.dK ks) from I.hok a _ ea)
  obtain ⟨_, yb, vb, rb, db⟩ := (show ObjOk X.prog X.w H s.heap b (.dK ls) from I.hok b _ eb)
  have hl : va.length = vb.length := by rw [← ra.length, ← rb.length]; exact hlen
  exact PySem.W.keq_ne (knd := mixKind X.prog X.w) (r := true) ya yb da db (by omega) (fun _ => hits_data (A := X.A.in1) I (by show X.A.units + 1 + 64 < cLine; omega) rb ra hp) (fin_bl I q (by simp [hl]))
theorem depth_dpT (l : List Int) : SeqAt.shaped (.tuple (l.map PyData.int)) = true := by
  have h := depth_intsL l
  unfold SeqAt.shaped
  rw [Bool.and_eq_true, decide_eq_true_eq]
  refine ⟨?_, ?_⟩
  · unfold PyData.canLay0
    exact lay_intsL l
  · unfold PyData.depth
    omega
theorem eqv_tupI (l : List Int) : PyData.eqv (.tuple (l.map PyData.int)) (.tuple (l.map PyData.int)) = true := by
  show PyData.eqvAll _ _ = _
  have := eqv_intsL l l
  have h : PyData.eqvAll (l.map PyData.int) (l.map PyData.int) = decide (l = l) := this
  rw [h]
  simp
theorem TabT.same {K : PySem.W.Frag} {H : Hp} {d d' : Addr} {ks ls : List Str} {ta ta' : Str → Addr} {R R' : Str → List Int} (t : TabT K H d ks ta R) (t' : TabT K H d' ls ta' R') (l : ks.length = ls.length) (m : ∀ n ∈ ks, n ∈ ls ∧ R n = R' n) :
    SameD K H (ks.map fun n => ((Sum.inr n : Key), V.ref (ta n))) (ls.map fun n => ((Sum.inr n : Key), V.ref (ta' n))) := by
  refine ⟨by rw [List.length_map, List.length_map]; exact l, fun p hp => ?_⟩
  obtain ⟨n, hn, rfl⟩ := List.mem_map.mp hp
  obtain ⟨h1, h2⟩ := m n hn
  refine ⟨_, .tuple ((R n).map PyData.int), valV_map (f := fun n => V.ref (ta' n)) h1, .tup (SqT.of (t.t n hn)) (dp_intsL _), ?_, depth_dpT _, eqv_tupI _⟩
  rw [h2]
  exact .tup (SqT.of (t'.t n h1)) (dp_intsL _)
end K7
set_option Elab.async false
set_option linter.all false
set_option maxRecDepth 100000
set_option maxHeartbeats 4000000
namespace K7
open PySem PySem.Spec PyProof.Rows PySem.Calls L2 KB KC KD KS LamX R8 Q7 CP
def CalM (P : Program) (w : World) (K : PySem.W.Frag) (mg : Str → Option Value) (base : Heap) (C : Addr) (CX : CXT) (k : Nat) (m : Str) (ps : List Str) (sp : Sp) : Prop :=
  ∃ f fd, FnOk P w K mg base CX k f fd ps sp ∧ Meth K C m f ∧ Binds K fd ps []
def CalI (P : Program) (w : World) (K : PySem.W.Frag) (mg : Str → Option Value) (base : Heap) (C : Addr) (CX : CXT) (k : Nat) (ps : List Str) (sp : Sp) : Prop :=
  ∃ f fd, FnOk P w K mg base CX k f fd ps sp ∧ Mk K C f ∧ Binds K fd ps []
theorem roll_step {H : Hp} {d : Addr} {m : Int} {Q : VK} {E : XK} (i : IsDice H d) (h0 : 0 < m) (h1 : m ≤ 100000000) (q : ∀ r H', 0 ≤ r → r < m → ExD d H H' → IsDice H' d → Q (.int r) H') : spRoll [.ref d, .int m] H Q E := by
  unfold spRoll
  exact ⟨d, m, rfl, i, h0, h1, fun r a b k l u => q r _ l u (fun c o n e => by rw [L2.upd_ne n]; exact e) ⟨a, b, k, upd_same⟩⟩
theorem rounds_step {K : PySem.W.Frag} {H : Hp} {s : Addr} {ns : List Int} {Q : VK} {E : XK} (h : SqL K H s (ns.map V.int)) (fin : ∀ H' p d, Ex H H' → H' p = some (.lst [.ref d]) → IsDice H' d → Q (.ref p) H') : spRounds K [.ref s, .int 1] H Q E := by
  unfold spRounds
  exact ⟨s, ns, rfl, h, fin⟩
structure LawE (P : Program) (w : World) (K : PySem.W.Frag) (mg : Str → Option Value) (base : Heap) (CG CE Pm Ps Pl cL fTo r0 : Addr) (fdTo : FuncData) : Prop where
  T : TxtL mg
  J : TxtX K mg CE
  B : TxtG K mg CG
  TBl : LamX.TabB base mg cL Pl
  ap : Apart Pm Ps Pl
  e0 : E0T K r0
  rounds : Cal P w K mg base 2 "_law_rounds" ["script", "most"] (spRounds K)
  roll : Cal P w K mg base 1 "_law_roll" ["dice", "many"] spRoll
  fair : Cal P w K mg base 3 "_law_fair" ["members", "many", "old", "found"] (spLFair K)
  shares : ∃ f fd, FnOk P w K mg base CX0 9 f fd ["members", "many", "old"] (spShares K Pm Ps Pl) ∧ mg "shares_of" = some (.ref f) ∧ PySem.W.keepIn K (.ref f) = true ∧ Binds K fd ["members", "many", "old"] [] ∧ ∃ ds, Vals [.ref r0] ds ∧ Binds K fd ["members", "many", "old"] ds
  ginit : CalI P w K mg base CG (L2.CX P w) 1 ["self", "many", "length"] (spGInit K CG CE)
  join : CalM P w K mg base CG (L2.CX P w) 12 "join" ["self", "name", "time"] (spJoinG K CG CE Pm Ps Pl)
  leave : CalM P w K mg base CG (L2.CX P w) 13 "leave" ["self", "name", "time"] (spLeaveG K CG CE Pm Ps Pl)
  beat : CalM P w K mg base CG (L2.CX P w) 13 "beat" ["self", "name", "time"] (spBeatG K CG CE Pm Ps Pl)
  look : CalM P w K mg base CG CX0 11 "look" ["self", "time"] (spLookG K CG Pm Ps Pl)
  note : CalM P w K mg base CG (L2.CX P w) 13 "note" ["self", "name", "generation", "part", "place", "time"] (spNoteG K CG CE Pm Ps Pl)
  told : FnP K "_law_told" "_law_told" sTold [] fTo fdTo
  gTold : mg "_law_told" = some (.ref fTo)
abbrev nLaw : List Str := ["script", "dice", "many", "length", "group", "heard", "places", "generation", "shares", "time", "step", "sort", "name", "gone", "there", "before", "changes", "told_now", "part", "place", "number", "good", "names", "old", "found", "taken", "k", "j", "one", "f"]
theorem scLaw : FnScope nLaw ["script"] (defScope sLaw) := ⟨rfl, rfl, rfl, by decide +kernel, rfl, by decide +kernel, by decide +kernel⟩
theorem scTold : FnScope ["what"] ["what"] (defScope sTold) := ⟨rfl, rfl, rfl, by decide +kernel, rfl, by decide +kernel, by decide +kernel⟩
abbrev law0 : List Stmt := forBody ((defBody sLaw).getD 0 pass0')
abbrev mBody : List Stmt := forBody (law0.getD 2 pass0')
abbrev xLaw (P : Program) (w : World) (K : PySem.W.Frag) (mg : Str → Option Value) (base : Heap) (fL cL : Addr) (A : Around) (outer : List PySem.Env) (s : Shared) (H0 : Hp) (E0' : XK) : Cx := (cxOf CX0 P w K mg base nLaw "law" (defScope sLaw) fL (.ref cL) A outer s H0 E0').nox
theorem qLaw : (Str.ofString "law" ++ Str.ofString ".<locals>.") ++ Str.ofString "<lambda>" = qL := by decide +kernel
theorem tabLo {Pm Ps Pl : Addr} : (Pl, (Str.ofString "law" ++ Str.ofString ".<locals>.") ++ Str.ofString "<lambda>") ∈ TT Pm Ps Pl := by rw [qLaw]; exact List.mem_cons_of_mem _ (List.mem_cons_of_mem _ (List.mem_cons_self ..))
theorem tabLu {Pm Ps Pl : Addr} (ap : Apart Pm Ps Pl) : ∀ p ∈ TT Pm Ps Pl, p.1 = Pl → p.2 = (Str.ofString "law" ++ Str.ofString ".<locals>.") ++ Str.ofString "<lambda>" := by
  rw [qLaw]
  intro p hp e
  rcases List.mem_cons.mp hp with z | hp
  · rw [z] at e
    exact absurd e ap.ml
  rcases List.mem_cons.mp hp with z | hp
  · rw [z] at e
    exact absurd e ap.sl
  rcases List.mem_cons.mp hp with z | hp
  · rw [z]
  cases hp
theorem tabs_but {T : List (Addr × Str)} {H H' : Hp} (t : Tabs T H) (e : ∀ b o, H b = some o → (∀ xs, o ≠ .lst xs) → (∀ C dx fs, o ≠ .ins C dx fs) → (∀ ks, o ≠ .dK ks) → H' b = some o) : Tabs T H' := fun p hp => by
  obtain ⟨ps, h1, h2, h3⟩ := t p hp
  refine ⟨ps, e _ _ h1 (fun _ z => nomatch z) (fun _ _ _ z => nomatch z) (fun _ z => nomatch z), h2, fun pos cv hc => ?_⟩
  obtain ⟨c, e1, e2⟩ := h3 pos cv hc
  exact ⟨c, e1, e _ _ e2 (fun _ z => nomatch z) (fun _ _ _ z => nomatch z) (fun _ z => nomatch z)⟩
theorem IsDice.ex {H H' : Hp} {d : Addr} (h : IsDice H d) (e : Ex H H') : IsDice H' d := by
  obtain ⟨x, y, z, hd⟩ := h
  exact ⟨x, y, z, e _ _ hd⟩
structure Bs (Pm Ps Pl d p : Addr) (H : Hp) : Prop where
  dice : IsDice H d
  tabs : Tabs (TT Pm Ps Pl) H
  hp : H p = some (.lst [.ref d])
theorem Bs.ne {Pm Ps Pl d p : Addr} {H : Hp} (b : Bs Pm Ps Pl d p H) : p ≠ d := fun c => by
  obtain ⟨x, y, z, hd⟩ := b.dice
  have := b.hp
  rw [c, hd] at this
  injection this with h
  injection h with h
  injection h with h _
  cases h
theorem Bs.ex {Pm Ps Pl d p : Addr} {H H' : Hp} (b : Bs Pm Ps Pl d p H) (e : Ex H H') : Bs Pm Ps Pl d p H' := ⟨b.dice.ex e, b.tabs.ext e, e _ _ b.hp⟩
theorem Bs.roll {Pm Ps Pl d p : Addr} {H H' : Hp} (b : Bs Pm Ps Pl d p H) (e : ExD d H H') (i : IsDice H' d) : Bs Pm Ps Pl d p H' :=
  ⟨i, tabs_but b.tabs fun c o h h1 _ _ => e c o (fun z => by
    obtain ⟨x, y, k, hd⟩ := b.dice
    rw [z, hd] at h
    exact h1 _ (Option.some.inj h).symm) h, e _ _ b.ne b.hp⟩
theorem Bs.lam {Pm Ps Pl d p : Addr} {H H' : Hp} (b : Bs Pm Ps Pl d p H) (e : ExtN H H') (t : Tabs (TT Pm Ps Pl) H') : Bs Pm Ps Pl d p H' := by
  obtain ⟨x, y, z, hd⟩ := b.dice
  exact ⟨⟨x, y, z, e _ _ hd (fun _ z => nomatch z)⟩, t, e _ _ b.hp (fun _ z => nomatch z)⟩
theorem dice_ne {H : Hp} {d b : Addr} {o : HO} (i : IsDice H d) (h : H b = some o) (n : ∀ xs, o ≠ .lst xs) : b ≠ d := fun c => by
  obtain ⟨x, y, z, hd⟩ := i
  rw [c, hd] at h
  exact n _ (Option.some.inj h).symm
theorem Bs.mv {K : PySem.W.Frag} {CG Pm Ps Pl d p g ha sd pa ha' : Addr} {m : Nat} {len : Int} {ta : Str → Addr} {s : Gp} {H H' : Hp} (b : Bs Pm Ps Pl d p H) (x : GAt K CG m len g ha sd pa ta s H) (v : Mv g ha pa ha' H H') (t : Tabs (TT Pm Ps Pl) H') : Bs Pm Ps Pl d p H' := by
  obtain ⟨dx, ho⟩ := x.o
  have nl : ∀ {c : Addr} {l : List V}, H c = some (.lst l) → H' c = some (.lst l) := fun {c l} h => v.k c _ h (fun _ z => nomatch z) (fun z => by rw [z, ho] at h; cases h) (fun z => by rw [z, x.h] at h; cases h) (fun z => by rw [z, x.p] at h; cases h)
  obtain ⟨i, j, k, hd⟩ := b.dice
  exact ⟨⟨i, j, k, nl hd⟩, t, nl b.hp⟩
theorem GAt.keeps {K : PySem.W.Frag} {CG g ha sd pa ha' a : Addr} {m : Nat} {len : Int} {ta : Str → Addr} {s : Gp} {H H' : Hp} {ks : List (Key × V)} (x : GAt K CG m len g ha sd pa ta s H) (v : Mv g ha pa ha' H H') (h : H a = some (.dK ks)) (n1 : a ≠ ha) (n2 : a ≠ pa) : H' a = some (.dK ks) ∧ a ≠ ha' := by
  obtain ⟨dx, ho⟩ := x.o
  refine ⟨v.k a _ h (fun _ z => nomatch z) (ne_id ho h) n1 n2, ?_⟩
  rcases v.h with e | e
  · rw [e]; exact n1
  · exact e.ne h (fun _ z => nomatch z)
theorem TabT.keeps {K : PySem.W.Frag} {CG g ha sd pa ha' d0 : Addr} {m : Nat} {len : Int} {ta t0 : Str → Addr} {s : Gp} {H H' : Hp} {ks : List Str} {R : Str → List Int} (t : TabT K H d0 ks t0 R) (x : GAt K CG m len g ha sd pa ta s H) (v : Mv g ha pa ha' H H') (n1 : d0 ≠ ha) (n2 : d0 ≠ pa) : TabT K H' d0 ks t0 R := by
  obtain ⟨dx, ho⟩ := x.o
  refine ⟨(x.keeps v t.d n1 n2).1, fun n hn => ?_⟩
  have h := t.t n hn
  exact v.k _ _ h (fun _ z => nomatch z) (ne_it ho h) (fun z => by rw [z, x.h] at h; cases h) (fun z => by rw [z, x.p] at h; cases h)
structure Ls (K : PySem.W.Frag) (CG Pm Ps Pl : Addr) (m : Nat) (len : Int) (d p g ha sd pa : Addr) (ta : Str → Addr) (lh lp : Addr) (s : Gp) (lhd : List (Str × Int)) (lpl : List (Int × Int)) (H : Hp) : Prop where
  b : Bs Pm Ps Pl d p H
  x : GAt K CG m len g ha sd pa ta s H
  ok : GOk m s
  hh : H lh = some (.dK (kvG kS lhd))
  hp : H lp = some (.dK (kvG kI lpl))
  n1 : lh ≠ ha
  n2 : lh ≠ pa
  n3 : lp ≠ ha
  n4 : lp ≠ pa
section
variable {K : PySem.W.Frag} {CG Pm Ps Pl : Addr} {m : Nat} {len : Int} {d p g ha sd pa lh lp : Addr} {ta : Str → Addr} {s : Gp} {lhd : List (Str × Int)} {lpl : List (Int × Int)} {H H' : Hp}
theorem Ls.ex (a : Ls K CG Pm Ps Pl m len d p g ha sd pa ta lh lp s lhd lpl H) (e : Ex H H') : Ls K CG Pm Ps Pl m len d p g ha sd pa ta lh lp s lhd lpl H' := ⟨a.b.ex e, a.x.ex e, a.ok, e _ _ a.hh, e _ _ a.hp, a.n1, a.n2, a.n3, a.n4⟩
theorem Ls.lam (a : Ls K CG Pm Ps Pl m len d p g ha sd pa ta lh lp s lhd lpl H) (e : ExtN H H') (t : Tabs (TT Pm Ps Pl) H') : Ls K CG Pm Ps Pl m len d p g ha sd pa ta lh lp s lhd lpl H' := ⟨a.b.lam e t, a.x.exN e, a.ok, e _ _ a.hh (fun _ z => nomatch z), e _ _ a.hp (fun _ z => nomatch z), a.n1, a.n2, a.n3, a.n4⟩
theorem TabT.roll {d0 : Addr} {ks : List Str} {t0 : Str → Addr} {R : Str → List Int} (t : TabT K H d0 ks t0 R) (i : IsDice H d) (e : ExD d H H') : TabT K H' d0 ks t0 R :=
  ⟨e _ _ (dice_ne i t.d (fun _ z => nomatch z)) t.d, fun n hn => e _ _ (dice_ne i (t.t n hn) (fun _ z => nomatch z)) (t.t n hn)⟩
theorem GAt.roll (x : GAt K CG m len g ha sd pa ta s H) (i : IsDice H d) (e : ExD d H H') : GAt K CG m len g ha sd pa ta s H' := by
  obtain ⟨dx, ho⟩ := x.o
  exact ⟨⟨dx, e _ _ (dice_ne i ho (fun _ z => nomatch z)) ho⟩, e _ _ (dice_ne i x.h (fun _ z => nomatch z)) x.h, x.t.roll i e, e _ _ (dice_ne i x.p (fun _ z => nomatch z)) x.p, x.n1, x.n2, x.n3⟩
theorem Ls.roll (a : Ls K CG Pm Ps Pl m len d p g ha sd pa ta lh lp s lhd lpl H) (e : ExD d H H') (i : IsDice H' d) : Ls K CG Pm Ps Pl m len d p g ha sd pa ta lh lp s lhd lpl H' :=
  ⟨a.b.roll e i, a.x.roll a.b.dice e, a.ok, e _ _ (dice_ne a.b.dice a.hh (fun _ z => nomatch z)) a.hh, e _ _ (dice_ne a.b.dice a.hp (fun _ z => nomatch z)) a.hp, a.n1, a.n2, a.n3, a.n4⟩
theorem Ls.aft {s' : Gp} {ha' sd' : Addr} {ta' : Str → Addr} (a : Ls K CG Pm Ps Pl m len d p g ha sd pa ta lh lp s lhd lpl H) (f : Aft K CG Pm Ps Pl m len g ha pa H s' ha' sd' ta' H') : Ls K CG Pm Ps Pl m len d p g ha' sd' pa ta' lh lp s' lhd lpl H' := by
  obtain ⟨h1, h2⟩ := a.x.keeps f.mv a.hh a.n1 a.n2
  obtain ⟨h3, h4⟩ := a.x.keeps f.mv a.hp a.n3 a.n4
  exact ⟨a.b.mv a.x f.mv f.tb, f.x, f.ok, h1, h3, h2, a.n2, h4, a.n4⟩
theorem Ls.heard {a2 : Addr} {l2 : List (Str × Int)} (a : Ls K CG Pm Ps Pl m len d p g ha sd pa ta lh lp s lhd lpl H) (h : H a2 = some (.dK (kvG kS l2))) (n1 : a2 ≠ ha) (n2 : a2 ≠ pa) : Ls K CG Pm Ps Pl m len d p g ha sd pa ta a2 lp s l2 lpl H := ⟨a.b, a.x, a.ok, h, a.hp, n1, n2, a.n3, a.n4⟩
theorem Ls.places {a2 : Addr} {l2 : List (Int × Int)} (a : Ls K CG Pm Ps Pl m len d p g ha sd pa ta lh lp s lhd lpl H) (h : H a2 = some (.dK (kvG kI l2))) (n1 : a2 ≠ ha) (n2 : a2 ≠ pa) : Ls K CG Pm Ps Pl m len d p g ha sd pa ta lh a2 s lhd l2 H := ⟨a.b, a.x, a.ok, a.hh, h, a.n1, a.n2, n1, n2⟩
theorem Ls.new (a : Ls K CG Pm Ps Pl m len d p g ha sd pa ta lh lp s lhd lpl H) {q : Addr} (h : H q = none) : q ≠ ha ∧ q ≠ pa := ⟨(fun z => by rw [z, a.x.h] at h; cases h), (fun z => by rw [z, a.x.p] at h; cases h)⟩
end
end K7
set_option Elab.async false
set_option linter.all false
set_option maxRecDepth 100000
set_option maxHeartbeats 4000000
namespace K7
open PySem PySem.Spec PyProof.Rows PySem.Calls L2 KB KC KD KS LamX R8 Q7 CP
theorem inV_strs (n : Str) (l : List Str) : inV (V.str n) (l.map V.str) = decide (n ∈ l) := by
  unfold inV
  rw [List.any_map, Bool.eq_iff_iff, List.any_eq_true, decide_eq_true_eq]
  constructor
  · rintro ⟨x, hx, h⟩
    have : (x == n) = true := h
    rw [← eq_of_beq this]
    exact hx
  · intro h
    exact ⟨n, h, by show (n == n) = true; exact beq_self_eq_true n⟩
theorem flat_strsV (l : List Str) : (l.map V.str).all flatV = true := by
  rw [List.all_map, List.all_eq_true]
  intro x _
  rfl
theorem unlock {H H3 : Hp} {e : Addr} {od : Obj} {ks : List (Key × V)} (he : H e = some (.dK ks)) (e3 : Ex (upd H e (.frz od (.dK ks))) H3) : Ex H (upd H3 e (.dK ks)) := fun b o h => by
  by_cases z : b = e
  · subst z
    rw [he] at h
    rw [upd_same]
    exact h
  · rw [L2.upd_ne z]
    refine e3 _ _ ?_
    rw [L2.upd_ne z]
    exact h
theorem key_at {κ : Type} {k : κ → Key} {l : List (κ × Int)} {i : Nat} {x : Key} {v : V} (h : (kvG k l)[i]? = some (x, v)) : ∃ e, l[i]? = some e ∧ x = k e.1 ∧ v = .int e.2 := by
  unfold kvG at h
  rw [List.getElem?_map] at h
  obtain ⟨e, he, hx⟩ := Option.map_eq_some_iff.mp h
  injection hx with h1 h2
  exact ⟨e, he, h1.symm, h2.symm⟩
def RKv {κ : Type} (k : κ → Key) : Hp → V → κ × Int → Prop := fun H v p => ∃ t, v = .ref t ∧ H t = some (.tup [kV (k p.1), .int p.2])
theorem RKv.stab {κ : Type} (k : κ → Key) : ∀ H H' v a, KT' H H' → RKv k H v a → RKv k H' v a := fun H H' v a kt ⟨t, e, h⟩ => ⟨t, e, kt _ _ h⟩
theorem rkv_ps {κ : Type} {k : κ → Key} {K : PySem.W.Frag} {H : Hp} : ∀ {xs : List V} {tk : List (κ × Int)}, Paired (RKv k H) xs tk → ∃ ps : List Addr, xs = ps.map V.ref ∧ Paired (fun p kv => SqT K H p [kV kv.1, kv.2]) ps (kvG k tk)
  | _, _, .nil => ⟨[], rfl, .nil⟩
  | _, _, .cons ⟨t, e, h⟩ r => by
    obtain ⟨ps, rfl, h2⟩ := rkv_ps (K := K) r
    exact ⟨t :: ps, by rw [e]; rfl, .cons (SqT.of h) h2⟩
theorem merge_kvG {κ : Type} [DecidableEq κ] {k : κ → Key} (hk : SameK k) : ∀ (B A : List (κ × Int)), mergeK (kvG k A) (kvG k B) = kvG k (B.foldl (fun acc e => put acc e.1 e.2) A)
  | [], A => rfl
  | p :: B, A => by
    show mergeK (putK (kvG k A) (k p.1) (.int p.2)) (kvG k B) = _
    rw [putK_kvG hk, merge_kvG hk B]
    rfl
theorem fold_put {κ : Type} [DecidableEq κ] : ∀ (B A : List (κ × Int)), ((A ++ B).map (·.1)).Nodup → B.foldl (fun acc e => put acc e.1 e.2) A = A ++ B
  | [], A, _ => by simp
  | p :: B, A, nd => by
    have hp : p.1 ∉ A.map (·.1) := fun h => by
      rw [List.map_append, List.nodup_append] at nd
      exact nd.2.2 _ h p.1 (by simp) rfl
    rw [List.foldl_cons, put_off hp, fold_put B (A ++ [p]) (by simpa using nd)]
    simp
theorem merge_self {κ : Type} [DecidableEq κ] {k : κ → Key} (hk : SameK k) {B : List (κ × Int)} (nd : (B.map (·.1)).Nodup) : mergeK [] (kvG k B) = kvG k B := by
  have := merge_kvG hk B []
  rw [fold_put B [] (by simpa using nd)] at this
  exact this
def goneOf (len t : Int) (l : List (Str × Int)) : List Str := (l.filter fun e => decide (len ≤ t - e.2)).map (·.1)
theorem fst_inj {l : List (Str × Int)} (nd : (l.map (·.1)).Nodup) {a b : Str × Int} (ha : a ∈ l) (hb : b ∈ l) (e : a.1 = b.1) : a = b := by
  have h1 := look_mem nd ha
  have h2 := look_mem nd hb
  rw [e, h2] at h1
  exact Prod.ext e (Option.some.inj h1).symm
theorem live_law {len t : Int} {l : List (Str × Int)} (nd : (l.map (·.1)).Nodup) : (l.filterMap fun e => if decide (e.1 ∉ goneOf len t l) = true then some e else none) = live len t l := by
  unfold live
  rw [filt_fm]
  refine List.filter_congr fun e he => ?_
  rw [decide_eq_decide]
  constructor
  · intro h
    refine Classical.byContradiction fun z => h ?_
    exact List.mem_map.mpr ⟨e, List.mem_filter.mpr ⟨he, decide_eq_true (by omega)⟩, rfl⟩
  · intro h z
    obtain ⟨e', he', ee⟩ := List.mem_map.mp z
    obtain ⟨h1, h2⟩ := List.mem_filter.mp he'
    have := fst_inj nd h1 he ee
    subst this
    have := of_decide_eq_true h2
    omega
theorem gone_nil {len t : Int} {l : List (Str × Int)} : goneOf len t l = [] ↔ ¬ (live len t l).length < l.length := by
  have h : (live len t l).length + (goneOf len t l).length = l.length := by
    unfold live goneOf
    rw [List.length_map]
    induction l with
    | nil => rfl
    | cons e l ih =>
      rw [List.filter_cons, List.filter_cons]
      by_cases c : t - e.2 < len
      · have c2 : ¬ len ≤ t - e.2 := by omega
        simp [c, c2] at ih ⊢
        omega
      · have c2 : len ≤ t - e.2 := by omega
        simp [c, c2] at ih ⊢
        omega
  constructor
  · intro z
    rw [z] at h
    simp at h
    omega
  · intro z
    have : (goneOf len t l).length = 0 := by omega
    exact List.length_eq_zero_iff.mp this
theorem six_at {r : Int} (h0 : 0 ≤ r) (h1 : r < 6) : ∃ c, atI (Str.ofString "abcdef").cps.toList r = some c ∧ (⟨#[c]⟩ : Str) ∈ sixS := by
  have : r = 0 ∨ r = 1 ∨ r = 2 ∨ r = 3 ∨ r = 4 ∨ r = 5 := by omega
  rcases this with rfl | rfl | rfl | rfl | rfl | rfl
  · exact ⟨97, by decide +kernel, by decide +kernel⟩
  · exact ⟨98, by decide +kernel, by decide +kernel⟩
  · exact ⟨99, by decide +kernel, by decide +kernel⟩
  · exact ⟨100, by decide +kernel, by decide +kernel⟩
  · exact ⟨101, by decide +kernel, by decide +kernel⟩
  · exact ⟨102, by decide +kernel, by decide +kernel⟩
section
variable {P : Program} {w : World} {K : PySem.W.Frag} {mg : Str → Option Value} {base : Heap} {CG CE Pm Ps Pl cL fTo fL r0 : Addr} {fdTo : FuncData} {A : Around} {outer : List PySem.Env} {s : Shared} {H0 : Hp} {E0' : XK}
theorem m_0 (ve : LawE P w K mg base CG CE Pm Ps Pl cL fTo r0 fdTo) (hr : Room 16 (xLaw P w K mg base fL cL A outer s H0 E0').A) :
    ∃ ts, PS (xLaw P w K mg base fL cL A outer s H0 E0') (mBody.getD 0 pass0') ts ∧ ∀ (D : Ends) (a0 a10 a11 a12 a13 a14 a15 a16 a17 a18 a19 a20 a21 a22 a23 a24 a25 a26 a27 a28 a29 : Option V) (H : Hp) (m : Nat) (len gn t : Int) (d p g ha sd sd0 pa lh lp : Addr) (ta : Str → Addr) (st : Gp) (lhd : List (Str × Int)) (lpl : List (Int × Int)), Ls K CG Pm Ps Pl m len d p g ha sd pa ta lh lp st lhd lpl H →
      (∀ (H' : Hp) (t' so : Int) (n : Str), Ls K CG Pm Ps Pl m len d p g ha sd pa ta lh lp st lhd lpl H' → ExD d H H' → n ∈ sixS → D.nx [a0, some (.ref d), some (.int (m : Nat)), some (.int len), some (.ref g), some (.ref lh), some (.ref lp), some (.int gn), some (.ref sd0), some (.int t'), a10, some (.int so), some (.str n), a13, a14, a15, a16, a17, a18, a19, a20, a21, a22, a23, a24, a25, a26, a27, a28, a29] H') → ts D [a0, some (.ref d), some (.int (m : Nat)), some (.int len), some (.ref g), some (.ref lh), some (.ref lp), some (.int gn), some (.ref sd0), some (.int t), a10, a11, a12, a13, a14, a15, a16, a17, a18, a19, a20, a21, a22, a23, a24, a25, a26, a27, a28, a29] H := by
  obtain ⟨f1, fd1, G1, g1, k1, b1⟩ := ve.roll
  refine ⟨_, ps_asg (pe_tup (pa_cons (pe_op op_add (pv 9) (pe_call G1 (hr.mono (by decide)) (by rfl) g1 k1 b1 .nil pass0 (pa_cons (pv 1) (pa_cons pe_int pa_nil)))) (pa_cons (pe_call G1 (hr.mono (by decide)) (by rfl) g1 k1 b1 .nil pass0 (pa_cons (pv 1) (pa_cons pe_int pa_nil))) (pa_cons (pe_ix ix_str pe_str (pe_call G1 (hr.mono (by decide)) (by rfl) g1 k1 b1 .nil pass0 (pa_cons (pv 1) (pa_cons pe_int pa_nil))) (fun _ _ => rfl)) pa_nil))))
    (pg_tup rfl (pgs_cons (pg_name (i := 9) scLaw.nd rfl (Or.inr rfl)) (pgs_cons (pg_name (i := 11) scLaw.nd rfl (Or.inl rfl)) (pgs_cons (pg_name (i := 12) scLaw.nd rfl (Or.inr rfl)) pgs_nil)))), ?_⟩
  intro D a0 a10 a11 a12 a13 a14 a15 a16 a17 a18 a19 a20 a21 a22 a23 a24 a25 a26 a27 a28 a29 H m len gn t d p g ha sd sd0 pa lh lp ta st lhd lpl a fin
  refine ⟨_, rfl, _, rfl, roll_step a.b.dice (by decide) (by decide) fun r1 H1 _ _ e1 i1 => ⟨_, _, rfl, rfl, ?_⟩⟩
  have a1 := a.roll e1 i1
  refine ⟨_, rfl, roll_step a1.b.dice (by decide) (by decide) fun r2 H2 _ _ e2 i2 => ?_⟩
  have a2 := a1.roll e2 i2
  refine ⟨_, rfl, roll_step a2.b.dice (by decide) (by decide) fun r3 H3 q0 q1 e3 i3 => ?_⟩
  have a3 := a2.roll e3 i3
  obtain ⟨c, hc, h6⟩ := six_at q0 q1
  refine ⟨_, r3, c, rfl, rfl, by decide, hc, (by show 3 ≤ sizeLine; decide), fun q hq => ?_⟩
  refine ⟨q, _, rfl, SqT.of upd_same, rfl, _, _, rfl, _, _, rfl, _, _, rfl, rfl, ?_⟩
  exact fin _ (t + r1) r2 ⟨#[c]⟩ (a3.ex (Ex.upd hq)) (fun b o n h => Ex.upd hq _ _ (e3 b o n (e2 b o n (e1 b o n h)))) h6
theorem m_1 (ve : LawE P w K mg base CG CE Pm Ps Pl cL fTo r0 fdTo) (hr : Room 16 (xLaw P w K mg base fL cL A outer s H0 E0').A) :
    ∃ ts, PS (xLaw P w K mg base fL cL A outer s H0 E0') (mBody.getD 1 pass0') ts ∧ ∀ (D : Ends) (a0 a10 a11 a12 a13 a14 a15 a16 a17 a18 a19 a20 a21 a22 a23 a24 a25 a26 a27 a28 a29 : Option V) (H : Hp) (m : Nat) (len gn t : Int) (d g sd0 lh lp : Addr) (l : List (Str × Int)), H lh = some (.dK (kvG kS l)) → (l.map (·.1)).Nodup → l.length ≤ 6 →
      (∀ (H' : Hp) (gv : Addr), Ex H H' → H' gv = some (.lst ((goneOf len t l).map V.str)) → D.nx [a0, some (.ref d), some (.int (m : Nat)), some (.int len), some (.ref g), some (.ref lh), some (.ref lp), some (.int gn), some (.ref sd0), some (.int t), a10, a11, a12, some (.ref gv), a14, a15, a16, a17, a18, a19, a20, a21, a22, a23, a24, a25, a26, a27, a28, a29] H') → ts D [a0, some (.ref d), some (.int (m : Nat)), some (.int len), some (.ref g), some (.ref lh), some (.ref lp), some (.int gn), some (.ref sd0), some (.int t), a10, a11, a12, a13, a14, a15, a16, a17, a18, a19, a20, a21, a22, a23, a24, a25, a26, a27, a28, a29] H := by
  have hu := hr.units
  have hu1 := Nat.lt_trans (Nat.add_lt_add_left (by decide : 1 < 64) _) hu
  refine ⟨_, ps_set (i := 13) scLaw.nd rfl (Or.inr rfl) (pe_lock (pe_lc (own := [("one", 28)]) (g := gName 28) (tt := tTest (tOp (rI0 fun i j => V.bl (decide (j ≤ i))) (tOp (rI0 fun i j => V.int (i - j)) (tVar 9) (tDGet (tVar 5) (tVar 28))) (tVar 3))) (te := tVar 28) rfl scLaw.nd (pi_keys (pv 5)) (blkOk_by (N := nLaw) (sc := defScope sLaw) (by decide +kernel))
      (fun _ _ _ _ _ => pg_name (i := 28) scLaw.nd rfl (Or.inl rfl)) (fun _ _ _ _ _ => pts_one (pt_cmpR op_ge (pe_op op_sub (pv 9) (pe_dget hu1 (pv 5) (pv 28) (fun _ _ => rfl))) (pv 3) (nomark _))) (fun _ _ _ _ _ => pv 28))), ?_⟩
  intro D a0 a10 a11 a12 a13 a14 a15 a16 a17 a18 a19 a20 a21 a22 a23 a24 a25 a26 a27 a28 a29 H m len gn t d g sd0 lh lp l hl nd l6 fin
  refine ⟨lh, _, hl, trivial, fun od => ⟨_, rfl, lh, od, rfl, .inl ⟨_, upd_same, fun D1 hD1 => ?_⟩⟩⟩
  refine lcG walk_keys RStr (fun j => l[j]?.bind fun e => if decide (len ≤ t - e.2) = true then some e.1 else none) RStr.stab hD1 (by rw [kvG_len]; omega) (fun H5 e5 => e5 _ _ upd_same) (fun i H5 x H6 _ _ h => by rw [h.1]; exact Ex.refl _) (fun j v H5 H6 R0 N0 hj e5 hy hno hsm => ?_) (fun H5 xs e5 hx5 hps => ?_)
  · obtain ⟨rfl, k, v', hk, rfl⟩ := hy
    obtain ⟨e, he, rfl, rfl⟩ := key_at hk
    have hg : DGet H6 lh (.str e.1) (some (.int e.2)) := by
      refine .inl ⟨_, kS e.1, .inr ⟨_, e5 _ _ upd_same⟩, rfl, ?_⟩
      rw [valV_kvG sameS, look_mem nd (List.mem_of_getElem? he)]
      rfl
    refine ⟨rfl, _, rfl, _, rfl, _, rfl, lh, _, rfl, hg, _, _, rfl, rfl, _, rfl, _, _, rfl, rfl, _, rfl, ?_⟩
    by_cases c : len ≤ t - e.2
    · refine ifT (decide_eq_true c) ⟨_, rfl, ?_⟩
      exact hsm e.1 (by rw [he]; show (if decide (len ≤ t - e.2) = true then some e.1 else none) = _; rw [decide_eq_true c]; rfl) _ _ (Ex.refl _) rfl
    · exact ifF (by simp [c]) (hno (by rw [he]; show (if decide (len ≤ t - e.2) = true then some e.1 else none) = _; rw [decide_eq_false c]; rfl) _ (Ex.refl _))
  · have eo : (l.filterMap fun e => if decide (len ≤ t - e.2) = true then some e.1 else none) = goneOf len t l := by
      unfold goneOf
      rw [← map_fm, ← filt_fm, List.filterMap_filterMap]
      refine fm_congr fun p _ => ?_
      by_cases c : len ≤ t - p.2 <;> simp [c]
    rw [kvG_len, range_fm, eo] at hps
    rw [rstr_map hps] at hx5
    refine ⟨e5 _ _ upd_same, ?_⟩
    have nD : D1 ≠ lh := fun z => by rw [z, upd_same] at hD1; cases hD1
    exact fin _ D1 (unlock hl e5) (by rw [L2.upd_ne nD]; exact hx5)
theorem m_2 (ve : LawE P w K mg base CG CE Pm Ps Pl cL fTo r0 fdTo) (hr : Room 16 (xLaw P w K mg base fL cL A outer s H0 E0').A) :
    ∃ ts, PS (xLaw P w K mg base fL cL A outer s H0 E0') (mBody.getD 2 pass0') ts ∧ ∀ (D : Ends) (a0 a10 a11 a12 a14 a15 a16 a17 a18 a19 a20 a21 a22 a23 a24 a25 a26 a27 a28 a29 : Option V) (H : Hp) (m : Nat) (len gn t : Int) (d g sd0 lh lp gv : Addr) (l : List (Str × Int)), H lh = some (.dK (kvG kS l)) → H gv = some (.lst ((goneOf len t l).map V.str)) → (l.map (·.1)).Nodup → l.length ≤ 6 →
      (∀ (H' : Hp) (l2 : Addr), Ex H H' → H l2 = none → H' l2 = some (.dK (kvG kS (live len t l))) → D.nx [a0, some (.ref d), some (.int (m : Nat)), some (.int len), some (.ref g), some (.ref l2), some (.ref lp), some (.int gn), some (.ref sd0), some (.int t), a10, a11, a12, some (.ref gv), a14, a15, a16, a17, a18, a19, a20, a21, a22, a23, a24, a25, a26, a27, a28, a29] H') → ts D [a0, some (.ref d), some (.int (m : Nat)), some (.int len), some (.ref g), some (.ref lh), some (.ref lp), some (.int gn), some (.ref sd0), some (.int t), a10, a11, a12, some (.ref gv), a14, a15, a16, a17, a18, a19, a20, a21, a22, a23, a24, a25, a26, a27, a28, a29] H := by
  have hu := hr.units
  have hu1 := Nat.lt_trans (Nat.add_lt_add_left (by decide : 1 < 64) _) hu
  refine ⟨_, ps_set (i := 5) scLaw.nd rfl (Or.inr rfl) (pe_callTy (call_dictP rfl) (by rfl) ve.T.dict (by decide +kernel) (pa_cons (pe_lock (pe_lc (own := [("one", 28)]) (g := gName 28) (tt := tTest (tOp (rIn K true) (tVar 28) (tVar 13))) (te := tTup (tCons (tVar 28) (tCons (tDGet (tVar 5) (tVar 28)) tNil))) rfl scLaw.nd (pi_keys (pv 5)) (blkOk_by (N := nLaw) (sc := defScope sLaw) (by decide +kernel))
      (fun _ _ _ _ _ => pg_name (i := 28) scLaw.nd rfl (Or.inl rfl)) (fun _ _ _ _ _ => pts_one (pt_cmpR op_notIn_seq (pv 28) (pv 13) (by rfl))) (fun _ _ _ _ _ => pe_tup (pa_cons (pv 28) (pa_cons (pe_dget hu1 (pv 5) (pv 28) (fun _ _ => rfl)) pa_nil))))) pa_nil)), ?_⟩
  intro D a0 a10 a11 a12 a14 a15 a16 a17 a18 a19 a20 a21 a22 a23 a24 a25 a26 a27 a28 a29 H m len gn t d g sd0 lh lp gv l hl hgv nd l6 fin
  refine ⟨lh, _, hl, trivial, fun od => ⟨_, rfl, lh, od, rfl, .inl ⟨_, upd_same, fun D1 hD1 => ?_⟩⟩⟩
  have ng : gv ≠ lh := fun z => by rw [z, hl] at hgv; cases hgv
  have hgv1 : (upd H lh (.frz od (.dK (kvG kS l)))) gv = some (.lst ((goneOf len t l).map V.str)) := by rw [L2.upd_ne ng]; exact hgv
  refine lcG walk_keys (RKv kS) (fun j => l[j]?.bind fun e => if decide (e.1 ∉ goneOf len t l) = true then some e else none) (RKv.stab kS) hD1 (by rw [kvG_len]; omega) (fun H5 e5 => e5 _ _ upd_same) (fun i H5 x H6 _ _ h => by rw [h.1]; exact Ex.refl _) (fun j v H5 H6 R0 N0 hj e5 hy hno hsm => ?_) (fun H5 xs e5 hx5 hps => ?_)
  · obtain ⟨rfl, k, v', hk, rfl⟩ := hy
    obtain ⟨e, he, rfl, rfl⟩ := key_at hk
    have hg : DGet H6 lh (.str e.1) (some (.int e.2)) := by
      refine .inl ⟨_, kS e.1, .inr ⟨_, e5 _ _ upd_same⟩, rfl, ?_⟩
      rw [valV_kvG sameS, look_mem nd (List.mem_of_getElem? he)]
      rfl
    refine ⟨rfl, _, rfl, _, rfl, gv, _, rfl, .inl (SqL.of (e5 _ _ hgv1)), rfl, flat_strsV _, _, rfl, ?_⟩
    have ei : inV (kV (kS e.1)) ((goneOf len t l).map V.str) = decide (e.1 ∈ goneOf len t l) := inV_strs _ _
    rw [if_pos rfl, ei]
    by_cases c : e.1 ∈ goneOf len t l
    · exact ifF (by simp [c]) (hno (by rw [he]; show (if decide (e.1 ∉ goneOf len t l) = true then some e else none) = _; simp [c]) _ (Ex.refl _))
    · refine ifT (by simp [c]) ⟨_, rfl, _, rfl, _, rfl, lh, _, rfl, hg, (by show 2 ≤ sizeLine; decide), fun q hq => ?_⟩
      exact hsm e (by rw [he]; show (if decide (e.1 ∉ goneOf len t l) = true then some e else none) = _; simp [c]) _ _ (Ex.upd hq) ⟨q, rfl, upd_same⟩
  · rw [kvG_len, range_fm, live_law nd] at hps
    refine ⟨e5 _ _ upd_same, ?_⟩
    have nD : D1 ≠ lh := fun z => by rw [z, upd_same] at hD1; cases hD1
    have u6 := unlock hl e5
    have hx6 : (upd H5 lh (.dK (kvG kS l))) D1 = some (.lst xs) := by rw [L2.upd_ne nD]; exact hx5
    have hp6 : Paired (RKv kS (upd H5 lh (.dK (kvG kS l)))) xs (live len t l) := paired_mono (fun v b h => RKv.stab kS _ _ _ _ (fun c ys h => by
      rw [L2.upd_ne (fun z => by rw [z, e5 _ _ upd_same] at h; cases h)]
      exact h) h) hps
    obtain ⟨ps, rfl, pp⟩ := rkv_ps (K := K) hp6
    refine ⟨D1, ps, kvG kS (live len t l), rfl, SqL.of hx6, pp, fun q hq => ?_⟩
    rw [merge_self sameS (live_nodup nd)]
    exact fin _ q (u6.trans (Ex.upd hq)) (none_of u6 hq) upd_same
end
end K7
set_option Elab.async false
set_option linter.all false
set_option maxRecDepth 100000
set_option maxHeartbeats 4000000
namespace K7
open PySem PySem.Spec PyProof.Rows PySem.Calls L2 KB KC KD KS LamX R8 Q7 CP
def rDictP (K : PySem.W.Frag) : List V → Hp → VK → Prop := fun xs H Q => ∃ (a : Addr) (ps : List Addr) (kvs : List (Key × V)), xs = [.ref a] ∧ SqL K H a (ps.map V.ref) ∧ Paired (fun p kv => SqT K H p [kV kv.1, kv.2]) ps kvs ∧ ∀ p, H p = none → Q (.ref p) (upd H p (.dK (mergeK [] kvs)))
def rInt1 : List V → Hp → VK → Prop := fun xs H Q => (∃ i, xs = [.int i] ∧ Q (.int i) H) ∨ ∃ k, xs = [.bl k] ∧ Q (.int (if k then 1 else 0)) H
theorem items_put {κ : Type} [DecidableEq κ] {k : κ → Key} (hk : SameK k) {K : PySem.W.Frag} {i : Nat} {ta tb tn : TE} {σ : L2.St} {H : Hp} {Q : VK} {l : Addr} {tl : List (κ × Int)} {n : κ} {t : Int} {b : Bool} (hi : σ[i]? = some (some (.ref l))) (hta : ∀ H Q, Q (kV (k n)) H → ta σ H Q) (htb : ∀ H Q, Q (.int t) H → tb σ H Q) (htn : ∀ H Q, Q (.bl b) H → tn σ H Q)
    (hl : H l = some (.dK (kvG k tl))) (nd : (tl.map (·.1)).Nodup) (h9 : tl.length ≤ 1000) (fin : ∀ H' q, Ex H H' → H q = none → H' q = some (.dK (kvG k (if b = true then put tl n t else tl))) → Q (.ref q) H') :
    tCB (rDictP K) (tCons (tOp rCat (LiI.tListItems (tVar i)) (tOp rRep (tLst (tCons (tTup (tCons ta (tCons tb tNil))) tNil)) (tCB rInt1 (tCons tn tNil)))) tNil) σ H Q := by
  have hsl : sizeLine = 16777216 := rfl
  refine ⟨_, hi, l, _, rfl, hl, fun H1 p ts e1 hp hts hpt hp1 pp => ?_⟩
  have e1 : Ex H H1 := e1
  refine hta _ _ (htb _ _ ⟨(by show 2 ≤ sizeLine; decide), fun q hq => ⟨(by show 1 ≤ sizeLine; decide), fun r hr => htn _ _ (.inr ⟨_, rfl, r, _, _, rfl, rfl, upd_same, ?_, ?_, ?_, fun u hu => ?_⟩)⟩⟩)
  · cases b <;> decide
  · cases b <;> decide
  · show 1 * _ ≤ _
    cases b <;> decide
  have er : (List.replicate (if b = true then (1 : Int) else 0).toNat [V.ref q]).flatten = (if b = true then [q] else []).map V.ref := by cases b <;> rfl
  rw [er]
  have e2 : Ex H1 (upd (upd (upd H1 q (.tup [kV (k n), .int t])) r (.lst [.ref q])) u (.lst ((if b = true then [q] else []).map V.ref))) := ((Ex.upd hq).trans (Ex.upd hr)).trans (Ex.upd hu)
  have hq2 : (upd (upd (upd H1 q (.tup [kV (k n), .int t])) r (.lst [.ref q])) u (.lst ((if b = true then [q] else []).map V.ref))) q = some (.tup [kV (k n), .int t]) := Ex.upd hu _ _ (Ex.upd hr _ _ upd_same)
  have hu2 : (upd (upd (upd H1 q (.tup [kV (k n), .int t])) r (.lst [.ref q])) u (.lst ((if b = true then [q] else []).map V.ref))) u = some (.lst ((if b = true then [q] else []).map V.ref)) := upd_same
  generalize upd (upd (upd H1 q (.tup [kV (k n), .int t])) r (.lst [.ref q])) u (.lst ((if b = true then [q] else []).map V.ref)) = H2 at e2 hq2 hu2
  have lt : ts.length = tl.length := by
    have := paired_len pp
    rw [kvG_len] at this
    exact this
  refine ⟨p, u, _, _, rfl, rfl, e2 _ _ hp1, hu2, ?_, fun x hx => ?_⟩
  · rw [List.length_map, List.length_map]
    cases b <;> simp <;> omega
  rw [← List.map_append]
  have e3 : Ex H2 (upd H2 x (.lst ((ts ++ if b = true then [q] else []).map V.ref))) := Ex.upd hx
  have hx3 : (upd H2 x (.lst ((ts ++ if b = true then [q] else []).map V.ref))) x = some (.lst ((ts ++ if b = true then [q] else []).map V.ref)) := upd_same
  generalize upd H2 x (.lst ((ts ++ if b = true then [q] else []).map V.ref)) = H3 at e3 hx3
  have pp3 : Paired (fun (p : Addr) (kv : Key × V) => SqT K H3 p [kV kv.1, kv.2]) (ts ++ if b = true then [q] else []) (kvG k (tl ++ if b = true then [(n, t)] else [])) := by
    unfold kvG
    rw [List.map_append]
    refine paired_app (paired_mono (fun a c h => SqT.of (e3 _ _ (e2 _ _ h))) pp) ?_
    cases b
    · exact .nil
    · exact .cons (SqT.of (e3 _ _ hq2)) .nil
  refine ⟨x, _, _, rfl, SqL.of hx3, pp3, fun y hy => ?_⟩
  have e4 : Ex H3 (upd H3 y (.dK (mergeK [] (kvG k (tl ++ if b = true then [(n, t)] else []))))) := Ex.upd hy
  refine fin _ y (((e1.trans e2).trans e3).trans e4) (none_of ((e1.trans e2).trans e3) hy) ?_
  rw [upd_same]
  have em := merge_kvG hk (tl ++ if b = true then [(n, t)] else []) []
  have ef : (tl ++ if b = true then [(n, t)] else []).foldl (fun acc e => put acc e.1 e.2) [] = if b = true then put tl n t else tl := by
    rw [List.foldl_append, fold_put tl [] (by simpa using nd), List.nil_append]
    cases b <;> rfl
  rw [ef] at em
  exact congrArg (fun z => some (HO.dK z)) em
structure Turn (m : Nat) (s0 s' : Gp) (ch : Int) : Prop where
  gen : s'.gen = s0.gen + ch
  one : ch = 1 → s'.sh = sharesF m s0.sh s'.sk
def ch0 (len t : Int) (s : Gp) : Int := if goneOf len t s.hd = [] then 0 else 1
theorem look_turn {m : Nat} {len t : Int} {s0 s1 : Gp} (h : LookR m len t s0 s1) : s1.hd = live len t s0.hd ∧ s1.pl = s0.pl ∧ Turn m s0 s1 (ch0 len t s0) ∧ (goneOf len t s0.hd = [] → s1 = s0) := by
  unfold LookR at h
  unfold ch0
  by_cases c : (live len t s0.hd).length < s0.hd.length
  · rw [if_pos c] at h
    obtain ⟨ks, pm, so, rfl⟩ := h
    have ng : goneOf len t s0.hd ≠ [] := fun z => gone_nil.mp z c
    rw [if_neg ng]
    exact ⟨rfl, rfl, ⟨rfl, fun _ => rfl⟩, fun z => absurd z ng⟩
  · rw [if_neg c] at h
    subst h
    have z := gone_nil.mpr c
    rw [if_pos z]
    have hl : live len t s1.hd = s1.hd := by
      have h1 : (live len t s1.hd).length ≤ s1.hd.length := List.length_filter_le _ _
      unfold live at *
      exact List.filter_eq_self.mpr (List.length_filter_eq_length_iff.mp (by omega))
    exact ⟨hl.symm, rfl, ⟨by omega, fun z => by omega⟩, fun _ => rfl⟩
theorem joinG_step {K : PySem.W.Frag} {CG CE Pm Ps Pl : Addr} {m : Nat} {len t : Int} {n : Str} {g ha sd pa : Addr} {ta : Str → Addr} {s : Gp} {H : Hp} {Q : VK} {E : XK} (x : GAt K CG m len g ha sd pa ta s H) (ok : GOk m s) (tb : Tabs (TT Pm Ps Pl) H) (hn : n ∈ sixS)
    (fin : ∀ s' H' ha' sd' ta', LookR m len t s s' → Aft K CG Pm Ps Pl m len g ha pa H s' ha' sd' ta' H' → (n ∈ s'.names → E (.ref CE) none H') ∧
    (n ∉ s'.names → ∀ ks, ks.Perm ((put s'.hd n t).map (·.1)) → sortedS ks = true → ∀ H2 sd2 ta2, Aft K CG Pm Ps Pl m len g ha pa H (shareS m s' (put s'.hd n t) ks) ha' sd2 ta2 H2 → Q (.int (s'.gen + 1)) H2)) : spJoinG K CG CE Pm Ps Pl [.ref g, .str n, .int t] H Q E := by
  unfold spJoinG
  exact ⟨m, len, g, ha, sd, pa, ta, s, n, t, rfl, x, ok, tb, hn, fin⟩
theorem leaveG_step {K : PySem.W.Frag} {CG CE Pm Ps Pl : Addr} {m : Nat} {len t : Int} {n : Str} {g ha sd pa : Addr} {ta : Str → Addr} {s : Gp} {H : Hp} {Q : VK} {E : XK} (x : GAt K CG m len g ha sd pa ta s H) (ok : GOk m s) (tb : Tabs (TT Pm Ps Pl) H) (hn : n.length ≤ 900)
    (fin : ∀ s' H' ha' sd' ta', LookR m len t s s' → Aft K CG Pm Ps Pl m len g ha pa H s' ha' sd' ta' H' → (n ∉ s'.names → E (.ref CE) none H') ∧
    (n ∈ s'.names → ∀ ks, ks.Perm ((drop s'.hd n).map (·.1)) → sortedS ks = true → ∀ H2 sd2 ta2, Aft K CG Pm Ps Pl m len g ha pa H (shareS m s' (drop s'.hd n) ks) ha' sd2 ta2 H2 → Q .non H2)) : spLeaveG K CG CE Pm Ps Pl [.ref g, .str n, .int t] H Q E := by
  unfold spLeaveG
  exact ⟨m, len, g, ha, sd, pa, ta, s, n, t, rfl, x, ok, tb, hn, fin⟩
theorem beatG_step {K : PySem.W.Frag} {CG CE Pm Ps Pl : Addr} {m : Nat} {len t : Int} {n : Str} {g ha sd pa : Addr} {ta : Str → Addr} {s : Gp} {H : Hp} {Q : VK} {E : XK} (x : GAt K CG m len g ha sd pa ta s H) (ok : GOk m s) (tb : Tabs (TT Pm Ps Pl) H) (hn : n.length ≤ 900)
    (fin : ∀ s' H' ha' sd' ta', LookR m len t s s' → Aft K CG Pm Ps Pl m len g ha pa H s' ha' sd' ta' H' → (n ∉ s'.names → E (.ref CE) none H') ∧
    (n ∈ s'.names → ∀ H2 q, Aft K CG Pm Ps Pl m len g ha pa H { s' with hd := put s'.hd n t } ha' sd' ta' H2 → H2 q = some (.tup [.int s'.gen, .ref (ta' n)]) → Q (.ref q) H2)) : spBeatG K CG CE Pm Ps Pl [.ref g, .str n, .int t] H Q E := by
  unfold spBeatG
  exact ⟨m, len, g, ha, sd, pa, ta, s, n, t, rfl, x, ok, tb, hn, fin⟩
theorem noteG_step {K : PySem.W.Frag} {CG CE Pm Ps Pl : Addr} {m : Nat} {len t gen part place : Int} {n : Str} {g ha sd pa : Addr} {ta : Str → Addr} {s : Gp} {H : Hp} {Q : VK} {E : XK} (x : GAt K CG m len g ha sd pa ta s H) (ok : GOk m s) (tb : Tabs (TT Pm Ps Pl) H) (hn : n.length ≤ 900)
    (fin : ∀ s' H' ha' sd' ta', LookR m len t s s' → Aft K CG Pm Ps Pl m len g ha pa H s' ha' sd' ta' H' → (¬ noteOk s' n gen part place → E (.ref CE) none H') ∧
    (noteOk s' n gen part place → ∀ H2, Aft K CG Pm Ps Pl m len g ha pa H { s' with pl := put s'.pl part place } ha' sd' ta' H2 → Q .non H2)) : spNoteG K CG CE Pm Ps Pl [.ref g, .str n, .int gen, .int part, .int place, .int t] H Q E := by
  unfold spNoteG
  exact ⟨m, len, g, ha, sd, pa, ta, s, n, gen, part, place, t, rfl, x, ok, tb, hn, fin⟩
section
variable {P : Program} {w : World} {K : PySem.W.Frag} {mg : Str → Option Value} {base : Heap} {CG CE Pm Ps Pl cL fTo fL r0 : Addr} {fdTo : FuncData} {A : Around} {outer : List PySem.Env} {s : Shared} {H0 : Hp} {E0' : XK}
theorem lam_told (ve : LawE P w K mg base CG CE Pm Ps Pl cL fTo r0 fdTo) (hr : Room 16 (xLaw P w K mg base fL cL A outer s H0 E0').A) {params : Arguments} {body : Expr} {scope : Scope} {t : XK → TE} {p lpos pos : Pos} (L : LamS (defScope sLaw) scope) (hdef : defaultsOf params (xLaw P w K mg base fL cL A outer s H0 E0').env = ([], []))
    (hbind : ∀ (q : Str) (cl : List (Str × Addr)) (pm cv ctv : Value), bindArgs (PySem.W.kla_fn "<lambda>" q params body scope cl pm cv ctv) ⟨[], []⟩ = pure [])
    (hbody : ∀ (A' : Around) (outer' : List Env) (s' : Shared) (H : Hp) (E : XK) (f c' : Addr), Room 14 (A'.deeper (lamEnv (xLaw P w K mg base fL cL A outer s H0 E0') scope s'.heap.objs.size f c')) → PE (lamCx (xLaw P w K mg base fL cL A outer s H0 E0') A' outer' s' H E scope f c') body (t E)) :
    PE (xLaw P w K mg base fL cL A outer s H0 E0') (.Call (.Name "_law_told" p) [.Lambda params body scope lpos] [] pos) (tLam (TT Pm Ps Pl) (TTold K CE "GroupError") t) := by
  obtain ⟨oc, od, dV, kV, doc, pm, an, cdv, ct, osl, rfl, lk, hcd, _, _⟩ := ve.told.ex
  have bT := ve.told.bindsN (ps := ["what"]) fun _ _ _ _ _ _ us hl => match us, hl with | [_], _ => rfl
  exact pe_lamcall (T := TT Pm Ps Pl) (P := Pl) (c := cL) (k := 14) (by rfl) ve.gTold ve.told.kp lk hcd bT scTold rfl (Or.inl rfl)
      (told_gives (by rfl) ve.J.g (by decide +kernel) (fun f => rfl)) ve.TBl rfl tabLo (tabLu ve.ap)
      hr L hdef hbind hbody
theorem m_3 (ve : LawE P w K mg base CG CE Pm Ps Pl cL fTo r0 fdTo) (hr : Room 16 (xLaw P w K mg base fL cL A outer s H0 E0').A) :
    ∃ ts, PS (xLaw P w K mg base fL cL A outer s H0 E0') (mBody.getD 3 pass0') ts ∧ ∀ (D : Ends) (a0 a10 a11 a14 a15 a16 a17 a18 a19 a20 a21 a22 a23 a24 a25 a26 a27 a28 a29 : Option V) (H : Hp) (m : Nat) (len gn t : Int) (d g sd0 lh lp gv : Addr) (n : Str) (l : List (Str × Int)), H lh = some (.dK (kvG kS l)) →
      (D.nx [a0, some (.ref d), some (.int (m : Nat)), some (.int len), some (.ref g), some (.ref lh), some (.ref lp), some (.int gn), some (.ref sd0), some (.int t), a10, a11, some (.str n), some (.ref gv), some (.bl (decide (n ∈ l.map (·.1)))), some (.ref sd0), a16, a17, a18, a19, a20, a21, a22, a23, a24, a25, a26, a27, a28, a29] H) → ts D [a0, some (.ref d), some (.int (m : Nat)), some (.int len), some (.ref g), some (.ref lh), some (.ref lp), some (.int gn), some (.ref sd0), some (.int t), a10, a11, some (.str n), some (.ref gv), a14, a15, a16, a17, a18, a19, a20, a21, a22, a23, a24, a25, a26, a27, a28, a29] H := by
  have hu := hr.units
  have hu1 := Nat.lt_trans (Nat.add_lt_add_left (by decide : 1 < 64) _) hu
  refine ⟨_, ps_par (i := 14) (j := 15) rfl scLaw.nd rfl rfl (by decide) rfl rfl (pa_cons (pe_cmp (pc_din hu1 (pv 12) (pv 5))) (pa_cons (pv 8) pa_nil)) (by rfl), ?_⟩
  intro D a0 a10 a11 a14 a15 a16 a17 a18 a19 a20 a21 a22 a23 a24 a25 a26 a27 a28 a29 H m len gn t d g sd0 lh lp gv n l hl fin
  have hg : DGet H lh (.str n) ((look l n).map V.int) := by
    have := DGet.k (k := kS n) hl
    rw [valV_kvG sameS] at this
    exact this
  have ei : ((look l n).map V.int).isSome = decide (n ∈ l.map (·.1)) := isS_names (s := ⟨l, [], fun _ => [], 0, []⟩) n
  refine ⟨_, rfl, _, rfl, lh, _, rfl, hg, _, rfl, _, _, rfl, ?_⟩
  rw [ei]
  exact fin
theorem m_4 (ve : LawE P w K mg base CG CE Pm Ps Pl cL fTo r0 fdTo) (hr : Room 16 (xLaw P w K mg base fL cL A outer s H0 E0').A) :
    ∃ ts, PS (xLaw P w K mg base fL cL A outer s H0 E0') (mBody.getD 4 pass0') ts ∧ ∀ (D : Ends) (a0 a10 a11 a12 a14 a15 a16 a17 a18 a19 a20 a21 a22 a23 a24 a25 a26 a27 a28 a29 : Option V) (H : Hp) (m : Nat) (len gn t : Int) (d g sd0 lh lp gv : Addr) (st : Gp), H gv = some (.lst ((goneOf len t st.hd).map V.str)) → (∀ n ∈ goneOf len t st.hd, PyData.strOk n = true) →
      (∀ H', Ex H H' → D.nx [a0, some (.ref d), some (.int (m : Nat)), some (.int len), some (.ref g), some (.ref lh), some (.ref lp), some (.int gn), some (.ref sd0), some (.int t), a10, a11, a12, some (.ref gv), a14, a15, some (.int (ch0 len t st)), a17, a18, a19, a20, a21, a22, a23, a24, a25, a26, a27, a28, a29] H') → ts D [a0, some (.ref d), some (.int (m : Nat)), some (.int len), some (.ref g), some (.ref lh), some (.ref lp), some (.int gn), some (.ref sd0), some (.int t), a10, a11, a12, some (.ref gv), a14, a15, a16, a17, a18, a19, a20, a21, a22, a23, a24, a25, a26, a27, a28, a29] H := by
  have hu := hr.units
  refine ⟨_, ps_set (i := 16) scLaw.nd rfl (Or.inl rfl) (pe_callTy call_int1 (by rfl) ve.T.int (by decide +kernel) (pa_cons (pe_cmpR (op_neD hu) (pv 13) (pe_lst pa_nil) (nomark _)) pa_nil)), ?_⟩
  intro D a0 a10 a11 a12 a14 a15 a16 a17 a18 a19 a20 a21 a22 a23 a24 a25 a26 a27 a28 a29 H m len gn t d g sd0 lh lp gv st hgv sk fin
  refine ⟨_, rfl, Nat.zero_le _, fun p hp => ⟨.list ((goneOf len t st.hd).map PyData.str), .list [], .lst (SqL.of (Ex.upd hp _ _ hgv)) (dp_strs _), .lst (SqL.of upd_same) .nil, sh_strs sk, rfl, .inr ⟨_, rfl, ?_⟩⟩⟩
  rw [eqv_nil_strs]
  have e : (if (!decide (goneOf len t st.hd = [])) = true then (1 : Int) else 0) = ch0 len t st := by
    unfold ch0
    by_cases c : goneOf len t st.hd = [] <;> simp [c]
  show D.nx (List.set _ 16 (some (V.int (if (!decide (goneOf len t st.hd = [])) = true then (1 : Int) else 0)))) _
  rw [e]
  exact fin _ (Ex.upd hp)
end
end K7
set_option Elab.async false
set_option linter.all false
set_option maxRecDepth 100000
set_option maxHeartbeats 4000000
namespace K7
open PySem PySem.Spec PyProof.Rows PySem.Calls L2 KB KC KD KS LamX R8 Q7 CP
abbrev ifBody : Stmt → List Stmt
  | .If _ b _ _ => b
  | _ => []
abbrev elseBody : Stmt → List Stmt
  | .If _ _ b _ => b
  | _ => []
abbrev mI0 : Stmt := mBody.getD 6 pass0'
abbrev mI1 : Stmt := (elseBody mI0).getD 0 pass0'
abbrev mI2 : Stmt := (elseBody mI1).getD 0 pass0'
section
variable {P : Program} {w : World} {K : PySem.W.Frag} {mg : Str → Option Value} {base : Heap} {CG CE Pm Ps Pl cL fTo fL r0 : Addr} {fdTo : FuncData} {A : Around} {outer : List PySem.Env} {s : Shared} {H0 : Hp} {E0' : XK}
theorem m_join (ve : LawE P w K mg base CG CE Pm Ps Pl cL fTo r0 fdTo) (hr : Room 16 (xLaw P w K mg base fL cL A outer s H0 E0').A) :
    ∃ ts, PSs (xLaw P w K mg base fL cL A outer s H0 E0') (ifBody mI0) ts ∧ ∀ (D : Ends) (a0 a10 a17 a18 a19 a20 a21 a22 a23 a24 a25 a26 a27 a28 a29 : Option V) (H : Hp) (m : Nat) (len gn t so : Int) (d p g ha sd0 sb pa lh lp gv : Addr) (ta0 tb : Str → Addr) (s0 : Gp) (n : Str), Ls K CG Pm Ps Pl m len d p g ha sd0 pa ta0 lh lp s0 (live len t s0.hd) s0.pl H → TabT K H sb s0.sk tb s0.sh → sb ≠ ha → sb ≠ pa → n ∈ sixS →
      (∀ (H' : Hp) (s' : Gp) (ch' : Int) (ha' sd' lh' lp' : Addr) (ta' : Str → Addr) (b17 b18 b19 b20 b21 : Option V), Ls K CG Pm Ps Pl m len d p g ha' sd' pa ta' lh' lp' s' s'.hd s'.pl H' → TabT K H' sb s0.sk tb s0.sh → Turn m s0 s' ch' → D.nx [a0, some (.ref d), some (.int (m : Nat)), some (.int len), some (.ref g), some (.ref lh'), some (.ref lp'), some (.int gn), some (.ref sb), some (.int t), a10, some (.int so), some (.str n), some (.ref gv), some (.bl (decide (n ∈ (live len t s0.hd).map (·.1)))), some (.ref sb), some (.int ch'), b17, b18, b19, b20, b21, a22, a23, a24, a25, a26, a27, a28, a29] H') → ts D [a0, some (.ref d), some (.int (m : Nat)), some (.int len), some (.ref g), some (.ref lh), some (.ref lp), some (.int gn), some (.ref sb), some (.int t), a10, some (.int so), some (.str n), some (.ref gv), some (.bl (decide (n ∈ (live len t s0.hd).map (·.1)))), some (.ref sb), some (.int (ch0 len t s0)), a17, a18, a19, a20, a21, a22, a23, a24, a25, a26, a27, a28, a29] H := by
  obtain ⟨f1, fd1, G1, m1, b1⟩ := ve.join
  have hu := hr.units
  have hu1 := Nat.lt_trans (Nat.add_lt_add_left (by decide : 1 < 64) _) hu
  refine ⟨_, pss_cons (ps_set (i := 17) scLaw.nd rfl (Or.inl rfl) (lam_told ve hr (lamS_by (by show lamSB (defScope sLaw) _ = true; decide +kernel)) rfl (fun _ _ _ _ _ => rfl)
        (fun A outer s H E f c' hr' => pe_meth (pv 4) ve.B.cl m1 G1 (hr'.mono (by decide)) b1 .nil (passes_call (takes_of rfl rfl rfl rfl) (fun _ _ _ _ h => h)) (pa_cons (pv 12) (pa_cons (pv 9) pa_nil)))))
    (pss_cons (ps_asg (pe_tup (pa_cons (pe_op op_add (pv 16) (pe_callTy call_int1 (by rfl) ve.T.int (by decide +kernel) (pa_cons (pe_not (pv 14)) pa_nil)))
        (pa_cons (pe_callTy (call_dictP rfl) (by rfl) ve.T.dict (by decide +kernel) (pa_cons (pe_op op_cat (LiI.pe_listItems rfl (pv 5) (by rfl) ve.T.list (by decide +kernel)) (pe_op op_rep (pe_lst (pa_cons (pe_tup (pa_cons (pv 12) (pa_cons (pv 9) pa_nil))) pa_nil)) (pe_callTy call_int1 (by rfl) ve.T.int (by decide +kernel) (pa_cons (pe_not (pv 14)) pa_nil)))) pa_nil)) pa_nil)))
      (pg_tup rfl (pgs_cons (pg_name (i := 16) scLaw.nd rfl (Or.inl rfl)) (pgs_cons (pg_name (i := 5) scLaw.nd rfl (Or.inr rfl)) pgs_nil))))
    (pss_one (ps_if (PW.pt (pw_or (pt_cmpR op_ne (pe_cmpR op_eq (pv 17) pe_str (nomark _)) (pv 14) (nomark _)) (pw_or1 (PW.pt (pw_and (pt_not (pt_truth (pv 14) (fun _ => rfl))) (pw_and1 (pt_cmpR op_ne (pv 17) (pf 4) (nomark _)))))))) (pss_one (ps_ret pe_bl)) pss_nil))), ?_⟩
  intro D a0 a10 a17 a18 a19 a20 a21 a22 a23 a24 a25 a26 a27 a28 a29 H m len gn t so d p g ha sd0 sb pa lh lp gv ta0 tb s0 n a tt nh np h6 fin
  have nd := live_nodup (len := len) (t := t) a.ok.nd
  have l6 := a.ok.n6
  have l9 : (live len t s0.hd).length ≤ 1000 := Nat.le_trans (List.length_filter_le _ _) (by omega)
  refine ⟨a.b.tabs, fun H1 e1 t1 => ?_⟩
  have a1 := a.lam e1 t1
  obtain ⟨dx1, ho1⟩ := a1.x.o
  refine ⟨_, rfl, g, dx1, _, rfl, ho1, gF_m (by decide +kernel) (by decide +kernel) (by decide +kernel) (by decide +kernel) (by decide +kernel) (by decide +kernel), _, rfl, _, rfl, joinG_step a1.x a1.ok a1.b.tabs h6 fun s1 H2 ha1 sd1 ta1 lr af => ?_⟩
  obtain ⟨hhd, hpl, tn, hz⟩ := look_turn lr
  have en : s1.names = (live len t s0.hd).map (·.1) := by unfold Gp.names; rw [hhd]
  have tt0 : TabT K H2 sb s0.sk tb s0.sh := (tt.exN e1).keeps a1.x af.mv nh np
  rw [en]
  refine ⟨fun c => ⟨true, ve.J.e, fun _ => ?_, fun z => nomatch z⟩, fun c ks pm so2 H3 sd2 ta2 af2 => ?_⟩
  · have a2 := a1.aft af
    rw [decide_eq_true c] at fin ⊢
    refine ⟨_, rfl, _, rfl, _, rfl, .inr ⟨_, rfl, _, _, rfl, rfl, ?_⟩⟩
    refine items_put sameS rfl (fun _ _ q => ⟨_, rfl, q⟩) (fun _ _ q => ⟨_, rfl, q⟩) (fun _ _ q => ⟨_, rfl, _, rfl, q⟩) a2.hh nd l9 fun H4 l4 e4 hl4 h4 => ⟨(by show 2 ≤ sizeLine; decide), fun q hq => ?_⟩
    have e5 : Ex H2 (upd H4 q (.tup [.int (ch0 len t s0 + if (!true) = true then 1 else 0), .ref l4])) := e4.trans (Ex.upd hq)
    have h5 : (upd H4 q (.tup [.int (ch0 len t s0 + if (!true) = true then 1 else 0), .ref l4])) q = some (.tup [.int (ch0 len t s0 + if (!true) = true then 1 else 0), .ref l4]) := upd_same
    have h5' := Ex.upd (o := .tup [.int (ch0 len t s0 + if (!true) = true then 1 else 0), .ref l4]) hq _ _ h4
    generalize upd H4 q (.tup [.int (ch0 len t s0 + if (!true) = true then 1 else 0), .ref l4]) = H5 at e5 h5 h5'
    refine ⟨q, _, rfl, SqT.of h5, rfl, _, _, rfl, _, _, rfl, rfl, ?_⟩
    obtain ⟨z1, z2⟩ := a2.new hl4
    have a5 : Ls K CG Pm Ps Pl m len d p g ha1 sd1 pa ta1 l4 lp s1 s1.hd s1.pl H5 := by
      rw [hhd, hpl]
      exact (a2.ex e5).heard h5' z1 z2
    refine ⟨_, rfl, rfl, _, rfl, rfl, _, rfl, ?_⟩
    refine ifF (by decide) ⟨_, rfl, _, rfl, ?_⟩
    have ec : ch0 len t s0 + (if (!true) = true then (1 : Int) else 0) = ch0 len t s0 := by simp
    rw [ec]
    refine ifF (by decide) ?_
    exact fin H5 s1 _ ha1 sd1 l4 lp ta1 _ _ _ _ _ a5 (tt0.ex e5) tn
  · have a3 := a1.aft af2
    have tt3 : TabT K H3 sb s0.sk tb s0.sh := (tt.exN e1).keeps a1.x af2.mv nh np
    rw [decide_eq_false c] at fin ⊢
    refine ⟨_, rfl, _, rfl, _, rfl, .inr ⟨_, rfl, _, _, rfl, rfl, ?_⟩⟩
    refine items_put sameS rfl (fun _ _ q => ⟨_, rfl, q⟩) (fun _ _ q => ⟨_, rfl, q⟩) (fun _ _ q => ⟨_, rfl, _, rfl, q⟩) a3.hh nd l9 fun H4 l4 e4 hl4 h4 => ⟨(by show 2 ≤ sizeLine; decide), fun q hq => ?_⟩
    have e5 : Ex H3 (upd H4 q (.tup [.int (ch0 len t s0 + if (!false) = true then 1 else 0), .ref l4])) := e4.trans (Ex.upd hq)
    have h5 : (upd H4 q (.tup [.int (ch0 len t s0 + if (!false) = true then 1 else 0), .ref l4])) q = some (.tup [.int (ch0 len t s0 + if (!false) = true then 1 else 0), .ref l4]) := upd_same
    have h5' := Ex.upd (o := .tup [.int (ch0 len t s0 + if (!false) = true then 1 else 0), .ref l4]) hq _ _ h4
    generalize upd H4 q (.tup [.int (ch0 len t s0 + if (!false) = true then 1 else 0), .ref l4]) = H5 at e5 h5 h5'
    refine ⟨q, _, rfl, SqT.of h5, rfl, _, _, rfl, _, _, rfl, rfl, ?_⟩
    obtain ⟨z1, z2⟩ := a3.new hl4
    have a5 : Ls K CG Pm Ps Pl m len d p g ha1 sd2 pa ta2 l4 lp (shareS m s1 (put s1.hd n t) ks) (shareS m s1 (put s1.hd n t) ks).hd (shareS m s1 (put s1.hd n t) ks).pl H5 := by
      show Ls K CG Pm Ps Pl m len d p g ha1 sd2 pa ta2 l4 lp (shareS m s1 (put s1.hd n t) ks) (put s1.hd n t) s1.pl H5
      rw [hpl]
      refine (a3.ex e5).heard ?_ z1 z2
      rw [hhd]
      exact h5'
    obtain ⟨dx5, ho5⟩ := a5.x.o
    refine ⟨_, rfl, rfl, _, rfl, rfl, _, rfl, ?_⟩
    refine ifF (by simp) ⟨_, rfl, _, rfl, ?_⟩
    have ec : ch0 len t s0 + (if (!false) = true then (1 : Int) else 0) = ch0 len t s0 + 1 := by simp
    rw [ec]
    refine ifT (by decide) ⟨_, rfl, _, rfl, g, CG, dx5, _, _, rfl, ho5, ve.B.cl, ve.B.nG, rfl, rfl, _, rfl, ?_⟩
    refine ifF (by simp [shareS]) ?_
    refine fin H5 (shareS m s1 (put s1.hd n t) ks) _ ha1 sd2 l4 lp ta2 _ _ _ _ _ a5 (tt3.ex e5) ⟨?_, fun hc => ?_⟩
    · show s1.gen + 1 = _
      rw [tn.gen]
      omega
    · have hz0 : goneOf len t s0.hd = [] := by
        unfold ch0 at hc
        split at hc
        · assumption
        · omega
      rw [hz hz0]
      rfl
end
end K7
set_option Elab.async false
set_option linter.all false
set_option maxRecDepth 100000
set_option maxHeartbeats 4000000
namespace K7
open PySem PySem.Spec PyProof.Rows PySem.Calls L2 KB KC KD KS LamX R8 Q7 CP
theorem drop_off {l : List (Str × Int)} {n : Str} (h : n ∉ l.map (·.1)) : drop l n = l := by
  unfold drop
  refine List.filter_eq_self.mpr fun p hp => decide_eq_true fun z => h (List.mem_map.mpr ⟨p, hp, z⟩)
theorem put_map {l : List (Str × Int)} {n : Str} {t : Int} : (l.map fun e => (e.1, if e.1 = n then t else e.2)) = if n ∈ l.map (·.1) then put l n t else l := by
  by_cases c : n ∈ l.map (·.1)
  · rw [if_pos c]
    unfold put
    rw [if_pos c]
    refine List.map_congr_left fun e _ => ?_
    by_cases z : e.1 = n
    · rw [if_pos z, if_pos z]
    · rw [if_neg z, if_neg z]
  · rw [if_neg c]
    conv => rhs; rw [← List.map_id l]
    refine List.map_congr_left fun e he => ?_
    rw [if_neg fun z => c (List.mem_map.mpr ⟨e, he, z⟩)]
    rfl
theorem sh_beat (g : Int) (l : List Int) : SeqAt.shaped (.tuple [.int g, .tuple (l.map PyData.int)]) = true := by
  have h := depth_intsL l
  have h1 : (PyData.tuple (l.map PyData.int)).depth ≤ 5 := by unfold PyData.depth; omega
  have h2 : (PyData.int g).depth ≤ 2 := by simp [PyData.depth]
  have h3 : PyData.depthAll [.int g, .tuple (l.map PyData.int)] ≤ 6 := by
    unfold PyData.depthAll
    unfold PyData.depthAll
    unfold PyData.depthAll
    omega
  unfold SeqAt.shaped
  rw [Bool.and_eq_true, decide_eq_true_eq]
  refine ⟨?_, ?_⟩
  · unfold PyData.canLay0
    unfold PyData.canLayAll0
    unfold PyData.canLayAll0
    unfold PyData.canLayAll0
    have := lay_intsL l
    have e : (PyData.tuple (l.map PyData.int)).canLay0 = true := by unfold PyData.canLay0; exact this
    rw [e]
    simp [PyData.canLay0]
  · unfold PyData.depth
    omega
theorem eqv_beat (g : Int) (l : List Int) : PyData.eqv (.tuple [.int g, .tuple (l.map PyData.int)]) (.tuple [.int g, .tuple (l.map PyData.int)]) = true := by
  have h := eqv_tupI l
  show PyData.eqvAll [.int g, .tuple (l.map PyData.int)] [.int g, .tuple (l.map PyData.int)] = true
  unfold PyData.eqvAll
  unfold PyData.eqvAll
  unfold PyData.eqvAll
  rw [h]
  simp [PyData.eqv]
def rNeX (K : PySem.W.Frag) : R2 := fun x y H Q => rNe x y H Q ∨ rNeD K x y H Q
theorem op_neX {X : Cx} (hu : X.A.units + 64 < cLine) : OpR X (compareOp .NotEq) (rNeX X.K) := by
  intro pins s σ H x y v u Q I rx ry h
  rcases h with h | h
  · exact op_ne pins s σ H x y v u Q I rx ry h
  · exact op_neD hu pins s σ H x y v u Q I rx ry h
section
variable {P : Program} {w : World} {K : PySem.W.Frag} {mg : Str → Option Value} {base : Heap} {CG CE Pm Ps Pl cL fTo fL r0 : Addr} {fdTo : FuncData} {A : Around} {outer : List PySem.Env} {s : Shared} {H0 : Hp} {E0' : XK}
theorem m_leave (ve : LawE P w K mg base CG CE Pm Ps Pl cL fTo r0 fdTo) (hr : Room 16 (xLaw P w K mg base fL cL A outer s H0 E0').A) :
    ∃ ts, PSs (xLaw P w K mg base fL cL A outer s H0 E0') (ifBody mI1) ts ∧ ∀ (D : Ends) (a0 a10 a17 a18 a19 a20 a21 a22 a23 a24 a25 a26 a27 a28 a29 : Option V) (H : Hp) (m : Nat) (len gn t so : Int) (d p g ha sd0 sb pa lh lp gv : Addr) (ta0 tb : Str → Addr) (s0 : Gp) (n : Str), Ls K CG Pm Ps Pl m len d p g ha sd0 pa ta0 lh lp s0 (live len t s0.hd) s0.pl H → TabT K H sb s0.sk tb s0.sh → sb ≠ ha → sb ≠ pa → n ∈ sixS →
      (∀ (H' : Hp) (s' : Gp) (ch' : Int) (ha' sd' lh' lp' : Addr) (ta' : Str → Addr) (b17 b18 b19 b20 b21 : Option V), Ls K CG Pm Ps Pl m len d p g ha' sd' pa ta' lh' lp' s' s'.hd s'.pl H' → TabT K H' sb s0.sk tb s0.sh → Turn m s0 s' ch' → D.nx [a0, some (.ref d), some (.int (m : Nat)), some (.int len), some (.ref g), some (.ref lh'), some (.ref lp'), some (.int gn), some (.ref sb), some (.int t), a10, some (.int so), some (.str n), some (.ref gv), some (.bl (decide (n ∈ (live len t s0.hd).map (·.1)))), some (.ref sb), some (.int ch'), b17, b18, b19, b20, b21, a22, a23, a24, a25, a26, a27, a28, a29] H') → ts D [a0, some (.ref d), some (.int (m : Nat)), some (.int len), some (.ref g), some (.ref lh), some (.ref lp), some (.int gn), some (.ref sb), some (.int t), a10, some (.int so), some (.str n), some (.ref gv), some (.bl (decide (n ∈ (live len t s0.hd).map (·.1)))), some (.ref sb), some (.int (ch0 len t s0)), a17, a18, a19, a20, a21, a22, a23, a24, a25, a26, a27, a28, a29] H := by
  obtain ⟨f1, fd1, G1, m1, b1⟩ := ve.leave
  have hu := hr.units
  have hu1 := Nat.lt_trans (Nat.add_lt_add_left (by decide : 1 < 64) _) hu
  refine ⟨_, pss_cons (ps_set (i := 17) scLaw.nd rfl (Or.inl rfl) (lam_told ve hr (lamS_by (by show lamSB (defScope sLaw) _ = true; decide +kernel)) rfl (fun _ _ _ _ _ => rfl)
        (fun A outer s H E f c' hr' => pe_meth (pv 4) ve.B.cl m1 G1 (hr'.mono (by decide)) b1 .nil (passes_call (takes_of rfl rfl rfl rfl) (fun _ _ _ _ h => h)) (pa_cons (pv 12) (pa_cons (pv 9) pa_nil)))))
    (pss_cons (ps_asg (pe_tup (pa_cons (pe_op op_add (pv 16) (pe_callTy call_int1 (by rfl) ve.T.int (by decide +kernel) (pa_cons (pv 14) pa_nil)))
        (pa_cons (pe_callTy (call_dictP rfl) (by rfl) ve.T.dict (by decide +kernel) (pa_cons (pe_lock (pe_lc (own := [("one", 28)]) (g := gName 28) (tt := tTest (tOp rNe (tVar 28) (tVar 12))) (te := tTup (tCons (tVar 28) (tCons (tDGet (tVar 5) (tVar 28)) tNil))) rfl scLaw.nd (pi_keys (pv 5)) (blkOk_by (N := nLaw) (sc := defScope sLaw) (by decide +kernel))
      (fun _ _ _ _ _ => pg_name (i := 28) scLaw.nd rfl (Or.inl rfl)) (fun _ _ _ _ _ => pts_one (pt_cmpR op_ne (pv 28) (pv 12) (nomark _))) (fun _ _ _ _ _ => pe_tup (pa_cons (pv 28) (pa_cons (pe_dget hu1 (pv 5) (pv 28) (fun _ _ => rfl)) pa_nil))))) pa_nil)) pa_nil)))
      (pg_tup rfl (pgs_cons (pg_name (i := 16) scLaw.nd rfl (Or.inl rfl)) (pgs_cons (pg_name (i := 5) scLaw.nd rfl (Or.inr rfl)) pgs_nil))))
    (pss_one (ps_if (pt_cmpR op_eq (pe_cmpR op_eq (pv 17) pe_str (nomark _)) (pv 14) (nomark _)) (pss_one (ps_ret pe_bl)) pss_nil))), ?_⟩
  intro D a0 a10 a17 a18 a19 a20 a21 a22 a23 a24 a25 a26 a27 a28 a29 H m len gn t so d p g ha sd0 sb pa lh lp gv ta0 tb s0 n a tt nh np h6 fin
  have nd := live_nodup (len := len) (t := t) a.ok.nd
  have l6 := a.ok.n6
  have l9 : (live len t s0.hd).length ≤ 6 := Nat.le_trans (List.length_filter_le _ _) (by omega)
  have hn9 : n.length ≤ 900 := Nat.le_trans (six_ok n h6).1 (by decide)
  refine ⟨a.b.tabs, fun H1 e1 t1 => ?_⟩
  have a1 := a.lam e1 t1
  obtain ⟨dx1, ho1⟩ := a1.x.o
  refine ⟨_, rfl, g, dx1, _, rfl, ho1, gF_m (by decide +kernel) (by decide +kernel) (by decide +kernel) (by decide +kernel) (by decide +kernel) (by decide +kernel), _, rfl, _, rfl, leaveG_step a1.x a1.ok a1.b.tabs hn9 fun s1 H2 ha1 sd1 ta1 lr af => ?_⟩
  obtain ⟨hhd, hpl, tn, hz⟩ := look_turn lr
  have en : s1.names = (live len t s0.hd).map (·.1) := by unfold Gp.names; rw [hhd]
  have tt0 : TabT K H2 sb s0.sk tb s0.sh := (tt.exN e1).keeps a1.x af.mv nh np
  rw [en]
  have rest : ∀ (H3 : Hp) (b17 : Option V) (b : Bool) (tl : V) (s3 : Gp) (ha3 sd3 : Addr) (ta3 : Str → Addr), decide (n ∈ (live len t s0.hd).map (·.1)) = b → b17 = some tl → scal tl (.str "GroupError") = true → decide (V.bl (decide (tl = .str "GroupError")) = V.bl b) = false →
      Ls K CG Pm Ps Pl m len d p g ha3 sd3 pa ta3 lh lp s3 (live len t s0.hd) s0.pl H3 → TabT K H3 sb s0.sk tb s0.sh → Turn m s0 s3 (ch0 len t s0 + if b = true then 1 else 0) → s3.hd = drop (live len t s0.hd) n → s3.pl = s0.pl →
      tSeq (tAsg (tTup (tCons (tOp (rI0 fun i j => V.int (i + j)) (tVar 16) (tCB rInt1 (tCons (tVar 14) tNil))) (tCons (tCB (rDictP K) (tCons (tLockE (tLc (iKeys (tVar 5)) (gName 28) (tTest (tOp rNe (tVar 28) (tVar 12))) (tTup (tCons (tVar 28) (tCons (tDGet (tVar 5) (tVar 28)) tNil))) [28])) tNil)) tNil))) (gTup K 2 (gCons (gName 16) (gCons (gName 5) gNil))))
        (tIfS (tTest (tOp rEq (tOp rEq (tVar 17) (tC (.str "GroupError"))) (tVar 14))) (tRet (tC (.bl false))) tNext) D [a0, some (.ref d), some (.int (m : Nat)), some (.int len), some (.ref g), some (.ref lh), some (.ref lp), some (.int gn), some (.ref sb), some (.int t), a10, some (.int so), some (.str n), some (.ref gv), some (.bl (decide (n ∈ (live len t s0.hd).map (·.1)))), some (.ref sb), some (.int (ch0 len t s0)), b17, a18, a19, a20, a21, a22, a23, a24, a25, a26, a27, a28, a29] H3 := by
    intro H3 b17 b tl s3 ha3 sd3 ta3 hb h17 hsc hdec a3 tt3 tn3 hd3 pl3
    subst h17
    rw [hb] at fin ⊢
    refine ⟨_, rfl, _, rfl, .inr ⟨_, rfl, _, _, rfl, rfl, ?_⟩⟩
    refine ⟨lh, _, a3.hh, trivial, fun od => ⟨_, rfl, lh, od, rfl, .inl ⟨_, upd_same, fun D1 hD1 => ?_⟩⟩⟩
    refine lcG walk_keys (RKv kS) (fun j => (live len t s0.hd)[j]?.bind fun e => if decide (e.1 ≠ n) = true then some e else none) (RKv.stab kS) hD1 (by rw [kvG_len]; omega) (fun H5 e5 => e5 _ _ upd_same) (fun i H5 x H6 _ _ h => by rw [h.1]; exact Ex.refl _) (fun j v H5 H6 R0 N0 hj e5 hy hno hsm => ?_) (fun H5 xs e5 hx5 hps => ?_)
    · obtain ⟨rfl, k, v', hk, rfl⟩ := hy
      obtain ⟨e, he, rfl, rfl⟩ := key_at hk
      have hg : DGet H6 lh (.str e.1) (some (.int e.2)) := by
        refine .inl ⟨_, kS e.1, .inr ⟨_, e5 _ _ upd_same⟩, rfl, ?_⟩
        rw [valV_kvG sameS, look_mem nd (List.mem_of_getElem? he)]
        rfl
      refine ⟨rfl, _, rfl, _, rfl, rfl, _, rfl, ?_⟩
      have ed : decide (kV (kS e.1) = V.str n) = decide (e.1 = n) := by
        show decide (V.str e.1 = V.str n) = _
        rw [decide_eq_decide]
        exact ⟨fun z => by injection z, fun z => by rw [z]⟩
      rw [ed]
      by_cases c : e.1 = n
      · exact ifF (by simp [c]) (hno (by rw [he]; show (if decide (e.1 ≠ n) = true then some e else none) = _; simp [c]) _ (Ex.refl _))
      · refine ifT (by simp [c]) ⟨_, rfl, _, rfl, _, rfl, lh, _, rfl, hg, (by show 2 ≤ sizeLine; decide), fun q hq => ?_⟩
        exact hsm e (by rw [he]; show (if decide (e.1 ≠ n) = true then some e else none) = _; simp [c]) _ _ (Ex.upd hq) ⟨q, rfl, upd_same⟩
    · rw [kvG_len, range_fm, filt_fm] at hps
      have hps : Paired (RKv kS H5) xs (drop (live len t s0.hd) n) := hps
      refine ⟨e5 _ _ upd_same, ?_⟩
      have nD : D1 ≠ lh := fun z => by rw [z, upd_same] at hD1; cases hD1
      have u6 := unlock a3.hh e5
      have hx6 : (upd H5 lh (.dK (kvG kS (live len t s0.hd)))) D1 = some (.lst xs) := by rw [L2.upd_ne nD]; exact hx5
      have hp6 : Paired (RKv kS (upd H5 lh (.dK (kvG kS (live len t s0.hd))))) xs (drop (live len t s0.hd) n) := paired_mono (fun v b h => RKv.stab kS _ _ _ _ (fun c ys h => by
        rw [L2.upd_ne (fun z => by rw [z, e5 _ _ upd_same] at h; cases h)]
        exact h) h) hps
      obtain ⟨ps, rfl, pp⟩ := rkv_ps (K := K) hp6
      refine ⟨D1, ps, kvG kS (drop (live len t s0.hd) n), rfl, SqL.of hx6, pp, fun l4 hl4 => ⟨(by show 2 ≤ sizeLine; decide), fun q hq => ?_⟩⟩
      rw [merge_self sameS (drop_nodup nd)] at hq ⊢
      have e7 := (u6.trans (Ex.upd (o := .dK (kvG kS (drop (live len t s0.hd) n))) hl4)).trans (Ex.upd (o := .tup [.int (ch0 len t s0 + if b = true then 1 else 0), .ref l4]) hq)
      refine ⟨q, _, rfl, SqT.of upd_same, rfl, _, _, rfl, _, _, rfl, rfl, ?_⟩
      obtain ⟨z1, z2⟩ := a3.new (none_of u6 hl4)
      have a7 := (a3.ex e7).heard (Ex.upd hq _ _ upd_same) z1 z2
      have a8 : ∀ X, Ls K CG Pm Ps Pl m len d p g ha3 sd3 pa ta3 l4 lp s3 (drop (live len t s0.hd) n) s0.pl X → Ls K CG Pm Ps Pl m len d p g ha3 sd3 pa ta3 l4 lp s3 s3.hd s3.pl X := fun X h => by rw [hd3, pl3]; exact h
      refine ⟨_, rfl, hsc, _, rfl, rfl, _, rfl, ?_⟩
      exact ifF (by rw [hdec]; simp) (fin _ s3 _ ha3 sd3 l4 lp ta3 _ _ _ _ _ (a8 _ a7) (tt3.ex e7) tn3)
  refine ⟨fun c => ⟨true, ve.J.e, fun _ => ?_, fun z => nomatch z⟩, fun c ks pm so2 H3 sd2 ta2 af2 => ?_⟩
  · refine rest H2 _ false _ s1 ha1 sd1 ta1 (decide_eq_false c) rfl rfl (by decide) (a1.aft af) tt0 ?_ ?_ hpl
    · have : ch0 len t s0 + (if false = true then (1 : Int) else 0) = ch0 len t s0 := by simp
      rw [this]
      exact tn
    · rw [hhd, drop_off c]
  · refine rest H3 _ true _ (shareS m s1 (drop s1.hd n) ks) ha1 sd2 ta2 (decide_eq_true c) rfl rfl (by decide) (a1.aft af2) ((tt.exN e1).keeps a1.x af2.mv nh np) ⟨?_, fun hc => ?_⟩ (by show drop s1.hd n = _; rw [hhd]) hpl
    · show s1.gen + 1 = _
      rw [tn.gen]
      simp
      omega
    · have hz0 : goneOf len t s0.hd = [] := by
        unfold ch0 at hc
        split at hc
        · assumption
        · simp at hc
      rw [hz hz0]
      rfl
end
end K7
set_option Elab.async false
set_option linter.all false
set_option maxRecDepth 100000
set_option maxHeartbeats 4000000
namespace K7
open PySem PySem.Spec PyProof.Rows PySem.Calls L2 KB KC KD KS LamX R8 Q7 CP
section
variable {P : Program} {w : World} {K : PySem.W.Frag} {mg : Str → Option Value} {base : Heap} {CG CE Pm Ps Pl cL fTo fL r0 : Addr} {fdTo : FuncData} {A : Around} {outer : List PySem.Env} {s : Shared} {H0 : Hp} {E0' : XK}
theorem m_beat (ve : LawE P w K mg base CG CE Pm Ps Pl cL fTo r0 fdTo) (hr : Room 16 (xLaw P w K mg base fL cL A outer s H0 E0').A) :
    ∃ ts, PSs (xLaw P w K mg base fL cL A outer s H0 E0') (ifBody mI2) ts ∧ ∀ (D : Ends) (a0 a10 a17 a18 a19 a20 a21 a22 a23 a24 a25 a26 a27 a28 a29 : Option V) (H : Hp) (m : Nat) (len gn t so : Int) (d p g ha sd0 sb pa lh lp gv : Addr) (ta0 tb : Str → Addr) (s0 : Gp) (n : Str), Ls K CG Pm Ps Pl m len d p g ha sd0 pa ta0 lh lp s0 (live len t s0.hd) s0.pl H → TabT K H sb s0.sk tb s0.sh → sb ≠ ha → sb ≠ pa → n ∈ sixS →
      (∀ (H' : Hp) (s' : Gp) (ch' : Int) (ha' sd' lh' lp' : Addr) (ta' : Str → Addr) (b17 b18 b19 b20 b21 : Option V), Ls K CG Pm Ps Pl m len d p g ha' sd' pa ta' lh' lp' s' s'.hd s'.pl H' → TabT K H' sb s0.sk tb s0.sh → Turn m s0 s' ch' → D.nx [a0, some (.ref d), some (.int (m : Nat)), some (.int len), some (.ref g), some (.ref lh'), some (.ref lp'), some (.int gn), some (.ref sb), some (.int t), a10, some (.int so), some (.str n), some (.ref gv), some (.bl (decide (n ∈ (live len t s0.hd).map (·.1)))), some (.ref sb), some (.int ch'), b17, b18, b19, b20, b21, a22, a23, a24, a25, a26, a27, a28, a29] H') → ts D [a0, some (.ref d), some (.int (m : Nat)), some (.int len), some (.ref g), some (.ref lh), some (.ref lp), some (.int gn), some (.ref sb), some (.int t), a10, some (.int so), some (.str n), some (.ref gv), some (.bl (decide (n ∈ (live len t s0.hd).map (·.1)))), some (.ref sb), some (.int (ch0 len t s0)), a17, a18, a19, a20, a21, a22, a23, a24, a25, a26, a27, a28, a29] H := by
  obtain ⟨f1, fd1, G1, m1, b1⟩ := ve.beat
  have hu := hr.units
  have hu1 := Nat.lt_trans (Nat.add_lt_add_left (by decide : 1 < 64) _) hu
  refine ⟨_, pss_cons (ps_set (i := 17) scLaw.nd rfl (Or.inl rfl) (lam_told ve hr (lamS_by (by show lamSB (defScope sLaw) _ = true; decide +kernel)) rfl (fun _ _ _ _ _ => rfl)
        (fun A outer s H E f c' hr' => pe_meth (pv 4) ve.B.cl m1 G1 (hr'.mono (by decide)) b1 .nil (passes_call (takes_of rfl rfl rfl rfl) (fun _ _ _ _ h => h)) (pa_cons (pv 12) (pa_cons (pv 9) pa_nil)))))
    (pss_cons (ps_set (i := 5) scLaw.nd rfl (Or.inr rfl) (pe_callTy (call_dictP rfl) (by rfl) ve.T.dict (by decide +kernel) (pa_cons (pe_lock (pe_lc (own := [("one", 28)]) (g := gName 28) (tt := tYes) (te := tTup (tCons (tVar 28) (tCons (tIf (tTest (tOp rEq (tVar 28) (tVar 12))) (tVar 9) (tDGet (tVar 5) (tVar 28))) tNil))) rfl scLaw.nd (pi_keys (pv 5)) (blkOk_by (N := nLaw) (sc := defScope sLaw) (by decide +kernel))
      (fun _ _ _ _ _ => pg_name (i := 28) scLaw.nd rfl (Or.inl rfl)) (fun _ _ _ _ _ => pts_nil) (fun _ _ _ _ _ => pe_tup (pa_cons (pv 28) (pa_cons (pe_ifExp (pt_cmpR op_eq (pv 28) (pv 12) (nomark _)) (pv 9) (pe_dget hu1 (pv 5) (pv 28) (fun _ _ => rfl))) pa_nil))))) pa_nil)))
    (pss_one (ps_if (pt_cmpR (op_neX hu) (pv 17) (pe_ifExp (pt_truth (pv 14) (fun _ => rfl)) (pe_tup (pa_cons (pf 4) (pa_cons (pe_dget hu1 (pf 4) (pv 12) (fun _ _ => rfl)) pa_nil))) pe_str) (nomark _)) (pss_one (ps_ret pe_bl)) pss_nil))), ?_⟩
  intro D a0 a10 a17 a18 a19 a20 a21 a22 a23 a24 a25 a26 a27 a28 a29 H m len gn t so d p g ha sd0 sb pa lh lp gv ta0 tb s0 n a tt nh np h6 fin
  have nd := live_nodup (len := len) (t := t) a.ok.nd
  have l6 := a.ok.n6
  have l9 : (live len t s0.hd).length ≤ 6 := Nat.le_trans (List.length_filter_le _ _) (by omega)
  have hn9 : n.length ≤ 900 := Nat.le_trans (six_ok n h6).1 (by decide)
  refine ⟨a.b.tabs, fun H1 e1 t1 => ?_⟩
  have a1 := a.lam e1 t1
  obtain ⟨dx1, ho1⟩ := a1.x.o
  refine ⟨_, rfl, g, dx1, _, rfl, ho1, gF_m (by decide +kernel) (by decide +kernel) (by decide +kernel) (by decide +kernel) (by decide +kernel) (by decide +kernel), _, rfl, _, rfl, beatG_step a1.x a1.ok a1.b.tabs hn9 fun s1 H2 ha1 sd1 ta1 lr af => ?_⟩
  obtain ⟨hhd, hpl, tn, hz⟩ := look_turn lr
  have en : s1.names = (live len t s0.hd).map (·.1) := by unfold Gp.names; rw [hhd]
  have tt0 : TabT K H2 sb s0.sk tb s0.sh := (tt.exN e1).keeps a1.x af.mv nh np
  rw [en]
  have rest : ∀ (H3 : Hp) (b17 : Option V) (b : Bool) (tl : V) (s3 : Gp) (ha3 sd3 : Addr) (ta3 : Str → Addr), decide (n ∈ (live len t s0.hd).map (·.1)) = b → b17 = some tl → ((b = true ∧ ∃ q, tl = .ref q ∧ H3 q = some (.tup [.int s3.gen, .ref (ta3 n)]) ∧ n ∈ s3.sk) ∨ (b = false ∧ tl = .str "GroupError")) →
      Ls K CG Pm Ps Pl m len d p g ha3 sd3 pa ta3 lh lp s3 (live len t s0.hd) s0.pl H3 → TabT K H3 sb s0.sk tb s0.sh → Turn m s0 s3 (ch0 len t s0) → s3.hd = (if n ∈ (live len t s0.hd).map (·.1) then put (live len t s0.hd) n t else live len t s0.hd) → s3.pl = s0.pl →
      tSeq (tAsg (tCB (rDictP K) (tCons (tLockE (tLc (iKeys (tVar 5)) (gName 28) tYes (tTup (tCons (tVar 28) (tCons (tIf (tTest (tOp rEq (tVar 28) (tVar 12))) (tVar 9) (tDGet (tVar 5) (tVar 28))) tNil))) [28])) tNil)) (gName 5))
        (tIfS (tTest (tOp (rNeX K) (tVar 17) (tIf (fun σ H Q => tVar 14 σ H fun x H' => ∃ k, TruV K x H' k ∧ Q k H') (tTup (tCons (tFld K (tVar 4) "generation") (tCons (tDGet (tFld K (tVar 4) "shares") (tVar 12)) tNil))) (tC (.str "GroupError"))))) (tRet (tC (.bl false))) tNext) D [a0, some (.ref d), some (.int (m : Nat)), some (.int len), some (.ref g), some (.ref lh), some (.ref lp), some (.int gn), some (.ref sb), some (.int t), a10, some (.int so), some (.str n), some (.ref gv), some (.bl (decide (n ∈ (live len t s0.hd).map (·.1)))), some (.ref sb), some (.int (ch0 len t s0)), b17, a18, a19, a20, a21, a22, a23, a24, a25, a26, a27, a28, a29] H3 := by
    intro H3 b17 b tl s3 ha3 sd3 ta3 hb h17 hx a3 tt3 tn3 hd3 pl3
    subst h17
    rw [hb] at fin ⊢
    refine ⟨lh, _, a3.hh, trivial, fun od => ⟨_, rfl, lh, od, rfl, .inl ⟨_, upd_same, fun D1 hD1 => ?_⟩⟩⟩
    refine lcG walk_keys (RKv kS) (fun j => (live len t s0.hd)[j]?.bind fun e => some (e.1, if e.1 = n then t else e.2)) (RKv.stab kS) hD1 (by rw [kvG_len]; omega) (fun H5 e5 => e5 _ _ upd_same) (fun i H5 x H6 _ _ h => by rw [h.1]; exact Ex.refl _) (fun j v H5 H6 R0 N0 hj e5 hy hno hsm => ?_) (fun H5 xs e5 hx5 hps => ?_)
    · obtain ⟨rfl, k, v', hk, rfl⟩ := hy
      obtain ⟨e, he, rfl, rfl⟩ := key_at hk
      have hg : DGet H6 lh (.str e.1) (some (.int e.2)) := by
        refine .inl ⟨_, kS e.1, .inr ⟨_, e5 _ _ upd_same⟩, rfl, ?_⟩
        rw [valV_kvG sameS, look_mem nd (List.mem_of_getElem? he)]
        rfl
      have ed : decide (kV (kS e.1) = V.str n) = decide (e.1 = n) := by
        show decide (V.str e.1 = V.str n) = _
        rw [decide_eq_decide]
        exact ⟨fun z => by injection z, fun z => by rw [z]⟩
      refine ⟨rfl, _, rfl, _, rfl, _, rfl, rfl, _, rfl, ?_⟩
      rw [ed]
      by_cases c : e.1 = n
      · refine ifT (by simp [c]) ⟨_, rfl, (by show 2 ≤ sizeLine; decide), fun q hq => ?_⟩
        exact hsm (e.1, t) (by rw [he]; show some (e.1, if e.1 = n then t else e.2) = _; rw [if_pos c]) _ _ (Ex.upd hq) ⟨q, rfl, upd_same⟩
      · refine ifF (by simp [c]) ⟨_, rfl, _, rfl, lh, _, rfl, hg, (by show 2 ≤ sizeLine; decide), fun q hq => ?_⟩
        exact hsm e (by rw [he]; show some (e.1, if e.1 = n then t else e.2) = _; rw [if_neg c]) _ _ (Ex.upd hq) ⟨q, rfl, upd_same⟩
    · rw [kvG_len, range_fm, map_fm, put_map] at hps
      refine ⟨e5 _ _ upd_same, ?_⟩
      have nD : D1 ≠ lh := fun z => by rw [z, upd_same] at hD1; cases hD1
      have u6 := unlock a3.hh e5
      have hx6 : (upd H5 lh (.dK (kvG kS (live len t s0.hd)))) D1 = some (.lst xs) := by rw [L2.upd_ne nD]; exact hx5
      have hp6 := paired_mono (fun v b h => RKv.stab kS _ (upd H5 lh (.dK (kvG kS (live len t s0.hd)))) v b (fun c ys h => by
        rw [L2.upd_ne (fun z => by rw [z, e5 _ _ upd_same] at h; cases h)]
        exact h) h) hps
      obtain ⟨ps, rfl, pp⟩ := rkv_ps (K := K) hp6
      generalize upd H5 lh (.dK (kvG kS (live len t s0.hd))) = H6 at u6 hx6 pp
      have nd2 : ((if n ∈ (live len t s0.hd).map (·.1) then put (live len t s0.hd) n t else live len t s0.hd).map (·.1)).Nodup := by
        split
        · exact put_nodup nd
        · exact nd
      refine ⟨D1, ps, kvG kS (if n ∈ (live len t s0.hd).map (·.1) then put (live len t s0.hd) n t else live len t s0.hd), rfl, SqL.of hx6, pp, fun l4 hl4 => ?_⟩
      rw [merge_self sameS nd2, ← hd3]
      have e7 := u6.trans (Ex.upd (o := .dK (kvG kS s3.hd)) hl4)
      obtain ⟨z1, z2⟩ := a3.new (none_of u6 hl4)
      have a7 := (a3.ex e7).heard upd_same z1 z2
      generalize upd H6 l4 (.dK (kvG kS s3.hd)) = H7 at e7 a7
      rw [← pl3] at a7
      obtain ⟨dx7, ho7⟩ := a7.x.o
      refine ⟨_, rfl, _, rfl, _, rfl, ?_⟩
      rcases hx with ⟨rfl, q, rfl, hq, nk⟩ | ⟨rfl, rfl⟩
      · refine ifT rfl ⟨_, rfl, g, CG, dx7, _, _, rfl, ho7, ve.B.cl, ve.B.nG, rfl, _, rfl, g, CG, dx7, _, _, rfl, ho7, ve.B.cl, ve.B.nS, rfl, _, rfl, sd3, _, rfl, a7.x.t.get nk, (by show 2 ≤ sizeLine; decide), fun r hr => ?_⟩
        have e8 := e7.trans (Ex.upd (o := .tup [.int s3.gen, .ref (ta3 n)]) hr)
        have ht := Ex.upd (o := .tup [.int s3.gen, .ref (ta3 n)]) hr _ _ (a7.x.t.t n nk)
        refine .inr ⟨.tuple [.int s3.gen, .tuple ((s3.sh n).map PyData.int)], .tuple [.int s3.gen, .tuple ((s3.sh n).map PyData.int)], .tup (SqT.of (e8 _ _ hq)) (.cons (.int _) (.cons (.tup (SqT.of ht) (dp_intsL _)) .nil)), .tup (SqT.of upd_same) (.cons (.int _) (.cons (.tup (SqT.of ht) (dp_intsL _)) .nil)), sh_beat _ _, sh_beat _ _, _, rfl, ?_⟩
        rw [eqv_beat]
        exact ifF (by simp) (fin _ s3 _ ha3 sd3 l4 lp ta3 _ _ _ _ _ (a7.ex (Ex.upd hr)) (tt3.ex e8) tn3)
      · refine ifF (by simp) (.inl ⟨rfl, _, rfl, ?_⟩)
        exact ifF (by simp) (fin _ s3 _ ha3 sd3 l4 lp ta3 _ _ _ _ _ a7 (tt3.ex e7) tn3)
  refine ⟨fun c => ⟨true, ve.J.e, fun _ => ?_, fun z => nomatch z⟩, fun c H3 q af2 hq => ?_⟩
  · exact rest H2 _ false _ s1 ha1 sd1 ta1 (decide_eq_false c) rfl (.inr ⟨rfl, rfl⟩) (a1.aft af) tt0 tn (by rw [if_neg c]; exact hhd) hpl
  · refine rest H3 _ true _ { s1 with hd := put s1.hd n t } ha1 sd1 ta1 (decide_eq_true c) rfl (.inl ⟨rfl, q, rfl, hq, af.ok.pm.mem_iff.mpr (by rw [en]; exact c)⟩) (a1.aft af2) ((tt.exN e1).keeps a1.x af2.mv nh np) ⟨tn.gen, tn.one⟩ ?_ hpl
    rw [if_pos c, ← hhd]
end
end K7
set_option Elab.async false
set_option linter.all false
set_option maxRecDepth 100000
set_option maxHeartbeats 4000000
namespace K7
open PySem PySem.Spec PyProof.Rows PySem.Calls L2 KB KC KD KS LamX R8 Q7 CP
theorem live_live (len t : Int) (l : List (Str × Int)) : live len t (live len t l) = live len t l := by
  unfold live
  rw [List.filter_filter]
  refine List.filter_congr fun e _ => ?_
  simp
theorem look_twice {m : Nat} {len t : Int} {s0 s1 s2 : Gp} (h1 : LookR m len t s0 s1) (h2 : LookR m len t s1 s2) : s2 = s1 := by
  obtain ⟨hhd, _⟩ := look_turn h1
  unfold LookR at h2
  rw [if_neg] at h2
  · exact h2
  · rw [hhd, live_live]
    omega
section
variable {P : Program} {w : World} {K : PySem.W.Frag} {mg : Str → Option Value} {base : Heap} {CG CE Pm Ps Pl cL fTo fL r0 : Addr} {fdTo : FuncData} {A : Around} {outer : List PySem.Env} {s : Shared} {H0 : Hp} {E0' : XK}
theorem n_12 (ve : LawE P w K mg base CG CE Pm Ps Pl cL fTo r0 fdTo) (hr : Room 16 (xLaw P w K mg base fL cL A outer s H0 E0').A) :
    ∃ tA tB, PS (xLaw P w K mg base fL cL A outer s H0 E0') ((elseBody mI2).getD 1 pass0') tA ∧ PS (xLaw P w K mg base fL cL A outer s H0 E0') ((elseBody mI2).getD 2 pass0') tB ∧ ∀ (D : Ends) (a0 a10 a17 a18 a19 a20 a21 a22 a23 a24 a25 a26 a27 a28 a29 : Option V) (H : Hp) (m : Nat) (len gn t so : Int) (d p g ha sd sd0 pa lh lp gv : Addr) (ta ta0 : Str → Addr) (s0 s1 : Gp) (n : Str), Ls K CG Pm Ps Pl m len d p g ha sd pa ta lh lp s1 (live len t s0.hd) s0.pl H → TabT K H sd0 s0.sk ta0 s0.sh →
      (∀ (H' : Hp) (part place num : Int), Ls K CG Pm Ps Pl m len d p g ha sd pa ta lh lp s1 (live len t s0.hd) s0.pl H' → TabT K H' sd0 s0.sk ta0 s0.sh → D.nx [a0, some (.ref d), some (.int (m : Nat)), some (.int len), some (.ref g), some (.ref lh), some (.ref lp), some (.int gn), some (.ref sd0), some (.int t), a10, some (.int so), some (.str n), some (.ref gv), some (.bl (decide (n ∈ (live len t s0.hd).map (·.1)))), some (.ref sd0), some (.int (ch0 len t s0)), a17, some (.int part), some (.int place), some (.int num), a21, a22, a23, a24, a25, a26, a27, a28, a29] H') → tSeq tA tB D [a0, some (.ref d), some (.int (m : Nat)), some (.int len), some (.ref g), some (.ref lh), some (.ref lp), some (.int gn), some (.ref sd0), some (.int t), a10, some (.int so), some (.str n), some (.ref gv), some (.bl (decide (n ∈ (live len t s0.hd).map (·.1)))), some (.ref sd0), some (.int (ch0 len t s0)), a17, a18, a19, a20, a21, a22, a23, a24, a25, a26, a27, a28, a29] H := by
  obtain ⟨f1, fd1, G1, g1, k1, b1⟩ := ve.roll
  refine ⟨_, _, (ps_asg (pe_tup (pa_cons (pe_call G1 (hr.mono (by decide)) (by rfl) g1 k1 b1 .nil pass0 (pa_cons (pv 1) (pa_cons (pv 2) pa_nil))) (pa_cons (pe_call G1 (hr.mono (by decide)) (by rfl) g1 k1 b1 .nil pass0 (pa_cons (pv 1) (pa_cons pe_int pa_nil))) pa_nil)))
      (pg_tup rfl (pgs_cons (pg_name (i := 18) scLaw.nd rfl (Or.inr rfl)) (pgs_cons (pg_name (i := 19) scLaw.nd rfl (Or.inr rfl)) pgs_nil))))
    , (ps_set (i := 20) scLaw.nd rfl (Or.inr rfl) (pe_op op_sub (pf 4) (pe_callTy call_int1 (by rfl) ve.T.int (by decide +kernel) (pa_cons (pe_cmpR op_eq (pe_call G1 (hr.mono (by decide)) (by rfl) g1 k1 b1 .nil pass0 (pa_cons (pv 1) (pa_cons pe_int pa_nil))) pe_int (nomark _)) pa_nil)))), ?_⟩
  intro D a0 a10 a17 a18 a19 a20 a21 a22 a23 a24 a25 a26 a27 a28 a29 H m len gn t so d p g ha sd sd0 pa lh lp gv ta ta0 s0 s1 n a tt fin
  have m1 := a.ok.m1
  have m2 := a.ok.m2
  refine ⟨_, rfl, _, rfl, roll_step a.b.dice (by omega) (by omega) fun r1 H1 _ _ e1 i1 => ?_⟩
  have a1 := a.roll e1 i1
  have tt1 := tt.roll a.b.dice e1
  refine ⟨_, rfl, roll_step a1.b.dice (by decide) (by decide) fun r2 H2 _ _ e2 i2 => ⟨(by show 2 ≤ sizeLine; decide), fun q hq => ?_⟩⟩
  have a2 := (a1.roll e2 i2).ex (Ex.upd (o := .tup [.int r1, .int r2]) hq)
  have tt2 := (tt1.roll a1.b.dice e2).ex (Ex.upd (o := .tup [.int r1, .int r2]) hq)
  refine ⟨q, _, rfl, SqT.of upd_same, rfl, _, _, rfl, _, _, rfl, rfl, ?_⟩
  obtain ⟨dx2, ho2⟩ := a2.x.o
  refine ⟨_, rfl, g, CG, dx2, _, _, rfl, ho2, ve.B.cl, ve.B.nG, rfl, _, rfl, roll_step a2.b.dice (by decide) (by decide) fun r3 H3 _ _ e3 i3 => ⟨rfl, .inr ⟨_, rfl, _, _, rfl, rfl, ?_⟩⟩⟩
  exact fin H3 r1 r2 _ (a2.roll e3 i3) (tt2.roll a2.b.dice e3)
theorem n_3 (ve : LawE P w K mg base CG CE Pm Ps Pl cL fTo r0 fdTo) (hr : Room 16 (xLaw P w K mg base fL cL A outer s H0 E0').A) :
    ∃ ts, PS (xLaw P w K mg base fL cL A outer s H0 E0') ((elseBody mI2).getD 3 pass0') ts ∧ ∀ (D : Ends) (a0 a10 a17 a21 a22 a23 a24 a25 a26 a27 a28 a29 : Option V) (H : Hp) (m : Nat) (len gn t so : Int) (d p g ha sd sd0 pa lh lp gv : Addr) (ta : Str → Addr) (s0 s1 : Gp) (n : Str) (part place num : Int), Ls K CG Pm Ps Pl m len d p g ha sd pa ta lh lp s1 (live len t s0.hd) s0.pl H → s1.hd = live len t s0.hd → s1.pl = s0.pl →
      (∀ gb : Bool, (gb = true ↔ noteOk s1 n num part place) → D.nx [a0, some (.ref d), some (.int (m : Nat)), some (.int len), some (.ref g), some (.ref lh), some (.ref lp), some (.int gn), some (.ref sd0), some (.int t), a10, some (.int so), some (.str n), some (.ref gv), some (.bl (decide (n ∈ (live len t s0.hd).map (·.1)))), some (.ref sd0), some (.int (ch0 len t s0)), a17, some (.int part), some (.int place), some (.int num), some (.bl gb), a22, a23, a24, a25, a26, a27, a28, a29] H) → ts D [a0, some (.ref d), some (.int (m : Nat)), some (.int len), some (.ref g), some (.ref lh), some (.ref lp), some (.int gn), some (.ref sd0), some (.int t), a10, some (.int so), some (.str n), some (.ref gv), some (.bl (decide (n ∈ (live len t s0.hd).map (·.1)))), some (.ref sd0), some (.int (ch0 len t s0)), a17, some (.int part), some (.int place), some (.int num), a21, a22, a23, a24, a25, a26, a27, a28, a29] H := by
  have hu := hr.units
  have hu1 := Nat.lt_trans (Nat.add_lt_add_left (by decide : 1 < 64) _) hu
  refine ⟨_, ps_set (i := 21) scLaw.nd rfl (Or.inl rfl) (pe_and (pv 14) (pe_and (pe_cmpR op_eq (pv 20) (pf 4) (nomark _)) (pe_and (pe_cmpR op_in_seq (pv 18) (pe_dget hu1 (pf 4) (pv 12) (fun _ _ => rfl)) (by rfl)) (pe_one (pe_cmpR op_ge (pv 19) (pe_dget2 hu1 (pv 6) (pv 18) pe_int ⟨rfl, rfl, rfl, rfl⟩) (nomark _)))))), ?_⟩
  intro D a0 a10 a17 a21 a22 a23 a24 a25 a26 a27 a28 a29 H m len gn t so d p g ha sd sd0 pa lh lp gv ta s0 s1 n part place num a hhd hpl fin
  have en : s1.names = (live len t s0.hd).map (·.1) := by unfold Gp.names; rw [hhd]
  obtain ⟨dx, ho⟩ := a.x.o
  have no : ¬ noteOk s1 n num part place → (fun x => D.nx [a0, some (.ref d), some (.int (m : Nat)), some (.int len), some (.ref g), some (.ref lh), some (.ref lp), some (.int gn), some (.ref sd0), some (.int t), a10, some (.int so), some (.str n), some (.ref gv), some (.bl (decide (n ∈ (live len t s0.hd).map (·.1)))), some (.ref sd0), some (.int (ch0 len t s0)), a17, some (.int part), some (.int place), some (.int num), some (x), a22, a23, a24, a25, a26, a27, a28, a29] H) (.bl false) := fun h => fin false ⟨(fun z => by cases z), fun z => absurd z h⟩
  refine ⟨_, rfl, _, rfl, ?_⟩
  by_cases c1 : n ∈ (live len t s0.hd).map (·.1)
  · refine ifT (decide_eq_true c1) ⟨_, rfl, _, rfl, g, CG, dx, _, _, rfl, ho, ve.B.cl, ve.B.nG, rfl, rfl, _, rfl, ?_⟩
    have ei : decide (V.int num = V.int s1.gen) = decide (num = s1.gen) := by
      rw [decide_eq_decide]
      exact ⟨fun z => by injection z, fun z => by rw [z]⟩
    rw [ei]
    by_cases c2 : num = s1.gen
    · have nk : n ∈ s1.sk := a.ok.pm.mem_iff.mpr (by rw [en]; exact c1)
      refine ifT (decide_eq_true c2) ⟨_, rfl, _, rfl, g, CG, dx, _, _, rfl, ho, ve.B.cl, ve.B.nS, rfl, _, rfl, sd, _, rfl, a.x.t.get nk, ta n, _, rfl, .inr (SqT.of (a.x.t.t n nk)), rfl, flat_intsV _, _, rfl, ?_⟩
      rw [show (if false = true then !inV (V.int part) ((s1.sh n).map V.int) else inV (V.int part) ((s1.sh n).map V.int)) = decide (part ∈ s1.sh n) from by rw [if_neg (by decide)]; exact inV_ints _ _]
      by_cases c3 : part ∈ s1.sh n
      · refine ifT (decide_eq_true c3) ⟨_, rfl, _, rfl, lp, rfl, .inl ⟨_, .inl a.hp⟩, _, rfl, (look s0.pl part).map V.int, ?_, ?_⟩
        · have := DGet.k (k := kI part) a.hp
          rw [valV_kvG sameI] at this
          exact this
        have eo : ((look s0.pl part).map V.int).getD (V.int 0) = V.int ((look s0.pl part).getD 0) := by cases look s0.pl part <;> rfl
        rw [eo]
        refine ⟨_, _, rfl, rfl, ?_⟩
        refine fin _ ?_
        rw [decide_eq_true_eq]
        unfold noteOk
        rw [en, hpl]
        exact ⟨fun z => ⟨c1, c2, c3, z⟩, fun z => z.2.2.2⟩
      · exact ifF (by simp [c3]) (no fun z => c3 z.2.2.1)
    · exact ifF (by simp [c2]) (no fun z => c2 z.2.1)
  · exact ifF (by simp; intro x hx; exact c1 (List.mem_map.mpr ⟨_, hx, rfl⟩)) (no fun z => c1 (by rw [← en]; exact z.1))
end
end K7
set_option Elab.async false
set_option linter.all false
set_option maxRecDepth 100000
set_option maxHeartbeats 4000000
namespace K7
open PySem PySem.Spec PyProof.Rows PySem.Calls L2 KB KC KD KS LamX R8 Q7 CP
section
variable {P : Program} {w : World} {K : PySem.W.Frag} {mg : Str → Option Value} {base : Heap} {CG CE Pm Ps Pl cL fTo fL r0 : Addr} {fdTo : FuncData} {A : Around} {outer : List PySem.Env} {s : Shared} {H0 : Hp} {E0' : XK}
theorem n_45 (ve : LawE P w K mg base CG CE Pm Ps Pl cL fTo r0 fdTo) (hr : Room 16 (xLaw P w K mg base fL cL A outer s H0 E0').A) :
    ∃ tA tB, PS (xLaw P w K mg base fL cL A outer s H0 E0') ((elseBody mI2).getD 4 pass0') tA ∧ PS (xLaw P w K mg base fL cL A outer s H0 E0') ((elseBody mI2).getD 5 pass0') tB ∧ ∀ (D : Ends) (a0 a10 a17 a22 a23 a24 a25 a26 a27 a28 a29 : Option V) (H : Hp) (m : Nat) (len gn t so : Int) (d p g ha sd sd0 pa lh lp gv : Addr) (ta ta0 : Str → Addr) (s0 s1 : Gp) (n : Str) (part place num : Int) (gb : Bool), Ls K CG Pm Ps Pl m len d p g ha sd pa ta lh lp s1 (live len t s0.hd) s0.pl H → TabT K H sd0 s0.sk ta0 s0.sh → sd0 ≠ ha → sd0 ≠ pa → LookR m len t s0 s1 → n ∈ sixS → (gb = true ↔ noteOk s1 n num part place) →
      (∀ (H' : Hp) (s' : Gp) (ch' : Int) (ha' sd' lh' lp' : Addr) (ta' : Str → Addr) (b17 b18 b19 b20 b21 : Option V), Ls K CG Pm Ps Pl m len d p g ha' sd' pa ta' lh' lp' s' s'.hd s'.pl H' → TabT K H' sd0 s0.sk ta0 s0.sh → Turn m s0 s' ch' → D.nx [a0, some (.ref d), some (.int (m : Nat)), some (.int len), some (.ref g), some (.ref lh'), some (.ref lp'), some (.int gn), some (.ref sd0), some (.int t), a10, some (.int so), some (.str n), some (.ref gv), some (.bl (decide (n ∈ (live len t s0.hd).map (·.1)))), some (.ref sd0), some (.int ch'), b17, b18, b19, b20, b21, a22, a23, a24, a25, a26, a27, a28, a29] H') → tSeq tA tB D [a0, some (.ref d), some (.int (m : Nat)), some (.int len), some (.ref g), some (.ref lh), some (.ref lp), some (.int gn), some (.ref sd0), some (.int t), a10, some (.int so), some (.str n), some (.ref gv), some (.bl (decide (n ∈ (live len t s0.hd).map (·.1)))), some (.ref sd0), some (.int (ch0 len t s0)), a17, some (.int part), some (.int place), some (.int num), some (.bl gb), a22, a23, a24, a25, a26, a27, a28, a29] H := by
  obtain ⟨f1, fd1, G1, m1, b1⟩ := ve.note
  have hu := hr.units
  have hu1 := Nat.lt_trans (Nat.add_lt_add_left (by decide : 1 < 64) _) hu
  refine ⟨_, _, (ps_if (pt_cmpR op_eq (pe_cmpR op_eq (lam_told ve hr (lamS_by (by show lamSB (defScope sLaw) _ = true; decide +kernel)) rfl (fun _ _ _ _ _ => rfl)
        (fun A outer s H E f c' hr' => pe_meth (pv 4) ve.B.cl m1 G1 (hr'.mono (by decide)) b1 .nil (passes_call (takes_of rfl rfl rfl rfl) (fun _ _ _ _ h => h)) (pa_cons (pv 12) (pa_cons (pv 20) (pa_cons (pv 18) (pa_cons (pv 19) (pa_cons (pv 9) pa_nil))))))) pe_str (nomark _)) (pv 21) (nomark _)) (pss_one (ps_ret pe_bl)) pss_nil)
    , (ps_set (i := 6) scLaw.nd rfl (Or.inl rfl) (pe_callTy (call_dictP rfl) (by rfl) ve.T.dict (by decide +kernel) (pa_cons (pe_op op_cat (LiI.pe_listItems rfl (pv 6) (by rfl) ve.T.list (by decide +kernel)) (pe_op op_rep (pe_lst (pa_cons (pe_tup (pa_cons (pv 18) (pa_cons (pv 19) pa_nil))) pa_nil)) (pe_callTy call_int1 (by rfl) ve.T.int (by decide +kernel) (pa_cons (pv 21) pa_nil)))) pa_nil))), ?_⟩
  intro D a0 a10 a17 a22 a23 a24 a25 a26 a27 a28 a29 H m len gn t so d p g ha sd sd0 pa lh lp gv ta ta0 s0 s1 n part place num gb a tt nh np lr h6 hgb fin
  obtain ⟨hhd, hpl, tn, hz⟩ := look_turn lr
  have hn9 : n.length ≤ 900 := Nat.le_trans (six_ok n h6).1 (by decide)
  refine ⟨a.b.tabs, fun H1 e1 t1 => ?_⟩
  have a1 := a.lam e1 t1
  have tt1 := tt.exN e1
  obtain ⟨dx1, ho1⟩ := a1.x.o
  refine ⟨_, rfl, g, dx1, _, rfl, ho1, gF_m (by decide +kernel) (by decide +kernel) (by decide +kernel) (by decide +kernel) (by decide +kernel) (by decide +kernel), _, rfl, _, rfl, _, rfl, _, rfl, _, rfl, noteG_step a1.x a1.ok a1.b.tabs hn9 fun s2 H2 ha2 sd2 ta2 lr2 af => ?_⟩
  obtain rfl := look_twice lr lr2
  have rest : ∀ (H3 : Hp) (s3 : Gp) (ha3 sd3 : Addr) (ta3 : Str → Addr), Ls K CG Pm Ps Pl m len d p g ha3 sd3 pa ta3 lh lp s3 (live len t s0.hd) s0.pl H3 → TabT K H3 sd0 s0.sk ta0 s0.sh → Turn m s0 s3 (ch0 len t s0) → s3.hd = live len t s0.hd → s3.pl = (if gb = true then put s0.pl part place else s0.pl) →
      tAsg (tCB (rDictP K) (tCons (tOp rCat (LiI.tListItems (tVar 6)) (tOp rRep (tLst (tCons (tTup (tCons (tVar 18) (tCons (tVar 19) tNil))) tNil)) (tCB rInt1 (tCons (tVar 21) tNil)))) tNil)) (gName 6) D [a0, some (.ref d), some (.int (m : Nat)), some (.int len), some (.ref g), some (.ref lh), some (.ref lp), some (.int gn), some (.ref sd0), some (.int t), a10, some (.int so), some (.str n), some (.ref gv), some (.bl (decide (n ∈ (live len t s0.hd).map (·.1)))), some (.ref sd0), some (.int (ch0 len t s0)), a17, some (.int part), some (.int place), some (.int num), some (.bl gb), a22, a23, a24, a25, a26, a27, a28, a29] H3 := by
    intro H3 s3 ha3 sd3 ta3 a3 tt3 tn3 hd3 pl3
    have pnd : (s0.pl.map (·.1)).Nodup := by rw [← hpl]; exact a.ok.pnd
    have p60 : s0.pl.length ≤ 60 := by rw [← hpl]; exact a.ok.p60
    refine items_put sameI rfl (fun _ _ q => ⟨_, rfl, q⟩) (fun _ _ q => ⟨_, rfl, q⟩) (fun _ _ q => ⟨_, rfl, q⟩) a3.hp pnd (by omega) fun H4 l4 e4 hl4 h4 => ?_
    obtain ⟨z1, z2⟩ := a3.new hl4
    have a4 := (a3.ex e4).places h4 z1 z2
    rw [← hd3, ← pl3] at a4
    exact fin H4 s3 _ ha3 sd3 lh l4 ta3 _ _ _ _ _ a4 (tt3.ex e4) tn3
  refine ⟨fun c => ⟨true, ve.J.e, fun _ => ?_, fun z => nomatch z⟩, fun c H3 af2 => ?_⟩
  · have gf : gb = false := by cases gb <;> simp_all
    subst gf
    refine ⟨rfl, _, rfl, rfl, _, rfl, ifF (by decide) ?_⟩
    exact rest H2 s2 ha2 sd2 ta2 (a1.aft af) (tt1.keeps a1.x af.mv nh np) tn hhd (by simpa using hpl)
  · have gt : gb = true := hgb.mpr c
    subst gt
    refine ⟨rfl, _, rfl, rfl, _, rfl, ifF (by decide) ?_⟩
    refine rest H3 { s2 with pl := put s2.pl part place } ha2 sd2 ta2 (a1.aft af2) (tt1.keeps a1.x af2.mv nh np) ⟨tn.gen, tn.one⟩ hhd ?_
    show put s2.pl part place = _
    rw [if_pos rfl, hpl]
theorem lookG_step' {m : Nat} {len t : Int} {g ha sd pa : Addr} {ta : Str → Addr} {s : Gp} {H : Hp} {Q : VK} {E : XK} (x : GAt K CG m len g ha sd pa ta s H) (ok : GOk m s) (tb : Tabs (TT Pm Ps Pl) H)
    (fin : ∀ s' H' ha' sd' ta', LookR m len t s s' → Aft K CG Pm Ps Pl m len g ha pa H s' ha' sd' ta' H' → Q .non H') : spLookG K CG Pm Ps Pl [.ref g, .int t] H Q E :=
  lookG_step x ok tb fun s' H' ha' sd' ta' lr mv x' ok' tb' => fin s' H' ha' sd' ta' lr ⟨mv, x', ok', tb'⟩
theorem m_note (ve : LawE P w K mg base CG CE Pm Ps Pl cL fTo r0 fdTo) (hr : Room 16 (xLaw P w K mg base fL cL A outer s H0 E0').A) :
    ∃ ts, PSs (xLaw P w K mg base fL cL A outer s H0 E0') (elseBody mI2) ts ∧ ∀ (D : Ends) (a0 a10 a17 a18 a19 a20 a21 a22 a23 a24 a25 a26 a27 a28 a29 : Option V) (H : Hp) (m : Nat) (len gn t so : Int) (d p g ha sd sd0 pa lh lp gv : Addr) (ta ta0 : Str → Addr) (s0 : Gp) (n : Str), Ls K CG Pm Ps Pl m len d p g ha sd pa ta lh lp s0 (live len t s0.hd) s0.pl H → TabT K H sd0 s0.sk ta0 s0.sh → sd0 ≠ ha → sd0 ≠ pa → n ∈ sixS →
      (∀ (H' : Hp) (s' : Gp) (ch' : Int) (ha' sd' lh' lp' : Addr) (ta' : Str → Addr) (b17 b18 b19 b20 b21 : Option V), Ls K CG Pm Ps Pl m len d p g ha' sd' pa ta' lh' lp' s' s'.hd s'.pl H' → TabT K H' sd0 s0.sk ta0 s0.sh → Turn m s0 s' ch' → D.nx [a0, some (.ref d), some (.int (m : Nat)), some (.int len), some (.ref g), some (.ref lh'), some (.ref lp'), some (.int gn), some (.ref sd0), some (.int t), a10, some (.int so), some (.str n), some (.ref gv), some (.bl (decide (n ∈ (live len t s0.hd).map (·.1)))), some (.ref sd0), some (.int ch'), b17, b18, b19, b20, b21, a22, a23, a24, a25, a26, a27, a28, a29] H') → ts D [a0, some (.ref d), some (.int (m : Nat)), some (.int len), some (.ref g), some (.ref lh), some (.ref lp), some (.int gn), some (.ref sd0), some (.int t), a10, some (.int so), some (.str n), some (.ref gv), some (.bl (decide (n ∈ (live len t s0.hd).map (·.1)))), some (.ref sd0), some (.int (ch0 len t s0)), a17, a18, a19, a20, a21, a22, a23, a24, a25, a26, a27, a28, a29] H := by
  obtain ⟨f1, fd1, G1, m1, b1⟩ := ve.look
  obtain ⟨t1, t2, d1, d2, q12⟩ := n_12 (fL := fL) (A := A) (outer := outer) (s := s) (H0 := H0) (E0' := E0') ve hr
  obtain ⟨t3, d3, q3⟩ := n_3 (fL := fL) (A := A) (outer := outer) (s := s) (H0 := H0) (E0' := E0') ve hr
  obtain ⟨t4, t5, d4, d5, q45⟩ := n_45 (fL := fL) (A := A) (outer := outer) (s := s) (H0 := H0) (E0' := E0') ve hr
  have d0 : PS (xLaw P w K mg base fL cL A outer s H0 E0') ((elseBody mI2).getD 0 pass0') _ := ps_expr (pe_meth (pv 4) ve.B.cl m1 G1 (hr.mono (by decide)) b1 .nil pass0 (pa_cons (pv 9) pa_nil))
  refine ⟨_, pss_cons d0 (pss_cons d1 (pss_cons d2 (pss_cons d3 (pss_cons d4 (pss_one d5))))), ?_⟩
  intro D a0 a10 a17 a18 a19 a20 a21 a22 a23 a24 a25 a26 a27 a28 a29 H m len gn t so d p g ha sd sd0 pa lh lp gv ta ta0 s0 n a tt nh0 np h6 fin
  obtain ⟨dx, ho⟩ := a.x.o
  refine ⟨_, rfl, g, dx, _, rfl, ho, gF_m (by decide +kernel) (by decide +kernel) (by decide +kernel) (by decide +kernel) (by decide +kernel) (by decide +kernel), _, rfl, lookG_step' a.x a.ok a.b.tabs fun s1 H1 ha1 sd1 ta1 lr af => ?_⟩
  obtain ⟨hhd, hpl, tn, hz⟩ := look_turn lr
  have a1 := a.aft af
  have tt1 : TabT K H1 sd0 s0.sk ta0 s0.sh := tt.keeps a.x af.mv nh0 np
  obtain ⟨_, nh⟩ := a.x.keeps af.mv tt.d nh0 np
  refine q12 _ _ _ _ _ _ _ _ _ _ _ _ _ _ _ _ H1 m len gn t so d p g ha1 sd1 sd0 pa lh lp gv ta1 ta0 s0 s1 n a1 tt1 fun H2 part place num a2 tt2 => ?_
  refine q3 _ _ _ _ _ _ _ _ _ _ _ _ _ H2 m len gn t so d p g ha1 sd1 sd0 pa lh lp gv ta1 s0 s1 n part place num a2 hhd hpl fun gb hgb => ?_
  exact q45 _ _ _ _ _ _ _ _ _ _ _ _ H2 m len gn t so d p g ha1 sd1 sd0 pa lh lp gv ta1 ta0 s0 s1 n part place num gb a2 tt2 nh np lr h6 hgb fin
end
end K7
set_option Elab.async false
set_option linter.all false
set_option maxRecDepth 100000
set_option maxHeartbeats 4000000
namespace K7
open PySem PySem.Spec PyProof.Rows PySem.Calls L2 KB KC KD KS LamX R8 Q7 CP
theorem fairP_one {m : Nat} {s0 s' : Gp} (ok0 : GOk m s0) (ok' : GOk m s') (h : s'.sh = sharesF m s0.sh s'.sk) : FairP m s'.sk s0.sk s0.sh s'.sh :=
  ⟨ok'.ksnd, ok'.so, by have := ok'.pm.length_eq; have := ok'.n6; unfold Gp.names at *; rw [List.length_map] at *; omega, fun n hn => (six_ok n (ok'.six n (ok'.pm.mem_iff.mp hn))).2, ok'.m2, ok'.fair,
    fun n hn => by rw [h]; exact stays ok'.ksnd (ok0.good s'.sk) hn, fun n _ => ok0.rg n, ok0.off, fun n => Nat.le_trans (ok0.l9 n) (by decide)⟩
theorem fairP_nil {m : Nat} {s' : Gp} (ok' : GOk m s') : FairP m s'.sk [] (fun _ => []) s'.sh :=
  ⟨ok'.ksnd, ok'.so, by have := ok'.pm.length_eq; have := ok'.n6; unfold Gp.names at *; rw [List.length_map] at *; omega, fun n hn => (six_ok n (ok'.six n (ok'.pm.mem_iff.mp hn))).2, ok'.m2, ok'.fair,
    fun n hn => by simp, fun n _ p hp => by simp at hp, fun _ _ => rfl, fun _ => by simp⟩
theorem same_kvG {κ : Type} [DecidableEq κ] {k : κ → Key} (hk : SameK k) {l : List (κ × Int)} (nd : (l.map (·.1)).Nodup) : ∀ p ∈ kvG k l, valV (kvG k l) p.1 = some p.2 ∧ flatB p.2 = true := fun p hp => by
  unfold kvG at hp
  obtain ⟨e, he, rfl⟩ := List.mem_map.mp hp
  refine ⟨?_, rfl⟩
  show valV (kvG k l) (k e.1) = _
  rw [valV_kvG hk, look_mem nd he]
  rfl
section
variable {P : Program} {w : World} {K : PySem.W.Frag} {mg : Str → Option Value} {base : Heap} {CG CE Pm Ps Pl cL fTo fL r0 : Addr} {fdTo : FuncData} {A : Around} {outer : List PySem.Env} {s : Shared} {H0 : Hp} {E0' : XK}
theorem m_789 (ve : LawE P w K mg base CG CE Pm Ps Pl cL fTo r0 fdTo) (hr : Room 16 (xLaw P w K mg base fL cL A outer s H0 E0').A) :
    ∃ t7 t8 t9, PS (xLaw P w K mg base fL cL A outer s H0 E0') (mBody.getD 7 pass0') t7 ∧ PS (xLaw P w K mg base fL cL A outer s H0 E0') (mBody.getD 8 pass0') t8 ∧ PS (xLaw P w K mg base fL cL A outer s H0 E0') (mBody.getD 9 pass0') t9 ∧ ∀ (D : Ends) (a0 a10 a11 a12 a13 a14 a17 a18 a19 a20 a21 a22 a23 a24 a25 a26 a27 a28 a29 : Option V) (H : Hp) (m : Nat) (len gn t ch : Int) (d p g ha sd sd0 pa lh lp : Addr) (ta ta0 : Str → Addr) (s0 s' : Gp), Ls K CG Pm Ps Pl m len d p g ha sd pa ta lh lp s' s'.hd s'.pl H → TabT K H sd0 s0.sk ta0 s0.sh → GOk m s0 → Turn m s0 s' ch → gn = s0.gen →
      (∀ (H' : Hp), Ls K CG Pm Ps Pl m len d p g ha sd pa ta lh lp s' s'.hd s'.pl H' → D.nx [a0, some (.ref d), some (.int (m : Nat)), some (.int len), some (.ref g), some (.ref lh), some (.ref lp), some (.int s'.gen), some (.ref sd), some (.int t), a10, a11, a12, a13, a14, some (.ref sd0), some (.int ch), a17, a18, a19, a20, a21, a22, a23, a24, a25, a26, a27, a28, a29] H') → tSeq t7 (tSeq t8 t9) D [a0, some (.ref d), some (.int (m : Nat)), some (.int len), some (.ref g), some (.ref lh), some (.ref lp), some (.int gn), some (.ref sd0), some (.int t), a10, a11, a12, a13, a14, some (.ref sd0), some (.int ch), a17, a18, a19, a20, a21, a22, a23, a24, a25, a26, a27, a28, a29] H := by
  obtain ⟨f1, fd1, G1, g1, k1, b1⟩ := ve.fair
  have hu := hr.units
  have hu0 : (xLaw P w K mg base fL cL A outer s H0 E0').A.units < cLine := by omega
  refine ⟨_, _, _, ps_set (i := 7) scLaw.nd rfl (Or.inl rfl) (pe_op op_add (pv 7) (pv 16)),
    ps_if (PW.pt (pw_or (pt_cmpR op_ne (pf 4) (pv 7) (nomark _)) (pw_or (pt_cmpR (op_ne_dictA hu0) (pf 4) (pv 5) (nomark _)) (pw_or (pt_cmpR (op_ne_dictA hu0) (pf 4) (pv 6) (nomark _)) (pw_or1 (pt_not (pt_truth (pe_call G1 (hr.mono (by decide)) (by rfl) g1 k1 b1 .nil pass0
      (pa_cons (pe_callTy (call_list_dK rfl) (by rfl) ve.T.list (by decide +kernel) (pa_cons (pv 5) pa_nil)) (pa_cons (pv 2) (pa_cons (pe_ifExp (pt_cmpR op_eq (pv 16) pe_int (nomark _)) (pv 15) pe_dnewK) (pa_cons (pf 4) pa_nil))))) (fun _ => rfl))))))))
      (pss_one (ps_ret pe_bl)) pss_nil,
    ps_set (i := 8) scLaw.nd rfl (Or.inl rfl) (pf 4), ?_⟩
  intro D a0 a10 a11 a12 a13 a14 a17 a18 a19 a20 a21 a22 a23 a24 a25 a26 a27 a28 a29 H m len gn t ch d p g ha sd sd0 pa lh lp ta ta0 s0 s' a tt ok0 tn hg fin
  subst hg
  obtain ⟨dx, ho⟩ := a.x.o
  refine ⟨_, rfl, _, rfl, rI0_to (v := .int s'.gen) (by rw [tn.gen]) ?_⟩
  refine ⟨_, rfl, g, CG, dx, _, _, rfl, ho, ve.B.cl, ve.B.nG, rfl, _, rfl, rfl, _, rfl, ?_⟩
  refine ifF (by simp) ?_
  refine ⟨_, rfl, g, CG, dx, _, _, rfl, ho, ve.B.cl, ve.B.nH, rfl, _, rfl, ha, lh, _, _, rfl, rfl, a.x.h, a.hh, rfl, same_kvG sameS a.ok.nd, _, rfl, ?_⟩
  refine ifF (by simp) ?_
  refine ⟨_, rfl, g, CG, dx, _, _, rfl, ho, ve.B.cl, ve.B.nP, rfl, _, rfl, pa, lp, _, _, rfl, rfl, a.x.p, a.hp, rfl, same_kvG sameI a.ok.pnd, _, rfl, ?_⟩
  refine ifF (by simp) ?_
  refine ⟨_, rfl, lh, _, rfl, a.hh, fun q hq => ?_⟩
  have e1 : Ex H (upd H q (.lst ((kvG kS s'.hd).map fun kv => kV kv.1))) := Ex.upd hq
  have hq1 : (upd H q (.lst ((kvG kS s'.hd).map fun kv => kV kv.1))) q = some (.lst (s'.names.map V.str)) := by
    rw [upd_same]
    unfold kvG Gp.names
    rw [List.map_map, List.map_map]
    rfl
  generalize upd H q (.lst ((kvG kS s'.hd).map fun kv => kV kv.1)) = H1 at e1 hq1
  have a1 := a.ex e1
  have tt1 := tt.ex e1
  have go : ∀ H2, Ex H1 H2 → (tAsg (tFld K (tVar 4) "shares") (gName 8)) D [a0, some (.ref d), some (.int (m : Nat)), some (.int len), some (.ref g), some (.ref lh), some (.ref lp), some (.int s'.gen), some (.ref sd0), some (.int t), a10, a11, a12, a13, a14, some (.ref sd0), some (.int ch), a17, a18, a19, a20, a21, a22, a23, a24, a25, a26, a27, a28, a29] H2 := fun H2 e2 => by
    have a2 := a1.ex e2
    obtain ⟨dx2, ho2⟩ := a2.x.o
    exact ⟨_, rfl, g, CG, dx2, _, _, rfl, ho2, ve.B.cl, ve.B.nS, rfl, fin H2 a2⟩
  refine ⟨_, rfl, _, rfl, rfl, _, rfl, ?_⟩
  by_cases c : ch = 1
  · refine ifT (by simp [c]) ⟨_, rfl, ?_⟩
    obtain ⟨dx1, ho1⟩ := a1.x.o
    refine ⟨_, rfl, g, CG, dx1, _, _, rfl, ho1, ve.B.cl, ve.B.nS, rfl, fair_step (SqL.of hq1) a1.ok.pm a1.x.t tt1 (fairP_one ok0 a1.ok (tn.one c)) fun H2 e2 => ⟨_, rfl, ?_⟩⟩
    exact ifF (by simp) (go H2 e2)
  · refine ifF (by simp [c]) fun z hz => ?_
    have e2 : Ex H1 (upd H1 z (.dK [])) := Ex.upd hz
    have hz2 : (upd H1 z (.dK [])) z = some (.dK []) := upd_same
    generalize upd H1 z (.dK []) = H2 at e2 hz2
    have a2 := a1.ex e2
    obtain ⟨dx2, ho2⟩ := a2.x.o
    refine ⟨_, rfl, g, CG, dx2, _, _, rfl, ho2, ve.B.cl, ve.B.nS, rfl, fair_step (oks := []) (ota := fun _ => 0) (SqL.of (e2 _ _ hq1)) a2.ok.pm a2.x.t ⟨hz2, fun n hn => (nomatch hn)⟩ (fairP_nil a2.ok) fun H3 e3 => ⟨_, rfl, ?_⟩⟩
    exact ifF (by simp) (go H3 (e2.trans e3))
end
end K7
set_option Elab.async false
set_option linter.all false
set_option maxRecDepth 100000
set_option maxHeartbeats 4000000
namespace K7
open PySem PySem.Spec PyProof.Rows PySem.Calls L2 KB KC KD KS LamX R8 Q7 CP
section
variable {P : Program} {w : World} {K : PySem.W.Frag} {mg : Str → Option Value} {base : Heap} {CG CE Pm Ps Pl cL fTo fL r0 : Addr} {fdTo : FuncData} {A : Around} {outer : List PySem.Env} {s : Shared} {H0 : Hp} {E0' : XK}
theorem m_turn (ve : LawE P w K mg base CG CE Pm Ps Pl cL fTo r0 fdTo) (hr : Room 16 (xLaw P w K mg base fL cL A outer s H0 E0').A) :
    ∃ ts, PSs (xLaw P w K mg base fL cL A outer s H0 E0') mBody ts ∧ ∀ (D : Ends) (a0 a10 a11 a12 a13 a14 a15 a16 a17 a18 a19 a20 a21 a22 a23 a24 a25 a26 a27 a28 a29 : Option V) (H : Hp) (m : Nat) (len t : Int) (d p g ha sd sb pa lh lp : Addr) (ta tb : Str → Addr) (st : Gp), Ls K CG Pm Ps Pl m len d p g ha sd pa ta lh lp st st.hd st.pl H → TabT K H sb st.sk tb st.sh → sb ≠ ha → sb ≠ pa →
      (∀ (H' : Hp) (t' : Int) (ha' sd' lh' lp' : Addr) (ta' : Str → Addr) (s' : Gp) (a0 a10 a11 a12 a13 a14 a15 a16 a17 a18 a19 a20 a21 a22 a23 a24 a25 a26 a27 a28 a29 : Option V), Ls K CG Pm Ps Pl m len d p g ha' sd' pa ta' lh' lp' s' s'.hd s'.pl H' → D.nx [a0, some (.ref d), some (.int (m : Nat)), some (.int len), some (.ref g), some (.ref lh'), some (.ref lp'), some (.int s'.gen), some (.ref sd'), some (.int t'), a10, a11, a12, a13, a14, a15, a16, a17, a18, a19, a20, a21, a22, a23, a24, a25, a26, a27, a28, a29] H') → ts D [a0, some (.ref d), some (.int (m : Nat)), some (.int len), some (.ref g), some (.ref lh), some (.ref lp), some (.int st.gen), some (.ref sb), some (.int t), a10, a11, a12, a13, a14, a15, a16, a17, a18, a19, a20, a21, a22, a23, a24, a25, a26, a27, a28, a29] H := by
  obtain ⟨t0, d0, q0⟩ := m_0 (fL := fL) (A := A) (outer := outer) (s := s) (H0 := H0) (E0' := E0') ve hr
  obtain ⟨t1, d1, q1⟩ := m_1 (fL := fL) (A := A) (outer := outer) (s := s) (H0 := H0) (E0' := E0') ve hr
  obtain ⟨t2, d2, q2⟩ := m_2 (fL := fL) (A := A) (outer := outer) (s := s) (H0 := H0) (E0' := E0') ve hr
  obtain ⟨t3, d3, q3⟩ := m_3 (fL := fL) (A := A) (outer := outer) (s := s) (H0 := H0) (E0' := E0') ve hr
  obtain ⟨t4, d4, q4⟩ := m_4 (fL := fL) (A := A) (outer := outer) (s := s) (H0 := H0) (E0' := E0') ve hr
  obtain ⟨tj, dj, qj⟩ := m_join (fL := fL) (A := A) (outer := outer) (s := s) (H0 := H0) (E0' := E0') ve hr
  obtain ⟨tl, dl, ql⟩ := m_leave (fL := fL) (A := A) (outer := outer) (s := s) (H0 := H0) (E0' := E0') ve hr
  obtain ⟨tb, db, qb⟩ := m_beat (fL := fL) (A := A) (outer := outer) (s := s) (H0 := H0) (E0' := E0') ve hr
  obtain ⟨tn, dn, qn⟩ := m_note (fL := fL) (A := A) (outer := outer) (s := s) (H0 := H0) (E0' := E0') ve hr
  obtain ⟨t7, t8, t9, d7, d8, d9, q789⟩ := m_789 (fL := fL) (A := A) (outer := outer) (s := s) (H0 := H0) (E0' := E0') ve hr
  have d5 : PS (xLaw P w K mg base fL cL A outer s H0 E0') (mBody.getD 5 pass0') _ := ps_set (i := 17) scLaw.nd rfl (Or.inl rfl) pe_non
  have d6 : PS (xLaw P w K mg base fL cL A outer s H0 E0') (mBody.getD 6 pass0') _ := ps_if (pt_cmpR op_lt (pv 11) pe_int (nomark _)) dj (pss_one (ps_if (pt_cmpR op_eq (pv 11) pe_int (nomark _)) dl (pss_one (ps_if (pt_cmpR op_lt (pv 11) pe_int (nomark _)) db dn))))
  refine ⟨_, pss_cons d0 (pss_cons d1 (pss_cons d2 (pss_cons d3 (pss_cons d4 (pss_cons d5 (pss_cons d6 (pss_cons d7 (pss_cons d8 (pss_one d9))))))))), ?_⟩
  intro D a0 a10 a11 a12 a13 a14 a15 a16 a17 a18 a19 a20 a21 a22 a23 a24 a25 a26 a27 a28 a29 H m len t d p g ha sd sb pa lh lp ta tb st a tt nh np fin
  refine q0 _ _ _ _ _ _ _ _ _ _ _ _ _ _ _ _ _ _ _ _ _ _ H m len st.gen t d p g ha sd sb pa lh lp ta st st.hd st.pl a fun H1 t1 so n a1 x1 h6 => ?_
  have tt1 := tt.roll a.b.dice x1
  refine q1 _ _ _ _ _ _ _ _ _ _ _ _ _ _ _ _ _ _ _ _ _ _ H1 m len st.gen t1 d g sb lh lp st.hd a1.hh a1.ok.nd a1.ok.n6 fun H2 gv e2 hg2 => ?_
  have a2 := a1.ex e2
  refine q2 _ _ _ _ _ _ _ _ _ _ _ _ _ _ _ _ _ _ _ _ _ H2 m len st.gen t1 d g sb lh lp gv st.hd a2.hh hg2 a2.ok.nd a2.ok.n6 fun H3 l2 e3 hl2 h3 => ?_
  obtain ⟨z1, z2⟩ := a2.new hl2
  have a3 := (a2.ex e3).heard h3 z1 z2
  refine q3 _ _ _ _ _ _ _ _ _ _ _ _ _ _ _ _ _ _ _ _ H3 m len st.gen t1 d g sb l2 lp gv n (live len t1 st.hd) h3 ?_
  have sk : ∀ x ∈ goneOf len t1 st.hd, PyData.strOk x = true := fun x hx => by
    unfold goneOf at hx
    obtain ⟨e, he, rfl⟩ := List.mem_map.mp hx
    exact (six_ok _ (a3.ok.six _ (List.mem_map.mpr ⟨e, (List.mem_filter.mp he).1, rfl⟩))).2
  refine q4 _ _ _ _ _ _ _ _ _ _ _ _ _ _ _ _ _ _ _ _ _ H3 m len st.gen t1 d g sb l2 lp gv st (e3 _ _ hg2) sk fun H4 e4 => ?_
  have a4 := a3.ex e4
  have tt4 := ((tt1.ex e2).ex e3).ex e4
  have after : ∀ (H' : Hp) (s' : Gp) (ch' : Int) (ha' sd' lh' lp' : Addr) (ta' : Str → Addr) (c0 c10 c11 c12 c13 c14 c17 c18 c19 c20 c21 c22 c23 c24 c25 c26 c27 c28 c29 : Option V), Ls K CG Pm Ps Pl m len d p g ha' sd' pa ta' lh' lp' s' s'.hd s'.pl H' → TabT K H' sb st.sk tb st.sh → Turn m st s' ch' →
      tSeq t7 (tSeq t8 t9) D [c0, some (.ref d), some (.int (m : Nat)), some (.int len), some (.ref g), some (.ref lh'), some (.ref lp'), some (.int st.gen), some (.ref sb), some (.int t1), c10, c11, c12, c13, c14, some (.ref sb), some (.int ch'), c17, c18, c19, c20, c21, c22, c23, c24, c25, c26, c27, c28, c29] H' := by
    intro H' s' ch' ha' sd' lh' lp' ta' c0 c10 c11 c12 c13 c14 c17 c18 c19 c20 c21 c22 c23 c24 c25 c26 c27 c28 c29 a' tt' tn'
    refine q789 D _ _ _ _ _ _ _ _ _ _ _ _ _ _ _ _ _ _ _ H' m len st.gen t1 ch' d p g ha' sd' sb pa lh' lp' ta' tb st s' a' tt' a.ok tn' rfl fun H2 a2 => ?_
    exact fin H2 t1 ha' sd' lh' lp' ta' s' _ _ _ _ _ _ _ _ _ _ _ _ _ _ _ _ _ _ _ _ _ a2
  refine ⟨_, rfl, _, _, rfl, rfl, _, rfl, ?_⟩
  by_cases c1 : so < 3
  · refine ifT (decide_eq_true c1) (qj _ _ _ _ _ _ _ _ _ _ _ _ _ _ _ _ H4 m len st.gen t1 so d p g ha sd sb pa l2 lp gv ta tb st n a4 tt4 nh np h6 fun H' s' ch' ha' sd' lh' lp' ta' b17 b18 b19 b20 b21 a' tt' tn' => after H' s' ch' ha' sd' lh' lp' ta' _ _ _ _ _ _ _ _ _ _ _ _ _ _ _ _ _ _ _ a' tt' tn')
  · refine ifF (by simp [c1]) ⟨_, rfl, rfl, _, rfl, ?_⟩
    by_cases c2 : so = 3
    · refine ifT (by simp [c2]) (ql _ _ _ _ _ _ _ _ _ _ _ _ _ _ _ _ H4 m len st.gen t1 so d p g ha sd sb pa l2 lp gv ta tb st n a4 tt4 nh np h6 fun H' s' ch' ha' sd' lh' lp' ta' b17 b18 b19 b20 b21 a' tt' tn' => after H' s' ch' ha' sd' lh' lp' ta' _ _ _ _ _ _ _ _ _ _ _ _ _ _ _ _ _ _ _ a' tt' tn')
    · refine ifF (by simp [c2]) ⟨_, rfl, _, _, rfl, rfl, _, rfl, ?_⟩
      by_cases c3 : so < 6
      · refine ifT (decide_eq_true c3) (qb _ _ _ _ _ _ _ _ _ _ _ _ _ _ _ _ H4 m len st.gen t1 so d p g ha sd sb pa l2 lp gv ta tb st n a4 tt4 nh np h6 fun H' s' ch' ha' sd' lh' lp' ta' b17 b18 b19 b20 b21 a' tt' tn' => after H' s' ch' ha' sd' lh' lp' ta' _ _ _ _ _ _ _ _ _ _ _ _ _ _ _ _ _ _ _ a' tt' tn')
      · refine ifF (by simp [c3]) (qn _ _ _ _ _ _ _ _ _ _ _ _ _ _ _ _ H4 m len st.gen t1 so d p g ha sd sb pa l2 lp gv ta tb st n a4 tt4 nh np h6 fun H' s' ch' ha' sd' lh' lp' ta' b17 b18 b19 b20 b21 a' tt' tn' => after H' s' ch' ha' sd' lh' lp' ta' _ _ _ _ _ _ _ _ _ _ _ _ _ _ _ _ _ _ _ a' tt' tn')
theorem law_2 (ve : LawE P w K mg base CG CE Pm Ps Pl cL fTo r0 fdTo) (hr : Room 16 (xLaw P w K mg base fL cL A outer s H0 E0').A) :
    ∃ ts, PS (xLaw P w K mg base fL cL A outer s H0 E0') (law0.getD 2 pass0') ts ∧ ∀ (D : Ends) (a0 a10 a11 a12 a13 a14 a15 a16 a17 a18 a19 a20 a21 a22 a23 a24 a25 a26 a27 a28 a29 : Option V) (H : Hp) (m : Nat) (len t : Int) (d p g ha sd sb pa lh lp : Addr) (ta tb : Str → Addr) (st : Gp), Ls K CG Pm Ps Pl m len d p g ha sd pa ta lh lp st st.hd st.pl H → TabT K H sb st.sk tb st.sh → sb ≠ ha → sb ≠ pa →
      (∀ (H' : Hp) (a0 a3 a4 a5 a6 a7 a8 a9 a10 a11 a12 a13 a14 a15 a16 a17 a18 a19 a20 a21 a22 a23 a24 a25 a26 a27 a28 a29 : Option V), Bs Pm Ps Pl d p H' → D.nx [a0, some (.ref d), some (.int (m : Nat)), a3, a4, a5, a6, a7, a8, a9, a10, a11, a12, a13, a14, a15, a16, a17, a18, a19, a20, a21, a22, a23, a24, a25, a26, a27, a28, a29] H') → ts D [a0, some (.ref d), some (.int (m : Nat)), some (.int len), some (.ref g), some (.ref lh), some (.ref lp), some (.int st.gen), some (.ref sb), some (.int t), a10, a11, a12, a13, a14, a15, a16, a17, a18, a19, a20, a21, a22, a23, a24, a25, a26, a27, a28, a29] H := by
  obtain ⟨f1, fd1, G1, g1, k1, b1⟩ := ve.roll
  obtain ⟨tB, dB, qB⟩ := m_turn (fL := fL) (A := A) (outer := outer) (s := s) (H0 := H0) (E0' := E0') ve hr
  refine ⟨_, ps_for PassesOwn.never rfl (pi_range1 (by rfl) ve.T.range (pa_cons (pe_call G1 (hr.mono (by decide)) (by rfl) g1 k1 b1 .nil pass0 (pa_cons (pv 1) (pa_cons pe_int pa_nil))) pa_nil)) (pg_name (i := 10) scLaw.nd rfl (Or.inl rfl)) dB, ?_⟩
  intro D a0 a10 a11 a12 a13 a14 a15 a16 a17 a18 a19 a20 a21 a22 a23 a24 a25 a26 a27 a28 a29 H m len t d p g ha sd sb pa lh lp ta tb st a tt nh np fin
  refine ⟨_, rfl, roll_step a.b.dice (by decide) (by decide) fun r H1 r0' r1 e1 i1 => ⟨r, rfl, by omega, by omega, ?_⟩⟩
  have a1 := a.roll e1 i1
  refine for_range (n := r.toNat) (fun i σ H2 => ∃ (t' : Int) (ha' sd' sb' lh' lp' : Addr) (ta' tb' : Str → Addr) (s' : Gp) (a0 a10 a11 a12 a13 a14 a15 a16 a17 a18 a19 a20 a21 a22 a23 a24 a25 a26 a27 a28 a29 : Option V), σ = [a0, some (.ref d), some (.int (m : Nat)), some (.int len), some (.ref g), some (.ref lh'), some (.ref lp'), some (.int s'.gen), some (.ref sb'), some (.int t'), a10, a11, a12, a13, a14, a15, a16, a17, a18, a19, a20, a21, a22, a23, a24, a25, a26, a27, a28, a29] ∧ Ls K CG Pm Ps Pl m len d p g ha' sd' pa ta' lh' lp' s' s'.hd s'.pl H2 ∧ TabT K H2 sb' s'.sk tb' s'.sh ∧ sb' ≠ ha' ∧ sb' ≠ pa)
    ⟨t, ha, sd, sb, lh, lp, ta, tb, st, a0, a10, a11, a12, a13, a14, a15, a16, a17, a18, a19, a20, a21, a22, a23, a24, a25, a26, a27, a28, a29, rfl, a1, tt.roll a.b.dice e1, nh, np⟩ ?_ ?_
  · rintro i σ H2 hi ⟨t', ha', sd', sb', lh', lp', ta', tb', s', a0, a10, a11, a12, a13, a14, a15, a16, a17, a18, a19, a20, a21, a22, a23, a24, a25, a26, a27, a28, a29, rfl, a2, tt2, nh2, np2⟩
    refine qB _ _ _ _ _ _ _ _ _ _ _ _ _ _ _ _ _ _ _ _ _ _ H2 m len t' d p g ha' sd' sb' pa lh' lp' ta' tb' s' a2 tt2 nh2 np2 fun H3 t3 ha3 sd3 lh3 lp3 ta3 s3 a0 a10 a11 a12 a13 a14 a15 a16 a17 a18 a19 a20 a21 a22 a23 a24 a25 a26 a27 a28 a29 a3 => ?_
    exact ⟨t3, ha3, sd3, sd3, lh3, lp3, ta3, ta3, s3, _, _, _, _, _, _, _, _, _, _, _, _, _, _, _, _, _, _, _, _, _, rfl, a3, a3.x.t, a3.x.n2.symm, a3.x.n3.symm⟩
  · rintro σ H2 ⟨t', ha', sd', sb', lh', lp', ta', tb', s', a0, a10, a11, a12, a13, a14, a15, a16, a17, a18, a19, a20, a21, a22, a23, a24, a25, a26, a27, a28, a29, rfl, a2, _⟩
    exact fin H2 _ _ _ _ _ _ _ _ _ _ _ _ _ _ _ _ _ _ _ _ _ _ _ _ _ _ _ _ a2.b
end
end K7
set_option Elab.async false
set_option linter.all false
set_option maxRecDepth 100000
set_option maxHeartbeats 4000000
namespace K7
open PySem PySem.Spec PyProof.Rows PySem.Calls L2 KB KC KD KS LamX R8 Q7 CP
section
variable {P : Program} {w : World} {K : PySem.W.Frag} {mg : Str → Option Value} {base : Heap} {CG CE Pm Ps Pl cL fTo fL r0 : Addr} {fdTo : FuncData} {A : Around} {outer : List PySem.Env} {s : Shared} {H0 : Hp} {E0' : XK}
theorem law_0 (ve : LawE P w K mg base CG CE Pm Ps Pl cL fTo r0 fdTo) (hr : Room 16 (xLaw P w K mg base fL cL A outer s H0 E0').A) :
    ∃ ts, PS (xLaw P w K mg base fL cL A outer s H0 E0') (law0.getD 0 pass0') ts ∧ ∀ (D : Ends) (a0 a2 a3 a4 a5 a6 a7 a8 a9 a10 a11 a12 a13 a14 a15 a16 a17 a18 a19 a20 a21 a22 a23 a24 a25 a26 a27 a28 a29 : Option V) (H : Hp) (d p : Addr), Bs Pm Ps Pl d p H →
      (∀ (H' : Hp) (m : Nat) (len : Int), Bs Pm Ps Pl d p H' → 1 ≤ m → m ≤ 60 → 1 ≤ len → D.nx [a0, some (.ref d), some (.int (m : Nat)), some (.int len), a4, a5, a6, a7, a8, a9, a10, a11, a12, a13, a14, a15, a16, a17, a18, a19, a20, a21, a22, a23, a24, a25, a26, a27, a28, a29] H') → ts D [a0, some (.ref d), a2, a3, a4, a5, a6, a7, a8, a9, a10, a11, a12, a13, a14, a15, a16, a17, a18, a19, a20, a21, a22, a23, a24, a25, a26, a27, a28, a29] H := by
  obtain ⟨f1, fd1, G1, g1, k1, b1⟩ := ve.roll
  refine ⟨_, ps_asg (pe_tup (pa_cons (pe_op op_add pe_int (pe_call G1 (hr.mono (by decide)) (by rfl) g1 k1 b1 .nil pass0 (pa_cons (pv 1) (pa_cons pe_int pa_nil)))) (pa_cons (pe_op op_add pe_int (pe_call G1 (hr.mono (by decide)) (by rfl) g1 k1 b1 .nil pass0 (pa_cons (pv 1) (pa_cons pe_int pa_nil)))) pa_nil)))
    (pg_tup rfl (pgs_cons (pg_name (i := 2) scLaw.nd rfl (Or.inl rfl)) (pgs_cons (pg_name (i := 3) scLaw.nd rfl (Or.inr rfl)) pgs_nil))), ?_⟩
  intro D a0 a2 a3 a4 a5 a6 a7 a8 a9 a10 a11 a12 a13 a14 a15 a16 a17 a18 a19 a20 a21 a22 a23 a24 a25 a26 a27 a28 a29 H d p b fin
  refine ⟨_, rfl, roll_step b.dice (by decide) (by decide) fun r1 H1 q0 q1 e1 i1 => ?_⟩
  have b1' := b.roll e1 i1
  obtain ⟨k, hk⟩ : ∃ k : Nat, r1 = (k : Int) := ⟨r1.toNat, by omega⟩
  refine rI0_to (v := .int (((k + 1 : Nat)) : Int)) (by rw [hk]; congr 1; omega) ⟨_, rfl, roll_step b1'.dice (by decide) (by decide) fun r2 H2 q2 q3 e2 i2 => ⟨_, _, rfl, rfl, (by show 2 ≤ sizeLine; decide), fun q hq => ?_⟩⟩
  refine ⟨q, _, rfl, SqT.of upd_same, rfl, _, _, rfl, _, _, rfl, rfl, ?_⟩
  exact fin _ (k + 1) (1 + r2) ((b1'.roll e2 i2).ex (Ex.upd hq)) (by omega) (by omega) (by omega)
theorem law_1 (ve : LawE P w K mg base CG CE Pm Ps Pl cL fTo r0 fdTo) (hr : Room 16 (xLaw P w K mg base fL cL A outer s H0 E0').A) :
    ∃ ts, PS (xLaw P w K mg base fL cL A outer s H0 E0') (law0.getD 1 pass0') ts ∧ ∀ (D : Ends) (a0 a4 a5 a6 a7 a8 a9 a10 a11 a12 a13 a14 a15 a16 a17 a18 a19 a20 a21 a22 a23 a24 a25 a26 a27 a28 a29 : Option V) (H : Hp) (m : Nat) (len : Int) (d p : Addr), Bs Pm Ps Pl d p H → 1 ≤ m → m ≤ 60 → 1 ≤ len →
      (∀ (H' : Hp) (g ha sd sb pa lh lp : Addr) (ta tb : Str → Addr), Ls K CG Pm Ps Pl m len d p g ha sd pa ta lh lp ⟨[], [], fun _ => [], 0, []⟩ [] [] H' → TabT K H' sb [] tb (fun _ => []) → sb ≠ ha → sb ≠ pa → D.nx [a0, some (.ref d), some (.int (m : Nat)), some (.int len), some (.ref g), some (.ref lh), some (.ref lp), some (.int 0), some (.ref sb), some (.int 0), a10, a11, a12, a13, a14, a15, a16, a17, a18, a19, a20, a21, a22, a23, a24, a25, a26, a27, a28, a29] H') → ts D [a0, some (.ref d), some (.int (m : Nat)), some (.int len), a4, a5, a6, a7, a8, a9, a10, a11, a12, a13, a14, a15, a16, a17, a18, a19, a20, a21, a22, a23, a24, a25, a26, a27, a28, a29] H := by
  obtain ⟨f1, fd1, G1, M1, b1⟩ := ve.ginit
  refine ⟨_, ps_asg (pe_tup (pa_cons (pe_make (CX := L2.CX P w) M1 G1 (hr.mono (by decide)) (by rfl) ve.B.gC b1 .nil passL (pa_cons (pv 2) (pa_cons (pv 3) pa_nil))) (pa_cons pe_dnewK (pa_cons pe_dnewK (pa_cons pe_int (pa_cons pe_dnewK (pa_cons pe_int pa_nil)))))))
    (pg_tup rfl (pgs_cons (pg_name (i := 4) scLaw.nd rfl (Or.inr rfl)) (pgs_cons (pg_name (i := 5) scLaw.nd rfl (Or.inr rfl)) (pgs_cons (pg_name (i := 6) scLaw.nd rfl (Or.inl rfl)) (pgs_cons (pg_name (i := 7) scLaw.nd rfl (Or.inl rfl)) (pgs_cons (pg_name (i := 8) scLaw.nd rfl (Or.inl rfl)) (pgs_cons (pg_name (i := 9) scLaw.nd rfl (Or.inr rfl)) pgs_nil))))))), ?_⟩
  intro D a0 a4 a5 a6 a7 a8 a9 a10 a11 a12 a13 a14 a15 a16 a17 a18 a19 a20 a21 a22 a23 a24 a25 a26 a27 a28 a29 H m len d p b hm1 hm2 hl fin
  refine ⟨_, rfl, _, rfl, fun x dx hx hdx nx => ?_⟩
  show spGInit K CG CE _ _ _ _
  unfold spGInit
  refine ⟨x, dx, m, len, rfl, upd_same, fun z => absurd z (by omega), fun _ _ H1 ha sd pa kp ha0 sd0 pa0 gx => ⟨rfl, ?_⟩⟩
  have e1 : Ex H H1 := fun b o h => by
    have n1 : b ≠ x := ne_of_none h hx
    refine kp b o n1 ?_
    rw [L2.upd_ne n1, L2.upd_ne (ne_of_none h hdx)]
    exact h
  rw [show ((m : Int)).toNat = m by omega] at gx
  refine fun lh hlh => fun lp hlp => fun sb hsb => ⟨(by show 6 ≤ sizeLine; decide), fun q hq => ?_⟩
  refine ⟨q, _, rfl, SqT.of upd_same, rfl, _, _, rfl, _, _, rfl, _, _, rfl, _, _, rfl, _, _, rfl, _, _, rfl, rfl, ?_⟩
  have e2 : Ex H1 (upd H1 lh (.dK [])) := Ex.upd hlh
  have e3 : Ex (upd H1 lh (.dK [])) (upd (upd H1 lh (.dK [])) lp (.dK [])) := Ex.upd hlp
  have e4 : Ex (upd (upd H1 lh (.dK [])) lp (.dK [])) (upd (upd (upd H1 lh (.dK [])) lp (.dK [])) sb (.dK [])) := Ex.upd hsb
  have e5 := Ex.upd (o := .tup [.ref x, .ref lh, .ref lp, .int 0, .ref sb, .int 0]) hq
  have g5 := (((gx.ex e2).ex e3).ex e4).ex e5
  have nn : ∀ {c : Addr}, H1 c = none → c ≠ ha ∧ c ≠ pa := fun h => ⟨(fun z => by rw [z, gx.h] at h; cases h), (fun z => by rw [z, gx.p] at h; cases h)⟩
  have l1 := nn hlh
  have l2 := nn (none_of e2 hlp)
  have l3 := nn (none_of (e2.trans e3) hsb)
  refine fin _ x ha sd sb pa lh lp (fun _ => 0) (fun _ => 0) ⟨b.ex ((((e1.trans e2).trans e3).trans e4).trans e5), g5, ⟨hm1, hm2, List.nodup_nil, fun n hn => (nomatch hn), .nil, rfl, fun z => absurd rfl z, fun _ _ => rfl, List.nodup_nil, fun n hn => (nomatch hn)⟩, ?_, ?_, l1.1, l1.2, l2.1, l2.2⟩ ⟨?_, fun n hn => (nomatch hn)⟩ l3.1 l3.2
  · exact e5 _ _ (e4 _ _ (e3 _ _ upd_same))
  · exact e5 _ _ (e4 _ _ upd_same)
  · exact e5 _ _ upd_same
end
end K7
set_option Elab.async false
set_option linter.all false
set_option maxRecDepth 100000
set_option maxHeartbeats 4000000
namespace K7
open PySem PySem.Spec PyProof.Rows PySem.Calls L2 KB KC KD KS LamX R8 Q7 CP
theorem ExD.trans {d : Addr} {H H1 H2 : Hp} (a : ExD d H H1) (b : ExD d H1 H2) : ExD d H H2 := fun c o n h => b c o n (a c o n h)
theorem ExD.of {d : Addr} {H H' : Hp} (e : Ex H H') : ExD d H H' := fun c o _ h => e c o h
theorem ExD.on {d a : Addr} {H H1 : Hp} {o : HO} (e : ExD d H H1) (n : H a = none) : ExD d H (upd H1 a o) := fun b u nb h => by rw [L2.upd_ne (ne_of_none h n)]; exact e b u nb h
theorem Bs.updL {Pm Ps Pl d p D : Addr} {H : Hp} {xs : List V} {o : HO} (b : Bs Pm Ps Pl d p H) (h : H D = some (.lst xs)) (n1 : D ≠ d) (n2 : D ≠ p) : Bs Pm Ps Pl d p (upd H D o) := by
  obtain ⟨x, y, z, hd⟩ := b.dice
  exact ⟨⟨x, y, z, by rw [L2.upd_ne n1.symm]; exact hd⟩, tabs_lst b.tabs h, by rw [L2.upd_ne n2.symm]; exact b.hp⟩
theorem Bs.newL {Pm Ps Pl d p D : Addr} {H : Hp} (b : Bs Pm Ps Pl d p H) (h : H D = none) : D ≠ d ∧ D ≠ p := by
  obtain ⟨x, y, z, hd⟩ := b.dice
  have hp := b.hp
  exact ⟨(fun c => by rw [c, hd] at h; cases h), (fun c => by rw [c, hp] at h; cases h)⟩
theorem six_at' {i : Nat} (h : i < 6) : ∃ c, atI (Str.ofString "abcdef").cps.toList ((0 : Int) + (i : Nat)) = some c ∧ sixS[i]? = some (⟨#[c]⟩ : Str) := by
  have : i = 0 ∨ i = 1 ∨ i = 2 ∨ i = 3 ∨ i = 4 ∨ i = 5 := by omega
  rcases this with rfl | rfl | rfl | rfl | rfl | rfl
  · exact ⟨97, by decide +kernel, by decide +kernel⟩
  · exact ⟨98, by decide +kernel, by decide +kernel⟩
  · exact ⟨99, by decide +kernel, by decide +kernel⟩
  · exact ⟨100, by decide +kernel, by decide +kernel⟩
  · exact ⟨101, by decide +kernel, by decide +kernel⟩
  · exact ⟨102, by decide +kernel, by decide +kernel⟩
theorem six_nd : (sixS : List Str).Nodup := by decide +kernel
theorem merge_ids {f : Str → V} : ∀ (B A : List Str), (A ++ B).Nodup → mergeK (A.map fun n => ((Sum.inr n : Key), f n)) (B.map fun n => ((Sum.inr n : Key), f n)) = (A ++ B).map fun n => ((Sum.inr n : Key), f n)
  | [], A, _ => by simp [mergeK]
  | x :: B, A, nd => by
    have hx : (Sum.inr x : Key) ∉ (A.map fun n => ((Sum.inr n : Key), f n)).map (·.1) := fun z => by
      rw [List.map_map] at z
      obtain ⟨y, hy, e⟩ := List.mem_map.mp z
      have e : y = x := Sum.inr.inj e
      rw [List.nodup_append] at nd
      exact nd.2.2 y hy x List.mem_cons_self e
    show mergeK (putK (A.map fun n => ((Sum.inr n : Key), f n)) (Sum.inr x) (f x)) (B.map fun n => ((Sum.inr n : Key), f n)) = _
    rw [putK_off hx]
    have := merge_ids (f := f) B (A ++ [x]) (by simpa using nd)
    rw [List.map_append] at this
    rw [show [((Sum.inr x : Key), f x)] = [x].map (fun n => ((Sum.inr n : Key), f n)) from rfl, this]
    simp
theorem fold_keys : ∀ (B A : List (Int × Int)), (A.map (·.1)).Nodup → ((B.foldl (fun acc e => put acc e.1 e.2) A).map (·.1)).Nodup ∧ (∀ q ∈ (B.foldl (fun acc e => put acc e.1 e.2) A).map (·.1), q ∈ A.map (·.1) ∨ q ∈ B.map (·.1)) ∧ (B.foldl (fun acc e => put acc e.1 e.2) A).length ≤ A.length + B.length
  | [], A, nd => ⟨nd, fun q h => .inl h, by simp⟩
  | e :: B, A, nd => by
    obtain ⟨h1, h2, h3⟩ := fold_keys B (put A e.1 e.2) (put_nodup nd)
    refine ⟨h1, fun q hq => ?_, ?_⟩
    · rcases h2 q hq with z | z
      · rcases put_mem.mp z with z | z
        · exact .inl z
        · exact .inr (by rw [z]; exact List.mem_cons_self)
      · exact .inr (List.mem_cons_of_mem _ z)
    · have := put_len (l := A) (n := e.1) (t := e.2)
      rw [List.foldl_cons, List.length_cons]
      omega
section
variable {P : Program} {w : World} {K : PySem.W.Frag} {mg : Str → Option Value} {base : Heap} {CG CE Pm Ps Pl cL fTo fL r0 : Addr} {fdTo : FuncData} {A : Around} {outer : List PySem.Env} {s : Shared} {H0 : Hp} {E0' : XK}
theorem law_3 (ve : LawE P w K mg base CG CE Pm Ps Pl cL fTo r0 fdTo) (hr : Room 16 (xLaw P w K mg base fL cL A outer s H0 E0').A) :
    ∃ ts, PS (xLaw P w K mg base fL cL A outer s H0 E0') (law0.getD 3 pass0') ts ∧ ∀ (D : Ends) (a0 a3 a4 a5 a6 a7 a8 a9 a10 a11 a12 a13 a14 a15 a16 a17 a18 a19 a20 a21 a22 a23 a24 a25 a26 a27 a28 a29 : Option V) (H : Hp) (m : Nat) (d p : Addr), Bs Pm Ps Pl d p H →
      (∀ (H' : Hp) (na : Addr) (ks : List Str), Bs Pm Ps Pl d p H' → na ≠ d → H' na = some (.lst (ks.map V.str)) → ks.Nodup → (∀ n ∈ ks, n ∈ sixS) → D.nx [a0, some (.ref d), some (.int (m : Nat)), a3, a4, a5, a6, a7, a8, a9, a10, a11, a12, a13, a14, a15, a16, a17, a18, a19, a20, a21, some (.ref na), a23, a24, a25, a26, a27, a28, a29] H') → ts D [a0, some (.ref d), some (.int (m : Nat)), a3, a4, a5, a6, a7, a8, a9, a10, a11, a12, a13, a14, a15, a16, a17, a18, a19, a20, a21, a22, a23, a24, a25, a26, a27, a28, a29] H := by
  obtain ⟨f1, fd1, G1, g1, k1, b1⟩ := ve.roll
  refine ⟨_, ps_setLc (i := 22) (own := [("k", 26)]) (g := gName 26) (tt := tTest (tOp rEq (tCall spRoll [] E0 (tCons (tVar 1) (tCons (tC (.int 2)) tNil))) (tC (.int 0)))) rfl scLaw.nd rfl rfl (sw_true rfl rfl rfl (by decide +kernel)) (pi_range1 (by rfl) ve.T.range (pa_cons pe_int pa_nil)) (blkOk_by (N := nLaw) (sc := defScope sLaw) (by decide +kernel))
      (fun _ _ _ _ _ => pg_name (i := 26) scLaw.nd rfl (Or.inl rfl)) (fun _ _ _ _ _ => pts_one (pt_cmpR op_eq (pe_call G1 (hr.mono (by decide)) (by rfl) g1 k1 b1 .nil pass0 (pa_cons (pv 1) (pa_cons pe_int pa_nil))) pe_int (nomark _))) (fun _ _ _ _ _ => pe_ix ix_str pe_str (pv 26) (fun _ _ => rfl)), ?_⟩
  intro D a0 a3 a4 a5 a6 a7 a8 a9 a10 a11 a12 a13 a14 a15 a16 a17 a18 a19 a20 a21 a22 a23 a24 a25 a26 a27 a28 a29 H m d p b fin
  refine ⟨6, rfl, by decide, by decide, fun D1 hD1 => ?_⟩
  obtain ⟨nd, np⟩ := b.newL hD1
  refine lc_range (n := (6 : Int).toNat) (fun i H2 => Bs Pm Ps Pl d p H2 ∧ ∃ ks, H2 D1 = some (.lst (ks.map V.str)) ∧ ks.Sublist (sixS.take i))
    ⟨b.ex (Ex.upd hD1), [], upd_same, List.nil_sublist _⟩ (fun i H2 hi ⟨b2, ks, hk, sl⟩ => ?_) (fun H2 ⟨b2, ks, hk, sl⟩ => ?_)
  · have hi : i < 6 := hi
    have tk : sixS.take (i + 1) = sixS.take i ++ (sixS[i]?).toList := List.take_succ
    refine ⟨rfl, _, rfl, roll_step b2.dice (by decide) (by decide) fun r H3 q0 q1 e3 i3 => ⟨rfl, _, rfl, ?_⟩⟩
    have b3 := b2.roll e3 i3
    have hk3 := e3 _ _ nd hk
    obtain ⟨c, hc, h6⟩ := six_at' hi
    by_cases z : r = 0
    · refine ifT (by simp [z]) ⟨_, rfl, _, _, c, rfl, rfl, by decide, hc, _, hk3, ?_, b3.updL hk3 nd np, ks ++ [⟨#[c]⟩], ?_, ?_⟩
      · have := sl.length_le
        rw [List.length_take] at this
        rw [List.length_map]
        have : sizeLine = 16777216 := rfl
        omega
      · rw [upd_same, List.map_append]; rfl
      · rw [tk, h6]
        exact List.Sublist.append sl (List.Sublist.refl _)
    · refine ifF (by simp [z]) ⟨b3, ks, hk3, ?_⟩
      rw [tk]
      exact sl.trans (List.sublist_append_left _ _)
  · have sl : ks.Sublist sixS := sl
    exact fin H2 D1 ks b2 nd hk (six_nd.sublist sl) fun n hn => sl.mem hn
end
end K7
set_option Elab.async false
set_option linter.all false
set_option maxRecDepth 100000
set_option maxHeartbeats 4000000
namespace K7
open PySem PySem.Spec PyProof.Rows PySem.Calls L2 KB KC KD KS LamX R8 Q7 CP
structure OldAt (H : Hp) (ps : List Addr) (ks : List Str) (ota : Str → Addr) (had : Str → List Int) : Prop where
  p : Paired (fun (p : Addr) (n : Str) => H p = some (.tup [.str n, .ref (ota n)]) ∧ H (ota n) = some (.tup ((had n).map V.int))) ps ks
  g : ∀ n, (had n).length ≤ 100 ∧ ∀ q ∈ had n, 0 ≤ q
  o : ∀ n, n ∉ ks → had n = []
theorem OldAt.keep {H H' : Hp} {ps : List Addr} {ks : List Str} {ota : Str → Addr} {had : Str → List Int} (a : OldAt H ps ks ota had) (e : ∀ b xs, H b = some (.tup xs) → H' b = some (.tup xs)) : OldAt H' ps ks ota had := ⟨paired_mono (fun _ _ h => ⟨e _ _ h.1, e _ _ h.2⟩) a.p, a.g, a.o⟩
theorem paired_mem {α β : Type} {R R' : α → β → Prop} : ∀ {l : List α} {m : List β}, (∀ a b, b ∈ m → R a b → R' a b) → Paired R l m → Paired R' l m
  | _, _, _, .nil => .nil
  | _, _, h, .cons x r => .cons (h _ _ List.mem_cons_self x) (paired_mem (fun a b hb => h a b (List.mem_cons_of_mem _ hb)) r)
theorem OldAt.snoc {H : Hp} {ps : List Addr} {ks : List Str} {ota : Str → Addr} {had : Str → List Int} (a : OldAt H ps ks ota had) {n : Str} {p t : Addr} {hs : List Int} (hn : n ∉ ks) (h1 : H p = some (.tup [.str n, .ref t])) (h2 : H t = some (.tup (hs.map V.int))) (g1 : hs.length ≤ 100) (g2 : ∀ q ∈ hs, 0 ≤ q) : OldAt H (ps ++ [p]) (ks ++ [n]) (Q7.set ota n t) (Q7.set had n hs) := by
  refine ⟨paired_app (paired_mem (fun x y hy h => ?_) a.p) (.cons ?_ .nil), fun y => ?_, fun y hy => ?_⟩
  · have ne : y ≠ n := fun z => hn (z ▸ hy)
    rw [Q7.set_ne ne, Q7.set_ne ne]
    exact h
  · rw [Q7.set_same, Q7.set_same]
    exact ⟨h1, h2⟩
  · by_cases c : y = n
    · rw [c, Q7.set_same]; exact ⟨g1, g2⟩
    · rw [Q7.set_ne c]; exact a.g y
  · rw [List.mem_append, not_or] at hy
    have ne : y ≠ n := fun z => hy.2 (by rw [z]; exact List.mem_singleton.mpr rfl)
    rw [Q7.set_ne ne]
    exact a.o y hy.1
theorem ExD.tup {d : Addr} {H H' : Hp} (e : ExD d H H') (i : IsDice H d) : ∀ b xs, H b = some (.tup xs) → H' b = some (.tup xs) := fun b xs h => e b _ (dice_ne i h (fun _ z => nomatch z)) h
section
variable {P : Program} {w : World} {K : PySem.W.Frag} {mg : Str → Option Value} {base : Heap} {CG CE Pm Ps Pl cL fTo fL r0 : Addr} {fdTo : FuncData} {A : Around} {outer : List PySem.Env} {s : Shared} {H0 : Hp} {E0' : XK}
theorem law_4 (ve : LawE P w K mg base CG CE Pm Ps Pl cL fTo r0 fdTo) (hr : Room 16 (xLaw P w K mg base fL cL A outer s H0 E0').A) :
    ∃ ts, PS (xLaw P w K mg base fL cL A outer s H0 E0') (law0.getD 4 pass0') ts ∧ ∀ (D : Ends) (a0 a3 a4 a5 a6 a7 a8 a9 a10 a11 a12 a13 a14 a15 a16 a17 a18 a19 a20 a21 a23 a24 a25 a26 a27 a28 a29 : Option V) (H : Hp) (m : Nat) (d p na : Addr), Bs Pm Ps Pl d p H →
      (∀ (H' : Hp) (od : Addr) (ota : Str → Addr) (had : Str → List Int), Bs Pm Ps Pl d p H' → ExD d H H' → TabT K H' od sixS ota had → (∀ n, (had n).length ≤ 100 ∧ ∀ q ∈ had n, 0 ≤ q) → (∀ n, n ∉ sixS → had n = []) → D.nx [a0, some (.ref d), some (.int (m : Nat)), a3, a4, a5, a6, a7, a8, a9, a10, a11, a12, a13, a14, a15, a16, a17, a18, a19, a20, a21, some (.ref na), some (.ref od), a24, a25, a26, a27, a28, a29] H') → ts D [a0, some (.ref d), some (.int (m : Nat)), a3, a4, a5, a6, a7, a8, a9, a10, a11, a12, a13, a14, a15, a16, a17, a18, a19, a20, a21, some (.ref na), a23, a24, a25, a26, a27, a28, a29] H := by
  obtain ⟨f1, fd1, G1, g1, k1, b1⟩ := ve.roll
  have hu66 := u66 hr
  refine ⟨_, ps_set (i := 23) scLaw.nd rfl (Or.inl rfl) (pe_callTy (call_dictP rfl) (by rfl) ve.T.dict (by decide +kernel) (pa_cons (pe_lc (own := [("k", 26)]) (g := gName 26) (tt := tYes)
      (te := tTup (tCons (tOp rIxS (tC (.str "abcdef")) (tVar 26)) (tCons (tCB (fun xs H Q => ∃ p ys, xs = [.ref p] ∧ ((SqL K H p ys ∧ ∀ l, H l = none → Q (.ref l) (upd H l (.tup ys))) ∨ (SqT K H p ys ∧ Q (.ref p) H))) (tCons (tCB CP.rSortDI (tCons (tCB (rDictP K) (tCons (tLc (iRng1 (tCons (tCall spRoll [] E0 (tCons (tVar 1) (tCons (tC (.int 4)) tNil))) tNil)) (gName 27) tYes (tTup (tCons (tCall spRoll [] E0 (tCons (tVar 1) (tCons (tC (.int 14)) tNil))) (tCons (tC (.int 1)) tNil))) [27]) tNil)) tNil)) tNil)) tNil)))
      rfl scLaw.nd (pi_range1 (by rfl) ve.T.range (pa_cons pe_int pa_nil)) (blkOk_by (N := nLaw) (sc := defScope sLaw) (by decide +kernel))
      (fun _ _ _ _ _ => pg_name (i := 26) scLaw.nd rfl (Or.inl rfl)) (fun _ _ _ _ _ => pts_nil)
      (fun _ _ _ _ _ => pe_tup (pa_cons (pe_ix ix_str pe_str (pv 26) (fun _ _ => rfl)) (pa_cons (pe_callTy call_tuple_of (by rfl) ve.T.tuple (by decide +kernel) (pa_cons (pe_callB (CP.cr_sortDI rfl hu66) (by rfl) ve.T.sorted (by decide +kernel) (pa_cons (pe_callTy (call_dictP rfl) (by rfl) ve.T.dict (by decide +kernel) (pa_cons
          (pe_lc (own := [("j", 27)]) (g := gName 27) (tt := tYes) rfl scLaw.nd (pi_range1 (by rfl) ve.T.range (pa_cons (pe_call G1 (hr.mono (by decide)) (by rfl) g1 k1 b1 .nil pass0 (pa_cons (pv 1) (pa_cons pe_int pa_nil))) pa_nil)) (blkOk_by (by rfl))
            (fun _ _ _ _ _ => pg_name (i := 27) scLaw.nd rfl (Or.inl rfl)) (fun _ _ _ _ _ => pts_nil) (fun _ _ _ _ _ => pe_tup (pa_cons (pe_call G1 (hr.mono (by decide)) (by rfl) g1 k1 b1 .nil pass0 (pa_cons (pv 1) (pa_cons pe_int pa_nil))) (pa_cons pe_int pa_nil)))) pa_nil)) pa_nil)) pa_nil)) pa_nil)))) pa_nil)), ?_⟩
  intro D a0 a3 a4 a5 a6 a7 a8 a9 a10 a11 a12 a13 a14 a15 a16 a17 a18 a19 a20 a21 a23 a24 a25 a26 a27 a28 a29 H m d p na b fin
  refine ⟨6, rfl, by decide, by decide, fun D1 hD1 => ?_⟩
  obtain ⟨nd, np⟩ := b.newL hD1
  have hsl : sizeLine = 16777216 := rfl
  refine lc_range (n := (6 : Int).toNat) (fun i H2 => Bs Pm Ps Pl d p H2 ∧ ExD d H H2 ∧ ∃ ps ota had, H2 D1 = some (.lst (ps.map V.ref)) ∧ OldAt H2 ps (sixS.take i) ota had)
    ⟨b.ex (Ex.upd hD1), ExD.of (Ex.upd hD1), [], fun _ => 0, fun _ => [], upd_same, .nil, fun n => ⟨by simp, fun q hq => by simp at hq⟩, fun _ _ => rfl⟩ (fun i H2 hi ⟨b2, x2, ps, ota, had, hk, o2⟩ => ?_) (fun H2 ⟨b2, x2, ps, ota, had, hk, o2⟩ => ?_)
  · have hi : i < 6 := hi
    have tk : sixS.take (i + 1) = sixS.take i ++ (sixS[i]?).toList := List.take_succ
    obtain ⟨c, hc, h6⟩ := six_at' hi
    refine ⟨rfl, _, rfl, _, _, c, rfl, rfl, by decide, hc, ?_⟩
    refine ⟨_, rfl, roll_step b2.dice (by decide) (by decide) fun r H3 q0 q1 e3 i3 => ⟨r, rfl, by omega, by omega, fun D2 hD2 => ?_⟩⟩
    have b3 := b2.roll e3 i3
    have x3 := x2.trans e3
    have hk3 := e3 _ _ nd hk
    have o3 := o2.keep (e3.tup b2.dice)
    obtain ⟨nd2, np2⟩ := b3.newL hD2
    refine lc_range (n := r.toNat) (fun j H4 => Bs Pm Ps Pl d p H4 ∧ ExD d H3 H4 ∧ ∃ (ts : List Addr) (ns : List Int), H4 D2 = some (.lst (ts.map V.ref)) ∧ Paired (fun (t : Addr) (n : Int) => H4 t = some (.tup [.int n, .int 1])) ts ns ∧ ns.length = j ∧ ∀ n ∈ ns, 0 ≤ n)
      ⟨b3.ex (Ex.upd hD2), ExD.of (Ex.upd hD2), [], [], upd_same, .nil, rfl, fun n hn => by simp at hn⟩ (fun j H4 hj ⟨b4, x4, ts, ns, hk4, p4, l4, g4⟩ => ?_) (fun H4 ⟨b4, x4, ts, ns, hk4, p4, l4, g4⟩ => ?_)
    · refine ⟨rfl, _, rfl, roll_step b4.dice (by decide) (by decide) fun r5 H5 s0 s1 e5 i5 => ⟨(by show 2 ≤ sizeLine; decide), fun q hq => ?_⟩⟩
      have b5 := (b4.roll e5 i5).ex (Ex.upd (o := .tup [.int r5, .int 1]) hq)
      have hk5 : (upd H5 q (.tup [.int r5, .int 1])) D2 = some (.lst (ts.map V.ref)) := Ex.upd hq _ _ (e5 _ _ nd2 hk4)
      have lt := paired_len p4
      refine ⟨_, hk5, ?_, b5.updL hk5 nd2 np2, (x4.trans (e5.trans (ExD.of (Ex.upd hq)))).on hD2, ts ++ [q], ns ++ [r5], ?_, paired_app ?_ (.cons ?_ .nil), ?_, fun n hn => ?_⟩
      · rw [List.length_map]
        omega
      · rw [upd_same, List.map_append]; rfl
      · refine paired_mono (fun t n h => ?_) p4
        rw [L2.upd_ne (fun z => by rw [z, hk4] at h; cases h)]
        exact Ex.upd hq _ _ ((e5.tup b4.dice) _ _ h)
      · rw [L2.upd_ne (fun z => by rw [← z, upd_same] at hk5; cases hk5)]
        exact upd_same
      · rw [List.length_append, l4]; rfl
      · rcases List.mem_append.mp hn with z | z
        · exact g4 n z
        · rw [List.mem_singleton.mp z]; exact s0
    · have pk : Paired (fun (p : Addr) (kv : Key × V) => SqT K H4 p [kV kv.1, kv.2]) ts (kvG kI (ns.map fun n => (n, (1 : Int)))) := by
        unfold kvG
        rw [List.map_map]
        exact go p4
      obtain ⟨h1, h2, h3⟩ := fold_keys (ns.map fun n => (n, (1 : Int))) [] List.nodup_nil
      generalize htb : (ns.map fun n => (n, (1 : Int))).foldl (fun acc e => put acc e.1 e.2) [] = tb at h1 h2 h3
      have em : mergeK [] (kvG kI (ns.map fun n => (n, (1 : Int)))) = kvG kI tb := by
        have := merge_kvG sameI (ns.map fun n => (n, (1 : Int))) []
        rw [htb] at this
        exact this
      refine ⟨D2, ts, _, rfl, SqL.of hk4, pk, fun u hu => ?_⟩
      rw [em]
      refine ⟨u, _, tb.map (·.1), rfl, upd_same, ?_, fun v hv => ?_⟩
      · unfold kvG
        rw [List.map_map, List.map_map]
        rfl
      refine ⟨v, _, rfl, .inl ⟨SqL.of upd_same, fun w' hw => ⟨(by show 2 ≤ sizeLine; decide), fun q hq => ?_⟩⟩⟩
      have e5 : Ex H4 (upd (upd (upd (upd H4 u (.dK (kvG kI tb))) v (.lst (((tb.map (·.1)).mergeSort fun a b => decide (a ≤ b)).map V.int))) w' (.tup (((tb.map (·.1)).mergeSort fun a b => decide (a ≤ b)).map V.int))) q (.tup [.str ⟨#[c]⟩, .ref w'])) := (((Ex.upd hu).trans (Ex.upd hv)).trans (Ex.upd hw)).trans (Ex.upd hq)
      have hw5 := Ex.upd (o := .tup [.str ⟨#[c]⟩, .ref w']) hq _ _ (upd_same (H := (upd (upd H4 u (.dK (kvG kI tb))) v (.lst (((tb.map (·.1)).mergeSort fun a b => decide (a ≤ b)).map V.int)))) (a := w') (o := .tup (((tb.map (·.1)).mergeSort fun a b => decide (a ≤ b)).map V.int)))
      have hq5 : (upd (upd (upd (upd H4 u (.dK (kvG kI tb))) v (.lst (((tb.map (·.1)).mergeSort fun a b => decide (a ≤ b)).map V.int))) w' (.tup (((tb.map (·.1)).mergeSort fun a b => decide (a ≤ b)).map V.int))) q (.tup [.str ⟨#[c]⟩, .ref w'])) q = some (.tup [.str ⟨#[c]⟩, .ref w']) := upd_same
      generalize upd (upd (upd (upd H4 u (.dK (kvG kI tb))) v (.lst (((tb.map (·.1)).mergeSort fun a b => decide (a ≤ b)).map V.int))) w' (.tup (((tb.map (·.1)).mergeSort fun a b => decide (a ≤ b)).map V.int))) q (.tup [.str ⟨#[c]⟩, .ref w']) = H5 at e5 hw5 hq5
      have b5 := b4.ex e5
      have hk5 := e5 _ _ (x4 _ _ nd hk3)
      have o5 := (o3.keep (x4.tup b3.dice)).keep (fun b xs h => e5 _ _ h)
      have lt := paired_len o5.p
      have l6 : (sixS.take i).length ≤ 6 := by rw [List.length_take]; omega
      have pmS := List.mergeSort_perm (tb.map (·.1)) (fun a b => decide (a ≤ b))
      have c1 : (⟨#[c]⟩ : Str) ∉ sixS.take i := by
        have h2n : sixS.Nodup := six_nd
        have h3n : (sixS.take (i + 1)).Nodup := h2n.sublist (List.take_sublist _ _)
        rw [tk, h6, List.nodup_append] at h3n
        exact fun z => h3n.2.2 _ z _ (List.mem_singleton.mpr rfl) rfl
      have c2 : ((tb.map (·.1)).mergeSort fun a b => decide (a ≤ b)).length ≤ 100 := by
        rw [pmS.length_eq, List.length_map]
        rw [List.length_map] at h3
        simp only [List.length_nil] at h3
        omega
      have c3 : ∀ x ∈ (tb.map (·.1)).mergeSort fun a b => decide (a ≤ b), 0 ≤ x := by
        intro x hx
        have hx := pmS.mem_iff.mp hx
        rcases h2 x hx with z | z
        · simp at z
        · rw [List.map_map] at z
          obtain ⟨n, hn, rfl⟩ := List.mem_map.mp z
          exact g4 n hn
      have o6 := o5.snoc (n := ⟨#[c]⟩) (hs := (tb.map (·.1)).mergeSort fun a b => decide (a ≤ b)) c1 hq5 hw5 c2 c3
      refine ⟨_, hk5, ?_, b5.updL hk5 nd np, ((x3.trans x4).trans (ExD.of e5)).on hD1, ps ++ [q], Q7.set ota ⟨#[c]⟩ w', Q7.set had ⟨#[c]⟩ ((tb.map (·.1)).mergeSort fun a b => decide (a ≤ b)), ?_, ?_⟩
      · rw [List.length_map]; omega
      · rw [upd_same, List.map_append]; rfl
      · rw [tk, h6]
        exact o6.keep fun b xs h => by rw [L2.upd_ne (fun z => by rw [z, hk5] at h; cases h)]; exact h
  · have o2 : OldAt H2 ps sixS ota had := o2
    have pk : Paired (fun (p : Addr) (kv : Key × V) => SqT K H2 p [kV kv.1, kv.2]) ps (sixS.map fun n => ((Sum.inr n : Key), V.ref (ota n))) := by
      have h := o2.p
      generalize sixS = l at h
      exact go2 h
    refine ⟨D1, ps, _, rfl, SqL.of hk, pk, fun od hod => ?_⟩
    have em : mergeK [] (sixS.map fun n => ((Sum.inr n : Key), V.ref (ota n))) = sixS.map fun n => ((Sum.inr n : Key), V.ref (ota n)) := merge_ids (f := fun n => V.ref (ota n)) sixS [] six_nd
    rw [em]
    refine fin _ od ota had (b2.ex (Ex.upd hod)) (x2.trans (ExD.of (Ex.upd hod))) ⟨upd_same, fun n hn => Ex.upd hod _ _ ?_⟩ o2.g o2.o
    have h := o2.p
    clear em pk
    generalize sixS = l at h hn
    exact go3 h n hn
where
  go {K : PySem.W.Frag} {H4 : Hp} : ∀ {ts : List Addr} {ns : List Int}, Paired (fun (t : Addr) (n : Int) => H4 t = some (.tup [.int n, .int 1])) ts ns → Paired (fun (p : Addr) (kv : Key × V) => SqT K H4 p [kV kv.1, kv.2]) ts (ns.map ((fun p : Int × Int => (kI p.1, V.int p.2)) ∘ fun n => (n, (1 : Int))))
    | _, _, .nil => .nil
    | _, _, .cons h r => .cons (SqT.of h) (go r)
  go2 {K : PySem.W.Frag} {H2 : Hp} {ota : Str → Addr} {had : Str → List Int} : ∀ {ps : List Addr} {l : List Str}, Paired (fun (p : Addr) (n : Str) => H2 p = some (.tup [.str n, .ref (ota n)]) ∧ H2 (ota n) = some (.tup ((had n).map V.int))) ps l → Paired (fun (p : Addr) (kv : Key × V) => SqT K H2 p [kV kv.1, kv.2]) ps (l.map fun n => ((Sum.inr n : Key), V.ref (ota n)))
    | _, _, .nil => .nil
    | _, _, .cons h r => .cons (SqT.of h.1) (go2 r)
  go3 {H2 : Hp} {ota : Str → Addr} {had : Str → List Int} : ∀ {ps : List Addr} {l : List Str}, Paired (fun (p : Addr) (n : Str) => H2 p = some (.tup [.str n, .ref (ota n)]) ∧ H2 (ota n) = some (.tup ((had n).map V.int))) ps l → ∀ n ∈ l, H2 (ota n) = some (.tup ((had n).map V.int))
    | _, _, .nil, n, hn => (nomatch hn)
    | _, _, .cons h r, n, hn => by
      rcases List.mem_cons.mp hn with rfl | hn
      · exact h.2
      · exact go3 r n hn
end
end K7
set_option Elab.async false
set_option linter.all false
set_option maxRecDepth 100000
set_option maxHeartbeats 4000000
namespace K7
open PySem PySem.Spec PyProof.Rows PySem.Calls L2 KB KC KD KS LamX R8 Q7 CP
section
variable {P : Program} {w : World} {K : PySem.W.Frag} {mg : Str → Option Value} {base : Heap} {CG CE Pm Ps Pl cL fTo fL r0 : Addr} {fdTo : FuncData} {A : Around} {outer : List PySem.Env} {s : Shared} {H0 : Hp} {E0' : XK}
structure Dr (K : PySem.W.Frag) (Pm Ps Pl d p na od : Addr) (m : Nat) (ks0 : List Str) (ota : Str → Addr) (had : Str → List Int) (H : Hp) : Prop where
  b : Bs Pm Ps Pl d p H
  hna : H na = some (.lst (ks0.map V.str))
  nd : ks0.Nodup
  six : ∀ n ∈ ks0, n ∈ sixS
  o : TabT K H od sixS ota had
  g : ∀ n, (had n).length ≤ 100 ∧ ∀ q ∈ had n, 0 ≤ q
  off : ∀ n, n ∉ sixS → had n = []
  m1 : 1 ≤ m
  m2 : m ≤ 60
theorem Dr.ex {Pm Ps Pl d p na od : Addr} {m : Nat} {ks0 : List Str} {ota : Str → Addr} {had : Str → List Int} {H H' : Hp} (a : Dr K Pm Ps Pl d p na od m ks0 ota had H) (e : Ex H H') : Dr K Pm Ps Pl d p na od m ks0 ota had H' := ⟨a.b.ex e, e _ _ a.hna, a.nd, a.six, a.o.ex e, a.g, a.off, a.m1, a.m2⟩
theorem Dr.lam {Pm Ps Pl d p na od : Addr} {m : Nat} {ks0 : List Str} {ota : Str → Addr} {had : Str → List Int} {H H' : Hp} (a : Dr K Pm Ps Pl d p na od m ks0 ota had H) (e : ExtN H H') (t : Tabs (TT Pm Ps Pl) H') : Dr K Pm Ps Pl d p na od m ks0 ota had H' := ⟨a.b.lam e t, e _ _ a.hna (fun _ z => nomatch z), a.nd, a.six, a.o.exN e, a.g, a.off, a.m1, a.m2⟩
theorem law_5 (ve : LawE P w K mg base CG CE Pm Ps Pl cL fTo r0 fdTo) (hr : Room 16 (xLaw P w K mg base fL cL A outer s H0 E0').A) :
    ∃ ts, PS (xLaw P w K mg base fL cL A outer s H0 E0') (law0.getD 5 pass0') ts ∧ ∀ (D : Ends) (a0 a3 a4 a5 a6 a7 a8 a9 a10 a11 a12 a13 a14 a15 a16 a17 a18 a19 a20 a21 a24 a25 a26 a27 a28 a29 : Option V) (H : Hp) (m : Nat) (d p na od : Addr) (ks0 : List Str) (ota : Str → Addr) (had : Str → List Int), Dr K Pm Ps Pl d p na od m ks0 ota had H →
      (∀ (H' : Hp) (fo : Addr) (ks : List Str) (fta : Str → Addr), Dr K Pm Ps Pl d p na od m ks0 ota had H' → ks.Perm ks0 → sortedS ks = true → TabT K H' fo ks fta (sharesF m had ks) → D.nx [a0, some (.ref d), some (.int (m : Nat)), a3, a4, a5, a6, a7, a8, a9, a10, a11, a12, a13, a14, a15, a16, a17, a18, a19, a20, a21, some (.ref na), some (.ref od), some (.ref fo), a25, a26, a27, a28, a29] H') → ts D [a0, some (.ref d), some (.int (m : Nat)), a3, a4, a5, a6, a7, a8, a9, a10, a11, a12, a13, a14, a15, a16, a17, a18, a19, a20, a21, some (.ref na), some (.ref od), a24, a25, a26, a27, a28, a29] H := by
  obtain ⟨f1, fd1, G1, g1, k1, b1, _⟩ := ve.shares
  refine ⟨_, ps_set (i := 24) scLaw.nd rfl (Or.inl rfl) (pe_call G1 (hr.mono (by decide)) (by rfl) g1 k1 b1 .nil pass0 (pa_cons (pv 22) (pa_cons (pv 2) (pa_cons (pv 23) pa_nil)))), ?_⟩
  intro D a0 a3 a4 a5 a6 a7 a8 a9 a10 a11 a12 a13 a14 a15 a16 a17 a18 a19 a20 a21 a24 a25 a26 a27 a28 a29 H m d p na od ks0 ota had a fin
  have l6 : ks0.length ≤ 6 := nodup_len a.nd a.six
  refine ⟨_, rfl, _, rfl, _, rfl, shares_step (SqL.of a.hna) (by omega) (fun n hn => (six_ok n (a.six n hn)).2) a.nd a.m2 (.inl ⟨od, sixS, ota, rfl, a.o, by decide, a.off⟩) (fun n => Nat.le_trans (a.g n).1 (by decide)) (fun n _ => (a.g n).2) a.b.tabs fun ks pm so H' fo fta e t _ tt => ?_⟩
  exact fin H' fo ks fta (a.lam e t) pm so tt
theorem law_67 (ve : LawE P w K mg base CG CE Pm Ps Pl cL fTo r0 fdTo) (hr : Room 16 (xLaw P w K mg base fL cL A outer s H0 E0').A) :
    ∃ tA tB, PS (xLaw P w K mg base fL cL A outer s H0 E0') (law0.getD 6 pass0') tA ∧ PS (xLaw P w K mg base fL cL A outer s H0 E0') (law0.getD 7 pass0') tB ∧ ∀ (D : Ends) (a0 a3 a4 a5 a6 a7 a8 a9 a10 a11 a12 a13 a14 a15 a16 a17 a18 a19 a20 a21 a24 a25 a26 a27 a28 a29 : Option V) (H : Hp) (m : Nat) (d p na od : Addr) (ks0 : List Str) (ota : Str → Addr) (had : Str → List Int), Dr K Pm Ps Pl d p na od m ks0 ota had H →
      (∀ (H' : Hp) (b12 b18 b25 : Option V), Ex H H' → D.nx [a0, some (.ref d), some (.int (m : Nat)), a3, a4, a5, a6, a7, a8, a9, a10, a11, b12, a13, a14, a15, a16, a17, b18, a19, a20, a21, some (.ref na), some (.ref od), a24, b25, a26, a27, a28, a29] H') → tSeq tA tB D [a0, some (.ref d), some (.int (m : Nat)), a3, a4, a5, a6, a7, a8, a9, a10, a11, a12, a13, a14, a15, a16, a17, a18, a19, a20, a21, some (.ref na), some (.ref od), a24, a25, a26, a27, a28, a29] H := by
  have hu := hr.units
  have hu1 := Nat.lt_trans (Nat.add_lt_add_left (by decide : 1 < 64) _) hu
  refine ⟨_, _, ps_set (i := 25) scLaw.nd rfl (Or.inl rfl) pe_dnewK,
    ps_for PassesOwn.never rfl (pi_list (pe_callB cr_sortedS (by rfl) ve.T.sorted (by decide +kernel) (pa_cons (pv 22) pa_nil))) (pg_name (i := 12) scLaw.nd rfl (Or.inr rfl))
      (pss_one (ps_for PassesOwn.never rfl (pi_tup (pe_dget hu1 (pv 23) (pv 12) (fun _ _ => rfl))) (pg_name (i := 18) scLaw.nd rfl (Or.inr rfl)) (pss_one (ps_dput hu1 (pv 25) (pv 18) (pe_op op_add (pe_dget2 hu1 (pv 25) (pv 18) pe_int ⟨rfl, rfl, rfl, rfl⟩) pe_int) rfl)))), ?_⟩
  intro D a0 a3 a4 a5 a6 a7 a8 a9 a10 a11 a12 a13 a14 a15 a16 a17 a18 a19 a20 a21 a24 a25 a26 a27 a28 a29 H m d p na od ks0 ota had a fin
  have hsl : sizeLine = 16777216 := rfl
  have l6 : ks0.length ≤ 6 := nodup_len a.nd a.six
  refine fun tk htk => ?_
  have e1 : Ex H (upd H tk (.dK [])) := Ex.upd htk
  have h1 : (upd H tk (.dK [])) tk = some (.dK (kvG kI [])) := upd_same
  have e2 : ∀ {sl : Addr} {ks : List Str}, (upd H tk (.dK [])) sl = none → Ex H (upd (upd H tk (.dK [])) sl (.lst (ks.map V.str))) := fun h => e1.trans (Ex.upd h)
  refine ⟨_, rfl, na, ks0, rfl, SqL.of (e1 _ _ a.hna), by omega, fun ks sl pm so hsn => ⟨sl, rfl, ⟨_, SqL.of upd_same⟩, ?_⟩⟩
  have hs1 : (upd (upd H tk (.dK [])) sl (.lst (ks.map V.str))) sl = some (.lst (ks.map V.str)) := upd_same
  have ht1 : (upd (upd H tk (.dK [])) sl (.lst (ks.map V.str))) tk = some (.dK (kvG kI [])) := Ex.upd hsn _ _ h1
  have e3 := e2 (ks := ks) hsn
  have lk : ks.length = ks0.length := pm.length_eq
  refine for_list (xs := ks.map V.str) (fun i σ H2 => ∃ (b12 b18 : Option V) (tb : List (Int × Int)), σ = [a0, some (.ref d), some (.int (m : Nat)), a3, a4, a5, a6, a7, a8, a9, a10, a11, b12, a13, a14, a15, a16, a17, b18, a19, a20, a21, some (.ref na), some (.ref od), a24, some (.ref tk), a26, a27, a28, a29] ∧ Ex H H2 ∧ H2 sl = some (.lst (ks.map V.str)) ∧ H2 tk = some (.dK (kvG kI tb)) ∧ tb.length ≤ 100 * i)
    ⟨_, _, [], rfl, e3, hs1, ht1, by simp⟩ (fun i σ H2 _ ⟨_, _, _, _, _, h, _⟩ => SqL.of h) ?_ ?_
  · rintro i v σ H2 hv ⟨b12, b18, tb, rfl, x2, hs2, ht2, lt2⟩
    rw [List.getElem?_map] at hv
    obtain ⟨n, hn, rfl⟩ := Option.map_eq_some_iff.mp hv
    have hi := (List.getElem?_eq_some_iff.mp hn).1
    have n6 := a.six n (pm.mem_iff.mp (List.mem_of_getElem? hn))
    have o2 := a.o.ex x2
    have g9 := (a.g n).1
    refine ⟨_, rfl, _, rfl, od, _, rfl, o2.get n6, ota n, rfl, ⟨_, SqT.of (o2.t n n6)⟩, for_tup (xs := (had n).map V.int) (fun j σ H3 => ∃ (b18 : Option V) (tb : List (Int × Int)), σ = [a0, some (.ref d), some (.int (m : Nat)), a3, a4, a5, a6, a7, a8, a9, a10, a11, some (.str n), a13, a14, a15, a16, a17, b18, a19, a20, a21, some (.ref na), some (.ref od), a24, some (.ref tk), a26, a27, a28, a29] ∧ Ex H H3 ∧ H3 sl = some (.lst (ks.map V.str)) ∧ H3 tk = some (.dK (kvG kI tb)) ∧ tb.length ≤ 100 * i + j)
      ⟨_, tb, rfl, x2, hs2, ht2, by omega⟩ (fun j σ H3 _ ⟨_, _, _, x3, _⟩ => SqT.of ((a.o.ex x3).t n n6)) ?_ ?_⟩
    · rintro j v σ H3 hv ⟨b18, tb, rfl, x3, hs3, ht3, lt3⟩
      rw [List.getElem?_map] at hv
      obtain ⟨q, hq, rfl⟩ := Option.map_eq_some_iff.mp hv
      have hj := (List.getElem?_eq_some_iff.mp hq).1
      have hg : DGet H3 tk (.int q) ((look tb q).map V.int) := by
        have := DGet.k (k := kI q) ht3
        rw [valV_kvG sameI] at this
        exact this
      have eo : ((look tb q).map V.int).getD (V.int 0) = V.int ((look tb q).getD 0) := by cases look tb q <;> rfl
      refine ⟨_, rfl, tk, rfl, .inl ⟨_, .inl ht3⟩, _, rfl, _, hg, ?_⟩
      rw [eo]
      refine ⟨_, _, rfl, rfl, _, rfl, _, rfl, tk, _, rfl, DPut.k (k := kI q) ht3 (by rw [kvG_len]; omega), ?_⟩
      rw [putK_kvG sameI]
      have lp := put_len (l := tb) (n := q) (t := (look tb q).getD 0 + 1)
      refine ⟨_, put tb q ((look tb q).getD 0 + 1), rfl, Ex.on x3 htk, ?_, upd_same, by omega⟩
      rw [L2.upd_ne (fun z => by rw [z, ht3] at hs3; cases hs3)]
      exact hs3
    · rintro σ H3 ⟨b18, tb, rfl, x3, hs3, ht3, lt3⟩
      rw [List.length_map] at lt3
      exact ⟨_, b18, tb, rfl, x3, hs3, ht3, by omega⟩
  · rintro σ H2 ⟨b12, b18, tb, rfl, x2, _⟩
    exact fin H2 b12 b18 _ x2
end
end K7
set_option Elab.async false
set_option linter.all false
set_option maxRecDepth 100000
set_option maxHeartbeats 4000000
namespace K7
open PySem PySem.Spec PyProof.Rows PySem.Calls L2 KB KC KD KS LamX R8 Q7 CP
section
variable {P : Program} {w : World} {K : PySem.W.Frag} {mg : Str → Option Value} {base : Heap} {CG CE Pm Ps Pl cL fTo fL r0 : Addr} {fdTo : FuncData} {A : Around} {outer : List PySem.Env} {s : Shared} {H0 : Hp} {E0' : XK}
theorem law_8 (ve : LawE P w K mg base CG CE Pm Ps Pl cL fTo r0 fdTo) (hr : Room 16 (xLaw P w K mg base fL cL A outer s H0 E0').A) :
    ∃ ts, PS (xLaw P w K mg base fL cL A outer s H0 E0') (law0.getD 8 pass0') ts ∧ ∀ (D : Ends) (a0 a3 a4 a5 a6 a7 a8 a9 a10 a11 a12 a13 a14 a15 a16 a17 a18 a19 a20 a21 a25 a26 a27 a28 a29 : Option V) (H : Hp) (m : Nat) (d p na od fo : Addr) (ks0 ks : List Str) (ota fta : Str → Addr) (had : Str → List Int), Dr K Pm Ps Pl d p na od m ks0 ota had H → ks.Perm ks0 → sortedS ks = true → TabT K H fo ks fta (sharesF m had ks) →
      (∀ (H' : Hp), Bs Pm Ps Pl d p H' → D.nx [a0, some (.ref d), some (.int (m : Nat)), a3, a4, a5, a6, a7, a8, a9, a10, a11, a12, a13, a14, a15, a16, a17, a18, a19, a20, a21, some (.ref na), some (.ref od), some (.ref fo), a25, a26, a27, a28, a29] H') → ts D [a0, some (.ref d), some (.int (m : Nat)), a3, a4, a5, a6, a7, a8, a9, a10, a11, a12, a13, a14, a15, a16, a17, a18, a19, a20, a21, some (.ref na), some (.ref od), some (.ref fo), a25, a26, a27, a28, a29] H := by
  obtain ⟨f1, fd1, G1, g1, k1, b1⟩ := ve.fair
  obtain ⟨f2, fd2, G2, g2, k2, b2, _⟩ := ve.shares
  have hu := hr.units
  refine ⟨_, ps_if (PW.pt (pw_or (pt_not (pt_truth (pe_call G1 (hr.mono (by decide)) (by rfl) g1 k1 b1 .nil pass0 (pa_cons (pv 22) (pa_cons (pv 2) (pa_cons pe_dnewK (pa_cons (pv 24) pa_nil))))) (fun _ => rfl)))
      (pw_or1 (pt_cmpR (op_neDD (u66 hr)) (pe_call G2 (hr.mono (by decide)) (by rfl) g2 k2 b2 .nil pass0 (pa_cons (pv 22) (pa_cons (pv 2) (pa_cons (pv 24) pa_nil)))) (pv 24) (nomark _))))) (pss_one (ps_ret pe_bl)) pss_nil, ?_⟩
  intro D a0 a3 a4 a5 a6 a7 a8 a9 a10 a11 a12 a13 a14 a15 a16 a17 a18 a19 a20 a21 a25 a26 a27 a28 a29 H m d p na od fo ks0 ks ota fta had a pm so tt fin
  have ndk : ks.Nodup := pm.nodup_iff.mpr a.nd
  have l6 : ks0.length ≤ 6 := nodup_len a.nd a.six
  have lk : ks.length = ks0.length := pm.length_eq
  have six : ∀ n ∈ ks, n ∈ sixS := fun n hn => a.six n (pm.mem_iff.mp hn)
  have fr : ks ≠ [] → Fair m ks (sharesF m had ks) := fun hne => fair_shares ndk hne fun n _ => (a.g n).2
  have fp : FairP m ks [] (fun _ => []) (sharesF m had ks) := ⟨ndk, so, by omega, fun n hn => (six_ok n (six n hn)).2, a.m2, fr, fun n hn => by simp, fun n _ p hp => by simp at hp, fun _ _ => rfl, fun _ => by simp⟩
  refine ⟨_, rfl, _, rfl, fun z hz => ?_⟩
  have e1 : Ex H (upd H z (.dK [])) := Ex.upd hz
  have hz1 : (upd H z (.dK [])) z = some (.dK []) := upd_same
  generalize upd H z (.dK []) = H1 at e1 hz1
  refine ⟨_, rfl, fair_step (oks := []) (ota := fun _ => 0) (SqL.of (e1 _ _ a.hna)) pm (tt.ex e1) ⟨hz1, fun n hn => (nomatch hn)⟩ fp fun H2 e2 => ⟨_, rfl, ?_⟩⟩
  refine ifF (by simp) ?_
  have a2 := a.ex (e1.trans e2)
  have tt2 := tt.ex (e1.trans e2)
  have offR : ∀ n, n ∉ ks → sharesF m had ks n = [] := fun n hn => sharesF_out hn
  have rgR : ∀ n ∈ ks, ∀ q ∈ sharesF m had ks n, 0 ≤ q := fun n hn q hq => (((fr (List.ne_nil_of_mem hn)).good ndk).rg n hn q hq).1
  have l9R : ∀ n, (sharesF m had ks n).length ≤ 1000 := fun n => by
    by_cases c : n ∈ ks
    · have := (fr (List.ne_nil_of_mem c)).hi n c
      have h2 := Nat.div_le_self m ks.length
      have := a.m2
      omega
    · rw [offR n c]; exact Nat.zero_le _
  refine ⟨_, rfl, _, rfl, _, rfl, shares_step (SqL.of a2.hna) (by omega) (fun n hn => (six_ok n (a.six n hn)).2) a.nd a.m2 (.inl ⟨fo, ks, fta, rfl, tt2, by omega, offR⟩) l9R (fun n hn => rgR n (pm.mem_iff.mpr hn)) a2.b.tabs fun ks2 pm2 so2 H3 f3 ta3 e3 t3 _ tt3 => ?_⟩
  obtain rfl : ks2 = ks := sorted_un (pm2.trans pm.symm) so2 so
  refine ⟨_, rfl, f3, fo, _, _, rfl, rfl, tt3.d, (tt2.exN e3).d, tt3.same (tt2.exN e3) rfl (fun n hn => ⟨hn, idem ndk (fr (List.ne_nil_of_mem hn)) hn⟩), _, rfl, ?_⟩
  exact ifF (by simp) (fin H3 (a2.lam e3 t3).b)
theorem law_round (ve : LawE P w K mg base CG CE Pm Ps Pl cL fTo r0 fdTo) (hr : Room 16 (xLaw P w K mg base fL cL A outer s H0 E0').A) :
    ∃ ts, PSs (xLaw P w K mg base fL cL A outer s H0 E0') law0 ts ∧ ∀ (D : Ends) (a0 a2 a3 a4 a5 a6 a7 a8 a9 a10 a11 a12 a13 a14 a15 a16 a17 a18 a19 a20 a21 a22 a23 a24 a25 a26 a27 a28 a29 : Option V) (H : Hp) (d p : Addr), Bs Pm Ps Pl d p H →
      (∀ (H' : Hp) (σ : L2.St), σ.length = 30 → Bs Pm Ps Pl d p H' → D.nx σ H') → ts D [a0, some (.ref d), a2, a3, a4, a5, a6, a7, a8, a9, a10, a11, a12, a13, a14, a15, a16, a17, a18, a19, a20, a21, a22, a23, a24, a25, a26, a27, a28, a29] H := by
  obtain ⟨t0, d0, q0⟩ := law_0 (fL := fL) (A := A) (outer := outer) (s := s) (H0 := H0) (E0' := E0') ve hr
  obtain ⟨t1, d1, q1⟩ := law_1 (fL := fL) (A := A) (outer := outer) (s := s) (H0 := H0) (E0' := E0') ve hr
  obtain ⟨t2, d2, q2⟩ := law_2 (fL := fL) (A := A) (outer := outer) (s := s) (H0 := H0) (E0' := E0') ve hr
  obtain ⟨t3, d3, q3⟩ := law_3 (fL := fL) (A := A) (outer := outer) (s := s) (H0 := H0) (E0' := E0') ve hr
  obtain ⟨t4, d4, q4⟩ := law_4 (fL := fL) (A := A) (outer := outer) (s := s) (H0 := H0) (E0' := E0') ve hr
  obtain ⟨t5, d5, q5⟩ := law_5 (fL := fL) (A := A) (outer := outer) (s := s) (H0 := H0) (E0' := E0') ve hr
  obtain ⟨t6, t7, d6, d7, q67⟩ := law_67 (fL := fL) (A := A) (outer := outer) (s := s) (H0 := H0) (E0' := E0') ve hr
  obtain ⟨t8, d8, q8⟩ := law_8 (fL := fL) (A := A) (outer := outer) (s := s) (H0 := H0) (E0' := E0') ve hr
  refine ⟨_, pss_cons d0 (pss_cons d1 (pss_cons d2 (pss_cons d3 (pss_cons d4 (pss_cons d5 (pss_cons d6 (pss_cons d7 (pss_one d8)))))))), ?_⟩
  intro D a0 a2 a3 a4 a5 a6 a7 a8 a9 a10 a11 a12 a13 a14 a15 a16 a17 a18 a19 a20 a21 a22 a23 a24 a25 a26 a27 a28 a29 H d p b fin
  refine q0 _ _ _ _ _ _ _ _ _ _ _ _ _ _ _ _ _ _ _ _ _ _ _ _ _ _ _ _ _ _ H d p b fun H1 m len b1 m1 m2 l1 => ?_
  refine q1 _ _ _ _ _ _ _ _ _ _ _ _ _ _ _ _ _ _ _ _ _ _ _ _ _ _ _ _ H1 m len d p b1 m1 m2 l1 fun H2 g ha sd sb pa lh lp ta tb a2 tt2 n1 n2 => ?_
  refine q2 _ _ _ _ _ _ _ _ _ _ _ _ _ _ _ _ _ _ _ _ _ _ H2 m len 0 d p g ha sd sb pa lh lp ta tb ⟨[], [], fun _ => [], 0, []⟩ a2 tt2 n1 n2 fun H3 a0 a3 a4 a5 a6 a7 a8 a9 a10 a11 a12 a13 a14 a15 a16 a17 a18 a19 a20 a21 a22 a23 a24 a25 a26 a27 a28 a29 b3 => ?_
  refine q3 _ _ _ _ _ _ _ _ _ _ _ _ _ _ _ _ _ _ _ _ _ _ _ _ _ _ _ _ _ H3 m d p b3 fun H4 na ks0 b4 nd4 hna nd six => ?_
  refine q4 _ _ _ _ _ _ _ _ _ _ _ _ _ _ _ _ _ _ _ _ _ _ _ _ _ _ _ _ H4 m d p na b4 fun H5 od ota had b5 x5 o5 g5 off5 => ?_
  have a5 : Dr K Pm Ps Pl d p na od m ks0 ota had H5 := ⟨b5, x5 _ _ nd4 hna, nd, six, o5, g5, off5, m1, m2⟩
  refine q5 _ _ _ _ _ _ _ _ _ _ _ _ _ _ _ _ _ _ _ _ _ _ _ _ _ _ _ H5 m d p na od ks0 ota had a5 fun H6 fo ks fta a6 pm so tt6 => ?_
  refine q67 _ _ _ _ _ _ _ _ _ _ _ _ _ _ _ _ _ _ _ _ _ _ _ _ _ _ _ H6 m d p na od ks0 ota had a6 fun H7 b12 b18 b25 x7 => ?_
  refine q8 _ _ _ _ _ _ _ _ _ _ _ _ _ _ _ _ _ _ _ _ _ _ _ _ _ _ H7 m d p na od fo ks0 ks ota fta had (a6.ex x7) pm so (tt6.ex x7) fun H8 b8 => ?_
  exact fin H8 _ rfl b8
end
end K7
set_option Elab.async false
set_option linter.all false
set_option maxRecDepth 100000
set_option maxHeartbeats 4000000
namespace K7
open PySem PySem.Spec PyProof.Rows PySem.Calls L2 KB KC KD KS LamX R8 Q7 CP
abbrev sA : Str := "a"
abbrev sB : Str := "b"
abbrev sC : Str := "c"
theorem ab : ¬ sA = sB := by decide +kernel
theorem ba : ¬ sB = sA := by decide +kernel
theorem ac : ¬ sA = sC := by decide +kernel
theorem ca : ¬ sC = sA := by decide +kernel
theorem bc : ¬ sB = sC := by decide +kernel
theorem cb : ¬ sC = sB := by decide +kernel
abbrev had1 : Str → List Int := fun n => if n = sB then [0, 1, 2] else []
abbrev had2 : Str → List Int := fun n => if n = sB then [3, 4] else []
abbrev had4 : Str → List Int := fun n => if n = sA then [0, 1, 2] else if n = sB then [3, 4, 5] else []
theorem len_ite {α : Type} {c : Prop} [Decidable c] (x y : List α) : (if c then x else y).length = if c then x.length else y.length := apply_ite _ _ _ _
theorem sh_t3 : sharesF 3 (fun _ => []) [sA, sB] sA = [0, 2] ∧ sharesF 3 (fun _ => []) [sA, sB] sB = [1] := by
  generalize ha : sA = a
  generalize hb : sB = b
  have n1 : ¬ a = b := by rw [← ha, ← hb]; exact ab
  have n2 : ¬ b = a := fun z => n1 z.symm
  constructor <;> simp [sharesF, loop1, loop2, pb, sortI, uniq, mostF, ranked, rng, Q7.set, Q7.leastF, List.mergeSort, List.merge, List.range, List.range.loop, n1, n2, List.idxOf, List.findIdx, List.findIdx.go]
theorem sh_t1 : sharesF 3 had1 [sA, sB] sA = [2] ∧ sharesF 3 had1 [sA, sB] sB = [0, 1] := by
  unfold had1
  generalize ha : sA = a
  generalize hb : sB = b
  have n1 : ¬ a = b := by rw [← ha, ← hb]; exact ab
  have n2 : ¬ b = a := fun z => n1 z.symm
  constructor <;> simp [sharesF, loop1, loop2, pb, sortI, uniq, mostF, ranked, rng, Q7.set, Q7.leastF, List.mergeSort, List.merge, List.range, List.range.loop, n1, n2, List.idxOf, List.findIdx, List.findIdx.go]
theorem sh_t2 : sharesF 5 had2 [sA, sB] sA = [0, 1, 2] ∧ sharesF 5 had2 [sA, sB] sB = [3, 4] := by
  unfold had2
  generalize ha : sA = a
  generalize hb : sB = b
  have n1 : ¬ a = b := by rw [← ha, ← hb]; exact ab
  have n2 : ¬ b = a := fun z => n1 z.symm
  constructor <;> simp [sharesF, loop1, loop2, pb, sortI, uniq, mostF, ranked, rng, Q7.set, Q7.leastF, List.mergeSort, List.merge, List.range, List.range.loop, n1, n2, List.idxOf, List.findIdx, List.findIdx.go]
theorem sh_t4 : sharesF 6 had4 [sA, sB, sC] sA = [0, 1] ∧ sharesF 6 had4 [sA, sB, sC] sB = [3, 4] ∧ sharesF 6 had4 [sA, sB, sC] sC = [2, 5] := by
  unfold had4
  generalize ha : sA = a
  generalize hb : sB = b
  generalize hc : sC = c
  have n1 : ¬ a = b := by rw [← ha, ← hb]; exact ab
  have n2 : ¬ b = a := fun z => n1 z.symm
  have n3 : ¬ a = c := by rw [← ha, ← hc]; exact ac
  have n4 : ¬ c = a := fun z => n3 z.symm
  have n5 : ¬ b = c := by rw [← hb, ← hc]; exact bc
  have n6 : ¬ c = b := fun z => n5 z.symm
  refine ⟨?_, ?_, ?_⟩ <;> simp [sharesF, loop1, loop2, pb, sortI, uniq, mostF, ranked, rng, Q7.set, Q7.leastF, List.mergeSort, List.merge, List.range, List.range.loop, n1, n2, n3, n4, n5, n6, List.idxOf, List.findIdx, List.findIdx.go]
end K7
set_option Elab.async false
set_option linter.all false
set_option maxRecDepth 100000
set_option maxHeartbeats 4000000
namespace K7
open PySem PySem.Spec PyProof.Rows PySem.Calls L2 KB KC KD KS LamX R8 Q7 CP
def tInts : List Int → TA
  | [] => tNil
  | i :: r => tCons (tC (.int i)) (tInts r)
theorem tInts_go {σ : L2.St} : ∀ (l : List Int) (H : Hp) (Q : List V → Hp → Prop), Q (l.map V.int) H → tInts l σ H Q
  | [], H, Q, h => h
  | i :: r, H, Q, h => tInts_go r H (fun xs H' => Q (.int i :: xs) H') h
def dl (L : List (Str × List Int)) : List (TE × TE) := L.map fun e => (tC (.str e.1), tTup (tInts e.2))
theorem pairs_go {σ : L2.St} : ∀ (L : List (Str × List Int)) (H : Hp) (Qp : List (V × V) → Hp → Prop), (L.map (·.1)).Nodup → (∀ e ∈ L, e.2.length ≤ 100) →
    (∀ H' (ta : Str → Addr), Ex H H' → (∀ e ∈ L, H' (ta e.1) = some (.tup (e.2.map V.int))) → Qp (L.map fun e => (V.str e.1, V.ref (ta e.1))) H') → tPairs (dl L) σ H Qp
  | [], H, Qp, _, _, fin => fin H (fun _ => 0) (Ex.refl H) fun e he => (nomatch he)
  | e :: L, H, Qp, nd, hl, fin => by
    rw [List.map_cons, List.nodup_cons] at nd
    refine tInts_go _ _ _ ⟨?_, fun q hq => ?_⟩
    · rw [List.length_map]
      have := hl e List.mem_cons_self
      have : sizeLine = 16777216 := rfl
      omega
    · refine pairs_go L _ _ nd.2 (fun x hx => hl x (List.mem_cons_of_mem _ hx)) fun H' ta e' h => ?_
      have ne : ∀ x ∈ L, x.1 ≠ e.1 := fun x hx z => nd.1 (z ▸ List.mem_map.mpr ⟨x, hx, rfl⟩)
      have := fin H' (Q7.set ta e.1 q) ((Ex.upd hq).trans e') fun x hx => by
        rcases List.mem_cons.mp hx with rfl | hx
        · rw [Q7.set_same]
          exact e' _ _ upd_same
        · rw [Q7.set_ne (ne x hx)]
          exact h x hx
      rw [List.map_cons, Q7.set_same] at this
      have em : (L.map fun x => (V.str x.1, V.ref (Q7.set ta e.1 q x.1))) = L.map fun x => (V.str x.1, V.ref (ta x.1)) := List.map_congr_left fun x hx => by rw [Q7.set_ne (ne x hx)]
      rw [em] at this
      exact this
theorem disp_tab {K : PySem.W.Frag} {σ : L2.St} {L : List (Str × List Int)} {R : Str → List Int} {H : Hp} {Q : VK} (nd : (L.map (·.1)).Nodup) (hl : ∀ e ∈ L, e.2.length ≤ 100) (h15 : L.length ≤ 15) (hR : ∀ e ∈ L, R e.1 = e.2)
    (fin : ∀ H' d ta, Ex H H' → TabT K H' d (L.map (·.1)) ta R → Q (.ref d) H') : tDisp (dl L) σ H Q := by
  intro d hd
  refine pairs_go L _ _ nd hl fun H' ta e h => ?_
  have hd' := e _ _ (upd_same (H := H) (a := d) (o := .dK []))
  refine ⟨hd', (L.map (·.1)).map (fun n => ((Sum.inr n : Key), V.ref (ta n))), ?_, ?_, ?_⟩
  · rw [List.map_map, List.map_map]
    rfl
  · rw [List.length_map, List.length_map]
    exact h15
  · have em := merge_ids (f := fun n => V.ref (ta n)) (L.map (·.1)) [] (by simpa using nd)
    rw [List.nil_append] at em
    have em : mergeK [] ((L.map (·.1)).map fun n => ((Sum.inr n : Key), V.ref (ta n))) = (L.map (·.1)).map fun n => ((Sum.inr n : Key), V.ref (ta n)) := em
    rw [em]
    have e2 : Ex H (upd H' d (.dK ((L.map (·.1)).map fun n => ((Sum.inr n : Key), V.ref (ta n))))) := Ex.on ((Ex.upd hd).trans e) hd
    refine fin _ d ta e2 ⟨upd_same, fun n hn => ?_⟩
    obtain ⟨x, hx, rfl⟩ := List.mem_map.mp hn
    have hx' := h x hx
    rw [L2.upd_ne (fun z => by rw [z, hd'] at hx'; cases hx'), hR x hx]
    exact hx'
theorem args_tab {K : PySem.W.Frag} {σ : L2.St} {L : List (Str × List Int)} {R : Str → List Int} {H : Hp} {m : Int} {Q : List V → Hp → Prop} (nd : (L.map (·.1)).Nodup) (hl : ∀ e ∈ L, e.2.length ≤ 100) (h15 : L.length ≤ 15) (hR : ∀ e ∈ L, R e.1 = e.2)
    (fin : ∀ H' d ta, Ex H H' → TabT K H' d (L.map (·.1)) ta R → Q [.int m, .ref d] H') : tCons (tC (.int m)) (tCons (tDisp (dl L)) tNil) σ H Q :=
  disp_tab (K := K) (Q := fun v H' => Q [.int m, v] H') nd hl h15 hR fin
theorem test_core {K : PySem.W.Frag} {Pm Ps Pl : Addr} {σ : L2.St} {H : Hp} {Q : VK} {E : XK} {a : Addr} {names ks0 : List Str} {m : Nat} {old : V} {had Rr : Str → List Int} {Lr : List (Str × List Int)} (hs : SqL K H a (names.map V.str)) (hl : names.length < 64) (hk : ∀ n ∈ names, PyData.strOk n = true) (nd : names.Nodup) (hm : m ≤ 60) (ho : OldT K H old had) (h9 : ∀ n, (had n).length ≤ 1000) (h0 : ∀ n ∈ names, ∀ p ∈ had n, 0 ≤ p) (t : Tabs (TT Pm Ps Pl) H)
    (pm : ks0.Perm names) (so : sortedS ks0 = true) (ndr : (Lr.map (·.1)).Nodup) (hlr : ∀ e ∈ Lr, e.2.length ≤ 100) (h15 : Lr.length ≤ 15) (hRr : ∀ e ∈ Lr, Rr e.1 = e.2) (len : ks0.length = Lr.length) (res : ∀ n ∈ ks0, n ∈ Lr.map (·.1) ∧ sharesF m had ks0 n = Rr n)
    (fin : ∀ H', Tabs (TT Pm Ps Pl) H' → Q (.bl false) H') : spShares K Pm Ps Pl [.ref a, .int m, old] H (fun x H1 => tDisp (dl Lr) σ H1 fun y H2 => rNeDD K x y H2 Q) E := by
  refine shares_step hs hl hk nd hm ho h9 h0 t fun ks pm2 so2 H1 D ta e1 t1 _ tt => ?_
  obtain rfl : ks = ks0 := sorted_un (pm2.trans pm.symm) so2 so
  refine disp_tab (K := K) ndr hlr h15 hRr fun H2 d2 ta2 e2 tt2 => ?_
  exact ⟨D, d2, _, _, rfl, rfl, (tt.ex e2).d, tt2.d, (tt.ex e2).same tt2 (by rw [List.length_map]; exact len) res, fin H2 (t1.ext e2)⟩
def tStrs : List Str → TA
  | [] => tNil
  | i :: r => tCons (tC (.str i)) (tStrs r)
theorem tStrs_go {σ : L2.St} : ∀ (l : List Str) (H : Hp) (Q : List V → Hp → Prop), Q (l.map V.str) H → tStrs l σ H Q
  | [], H, Q, h => h
  | i :: r, H, Q, h => tStrs_go r H (fun xs H' => Q (.str i :: xs) H') h
end K7
set_option Elab.async false
set_option linter.all false
set_option maxRecDepth 100000
set_option maxHeartbeats 4000000
namespace K7
open PySem PySem.Spec PyProof.Rows PySem.Calls L2 KB KC KD KS LamX R8 Q7 CP
section
variable {P : Program} {w : World} {K : PySem.W.Frag} {mg : Str → Option Value} {base : Heap} {CG CE Pm Ps Pl cL fTo fL r0 : Addr} {fdTo : FuncData} {A : Around} {outer : List PySem.Env} {s : Shared} {H0 : Hp} {E0' : XK}
abbrev R1 : Str → List Int := fun n => if n = sA then [2] else [0, 1]
abbrev R2' : Str → List Int := fun n => if n = sA then [0, 1, 2] else [3, 4]
abbrev R3' : Str → List Int := fun n => if n = sA then [0, 2] else [1]
abbrev R4' : Str → List Int := fun n => if n = sA then [0, 1] else if n = sB then [3, 4] else [2, 5]
theorem res1 : ∀ n ∈ [sA, sB], n ∈ ([(sA, [2]), (sB, [0, 1])] : List (Str × List Int)).map (·.1) ∧ sharesF 3 had1 [sA, sB] n = R1 n := fun n hn => by
  have h := sh_t1
  rcases List.mem_cons.mp hn with rfl | hn
  · exact ⟨by simp, by rw [h.1]; simp [R1]⟩
  · rw [List.mem_singleton.mp hn]
    exact ⟨by simp, by rw [h.2]; simp [R1, ba]⟩
theorem res2 : ∀ n ∈ [sA, sB], n ∈ ([(sA, [0, 1, 2]), (sB, [3, 4])] : List (Str × List Int)).map (·.1) ∧ sharesF 5 had2 [sA, sB] n = R2' n := fun n hn => by
  have h := sh_t2
  rcases List.mem_cons.mp hn with rfl | hn
  · exact ⟨by simp, by rw [h.1]; simp [R2']⟩
  · rw [List.mem_singleton.mp hn]
    exact ⟨by simp, by rw [h.2]; simp [R2', ba]⟩
theorem res3 : ∀ n ∈ [sA, sB], n ∈ ([(sA, [0, 2]), (sB, [1])] : List (Str × List Int)).map (·.1) ∧ sharesF 3 (fun _ => []) [sA, sB] n = R3' n := fun n hn => by
  have h := sh_t3
  rcases List.mem_cons.mp hn with rfl | hn
  · exact ⟨by simp, by rw [h.1]; simp [R3']⟩
  · rw [List.mem_singleton.mp hn]
    exact ⟨by simp, by rw [h.2]; simp [R3', ba]⟩
theorem res4 : ∀ n ∈ [sA, sB, sC], n ∈ ([(sA, [0, 1]), (sB, [3, 4]), (sC, [2, 5])] : List (Str × List Int)).map (·.1) ∧ sharesF 6 had4 [sA, sB, sC] n = R4' n := fun n hn => by
  have h := sh_t4
  rcases List.mem_cons.mp hn with rfl | hn
  · exact ⟨by simp, by rw [h.1]; simp [R4']⟩
  rcases List.mem_cons.mp hn with rfl | hn
  · exact ⟨by simp, by rw [h.2.1]; simp [R4', ba]⟩
  · rw [List.mem_singleton.mp hn]
    exact ⟨by simp, by rw [h.2.2]; simp [R4', ca, cb]⟩
theorem had1_9 : ∀ n, (had1 n).length ≤ 1000 := fun n => by unfold had1; split <;> simp
theorem had2_9 : ∀ n, (had2 n).length ≤ 1000 := fun n => by unfold had2; split <;> simp
theorem had4_9 : ∀ n, (had4 n).length ≤ 1000 := fun n => by unfold had4; split; simp; split <;> simp
theorem had1_0 : ∀ n, ∀ p ∈ had1 n, 0 ≤ p := fun n p hp => by unfold had1 at hp; split at hp <;> simp at hp <;> omega
theorem had2_0 : ∀ n, ∀ p ∈ had2 n, 0 ≤ p := fun n p hp => by unfold had2 at hp; split at hp <;> simp at hp <;> omega
theorem had4_0 : ∀ n, ∀ p ∈ had4 n, 0 ≤ p := fun n p hp => by
  unfold had4 at hp
  split at hp
  · simp at hp; omega
  · split at hp <;> simp at hp <;> omega
theorem law_t1 (ve : LawE P w K mg base CG CE Pm Ps Pl cL fTo r0 fdTo) (hr : Room 16 (xLaw P w K mg base fL cL A outer s H0 E0').A) :
    ∃ ts, PS (xLaw P w K mg base fL cL A outer s H0 E0') ((defBody sLaw).getD 1 pass0') ts ∧ ∀ (D : Ends) (σ : L2.St) (H : Hp), Tabs (TT Pm Ps Pl) H → (∀ H', Tabs (TT Pm Ps Pl) H' → D.nx σ H') → ts D σ H := by
  obtain ⟨f2, fd2, G2, g2, k2, b2, _⟩ := ve.shares
  refine ⟨_, ps_if (PW.pt (pw_or
      (pt_cmpR (op_neDD (u66 hr)) (pe_call G2 (hr.mono (by decide)) (by rfl) g2 k2 b2 .nil pass0 (pa_cons (pe_lst (pa_cons pe_str (pa_cons pe_str pa_nil))) (pa_cons pe_int (pa_cons (pe_disp (pps_cons pe_str (pe_tup (pa_cons pe_int (pa_cons pe_int (pa_cons pe_int pa_nil)))) pps_nil) rfl rfl (by simp) (by decide)) pa_nil))))
        (pe_disp (pps_cons pe_str (pe_tup (pa_cons pe_int pa_nil)) (pps_cons pe_str (pe_tup (pa_cons pe_int (pa_cons pe_int pa_nil))) pps_nil)) rfl rfl (by simp) (by decide)) (nomark _))
      (pw_or1 (pt_cmpR (op_neDD (u66 hr)) (pe_call G2 (hr.mono (by decide)) (by rfl) g2 k2 b2 .nil pass0 (pa_cons (pe_lst (pa_cons pe_str (pa_cons pe_str pa_nil))) (pa_cons pe_int (pa_cons (pe_disp (pps_cons pe_str (pe_tup (pa_cons pe_int (pa_cons pe_int pa_nil))) pps_nil) rfl rfl (by simp) (by decide)) pa_nil))))
        (pe_disp (pps_cons pe_str (pe_tup (pa_cons pe_int (pa_cons pe_int (pa_cons pe_int pa_nil)))) (pps_cons pe_str (pe_tup (pa_cons pe_int (pa_cons pe_int pa_nil))) pps_nil)) rfl rfl (by simp) (by decide)) (nomark _))))) (pss_one (ps_ret pe_bl)) pss_nil, ?_⟩
  intro D σ H t fin
  refine ⟨(by show 2 ≤ sizeLine; decide), fun a ha => ?_⟩
  have e1 : Ex H (upd H a (.lst [.str "a", .str "b"])) := Ex.upd ha
  have h1 : (upd H a (.lst [.str "a", .str "b"])) a = some (.lst ([sA, sB].map V.str)) := upd_same
  generalize upd H a (.lst [.str "a", .str "b"]) = H1 at e1 h1
  refine args_tab (K := K) (L := [(sB, [0, 1, 2])]) (R := had1) (by simp) (by simp) (by simp) (by simp [had1]) fun H2 d ta e2 tt => ?_
  refine test_core (names := [sA, sB]) (ks0 := [sA, sB]) (had := had1) (Rr := R1) (Lr := [(sA, [2]), (sB, [0, 1])]) (m := 3) (SqL.of (e2 _ _ h1)) (by simp) (by decide +kernel) (by decide +kernel) (by decide) (.inl ⟨d, [sB], ta, rfl, tt, by simp, fun n hn => ?_⟩) had1_9 (fun n _ => had1_0 n) ((t.ext e1).ext e2) (List.Perm.refl _) (by decide +kernel) (by decide +kernel) (by simp) (by simp) (by simp [R1, ba]) rfl res1 fun H3 t3 => ⟨_, rfl, ?_⟩
  · have : n ≠ sB := fun z => hn (by rw [z]; exact List.mem_singleton.mpr rfl)
    simp [had1, this]
  refine ifF (by simp) ?_
  refine ⟨(by show 2 ≤ sizeLine; decide), fun a ha => ?_⟩
  have e4 : Ex H3 (upd H3 a (.lst [.str "a", .str "b"])) := Ex.upd ha
  have h4 : (upd H3 a (.lst [.str "a", .str "b"])) a = some (.lst ([sA, sB].map V.str)) := upd_same
  generalize upd H3 a (.lst [.str "a", .str "b"]) = H4 at e4 h4
  refine args_tab (K := K) (L := [(sB, [3, 4])]) (R := had2) (by simp) (by simp) (by simp) (by simp [had2]) fun H5 d ta e5 tt => ?_
  refine test_core (names := [sA, sB]) (ks0 := [sA, sB]) (had := had2) (Rr := R2') (Lr := [(sA, [0, 1, 2]), (sB, [3, 4])]) (m := 5) (SqL.of (e5 _ _ h4)) (by simp) (by decide +kernel) (by decide +kernel) (by decide) (.inl ⟨d, [sB], ta, rfl, tt, by simp, fun n hn => ?_⟩) had2_9 (fun n _ => had2_0 n) ((t3.ext e4).ext e5) (List.Perm.refl _) (by decide +kernel) (by decide +kernel) (by simp) (by simp) (by simp [R2', ba]) rfl res2 fun H6 t6 => ⟨_, rfl, ?_⟩
  · have : n ≠ sB := fun z => hn (by rw [z]; exact List.mem_singleton.mpr rfl)
    simp [had2, this]
  exact ifF (by simp) (fin H6 t6)
end
end K7
set_option Elab.async false
set_option linter.all false
set_option maxRecDepth 100000
set_option maxHeartbeats 4000000
namespace K7
open PySem PySem.Spec PyProof.Rows PySem.Calls L2 KB KC KD KS LamX R8 Q7 CP TL
section
variable {P : Program} {w : World} {K : PySem.W.Frag} {mg : Str → Option Value} {base : Heap} {CG CE Pm Ps Pl cL fTo fL r0 : Addr} {fdTo : FuncData} {A : Around} {outer : List PySem.Env} {s : Shared} {H0 : Hp} {E0' : XK}
theorem law_t2 (ve : LawE P w K mg base CG CE Pm Ps Pl cL fTo r0 fdTo) (hr : Room 16 (xLaw P w K mg base fL cL A outer s H0 E0').A) :
    ∃ ts, PS (xLaw P w K mg base fL cL A outer s H0 E0') ((defBody sLaw).getD 2 pass0') ts ∧ ∀ (D : Ends) (σ : L2.St) (H : Hp), Tabs (TT Pm Ps Pl) H → (∀ H', Tabs (TT Pm Ps Pl) H' → D.nx σ H') → ts D σ H := by
  obtain ⟨f2, fd2, G2, g2, k2, b2, ds, hds, b3⟩ := ve.shares
  have e0 := ve.e0
  refine ⟨_, ps_if (PW.pt (pw_or
      (pt_cmpR (op_neDD (u66 hr)) (pe_call G2 (hr.mono (by decide)) (by rfl) g2 k2 b3 hds pass0 (pa_cons (pe_lst pa_nil) (pa_cons pe_int pa_nil))) pe_dnewK (nomark _))
      (pw_or (pt_cmpR (op_neDD (u66 hr)) (pe_call G2 (hr.mono (by decide)) (by rfl) g2 k2 b3 hds pass0 (pa_cons (pe_lst (pa_cons pe_str (pa_cons pe_str pa_nil))) (pa_cons pe_int pa_nil)))
        (pe_disp (pps_cons pe_str (pe_tup (pa_cons pe_int (pa_cons pe_int pa_nil))) (pps_cons pe_str (pe_tup (pa_cons pe_int pa_nil)) pps_nil)) rfl rfl (by simp) (by decide)) (nomark _))
      (pw_or1 (pt_cmpR (op_neDD (u66 hr)) (pe_call G2 (hr.mono (by decide)) (by rfl) g2 k2 b2 .nil pass0 (pa_cons (pe_lst (pa_cons pe_str (pa_cons pe_str (pa_cons pe_str pa_nil)))) (pa_cons pe_int (pa_cons (pe_disp (pps_cons pe_str (pe_tup (pa_cons pe_int (pa_cons pe_int (pa_cons pe_int pa_nil)))) (pps_cons pe_str (pe_tup (pa_cons pe_int (pa_cons pe_int (pa_cons pe_int pa_nil)))) pps_nil)) rfl rfl (by simp) (by decide)) pa_nil))))
        (pe_disp (pps_cons pe_str (pe_tup (pa_cons pe_int (pa_cons pe_int pa_nil))) (pps_cons pe_str (pe_tup (pa_cons pe_int (pa_cons pe_int pa_nil))) (pps_cons pe_str (pe_tup (pa_cons pe_int (pa_cons pe_int pa_nil))) pps_nil))) rfl rfl (by simp) (by decide)) (nomark _)))))) (pss_one (ps_ret pe_bl)) pss_nil, ?_⟩
  intro D σ H t fin
  refine ⟨(by show 0 ≤ sizeLine; decide), fun a ha => ?_⟩
  have e1 : Ex H (upd H a (.lst [])) := Ex.upd ha
  have h1 : (upd H a (.lst [])) a = some (.lst (([] : List Str).map V.str)) := upd_same
  generalize upd H a (.lst []) = H1 at e1 h1
  refine shares_step (ms := []) (m := 3) (old := .ref r0) (had := fun _ => []) (SqL.of h1) (by simp) (by simp) (by simp) (by decide) (.inr ⟨r0, rfl, e0, fun _ => rfl⟩) (fun _ => by simp) (fun _ _ p hp => by simp at hp) (t.ext e1) fun ks pm so H2 D2 ta e2 t2 _ tt => ?_
  obtain rfl : ks = [] := List.perm_nil.mp pm
  refine fun d3 hd3 => ?_
  have e3 : Ex H2 (upd H2 d3 (.dK [])) := Ex.upd hd3
  refine ⟨D2, d3, _, _, rfl, rfl, (tt.ex e3).d, upd_same, ⟨rfl, fun p hp => by simp at hp⟩, _, rfl, ?_⟩
  refine ifF (by simp) ?_
  have t3 := t2.ext e3
  generalize upd H2 d3 (.dK []) = H3 at e3 t3
  refine ⟨(by show 2 ≤ sizeLine; decide), fun a ha => ?_⟩
  have e4 : Ex H3 (upd H3 a (.lst [.str "b", .str "a"])) := Ex.upd ha
  have h4 : (upd H3 a (.lst [.str "b", .str "a"])) a = some (.lst ([sB, sA].map V.str)) := upd_same
  generalize upd H3 a (.lst [.str "b", .str "a"]) = H4 at e4 h4
  refine test_core (names := [sB, sA]) (ks0 := [sA, sB]) (old := .ref r0) (had := fun _ => []) (Rr := R3') (Lr := [(sA, [0, 2]), (sB, [1])]) (m := 3) (SqL.of h4) (by simp) (by decide +kernel) (by decide +kernel) (by decide) (.inr ⟨r0, rfl, e0, fun _ => rfl⟩) (fun _ => by simp) (fun _ _ p hp => by simp at hp) (t3.ext e4) (List.Perm.swap _ _ _) (by decide +kernel) (by decide +kernel) (by simp) (by simp) (by simp [R3', ba]) rfl res3 fun H5 t5 => ⟨_, rfl, ?_⟩
  refine ifF (by simp) ?_
  refine ⟨(by show 3 ≤ sizeLine; decide), fun a ha => ?_⟩
  have e6 : Ex H5 (upd H5 a (.lst [.str "a", .str "b", .str "c"])) := Ex.upd ha
  have h6 : (upd H5 a (.lst [.str "a", .str "b", .str "c"])) a = some (.lst ([sA, sB, sC].map V.str)) := upd_same
  generalize upd H5 a (.lst [.str "a", .str "b", .str "c"]) = H6 at e6 h6
  refine args_tab (K := K) (L := [(sA, [0, 1, 2]), (sB, [3, 4, 5])]) (R := had4) (by decide +kernel) (by simp) (by simp) (by simp [had4, ba]) fun H7 d ta e7 tt => ?_
  refine test_core (names := [sA, sB, sC]) (ks0 := [sA, sB, sC]) (had := had4) (Rr := R4') (Lr := [(sA, [0, 1]), (sB, [3, 4]), (sC, [2, 5])]) (m := 6) (SqL.of (e7 _ _ h6)) (by simp) (by decide +kernel) (by decide +kernel) (by decide) (.inl ⟨d, [sA, sB], ta, rfl, tt, by simp, fun n hn => ?_⟩) had4_9 (fun n _ => had4_0 n) ((t5.ext e6).ext e7) (List.Perm.refl _) (by decide +kernel) (by decide +kernel) (by simp) (by simp) (by simp [R4', ba, ca, cb]) rfl res4 fun H8 t8 => ⟨_, rfl, ?_⟩
  · rw [List.mem_cons, List.mem_singleton, not_or] at hn
    simp [had4, hn.1, hn.2]
  exact ifF (by simp) (fin H8 t8)
abbrev EJ (K : PySem.W.Frag) (CE : Addr) (Q : VK) : XK := fun cls _ H' => ∃ b, PySem.W.exmOne K cls (.ref CE) = some b ∧ (b = true → Q (.str "GroupError") H') ∧ (b = false → False)
def lamsOf : Stmt → List Expr
  | .Return (some (.Compare (.ListComp _ (⟨_, .List es _, _, _⟩ :: _) _ _) _ _ _)) _ => es
  | _ => []
abbrev noE : Expr := .Constant (.int 0) 0 ⟨0, 0, 0, 0⟩
abbrev lamE (i : Nat) : Expr := (lamsOf ((defBody sLaw).getD 3 pass0')).getD i noE
def lamP : Expr → Arguments
  | .Lambda a _ _ _ => a
  | _ => { posonlyargs := [], args := [], vararg := none, kwonlyargs := [], kw_defaults := [], kwarg := none, defaults := [] }
def lamB : Expr → Expr
  | .Lambda _ b _ _ => b
  | e => e
def lamSc : Expr → Scope
  | .Lambda _ _ sc _ => sc
  | _ => defScope sLaw
def BadL (P : Program) (w : World) (K : PySem.W.Frag) (mg : Str → Option Value) (base : Heap) (CE f : Addr) (H : Hp) : Prop :=
  ∀ (H' : Hp) (Q : VK), ExtN H H' → (∀ H'', Ex H' H'' → Q (.str "GroupError") H'') → LamAt P w K mg base 6 f H' Q (EJ K CE Q)
theorem BadL.exN {f : Addr} {H H1 : Hp} (b : BadL P w K mg base CE f H) (e : ExtN H H1) : BadL P w K mg base CE f H1 := fun H' Q e' h => b H' Q (e.trans e') h
theorem ne_tblL {f c' : Addr} {q : Str} {pa : Arguments} {bd : Expr} {sc : Scope} : ∀ ps, LamO f q pa bd sc c' ≠ .tbl ps := fun ps z => by
  unfold LamO at z
  cases z
theorem ne_tblC {q : Str} {c' : Addr} : ∀ ps, CodeO c' q ≠ .tbl ps := fun ps z => codeO_ne ps z
abbrev Beh1 (P : Program) (w : World) (K : PySem.W.Frag) (mg : Str → Option Value) (base : Heap) (CE f c' : Addr) (i : Nat) : Prop :=
  ∀ (H' : Hp) (Q : VK) (E : XK), (∀ H'', Ex H' H'' → E (.ref CE) none H'') → ∀ (A : Around) (outer : List Env) (s : Shared), Room 6 (A.deeper (envOfC qL (lamSc (lamE i)) s.heap.objs.size f (.ref c'))) →
      ∃ t, PE (cxOf (L2.CX P w) P w K mg base [] qL (lamSc (lamE i)) f (.ref c') A outer s H' E) (lamB (lamE i)) t ∧ t (start [] []) H' Q
theorem bad_of {i : Nat} {f c' : Addr} {H : Hp} (hf : H f = some (LamO f qL (lamP (lamE i)) (lamB (lamE i)) (lamSc (lamE i)) c')) (hc : H c' = some (CodeO c' qL)) (S : FnScope [] [] (lamSc (lamE i)))
    (hb : ∀ pm ctv, bindArgs (PySem.W.kla_fn "<lambda>" qL (lamP (lamE i)) (lamB (lamE i)) (lamSc (lamE i)) [] pm (.ref c') ctv) ⟨[], []⟩ = pure [])
    (beh : Beh1 P w K mg base CE f c' i) (J : TxtX K mg CE) : BadL P w K mg base CE f H := by
  intro H' Q e h
  refine ⟨c', qL, _, _, _, [], e _ _ hf ne_tblL, e _ _ hc ne_tblC, S, hb, fun E hE A outer s hr => beh H' Q E (fun H'' ex => hE _ _ _ ⟨true, J.e, fun _ => h H'' ex, fun z => nomatch z⟩) A outer s hr⟩
theorem beh_0 (ve : LawE P w K mg base CG CE Pm Ps Pl cL fTo r0 fdTo) {f c' : Addr} : Beh1 P w K mg base CE f c' 0 := fun H' Q E hE A outer s hr => by
  obtain ⟨f1, fd1, G1, M1, b1⟩ := ve.ginit
  refine ⟨_, pe_make M1 G1 (hr.mono (by decide)) (by rfl) ve.B.gC b1 .nil (passes_call (takes_of rfl rfl rfl rfl) (fun _ _ _ _ h => h)) (pa_cons pe_int (pa_cons pe_int pa_nil)), ?_⟩
  refine fun x dx hx hdx nx => ?_
  show spGInit K CG CE _ _ _ _
  unfold spGInit
  exact ⟨x, dx, 0, 1, rfl, upd_same, fun _ => hE _ (Ex.on (Ex.upd hdx) hx), fun z => absurd z (by decide)⟩
theorem beh_1 (ve : LawE P w K mg base CG CE Pm Ps Pl cL fTo r0 fdTo) {f c' : Addr} : Beh1 P w K mg base CE f c' 1 := fun H' Q E hE A outer s hr => by
  obtain ⟨f1, fd1, G1, M1, b1⟩ := ve.ginit
  refine ⟨_, pe_make M1 G1 (hr.mono (by decide)) (by rfl) ve.B.gC b1 .nil (passes_call (takes_of rfl rfl rfl rfl) (fun _ _ _ _ h => h)) (pa_cons pe_int (pa_cons pe_int pa_nil)), ?_⟩
  refine fun x dx hx hdx nx => ?_
  show spGInit K CG CE _ _ _ _
  unfold spGInit
  exact ⟨x, dx, 1, 0, rfl, upd_same, fun _ => hE _ (Ex.on (Ex.upd hdx) hx), fun _ z => absurd z (by decide)⟩
theorem toldV_step {f : Addr} {H : Hp} {Q : VK} {E : XK} (b : BadL P w K mg base CE f H) (q : ∀ H', Ex H H' → Q (.str "GroupError") H') : spToldV P w K mg base 6 CE "GroupError" [.ref f] H Q E := by
  unfold spToldV
  exact ⟨f, rfl, b H Q (ExtN.refl H) q⟩
theorem law_t3 (ve : LawE P w K mg base CG CE Pm Ps Pl cL fTo r0 fdTo) (hr : Room 16 (xLaw P w K mg base fL cL A outer s H0 E0').A) :
    ∃ ts, PS (xLaw P w K mg base fL cL A outer s H0 E0') ((defBody sLaw).getD 3 pass0') ts ∧ ∀ (D : Ends) (σ : L2.St) (H : Hp), Tabs (TT Pm Ps Pl) H → σ.length = 30 → (∀ H', D.rt (.bl true) H') → ts D σ H := by
  have GT : FnOk P w K mg base CX0 8 fTo fdTo ["what"] (spToldV P w K mg base 6 CE "GroupError") := ok_toldV ve.told scTold rfl (Or.inl rfl) (fun f => rfl) (by rfl) ve.J.g (by decide +kernel) (by decide +kernel) (by decide +kernel)
  have bT : L2.Binds K fdTo ["what"] [] := ve.told.bindsN (ps := ["what"]) fun _ _ _ _ _ _ us hl => match us, hl with | [_], _ => rfl
  have hu := hr.units
  have U := tabLu (Pm := Pm) (Ps := Ps) (Pl := Pl) ve.ap
  refine ⟨_, ps_ret (pe_cmpR (op_eqD hu) (pe_lc (own := [("f", 29)]) (g := gName 29) (tt := tYes) (te := tCall (spToldV P w K mg base 6 CE "GroupError") [] E0 (tCons (tVar 29) tNil)) rfl scLaw.nd
        (pi_list (pe_lst (pa_cons (pe_lamV (T := TT Pm Ps Pl) ve.TBl rfl tabLo U rfl (by decide +kernel) rfl) (pa_cons (pe_lamV (T := TT Pm Ps Pl) ve.TBl rfl tabLo U rfl (by decide +kernel) rfl) pa_nil)))) (blkOk_by (N := nLaw) (sc := defScope sLaw) (by decide +kernel))
        (fun _ _ _ _ _ => pg_name (i := 29) scLaw.nd rfl (Or.inl rfl)) (fun _ _ _ _ _ => pts_nil) (fun _ _ _ _ _ => pe_call GT (hr.mono (by decide)) (by rfl) ve.gTold ve.told.kp bT .nil pass0 (pa_cons (pv 29) pa_nil)))
      (pe_op op_rep (pe_lst (pa_cons pe_str pa_nil)) pe_int) (nomark _)), ?_⟩
  intro D σ H ht hσ fin
  refine ⟨ht, fun f0 c0 H1 e0 t0 hf0 hc0 n0 => ⟨t0, fun f1 c1 H2 e1 t1 hf1 hc1 n1 => ⟨(by show 2 ≤ sizeLine; decide), fun l hl => ?_⟩⟩⟩
  have q : (Str.ofString "law" ++ Str.ofString ".<locals>.") ++ Str.ofString "<lambda>" = qL := qLaw
  have b0 : BadL P w K mg base CE f0 H1 := bad_of (i := 0) (by rw [← q]; exact hf0) (by rw [← q]; exact hc0) ⟨rfl, rfl, rfl, by decide +kernel, rfl, by decide +kernel, by decide +kernel⟩ (fun _ _ => rfl) (beh_0 ve) ve.J
  have b1 : BadL P w K mg base CE f1 H2 := bad_of (i := 1) (by rw [← q]; exact hf1) (by rw [← q]; exact hc1) ⟨rfl, rfl, rfl, by decide +kernel, rfl, by decide +kernel, by decide +kernel⟩ (fun _ _ => rfl) (beh_1 ve) ve.J
  have el : ExtN H2 (upd H2 l (.lst [.ref f0, .ref f1])) := ExtN.of (Ex.upd hl)
  have hb : ∀ f ∈ [f0, f1], BadL P w K mg base CE f (upd H2 l (.lst [.ref f0, .ref f1])) := fun f hf => by
    simp only [List.mem_cons, List.not_mem_nil, or_false] at hf
    rcases hf with rfl | rfl
    · exact b0.exN (e1.trans el)
    · exact b1.exN el
  have hl2 : (upd H2 l (.lst [.ref f0, .ref f1])) l = some (.lst ([f0, f1].map V.ref)) := upd_same
  generalize upd H2 l (.lst [.ref f0, .ref f1]) = H3 at el hb hl2
  refine ⟨l, rfl, ⟨_, SqL.of hl2⟩, fun D1 hD1 => ?_⟩
  refine lcG walk_list RStr (fun j => [f0, f1][j]?.bind fun _ => some (Str.ofString "GroupError")) RStr.stab hD1 (by simp) (fun H5 e5 => SqL.of (e5 _ _ hl2)) (fun i H5 x H6 _ _ h => yat_ex h) (fun j x H5 H6 R0 N0 hj e5 hy hno hsm => ?_) (fun H4 xs e4 hx4 hps => ?_)
  · obtain ⟨rfl, hxi⟩ := hy
    rw [List.getElem?_map] at hxi
    obtain ⟨f, hf, rfl⟩ := Option.map_eq_some_iff.mp hxi
    have hfm := List.mem_of_getElem? hf
    have hw : ((wipe σ [29]).set 29 (some (V.ref f)))[29]? = some (some (V.ref f)) := by
      rw [List.getElem?_set_self]
      rw [wipe_length, hσ]
      decide
    refine ⟨wipe_set, _, hw, toldV_step ((hb f hfm).exN (ExtN.of e5)) fun H7 e7 => ?_⟩
    exact hsm _ (by rw [hf]; rfl) _ _ e7 rfl
  · rw [List.length_map, range_fm, map_fm] at hps
    rw [rstr_map hps] at hx4
    refine ⟨(by show 1 ≤ sizeLine; decide), fun l2 hl2 => ?_⟩
    refine ⟨l2, 2, _, rfl, rfl, upd_same, by decide, by decide, by decide, fun l3 hl3 => ?_⟩
    have ex := (Ex.upd (o := .lst [.str "GroupError"]) hl2).trans (Ex.upd (o := .lst (List.replicate (2 : Int).toNat [V.str "GroupError"]).flatten) hl3)
    have sk : ∀ n ∈ ([Str.ofString "GroupError", Str.ofString "GroupError"] : List Str), PyData.strOk n = true := by decide +kernel
    refine ⟨.list ([Str.ofString "GroupError", Str.ofString "GroupError"].map PyData.str), .list ([Str.ofString "GroupError", Str.ofString "GroupError"].map PyData.str), .lst (SqL.of (ex _ _ hx4)) (dp_strs [Str.ofString "GroupError", Str.ofString "GroupError"]), .lst (SqL.of upd_same) (dp_strs [Str.ofString "GroupError", Str.ofString "GroupError"]), sh_strs sk, sh_strs sk, ?_⟩
    rw [eqv_strs]
    exact fin _
end
end K7
set_option Elab.async false
set_option linter.all false
set_option maxRecDepth 100000
set_option maxHeartbeats 4000000
namespace K7
open PySem PySem.Spec PyProof.Rows PySem.Calls L2 KB KC KD KS LamX R8 Q7 CP TL
def spLaw (K : PySem.W.Frag) (Pm Ps Pl : Addr) : Sp := fun vs H Q _ => ∃ (a : Addr) (ns : List Int), vs = [.ref a] ∧ SqL K H a (ns.map V.int) ∧ Tabs (TT Pm Ps Pl) H ∧ ∀ H', Q (.bl true) H'
section
variable {P : Program} {w : World} {K : PySem.W.Frag} {mg : Str → Option Value} {base : Heap} {CG CE Pm Ps Pl cL fTo fL r0 : Addr} {fdTo fdL : FuncData}
theorem ok_law (F : FnP K "law" "law" sLaw [] fL fdL) (hc : fdL.code = .ref cL) (ve : LawE P w K mg base CG CE Pm Ps Pl cL fTo r0 fdTo) : FnOk P w K mg base CX0 17 fL fdL ["script"] (spLaw K Pm Ps Pl) := by
  refine okC F hc scLaw (fun vs H Q E h => ?_) (fun A outer s H vs Q E hr h => ?_)
  · obtain ⟨_, _, rfl, _⟩ := h; rfl
  · obtain ⟨a, ns, rfl, hS, ht, fin⟩ := h
    obtain ⟨fR, fdR, GR, gR, kR, bR⟩ := ve.rounds
    obtain ⟨t0, d0, q0⟩ := law_round (fL := fL) (A := A) (outer := outer) (s := s) (H0 := H) (E0' := E) ve hr
    obtain ⟨t1, d1, q1⟩ := law_t1 (fL := fL) (A := A) (outer := outer) (s := s) (H0 := H) (E0' := E) ve hr
    obtain ⟨t2, d2, q2⟩ := law_t2 (fL := fL) (A := A) (outer := outer) (s := s) (H0 := H) (E0' := E) ve hr
    obtain ⟨t3, d3, q3⟩ := law_t3 (fL := fL) (A := A) (outer := outer) (s := s) (H0 := H) (E0' := E) ve hr
    refine ⟨_, PSs.nox <| (pss_cons (ps_for PassesOwn.never rfl (pi_list (pe_call GR (hr.mono (by decide)) (by rfl) gR kR bR .nil pass0 (pa_cons (pv 0) (pa_cons pe_int pa_nil)))) (pg_name (i := 1) scLaw.nd rfl (Or.inr rfl)) d0) (pss_cons d1 (pss_cons d2 (pss_one d3))) : PSs (xLaw P w K mg base fL cL A outer s H E) (defBody sLaw) _), ?_⟩
    refine ⟨_, rfl, rounds_step hS fun H1 p d e1 hp hd => ⟨p, rfl, ⟨_, SqL.of hp⟩, for_list (xs := [V.ref d]) (fun i σ H2 => Tabs (TT Pm Ps Pl) H2 ∧ H2 p = some (.lst [.ref d]) ∧ σ.length = 30 ∧ (i = 0 → σ = L2.start nLaw [.ref a] ∧ H2 = H1)) ⟨ht.ext e1, hp, rfl, fun _ => ⟨rfl, rfl⟩⟩ (fun i σ H2 _ h => SqL.of h.2.1) ?_ ?_⟩⟩
    · rintro i x σ H2 hx ⟨tt, hp2, _, hi⟩
      cases i with
      | succ i => cases hx
      | zero =>
        obtain ⟨rfl, rfl⟩ := hi rfl
        cases hx
        have B0 : Bs Pm Ps Pl d p H2 := ⟨hd, tt, hp2⟩
        refine q0 _ _ _ _ _ _ _ _ _ _ _ _ _ _ _ _ _ _ _ _ _ _ _ _ _ _ _ _ _ _ H2 d p B0 fun H3 σ' hl b3 => ?_
        exact ⟨b3.tabs, b3.hp, hl, fun z => nomatch z⟩
    · rintro σ H2 ⟨tt, hp2, hl, _⟩
      refine q1 _ σ H2 tt fun H3 tt3 => ?_
      refine q2 _ σ H3 tt3 fun H4 tt4 => ?_
      exact q3 _ σ H4 tt4 hl fun H' => fin H'
end
end K7
set_option Elab.async false
set_option linter.all false
set_option maxRecDepth 100000
set_option maxHeartbeats 0
namespace K7
open PySem PySem.Spec PyProof.Rows L2
def dD (x : Str) (st : Stmt) : He.DefD := ⟨(x, none), x, x, defArgs st, defBody st, defScope st, [], []⟩
def dV (x : Str) (st : Stmt) (dfl : List He.Dv) : He.DefD := ⟨(x, none), x, x, defArgs st, defBody st, defScope st, dfl, []⟩
def dM (c m q : Str) (st : Stmt) : He.DefD := ⟨(c, some m), m, q, defArgs st, defBody st, defScope st, [], []⟩
def fnL : List He.DefD := [dD "_law_dice" sDice, dD "_law_roll" sRoll, dD "_law_rounds" sRounds, dD "_law_told" sTold, dD "_law_fair" sFair, dD "law" sLaw, dV "shares_of" sShares [.adr (He.dflAt ("shares_of", none) 0)], dD "parts_before" sPB, dD "most_of" sMost, dM "Group" "__init__" "Group.__init__" (sGM 0), dM "Group" "join" "Group.join" (sGM 1), dM "Group" "leave" "Group.leave" (sGM 2), dM "Group" "share" "Group.share" (sGM 3), dM "Group" "need" "Group.need" (sGM 4), dM "Group" "beat" "Group.beat" (sGM 5), dM "Group" "look" "Group.look" (sGM 6), dM "Group" "note" "Group.note" (sGM 7)]
def faL : List He.Fa := [.glo "_law_dice", .glo "_law_roll", .glo "_law_rounds", .glo "_law_told", .glo "_law_fair", .glo "law", .glo "shares_of", .glo "parts_before", .glo "most_of", .glo "Group", .glo "GroupError",
  .free "abs", .free "int", .free "range", .free "dict", .free "list", .free "tuple", .free "len", .free "sorted", .free "max", .free "min", .free "enumerate",
  .cls "Group", .noat "Group" "many", .noat "Group" "heard", .noat "Group" "length", .noat "Group" "shares", .noat "Group" "generation", .noat "Group" "places", .mkr "Group", .meth "Group" "join", .meth "Group" "leave", .meth "Group" "share", .meth "Group" "need", .meth "Group" "beat", .meth "Group" "look", .meth "Group" "note", .exc "GroupError", .exm "GroupError" "GroupError" true]
def tM : He.Defn := ("most_of", none)
def tS : He.Defn := ("shares_of", none)
def tL : He.Defn := ("law", none)
def tfL : List He.Defn := [tM, tS, tL]
def exL (K : PySem.W.Frag) : Bool := (((He.cT K tM).2 != (He.cT K tS).2) && ((He.cT K tM).2 != (He.cT K tL).2) && ((He.cT K tS).2 != (He.cT K tL).2)) && (match K.lookup (He.dflAt ("shares_of", none) 0 K) with
  | some ⟨.type "tuple", none, .seq its _, _⟩ => its.isEmpty
  | _ => false)
abbrev RL : PySem.W.OpenRow := PySem.W.OpenLaw.row PySem.Challenge.rw_streamstack_k07_members_who_share
abbrev hkL : PySem.W.Hook := He.hookX 6 faL fnL [] tfL exL
def obL (s : PySem.W.SharedT) : He.AlX := He.obsX 6 faL fnL [] tfL exL (HandSHeadRun.getT s)
theorem obL_eq (s : PySem.W.SharedT) : obL s = hkL.obs s.abs := He.obsX_eq (HandSHeadRun.getT_eq s)
def looseL : List Str := ["StreamError", "GroupError", "shares_of", "parts_before", "most_of", "Group", "_law_dice", "_law_roll", "_law_rounds", "_law_told", "_law_fair"]
theorem runL (w : World) : HandSHeadRun.RunEq RL (PySem.W.view RL.prog [14]) hkL obL 3000 looseL w := by
  intro os
  kernel_rfl
end K7
set_option Elab.async false
set_option linter.all false
set_option maxRecDepth 100000
set_option maxHeartbeats 4000000
namespace K7
open PySem PySem.Spec PyProof.Rows PySem.Calls L2 KB KC KD KS LamX R8 Q7 CP TL
theorem code_at {K : PySem.W.Frag} {x q : Str} {st : Stmt} {dvs : List V} {p : He.Defn} {fd : FuncData} (F : FnP K x q st dvs (He.fAd K p) fd) : fd.code = .ref (He.cT K p).1 := by
  obtain ⟨oc, od, dV, kV, doc, pm, an, cdv, ct, osl, rfl, lk, hcd, _, _⟩ := F.ex
  obtain ⟨c, e⟩ := He.codeIn_ref hcd
  subst e
  have z : He.codeOf K p = c := He.codeOf_eq lk rfl
  show Value.ref c = Value.ref (He.codeOf K p)
  rw [z]
theorem e0_of {K : PySem.W.Frag} {a : Addr} (h : (match K.lookup a with
  | some ⟨.type "tuple", none, .seq its _, _⟩ => its.isEmpty
  | _ => false) = true) : E0T K a := by
  split at h
  · rename_i its n sl e
    have : its = #[] := by simpa using h
    subst this
    exact ⟨n, sl, e⟩
  · cases h
theorem bindsS {K : PySem.W.Frag} {r0 f : Addr} {fd : FuncData} (F : FnP K "shares_of" "shares_of" sShares [.ref r0] f fd) : L2.Binds K fd ["members", "many", "old"] [] := by
  obtain ⟨ds, h1, h2⟩ := F.binds1 (ps := ["members", "many", "old"]) 3 1 (by simp) rfl fun T kV doc pm an cdv ct us its h1 h2 => match us, its, h1, h2 with
    | [_, _, _], [_], _, _ => ⟨_, rfl, rfl⟩
  cases h1
  exact h2
theorem bindsS0 {K : PySem.W.Frag} {r0 f : Addr} {fd : FuncData} (F : FnP K "shares_of" "shares_of" sShares [.ref r0] f fd) : ∃ ds, Vals [.ref r0] ds ∧ L2.Binds K fd ["members", "many", "old"] ds :=
  F.binds1 (ps := ["members", "many", "old"]) 2 0 (by simp) rfl fun T kV doc pm an cdv ct us its h1 h2 => match us, its, h1, h2 with
    | [_, _], [_], _, _ => ⟨_, rfl, rfl⟩
def pickL (K : PySem.W.Frag) : List (Addr × Addr) := [He.cT K tM, He.cT K tS, He.cT K tL]
theorem lawAt {w : World} {mg : Str → Option Value} {fa : Addr} {h : Heap} {K : PySem.W.Frag} (X : K.In h) (G : h.Ns mainGlobals mg) (hmg : mg ("law" : Str) = some (.ref fa)) (c : He.SaysX faL fnL [] tfL exL w h K) :
    LawAtS PySem.Challenge.rw_streamstack_k07_members_who_share w K CX0 17 63 "script" mg fa h := by
  have D := c.t.d
  obtain ⟨fd0, F0⟩ := D.def_ 0 (d := dD "_law_dice" sDice) rfl
  obtain ⟨fd1, F1⟩ := D.def_ 1 (d := dD "_law_roll" sRoll) rfl
  obtain ⟨fd2, F2⟩ := D.def_ 2 (d := dD "_law_rounds" sRounds) rfl
  obtain ⟨fd3, F3⟩ := D.def_ 3 (d := dD "_law_told" sTold) rfl
  obtain ⟨fd4, F4⟩ := D.def_ 4 (d := dD "_law_fair" sFair) rfl
  obtain ⟨fd5, F5⟩ := D.def_ 5 (d := dD "law" sLaw) rfl
  obtain ⟨fd6, F6⟩ := D.def_ 6 (d := dV "shares_of" sShares [.adr (He.dflAt ("shares_of", none) 0)]) rfl
  obtain ⟨fd7, F7⟩ := D.def_ 7 (d := dD "parts_before" sPB) rfl
  obtain ⟨fd8, F8⟩ := D.def_ 8 (d := dD "most_of" sMost) rfl
  obtain ⟨fd9, F9⟩ := D.def_ 9 (d := dM "Group" "__init__" "Group.__init__" (sGM 0)) rfl
  obtain ⟨fd10, F10⟩ := D.def_ 10 (d := dM "Group" "join" "Group.join" (sGM 1)) rfl
  obtain ⟨fd11, F11⟩ := D.def_ 11 (d := dM "Group" "leave" "Group.leave" (sGM 2)) rfl
  obtain ⟨fd12, F12⟩ := D.def_ 12 (d := dM "Group" "share" "Group.share" (sGM 3)) rfl
  obtain ⟨fd13, F13⟩ := D.def_ 13 (d := dM "Group" "need" "Group.need" (sGM 4)) rfl
  obtain ⟨fd14, F14⟩ := D.def_ 14 (d := dM "Group" "beat" "Group.beat" (sGM 5)) rfl
  obtain ⟨fd15, F15⟩ := D.def_ 15 (d := dM "Group" "look" "Group.look" (sGM 6)) rfl
  obtain ⟨fd16, F16⟩ := D.def_ 16 (d := dM "Group" "note" "Group.note" (sGM 7)) rfl
  have gl : ∀ (i : Nat) (x : Str), faL[i]? = some (.glo x) → mg x = some (.ref (He.ga K x)) := fun i x h => He.glo_ok X G (D.fact i h)
  have fr : ∀ (i : Nat) (x : Str), faL[i]? = some (.free x) → mg x = none := fun i x h => He.free_ok X G (D.fact i h)
  have me : ∀ (i : Nat) (C m : Str), faL[i]? = some (.meth C m) → Meth K (He.ga K C) m (He.ma K (He.ga K C) m) := fun i C m h => He.meth_ok (D.fact i h)
  have na : ∀ (i : Nat) (C m : Str), faL[i]? = some (.noat C m) → NoAttr K (He.ga K C) m := fun i C m h => He.noat_ok (D.fact i h)
  have T : TxtL mg := ⟨fr 11 _ rfl, fr 12 _ rfl, fr 13 _ rfl, fr 14 _ rfl, fr 15 _ rfl, fr 16 _ rfl, fr 17 _ rfl, fr 18 _ rfl, fr 19 _ rfl, fr 20 _ rfl, fr 21 _ rfl⟩
  have B : TxtG K mg (He.ga K "Group") := ⟨He.cls_ok (D.fact 22 (f := .cls "Group") rfl), na 23 _ _ rfl, na 24 _ _ rfl, na 25 _ _ rfl, na 26 _ _ rfl, na 27 _ _ rfl, na 28 _ _ rfl, gl 9 _ rfl⟩
  obtain ⟨x1, x2, x3, x4⟩ := He.exc_ok (D.fact 37 (f := .exc "GroupError") rfl)
  have J : TxtX K mg (He.ga K "GroupError") := ⟨gl 10 _ rfl, x1, x2, x3, x4, He.exm_ok (D.fact 38 (f := .exm "GroupError" "GroupError" true) rfl)⟩
  have MG := He.mkr_ok (D.fact 29 (f := .mkr "Group") rfl)
  have mJn := me 30 _ _ rfl
  have mLv := me 31 _ _ rfl
  have mSh := me 32 _ _ rfl
  have mNd := me 33 _ _ rfl
  have mBt := me 34 _ _ rfl
  have mLk := me 35 _ _ rfl
  have mNt := me 36 _ _ rfl
  have hex := c.more
  unfold exL at hex
  rw [Bool.and_eq_true, Bool.and_eq_true, Bool.and_eq_true, bne_iff_ne, bne_iff_ne, bne_iff_ne] at hex
  have ap : Apart (He.cT K tM).2 (He.cT K tS).2 (He.cT K tL).2 := ⟨hex.1.1.1, hex.1.1.2, hex.1.2⟩
  have r0E : E0T K (He.dflAt ("shares_of", none) 0 K) := e0_of hex.2
  have e := hmg.symm.trans (gl 5 _ rfl)
  cases e
  have memL : ∀ p ∈ pickL K, ∃ q ∈ tfL, p = He.cT K q := fun p hp => by
    rcases List.mem_cons.mp hp with rfl | hp
    · exact ⟨tM, List.mem_cons_self .., rfl⟩
    rcases List.mem_cons.mp hp with rfl | hp
    · exact ⟨tS, List.mem_cons_of_mem _ (List.mem_cons_self ..), rfl⟩
    rcases List.mem_cons.mp hp with rfl | hp
    · exact ⟨tL, List.mem_cons_of_mem _ (List.mem_cons_of_mem _ (List.mem_cons_self ..)), rfl⟩
    cases hp
  refine ⟨fd5, pickL K, spLaw K (He.cT K tM).2 (He.cT K tS).2 (He.cT K tL).2, fun p hp => ?_, fun p hp => ?_, fun p hp => ?_, fun s u => ?_, fun H a ns hl hb hT hS => ?_, fun base KB GB TB => ?_⟩
  · obtain ⟨q, hq, rfl⟩ := memL p hp
    exact c.empty q hq
  · obtain ⟨q, hq, rfl⟩ := memL p hp
    exact c.out q hq
  · obtain ⟨q, hq, rfl⟩ := memL p hp
    exact PySem.W.codeHd_of_K X (c.hd q hq)
  · exact F5.bindsA (ps := ["script"]) (fun _ _ _ _ _ _ us hl => match us, hl with | [_], _ => rfl) s [u] rfl
  · refine ⟨a, ns, rfl, hS, fun p hp => ?_, fun _ => rfl⟩
    rcases List.mem_cons.mp hp with rfl | hp
    · exact TabS.nil (hT (He.cT K tM) (List.mem_cons_self ..))
    rcases List.mem_cons.mp hp with rfl | hp
    · exact TabS.nil (hT (He.cT K tS) (List.mem_cons_of_mem _ (List.mem_cons_self ..)))
    rcases List.mem_cons.mp hp with rfl | hp
    · exact TabS.nil (hT (He.cT K tL) (List.mem_cons_of_mem _ (List.mem_cons_of_mem _ (List.mem_cons_self ..))))
    cases hp
  · have tbM := TB (He.cT K tM) (List.mem_cons_self ..)
    have tbS := TB (He.cT K tS) (List.mem_cons_of_mem _ (List.mem_cons_self ..))
    have tbL := TB (He.cT K tL) (List.mem_cons_of_mem _ (List.mem_cons_of_mem _ (List.mem_cons_self ..)))
    have hpb : Cal PySem.Challenge.rw_streamstack_k07_members_who_share.prog w K mg base 1 "parts_before" ["parts", "many"] (spPB K) := ⟨_, _, ok_pb F7 T, gl 7 _ rfl, F7.kp, F7.bindsN fun _ _ _ _ _ _ us hl => match us, hl with | [_, _], _ => rfl⟩
    have hmo : Cal PySem.Challenge.rw_streamstack_k07_members_who_share.prog w K mg base 5 "most_of" ["before", "many"] (spMost (He.cT K tM).2 (He.cT K tS).2 (He.cT K tL).2) := ⟨_, _, ok_most F8 (code_at (p := tM) (st := sMost) (dvs := []) F8) T tbM ap, gl 8 _ rfl, F8.kp, F8.bindsN fun _ _ _ _ _ _ us hl => match us, hl with | [_, _], _ => rfl⟩
    have okS : FnOk PySem.Challenge.rw_streamstack_k07_members_who_share.prog w K mg base CX0 9 (He.ga K "shares_of") fd6 ["members", "many", "old"] (spShares K (He.cT K tM).2 (He.cT K tS).2 (He.cT K tL).2) := ok_shares F6 (code_at (p := tS) (st := sShares) (dvs := [.ref (He.dflAt ("shares_of", none) 0 K)]) F6) T tbS ap hpb hmo
    have b3 : L2.Binds K fd6 ["members", "many", "old"] [] := bindsS F6
    have b2 : ∃ ds, Vals [.ref (He.dflAt ("shares_of", none) 0 K)] ds ∧ L2.Binds K fd6 ["members", "many", "old"] ds := bindsS0 F6
    have cS : Cal PySem.Challenge.rw_streamstack_k07_members_who_share.prog w K mg base 9 "shares_of" ["members", "many", "old"] (spShares K (He.cT K tM).2 (He.cT K tS).2 (He.cT K tL).2) := ⟨_, _, okS, gl 6 _ rfl, F6.kp, b3⟩
    have GS := ok_share (P := PySem.Challenge.rw_streamstack_k07_members_who_share.prog) (w := w) (base := base) F12 B T cS
    have GL := ok_look (P := PySem.Challenge.rw_streamstack_k07_members_who_share.prog) (w := w) (base := base) F15 B T F12 mSh GS
    have GN := ok_need (P := PySem.Challenge.rw_streamstack_k07_members_who_share.prog) (w := w) (base := base) F13 B J F15 mLk GL
    have ve : LawE PySem.Challenge.rw_streamstack_k07_members_who_share.prog w K mg base (He.ga K "Group") (He.ga K "GroupError") (He.cT K tM).2 (He.cT K tS).2 (He.cT K tL).2 (He.cT K tL).1 (He.ga K "_law_told") (He.dflAt ("shares_of", none) 0 K) fd3 :=
      { T := T, J := J, B := B, TBl := tbL, ap := ap, e0 := r0E
        rounds := ⟨_, _, ok_rounds F2 T F0 (gl 0 _ rfl), gl 2 _ rfl, F2.kp, F2.bindsN fun _ _ _ _ _ _ us hl => match us, hl with | [_, _], _ => rfl⟩
        roll := ⟨_, _, ok_roll F1 T, gl 1 _ rfl, F1.kp, F1.bindsN fun _ _ _ _ _ _ us hl => match us, hl with | [_, _], _ => rfl⟩
        fair := ⟨_, _, ok_fair F4 T, gl 4 _ rfl, F4.kp, F4.bindsN fun _ _ _ _ _ _ us hl => match us, hl with | [_, _, _, _], _ => rfl⟩
        shares := ⟨_, _, okS, gl 6 _ rfl, F6.kp, b3, b2⟩
        ginit := ⟨_, _, ok_ginit F9 B J, MG, F9.bindsN fun _ _ _ _ _ _ us hl => match us, hl with | [_, _, _], _ => rfl⟩
        join := ⟨_, _, ok_join F10 B J F15 mLk GL F12 mSh GS, mJn, F10.bindsN fun _ _ _ _ _ _ us hl => match us, hl with | [_, _, _], _ => rfl⟩
        leave := ⟨_, _, ok_leave F11 B F13 mNd GN F12 mSh GS, mLv, F11.bindsN fun _ _ _ _ _ _ us hl => match us, hl with | [_, _, _], _ => rfl⟩
        beat := ⟨_, _, ok_beat F14 B F13 mNd GN, mBt, F14.bindsN fun _ _ _ _ _ _ us hl => match us, hl with | [_, _, _], _ => rfl⟩
        look := ⟨_, _, GL, mLk, F15.bindsN fun _ _ _ _ _ _ us hl => match us, hl with | [_, _], _ => rfl⟩
        note := ⟨_, _, ok_note F16 B J F13 mNd GN, mNt, F16.bindsN fun _ _ _ _ _ _ us hl => match us, hl with | [_, _, _, _, _, _], _ => rfl⟩
        told := F3
        gTold := gl 3 _ rfl }
    exact ok_law F5 (code_at (p := tL) (st := sLaw) (dvs := []) F5) ve
end K7
open PySem PySem.W PySem.Calls PyProof.Rows
theorem PySem.Challenge.cw_streamstack_k07_members_who_share_holds : PySem.Challenge.rw_streamstack_k07_members_who_share.Holds := by
  w_on; o_law
  refine HandSHeadRun.head_any (r := OpenLaw.row PySem.Challenge.rw_streamstack_k07_members_who_share) (q := view (OpenLaw.row PySem.Challenge.rw_streamstack_k07_members_who_share).prog [14]) (H := K7.hkL) (ob := K7.obL) (M := 3000) (loose := K7.looseL) (d := HandSHeadRun.topDef (OpenLaw.row PySem.Challenge.rw_streamstack_k07_members_who_share).prog 14) (kwd := []) K7.obL_eq
    (by kernel_rfl) (fun s => by kernel_rfl) K7.runL (by kernel_rfl) (by kernel_rfl) (by kernel_rfl) (by rfl) (by first | assumption | decide +kernel) (by decide +kernel) ⟨rfl, rfl, rfl, rfl, rfl, by decide +kernel⟩ ?hw ?hc
  case hw => w_witness2
  case hc =>
    refine LamX.walk_ofTsE (l := PySem.Challenge.rw_streamstack_k07_members_who_share) (n := 63) (k := 17) (x := "script") (CX := fun _ => L2.CX0) rfl (by decide) (by kernel_rfl) ⟨rfl, by decide, by decide⟩ ?F (fun _ _ _ _ _ z => z)
    intro w mg fa h Y G hmg0
    obtain ⟨K, KX, c⟩ := Y
    have hmg : mg ("law" : PySem.Str) = some (.ref fa) := by
      have e : (HandSHeadRun.topDef (OpenLaw.row PySem.Challenge.rw_streamstack_k07_members_who_share).prog 14).name = ("law" : PySem.Str) := by kernel_rfl
      rw [← e]
      exact hmg0
    exact ⟨K, KX, K7.lawAt KX G hmg c⟩
